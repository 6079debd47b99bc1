import PyProof.Rows.All
import Wide.All
import OpenK.AllK
import Wide.FinOn
import HandS.ForMost
import HandS.Defaults
import HandS.IsInst
import HandS.Wide
import HandS.Codes
import HandS.ForExc
import HandS.ExcIs
import HandS.TryMany
import HandS.NoneIn
import PySem.Challenge.RW_fairbourse_k75_corporate_actions_keep_va
set_option Elab.async false
set_option linter.all false
set_option maxRecDepth 100000
namespace FB
open PySem PySem.Spec PyProof.Rows L2
def topS (i : Nat) : Stmt := PySem.Challenge.pw_fairbourse_k75_corporate_actions_keep_va.main.body.getD i (.Pass ⟨0, 0, 0, 0⟩)
abbrev s_is_integral : Stmt := topS 4
abbrev N_is_integral : List Str := ["value"]
theorem sc_is_integral : FnScope N_is_integral ["value"] (defScope s_is_integral) := ⟨rfl, rfl, rfl, by decide +kernel, rfl, by decide +kernel, by decide +kernel⟩
abbrev s_dividend : Stmt := topS 6
abbrev N_dividend : List Str := ["holdings", "cents", "house", "units"]
theorem sc_dividend : FnScope N_dividend ["holdings", "cents"] (defScope s_dividend) := ⟨rfl, rfl, rfl, by decide +kernel, rfl, by decide +kernel, by decide +kernel⟩
abbrev s_share_split : Stmt := topS 7
abbrev N_share_split : List Str := ["holdings", "numerator", "denominator", "price", "number", "rows", "house", "units", "whole", "rest"]
theorem sc_share_split : FnScope N_share_split ["holdings", "numerator", "denominator", "price"] (defScope s_share_split) := ⟨rfl, rfl, rfl, by decide +kernel, rfl, by decide +kernel, by decide +kernel⟩
abbrev s_check_holdings : Stmt := topS 8
abbrev N_check_holdings : List Str := ["holdings", "_", "units"]
theorem sc_check_holdings : FnScope N_check_holdings ["holdings"] (defScope s_check_holdings) := ⟨rfl, rfl, rfl, by decide +kernel, rfl, by decide +kernel, by decide +kernel⟩
abbrev s_check_number : Stmt := topS 9
abbrev N_check_number : List Str := ["number", "least"]
theorem sc_check_number : FnScope N_check_number ["number", "least"] (defScope s_check_number) := ⟨rfl, rfl, rfl, by decide +kernel, rfl, by decide +kernel, by decide +kernel⟩
abbrev s_law_is_integer : Stmt := topS 11
abbrev N_law_is_integer : List Str := ["actual"]
theorem sc_law_is_integer : FnScope N_law_is_integer ["actual"] (defScope s_law_is_integer) := ⟨rfl, rfl, rfl, by decide +kernel, rfl, by decide +kernel, by decide +kernel⟩
abbrev s_law_numbers : Stmt := topS 12
abbrev N_law_numbers : List Str := ["script", "start", "count", "low", "high", "numbers", "k", "cell"]
theorem sc_law_numbers : FnScope N_law_numbers ["script", "start", "count", "low", "high"] (defScope s_law_numbers) := ⟨rfl, rfl, rfl, by decide +kernel, rfl, by decide +kernel, by decide +kernel⟩
abbrev s_law_loss : Stmt := topS 13
abbrev N_law_loss : List Str := ["positions", "scenario", "total", "k"]
theorem sc_law_loss : FnScope N_law_loss ["positions", "scenario"] (defScope s_law_loss) := ⟨rfl, rfl, rfl, by decide +kernel, rfl, by decide +kernel, by decide +kernel⟩
abbrev s_law_raises : Stmt := topS 14
abbrev N_law_raises : List Str := ["holdings", "numerator", "denominator", "price"]
theorem sc_law_raises : FnScope N_law_raises ["holdings", "numerator", "denominator", "price"] (defScope s_law_raises) := ⟨rfl, rfl, rfl, by decide +kernel, rfl, by decide +kernel, by decide +kernel⟩
abbrev s_law_dividend_raises : Stmt := topS 15
abbrev N_law_dividend_raises : List Str := ["holdings", "cents"]
theorem sc_law_dividend_raises : FnScope N_law_dividend_raises ["holdings", "cents"] (defScope s_law_dividend_raises) := ⟨rfl, rfl, rfl, by decide +kernel, rfl, by decide +kernel, by decide +kernel⟩
abbrev s_law : Stmt := topS 16
abbrev N_law : List Str := ["script", "shape", "held", "holdings", "k", "numerator", "denominator", "price", "cents", "house", "units", "rows", "paid", "left", "bad"]
theorem sc_law : FnScope N_law ["script"] (defScope s_law) := ⟨rfl, rfl, rfl, by decide +kernel, rfl, by decide +kernel, by decide +kernel⟩
set_option maxHeartbeats 0 in
structure Txt (K : PySem.W.Frag) (mg : Str → Option Value) where
  f_is_integral : Addr
  d_is_integral : FuncData
  F_is_integral : Fun K "is_integral" "is_integral" s_is_integral f_is_integral d_is_integral
  m_is_integral : mg "is_integral" = some (.ref f_is_integral)
  b_is_integral : Binds K d_is_integral ["value"] []
  f_dividend : Addr
  d_dividend : FuncData
  F_dividend : Fun K "dividend" "dividend" s_dividend f_dividend d_dividend
  m_dividend : mg "dividend" = some (.ref f_dividend)
  b_dividend : Binds K d_dividend ["holdings", "cents"] []
  f_share_split : Addr
  d_share_split : FuncData
  F_share_split : Fun K "share_split" "share_split" s_share_split f_share_split d_share_split
  m_share_split : mg "share_split" = some (.ref f_share_split)
  b_share_split : Binds K d_share_split ["holdings", "numerator", "denominator", "price"] []
  f_check_holdings : Addr
  d_check_holdings : FuncData
  F_check_holdings : Fun K "_check_holdings" "_check_holdings" s_check_holdings f_check_holdings d_check_holdings
  m_check_holdings : mg "_check_holdings" = some (.ref f_check_holdings)
  b_check_holdings : Binds K d_check_holdings ["holdings"] []
  f_check_number : Addr
  d_check_number : FuncData
  F_check_number : Fun K "_check_number" "_check_number" s_check_number f_check_number d_check_number
  m_check_number : mg "_check_number" = some (.ref f_check_number)
  b_check_number : Binds K d_check_number ["number", "least"] []
  f_law_is_integer : Addr
  d_law_is_integer : FuncData
  F_law_is_integer : Fun K "_law_is_integer" "_law_is_integer" s_law_is_integer f_law_is_integer d_law_is_integer
  m_law_is_integer : mg "_law_is_integer" = some (.ref f_law_is_integer)
  b_law_is_integer : Binds K d_law_is_integer ["actual"] []
  f_law_numbers : Addr
  d_law_numbers : FuncData
  F_law_numbers : Fun K "_law_numbers" "_law_numbers" s_law_numbers f_law_numbers d_law_numbers
  m_law_numbers : mg "_law_numbers" = some (.ref f_law_numbers)
  b_law_numbers : Binds K d_law_numbers ["script", "start", "count", "low", "high"] []
  f_law_loss : Addr
  d_law_loss : FuncData
  F_law_loss : Fun K "_law_loss" "_law_loss" s_law_loss f_law_loss d_law_loss
  m_law_loss : mg "_law_loss" = some (.ref f_law_loss)
  b_law_loss : Binds K d_law_loss ["positions", "scenario"] []
  f_law_raises : Addr
  d_law_raises : FuncData
  F_law_raises : Fun K "_law_raises" "_law_raises" s_law_raises f_law_raises d_law_raises
  m_law_raises : mg "_law_raises" = some (.ref f_law_raises)
  b_law_raises : Binds K d_law_raises ["holdings", "numerator", "denominator", "price"] []
  f_law_dividend_raises : Addr
  d_law_dividend_raises : FuncData
  F_law_dividend_raises : Fun K "_law_dividend_raises" "_law_dividend_raises" s_law_dividend_raises f_law_dividend_raises d_law_dividend_raises
  m_law_dividend_raises : mg "_law_dividend_raises" = some (.ref f_law_dividend_raises)
  b_law_dividend_raises : Binds K d_law_dividend_raises ["holdings", "cents"] []
  c_BourseError : Addr
  m_BourseError : mg "BourseError" = some (.ref c_BourseError)
  c_InvalidAmount : Addr
  m_InvalidAmount : mg "InvalidAmount" = some (.ref c_InvalidAmount)
  x_InvalidAmount : PySem.W.excIn K c_InvalidAmount [.type "ValueError", .type "Exception", .type "BaseException", .type "object"] "ValueError.__new__" = true
  k_InvalidAmount : PySem.W.keepIn K (.ref c_InvalidAmount) = true
  b_InvalidAmount : PySem.W.subIn K (.ref c_InvalidAmount) (.type "BaseException") = some true
  t_InvalidAmount : PySem.W.typeIn K (.ref c_InvalidAmount) = some (.type "type")
  d_InvalidAmount : PySem.W.hasDictIn K c_InvalidAmount = true
  s_InvalidAmount : PySem.W.subIn K (.ref c_InvalidAmount) (.ref c_InvalidAmount) = some true
  eg_InvalidAmount : PySem.W.findIn K (.ref c_InvalidAmount) "__getattribute__" = some (some (.builtin "BaseException.__getattribute__"))
  ek_InvalidAmount : PySem.W.findIn K (.ref c_InvalidAmount) "__getattr__" = some none
  ea_InvalidAmount : PySem.W.findIn K (.ref c_InvalidAmount) "__class__" = some (some (.builtin "object.__class__"))
  en_InvalidAmount : PySem.W.specialIn K (.builtin "object.__class__") "__get__" = some (some (.builtin "getset_descriptor.__get__"))
  et_InvalidAmount : PySem.W.takesIn K (.builtin "object.__class__") = some true
  em_InvalidAmount : PySem.W.mroIn K c_InvalidAmount (.type "object") = some true
  e_InvalidAmount : ExcC K c_InvalidAmount
  z_bool : mg "bool" = none
  z_divmod : mg "divmod" = none
  z_int : mg "int" = none
  z_isinstance : mg "isinstance" = none
  z_len : mg "len" = none
  z_list : mg "list" = none
  z_range : mg "range" = none
  z_str : mg "str" = none
/-! own short words -/
theorem iteD {p A B : Prop} [Decidable p] (h1 : p → A) (h2 : ¬ p → B) : if decide p = true then A else B := by
  by_cases h : p
  · rw [decide_eq_true h, if_pos rfl]; exact h1 h
  · rw [decide_eq_false h, if_neg Bool.false_ne_true]; exact h2 h
theorem iteDN {p A B : Prop} [Decidable p] (h1 : ¬ p → A) (h2 : p → B) : if (!decide p) = true then A else B := by
  by_cases h : p
  · rw [decide_eq_true h]; exact iteF (h2 h)
  · rw [decide_eq_false h]; exact iteT (h1 h)
theorem len_le {n : Nat} (h : Nat.ble n 1000 = true) : n ≤ sizeLine := Nat.le_trans (Nat.le_of_ble_eq_true h) (by decide)
theorem iteB {b : Bool} {A B : Prop} (h1 : b = true → A) (h2 : b = false → B) : if b = true then A else B := by
  cases b with
  | true => exact iteT (h1 rfl)
  | false => exact iteF (h2 rfl)
theorem cmul_l {i j : Int} (h : -(2 ^ 64) < i) (h' : i < 2 ^ 64) : CMul i j := .inl ⟨h, h'⟩
theorem cmul_r {i j : Int} (h : -(2 ^ 64) < j) (h' : j < 2 ^ 64) : CMul i j := .inr ⟨h, h'⟩
theorem dec_t {p : Prop} [Decidable p] (h : decide p = true) : p := of_decide_eq_true h
theorem dec_f {p : Prop} [Decidable p] (h : decide p = false) : ¬ p := of_decide_eq_false h
theorem ndec_t {p : Prop} [Decidable p] (h : (!decide p) = true) : ¬ p := fun q => by rw [decide_eq_true q] at h; cases h
theorem ndec_f {p : Prop} [Decidable p] (h : (!decide p) = false) : p := by
  by_cases q : p
  · exact q
  · rw [decide_eq_false q] at h; cases h
theorem fld_lt {n : Nat} (h : Nat.ble (n + 1) 1000 = true) : n < 1000 := Nat.le_of_ble_eq_true h
def rLen (K : PySem.W.Frag) : List V → Hp → VK → Prop := fun xs H Q => ∃ p ys, xs = [.ref p] ∧ (SqL K H p ys ∨ SqT K H p ys) ∧ Q (.int ys.length) H
def rListOf (K : PySem.W.Frag) : List V → Hp → VK → Prop := fun xs H Q => ∃ p ys, xs = [.ref p] ∧ (SqL K H p ys ∨ SqT K H p ys) ∧ ∀ l, H l = none → Q (.ref l) (upd H l (.lst ys))
def rTupleOf (K : PySem.W.Frag) : List V → Hp → VK → Prop := fun xs H Q => ∃ p ys, xs = [.ref p] ∧ ((SqL K H p ys ∧ ∀ l, H l = none → Q (.ref l) (upd H l (.tup ys))) ∨ (SqT K H p ys ∧ Q (.ref p) H))
theorem len0 : ([] : List V).length ≤ sizeLine := len_le rfl
theorem len1 {a : V} : [a].length ≤ sizeLine := len_le rfl
theorem len2 {a b : V} : [a, b].length ≤ sizeLine := len_le rfl
theorem len3 {a b c : V} : [a, b, c].length ≤ sizeLine := len_le rfl
theorem len4 {a b c d : V} : [a, b, c, d].length ≤ sizeLine := len_le rfl
theorem len5 {a b c d e : V} : [a, b, c, d, e].length ≤ sizeLine := len_le rfl
local macro_rules | `(tactic| walk_at "st") => `(tactic| repeat (first
  | (apply Exists.intro (α := V))
  | (apply Exists.intro (α := Int))
  | (apply Exists.intro (α := Bool))
  | (apply Exists.intro (α := Addr))
  | (apply Exists.intro (α := List V))
  | (apply Exists.intro (α := List Int))
  | (apply Exists.intro (α := List (Str × V)))
  | (apply Exists.intro (α := Str))
  | (apply And.intro; focus (first | omega | (dsimp only; omega) | (simp only [List.length_map, List.length_replicate]; omega) | exact rfl | assumption | exact SqL.of (by assumption) | exact Or.inl (by assumption) | exact Or.inr (by assumption) | exact Or.inr (SqT.of (by assumption)) | exact Or.inl (Or.inl upd_same) | exact Or.inl (Or.inl (Or.inl upd_same)) | (with_reducible exact len0) | (with_reducible exact len1) | (with_reducible exact len2) | (with_reducible exact len3) | (with_reducible exact len4) | (with_reducible exact len5) | exact upd_same | exact ⟨_, Or.inl (Or.inl upd_same)⟩ | exact ⟨_, SqL.of (by assumption)⟩ | exact ⟨_, by assumption⟩ | exact Or.inl ⟨rfl, _, SqL.of (by assumption)⟩ | exact Or.inl ⟨rfl, _, SqL.of upd_same⟩ | exact cmul_l (by omega) (by omega) | exact cmul_r (by omega) (by omega) | exact ⟨by omega, by omega⟩ | (simp only [List.length_map, List.length_replicate]; omega) | exact Or.inl (SqL.of (by assumption)) | exact SqT.of (by assumption) | exact fld_lt rfl | exact Or.inl ⟨_, by assumption, rfl⟩))))
/-- the script's cell at j, 0 where there is none -/
def cellOf (ns : List Int) (j : Nat) : Int := ns.getD j 0
theorem atI_ints {ns : List Int} {j : Nat} (h : j < ns.length) : atI (ns.map V.int) (j : Int) = some (.int (cellOf ns j)) := by
  refine at_of (j := j) rfl ?_
  rw [List.getElem?_map, List.getElem?_eq_getElem h]
  unfold cellOf
  rw [List.getD_eq_getElem?_getD, List.getElem?_eq_getElem h]
  rfl
theorem cellOf_out {ns : List Int} {j : Nat} (h : ¬ j < ns.length) : cellOf ns j = 0 := by
  unfold cellOf
  rw [List.getD_eq_getElem?_getD, List.getElem?_eq_none (by omega)]
  rfl
theorem same_upd {H : Hp} {p : Addr} {o : HO} (h : H p = none) : Same H (upd H p o) := fun b x e => by
  rw [upd_ne (ne_of_none e h)]
  exact e
/-- a slice of a list of ints -/
def cutI (ns : List Int) (lo hi : Option Int) : List Int := (ns.drop (HT.sIx ns.length 0 lo)).take (HT.sIx ns.length ns.length hi - HT.sIx ns.length 0 lo)
theorem cutV_ints (ns : List Int) (lo hi : Option Int) : cutV (ns.map V.int) lo hi = (cutI ns lo hi).map V.int := by
  unfold cutV cutI
  rw [List.length_map, List.map_take, List.map_drop]
theorem cutI_len (ns : List Int) (lo hi : Option Int) : (cutI ns lo hi).length ≤ ns.length := by
  unfold cutI
  rw [List.length_take, List.length_drop]
  omega
theorem ints_at {ns : List Int} {i : Nat} {x : V} (h : (ns.map V.int)[i]? = some x) : ∃ z, ns[i]? = some z ∧ x = V.int z := by
  rw [List.getElem?_map] at h
  cases e : ns[i]? with
  | none => rw [e] at h; cases h
  | some z => rw [e] at h; exact ⟨z, rfl, (Option.some.inj h).symm⟩
theorem take_succ {α : Type} {xs : List α} {i : Nat} {x : α} (h : xs[i]? = some x) : xs.take (i + 1) = xs.take i ++ [x] := by
  rw [List.take_add_one, h]
  rfl
theorem sum_le_mul : ∀ (ws : List Int) (b : Int), (∀ w, w ∈ ws → w ≤ b) → ws.sum ≤ (ws.length : Int) * b
  | [], b, _ => by show (0 : Int) ≤ ((0 : Nat) : Int) * b; omega
  | w :: ws, b, h => by
    rw [List.sum_cons, List.length_cons, Int.natCast_add, Int.add_mul]
    have h1 := h w List.mem_cons_self
    have h2 := sum_le_mul ws b fun x hx => h x (List.mem_cons_of_mem _ hx)
    omega
theorem ixN_nat {n j : Nat} (h : j < n) : ixN n (j : Int) = some j := by
  unfold ixN
  rw [if_pos (by omega), if_pos (by omega), Int.toNat_natCast]
theorem call_int_i {X : Cx} : CallR X (.type "int") (fun xs H Q => ∃ i : Int, xs = [.int i] ∧ Q (.int i) H) := by
  intro pins s σ H xs us Q I r h
  obtain ⟨i, e, q⟩ := h
  exact call_int1 pins s σ H xs us Q I r (.inl ⟨i, e, q⟩)
theorem dpAll_ints {K : PySem.W.Frag} {H : Hp} : ∀ xs : List Int, DpAll K H (xs.map V.int) (xs.map PyData.int)
  | [] => .nil
  | x :: xs => .cons (.int x) (dpAll_ints xs)
theorem eqvAll_ints : ∀ xs ys : List Int, PyData.eqvAll (xs.map PyData.int) (ys.map PyData.int) = decide (xs = ys)
  | [], [] => by simp [PyData.eqvAll]
  | [], _ :: _ => by simp [PyData.eqvAll]
  | _ :: _, [] => by simp [PyData.eqvAll]
  | x :: xs, y :: ys => by
    rw [List.map_cons, List.map_cons]
    simp only [PyData.eqvAll, PyData.eqv]
    rw [eqvAll_ints xs ys]
    by_cases h : x = y <;> by_cases h2 : xs = ys <;> simp [h, h2]
theorem lay_ints : ∀ xs : List Int, PyData.canLayAll0 (xs.map PyData.int) = true
  | [] => rfl
  | x :: xs => by
    rw [List.map_cons]
    simp only [PyData.canLayAll0, PyData.canLay0, Bool.true_and]
    exact lay_ints xs
theorem depth_ints : ∀ xs : List Int, PyData.depthAll (xs.map PyData.int) = 0
  | [] => rfl
  | x :: xs => by
    rw [List.map_cons]
    simp only [PyData.depthAll, PyData.depth, depth_ints xs]
    rfl
theorem shaped_ints (xs : List Int) : SeqAt.shaped (.list (xs.map PyData.int)) = true := by
  unfold SeqAt.shaped
  simp only [PyData.canLay0, PyData.depth, lay_ints, depth_ints]
  rfl
theorem eqD_ints {K : PySem.W.Frag} {H : Hp} {a b : Addr} {xs ys : List Int} {Q : VK} (h1 : SqL K H a (xs.map V.int)) (h2 : SqL K H b (ys.map V.int)) (q : Q (.bl (decide (xs = ys))) H) : rEqD K (.ref a) (.ref b) H Q :=
  ⟨_, _, .lst h1 (dpAll_ints xs), .lst h2 (dpAll_ints ys), shaped_ints xs, shaped_ints ys, by rw [show PyData.eqv (.list (xs.map PyData.int)) (.list (ys.map PyData.int)) = decide (xs = ys) by simp only [PyData.eqv, eqvAll_ints]]; exact q⟩
theorem neD_ints {K : PySem.W.Frag} {H : Hp} {a b : Addr} {xs ys : List Int} {Q : VK} (h1 : SqL K H a (xs.map V.int)) (h2 : SqL K H b (ys.map V.int)) (q : Q (.bl (!decide (xs = ys))) H) : rNeD K (.ref a) (.ref b) H Q :=
  ⟨_, _, .lst h1 (dpAll_ints xs), .lst h2 (dpAll_ints ys), shaped_ints xs, shaped_ints ys, by rw [show PyData.eqv (.list (xs.map PyData.int)) (.list (ys.map PyData.int)) = decide (xs = ys) by simp only [PyData.eqv, eqvAll_ints]]; exact q⟩

def at0 (ws : List Int) (i : Nat) : Int := ws.getD i 0
theorem at0_lt {ws : List Int} {i : Nat} (h : i < ws.length) : ws[i]? = some (at0 ws i) := by
  unfold at0
  rw [List.getD_eq_getElem?_getD, List.getElem?_eq_getElem h]
  rfl
theorem atI_n {ws : List Int} {j : Nat} (h : j < ws.length) : atI (ws.map V.int) (j : Int) = some (.int (at0 ws j)) := by
  refine at_of (j := j) rfl ?_
  rw [List.getElem?_map, at0_lt h]
  rfl
theorem at0_of {ws : List Int} {i : Nat} {x : Int} (h : ws[i]? = some x) : at0 ws i = x := by
  unfold at0
  rw [List.getD_eq_getElem?_getD, h]
  rfl
theorem at0_out {ws : List Int} {i : Nat} (h : ws.length ≤ i) : at0 ws i = 0 := by
  unfold at0
  rw [List.getD_eq_getElem?_getD, List.getElem?_eq_none h]
  rfl
theorem at0_ext {xs ys : List Int} (hl : xs.length = ys.length) (h : ∀ i, i < xs.length → at0 xs i = at0 ys i) : xs = ys := by
  refine List.ext_getElem? fun i => ?_
  by_cases hi : i < xs.length
  · rw [at0_lt hi, at0_lt (by omega), h i hi]
  · rw [List.getElem?_eq_none (by omega), List.getElem?_eq_none (by omega)]
theorem at0_set {ps : List Int} {k i : Nat} {x : Int} (hk : k < ps.length) : at0 (ps.set k x) i = if i = k then x else at0 ps i := by
  by_cases h : i = k
  · subst h
    rw [if_pos rfl]
    exact at0_of (List.getElem?_set_self hk)
  · rw [if_neg h]
    unfold at0
    rw [List.getD_eq_getElem?_getD, List.getD_eq_getElem?_getD, List.getElem?_set_ne (fun e => h e.symm)]
theorem at0_nonneg {ws : List Int} (h : ∀ w, w ∈ ws → 0 ≤ w) (i : Nat) : 0 ≤ at0 ws i := by
  by_cases hi : i < ws.length
  · exact h _ (List.mem_of_getElem? (at0_lt hi))
  · rw [at0_out (by omega)]; exact Int.le_refl 0

/-- how items of one kind are told as data; equal data are equal items -/
structure LayD {α : Type} [DecidableEq α] (L : α → PyData) (k : Nat) (G : α → Prop) : Prop where
  lay : ∀ x, G x → (L x).canLay0 = true
  dep : ∀ x, (L x).depth ≤ k
  eqv : ∀ x y, PyData.eqv (L x) (L y) = decide (x = y)
theorem LayD.shaped {α : Type} [DecidableEq α] {L : α → PyData} {k : Nat} {G : α → Prop} (h : LayD L k G) (hk : k ≤ 64) {x : α} (g : G x) : SeqAt.shaped (L x) = true := by
  have h1 := h.lay x g
  have h2 := h.dep x
  unfold SeqAt.shaped
  rw [h1, Bool.true_and]
  exact decide_eq_true (by omega)
theorem layD_int : LayD PyData.int 0 (fun _ => True) := ⟨fun _ _ => rfl, fun _ => Nat.le_refl _, fun x y => by simp only [PyData.eqv]; exact (Bool.beq_eq_decide_eq x y)⟩
theorem layD_str : LayD PyData.str 0 (fun x => PyData.strOk x = true) := ⟨fun _ h => by simp only [PyData.canLay0]; exact h, fun _ => Nat.le_refl _, fun x y => by simp only [PyData.eqv]; exact (Bool.beq_eq_decide_eq x y)⟩
theorem decide_and2 {p q r : Prop} [Decidable p] [Decidable q] [Decidable r] (h : r ↔ p ∧ q) : (decide p && decide q) = decide r := by
  by_cases hp : p <;> by_cases hq : q <;> simp [h, hp, hq]
theorem layD_all {α : Type} [DecidableEq α] {L : α → PyData} {k : Nat} {G : α → Prop} (h : LayD L k G) : (∀ xs : List α, (∀ x, x ∈ xs → G x) → PyData.canLayAll0 (xs.map L) = true) ∧ (∀ xs : List α, PyData.depthAll (xs.map L) ≤ k) ∧ ∀ xs ys : List α, PyData.eqvAll (xs.map L) (ys.map L) = decide (xs = ys) := by
  refine ⟨fun xs => ?_, fun xs => ?_, fun xs => ?_⟩
  · induction xs with
    | nil => exact fun _ => rfl
    | cons x xs ih =>
      intro g
      rw [List.map_cons]
      simp only [PyData.canLayAll0, ih fun y hy => g y (List.mem_cons_of_mem _ hy), h.lay x (g x List.mem_cons_self)]
      rfl
  · induction xs with
    | nil => exact Nat.zero_le _
    | cons x xs ih => rw [List.map_cons]; simp only [PyData.depthAll]; exact Nat.max_le.mpr ⟨h.dep x, ih⟩
  · induction xs with
    | nil =>
      intro ys
      cases ys with
      | nil => rfl
      | cons y ys => simp [PyData.eqvAll]
    | cons x xs ih =>
      intro ys
      cases ys with
      | nil => simp [PyData.eqvAll]
      | cons y ys =>
        rw [List.map_cons, List.map_cons]
        simp only [PyData.eqvAll]
        rw [ih ys, h.eqv x y]
        exact decide_and2 (by rw [List.cons.injEq])
theorem LayD.list {α : Type} [DecidableEq α] {L : α → PyData} {k : Nat} {G : α → Prop} (h : LayD L k G) : LayD (fun xs : List α => PyData.list (xs.map L)) (k + 1) (fun xs => ∀ x, x ∈ xs → G x) := by
  obtain ⟨h1, h2, h3⟩ := layD_all h
  refine ⟨fun xs g => ?_, fun xs => ?_, fun xs ys => ?_⟩
  · simp only [PyData.canLay0]; exact h1 xs g
  · simp only [PyData.depth]; exact Nat.succ_le_succ (h2 xs)
  · simp only [PyData.eqv]; exact h3 xs ys
theorem LayD.tup2 {α β : Type} [DecidableEq α] [DecidableEq β] {L : α → PyData} {M : β → PyData} {k : Nat} {G : α → Prop} {G2 : β → Prop} (h : LayD L k G) (g : LayD M k G2) : LayD (fun x : α × β => PyData.tuple [L x.1, M x.2]) (k + 1) (fun x => G x.1 ∧ G2 x.2) := by
  refine ⟨fun x a => ?_, fun x => ?_, fun x y => ?_⟩
  · simp only [PyData.canLay0, PyData.canLayAll0, h.lay _ a.1, g.lay _ a.2, Bool.and_true]
  · simp only [PyData.depth, PyData.depthAll]
    have := h.dep x.1
    have := g.dep x.2
    omega
  · simp only [PyData.eqv, PyData.eqvAll, h.eqv, g.eqv, Bool.and_true]
    exact decide_and2 (by rw [Prod.ext_iff])
theorem LayD.tup3 {α β γ : Type} [DecidableEq α] [DecidableEq β] [DecidableEq γ] {L : α → PyData} {M : β → PyData} {N : γ → PyData} {k : Nat} {G : α → Prop} {G2 : β → Prop} {G3 : γ → Prop} (h : LayD L k G) (g : LayD M k G2) (e : LayD N k G3) : LayD (fun x : α × β × γ => PyData.tuple [L x.1, M x.2.1, N x.2.2]) (k + 1) (fun x => G x.1 ∧ G2 x.2.1 ∧ G3 x.2.2) := by
  refine ⟨fun x a => ?_, fun x => ?_, fun x y => ?_⟩
  · simp only [PyData.canLay0, PyData.canLayAll0, h.lay _ a.1, g.lay _ a.2.1, e.lay _ a.2.2, Bool.and_true]
  · simp only [PyData.depth, PyData.depthAll]
    have := h.dep x.1
    have := g.dep x.2.1
    have := e.dep x.2.2
    omega
  · simp only [PyData.eqv, PyData.eqvAll, h.eqv, g.eqv, e.eqv, Bool.and_true]
    rw [decide_and2 (r := x.2 = y.2) (by rw [Prod.ext_iff])]
    exact decide_and2 (by rw [Prod.ext_iff])
theorem LayD.tup4 {α β γ δ : Type} [DecidableEq α] [DecidableEq β] [DecidableEq γ] [DecidableEq δ] {L : α → PyData} {M : β → PyData} {N : γ → PyData} {O : δ → PyData} {k : Nat} {G : α → Prop} {G2 : β → Prop} {G3 : γ → Prop} {G4 : δ → Prop} (h : LayD L k G) (g : LayD M k G2) (e : LayD N k G3) (d : LayD O k G4) : LayD (fun x : α × β × γ × δ => PyData.tuple [L x.1, M x.2.1, N x.2.2.1, O x.2.2.2]) (k + 1) (fun x => G x.1 ∧ G2 x.2.1 ∧ G3 x.2.2.1 ∧ G4 x.2.2.2) := by
  refine ⟨fun x a => ?_, fun x => ?_, fun x y => ?_⟩
  · simp only [PyData.canLay0, PyData.canLayAll0, h.lay _ a.1, g.lay _ a.2.1, e.lay _ a.2.2.1, d.lay _ a.2.2.2, Bool.and_true]
  · simp only [PyData.depth, PyData.depthAll]
    have := h.dep x.1
    have := g.dep x.2.1
    have := e.dep x.2.2.1
    have := d.dep x.2.2.2
    omega
  · simp only [PyData.eqv, PyData.eqvAll, h.eqv, g.eqv, e.eqv, d.eqv, Bool.and_true]
    rw [decide_and2 (r := x.2.2 = y.2.2) (by rw [Prod.ext_iff]), decide_and2 (r := x.2 = y.2) (by rw [Prod.ext_iff])]
    exact decide_and2 (by rw [Prod.ext_iff])
theorem eqL {α : Type} [DecidableEq α] {L : α → PyData} {k : Nat} {G : α → Prop} (h : LayD L k G) (hk : k ≤ 64) {K : PySem.W.Frag} {H : Hp} {x y : V} {a b : α} {Q : VK} (ga : G a) (gb : G b) (h1 : Dp K H x (L a)) (h2 : Dp K H y (L b)) (q : Q (.bl (decide (a = b))) H) : rEqD K x y H Q :=
  ⟨_, _, h1, h2, h.shaped hk ga, h.shaped hk gb, by rw [h.eqv]; exact q⟩
theorem neL {α : Type} [DecidableEq α] {L : α → PyData} {k : Nat} {G : α → Prop} (h : LayD L k G) (hk : k ≤ 64) {K : PySem.W.Frag} {H : Hp} {x y : V} {a b : α} {Q : VK} (ga : G a) (gb : G b) (h1 : Dp K H x (L a)) (h2 : Dp K H y (L b)) (q : Q (.bl (!decide (a = b))) H) : rNeD K x y H Q :=
  ⟨_, _, h1, h2, h.shaped hk ga, h.shaped hk gb, by rw [h.eqv]; exact q⟩
theorem dpAll_refs {α : Type} {L : α → PyData} {K : PySem.W.Frag} {H : Hp} : ∀ {ps : List Addr} {xs : List α}, ps.length = xs.length → (∀ (i : Nat) (p : Addr) (x : α), ps[i]? = some p → xs[i]? = some x → Dp K H (.ref p) (L x)) → DpAll K H (ps.map V.ref) (xs.map L)
  | [], [], _, _ => .nil
  | [], _ :: _, h, _ => by cases h
  | _ :: _, [], h, _ => by cases h
  | p :: ps, x :: xs, h, e => .cons (e 0 p x rfl rfl) (dpAll_refs (Nat.succ.inj h) fun i p' x' h1 h2 => e (i + 1) p' x' h1 h2)

/-- for i, x in enumerate(xs): each turn a new pair -/
theorem for_enum {K : PySem.W.Frag} {a : Addr} {xs : List V} {g : TG} {tb : TS} {D : Ends} {σ : L2.St} {H : Hp} (Pv : Nat → L2.St → Hp → Prop) (h0 : Pv 0 σ H) (hl : ∀ i σ H, i ≤ xs.length → Pv i σ H → SqL K H a xs)
    (hs : ∀ (i : Nat) (x : V) (σ : L2.St) (H : Hp) (T : Addr), xs[i]? = some x → Pv i σ H → H T = none → g (.ref T) σ (upd H T (.tup [.int (i : Int), x])) fun σ2 H2 => tb { D with nx := Pv (i + 1), ct := Pv (i + 1), bk := D.nx } σ2 H2) (hd : ∀ σ H, Pv xs.length σ H → D.nx σ H) :
    ∃ W : Nat → Nat → L2.St → Hp → Prop, (∃ m, W 0 m σ H) ∧ ∀ i m σ H, W i m σ H →
      ((Ite K a).stop i H ∧ D.nx σ H) ∨ ((Ite K a).go i H ∧ ∃ N : L2.St → Hp → Prop, (∀ σ' H', N σ' H' → ∃ m', m' < m ∧ W (i + 1) m' σ' H') ∧ ∀ x H', (Ite K a).yld i H x H' → g x σ H' fun σ2 H2 => tb { D with nx := N, ct := N, bk := D.nx } σ2 H2) := by
  refine ⟨fun i m σ H => m + i = xs.length ∧ Pv i σ H, ⟨xs.length, rfl, h0⟩, ?_⟩
  rintro i m σ H ⟨em, p⟩
  have q := hl i σ H (by omega) p
  by_cases hlt : i < xs.length
  · refine .inr ⟨⟨xs, xs[i], q, List.getElem?_eq_getElem hlt⟩, Pv (i + 1), fun σ' H' p' => ⟨m - 1, by omega, by omega, p'⟩, fun x H' y => ?_⟩
    obtain ⟨T, z, rfl, nT, rfl, hz⟩ := y
    exact hs i z σ H T (hz xs q) p nT
  · have e : i = xs.length := by omega
    subst e
    exact .inl ⟨⟨xs, q, Nat.le_refl _⟩, hd σ H p⟩
theorem call_int_b {X : Cx} : CallR X (.type "int") (fun xs H Q => ∃ b : Bool, xs = [.bl b] ∧ Q (.int (if b = true then 1 else 0)) H) := by
  intro pins s σ H xs us Q I r h
  obtain ⟨i, e, q⟩ := h
  exact call_int1 pins s σ H xs us Q I r (.inr ⟨i, e, q⟩)

/-- the first n values of g -/
def rowI (n : Nat) (g : Nat → Int) : List Int := (List.range n).map g
theorem rowI_len (n : Nat) (g : Nat → Int) : (rowI n g).length = n := by
  unfold rowI
  rw [List.length_map, List.length_range]
theorem rowI_at {n : Nat} {g : Nat → Int} {i : Nat} (h : i < n) : (rowI n g)[i]? = some (g i) := by
  unfold rowI
  rw [List.getElem?_map, List.getElem?_range h]
  rfl
theorem atI_row {n : Nat} {g : Nat → Int} {i : Nat} (h : i < n) : atI ((rowI n g).map V.int) (i : Int) = some (.int (g i)) := by
  refine at_of (j := i) rfl ?_
  rw [List.getElem?_map, rowI_at h]
  rfl
theorem rowI_succ (n : Nat) (g : Nat → Int) : rowI (n + 1) g = rowI n g ++ [g n] := by
  unfold rowI
  rw [List.range_succ, List.map_append]
  rfl
theorem rowI_eq {n : Nat} {f g : Nat → Int} : rowI n f = rowI n g ↔ ∀ i, i < n → f i = g i := by
  unfold rowI
  rw [List.map_inj_left]
  exact ⟨fun h i hi => h i (List.mem_range.mpr hi), fun h i hi => h i (List.mem_range.mp hi)⟩
theorem rowI_of (ws : List Int) : rowI ws.length (at0 ws) = ws := by
  refine List.ext_getElem? fun i => ?_
  by_cases h : i < ws.length
  · rw [rowI_at h, at0_lt h]
  · rw [List.getElem?_eq_none (by rw [rowI_len]; omega), List.getElem?_eq_none (by omega)]
theorem rowI_mem {n : Nat} {g : Nat → Int} {x : Int} : x ∈ rowI n g ↔ ∃ i, i < n ∧ g i = x := by
  unfold rowI
  rw [List.mem_map]
  exact ⟨fun ⟨i, h, e⟩ => ⟨i, List.mem_range.mp h, e⟩, fun ⟨i, h, e⟩ => ⟨i, List.mem_range.mpr h, e⟩⟩
/-- the sum of the first n values of g -/
def sumI (n : Nat) (g : Nat → Int) : Int := (rowI n g).sum
theorem sumI_succ (n : Nat) (g : Nat → Int) : sumI (n + 1) g = sumI n g + g n := by
  unfold sumI
  rw [rowI_succ, List.sum_append, List.sum_cons, List.sum_nil]
  omega
theorem sumI_congr {n : Nat} {f g : Nat → Int} (h : ∀ i, i < n → f i = g i) : sumI n f = sumI n g := by
  unfold sumI
  rw [rowI_eq.mpr h]
theorem sumI_sub : ∀ (n : Nat) (f g : Nat → Int), sumI n (fun i => f i - g i) = sumI n f - sumI n g
  | 0, _, _ => rfl
  | n + 1, f, g => by rw [sumI_succ, sumI_succ, sumI_succ, sumI_sub n f g]; omega
theorem sumI_bound {n : Nat} {g : Nat → Int} {m : Int} (h : ∀ i, i < n → 0 ≤ g i ∧ g i ≤ m) : 0 ≤ sumI n g ∧ sumI n g ≤ n * m := by
  induction n with
  | zero => exact ⟨Int.le_refl 0, by show (0 : Int) ≤ ((0 : Nat) : Int) * m; omega⟩
  | succ n ih =>
    have h1 := ih fun i hi => h i (by omega)
    have h2 := h n (by omega)
    rw [sumI_succ]
    have e : ((n + 1 : Nat) : Int) * m = n * m + m := by rw [Int.natCast_add, Int.add_mul]; omega
    omega
/-- a square table of numbers, its rows at ps -/
structure Tab (H : Hp) (t : Addr) (ps : List Addr) (n : Nat) (f : Nat → Nat → Int) : Prop where
  lst : H t = some (.lst (ps.map V.ref))
  len : ps.length = n
  row : ∀ i p, ps[i]? = some p → H p = some (.lst ((rowI n (f i)).map V.int))
  nod : ps.Nodup
  out : t ∉ ps
theorem Tab.same {H H' : Hp} {t : Addr} {ps : List Addr} {n : Nat} {f : Nat → Nat → Int} (h : Tab H t ps n f) (e : Same H H') : Tab H' t ps n f :=
  ⟨e _ _ h.lst, h.len, fun i p hp => e _ _ (h.row i p hp), h.nod, h.out⟩
def tabL (n : Nat) (f : Nat → Nat → Int) : List (List Int) := (List.range n).map fun i => rowI n (f i)
theorem tabL_at {n : Nat} {f : Nat → Nat → Int} {i : Nat} (h : i < n) : (tabL n f)[i]? = some (rowI n (f i)) := by
  unfold tabL
  rw [List.getElem?_map, List.getElem?_range h]
  rfl
theorem tabL_eq {n : Nat} {f g : Nat → Nat → Int} : tabL n f = tabL n g ↔ ∀ i, i < n → ∀ j, j < n → f i j = g i j := by
  unfold tabL
  rw [List.map_inj_left]
  exact ⟨fun h i hi => rowI_eq.mp (h i (List.mem_range.mpr hi)), fun h i hi => rowI_eq.mpr (h i (List.mem_range.mp hi))⟩
theorem layD_tab : LayD (fun xs : List (List Int) => PyData.list (xs.map fun ys => PyData.list (ys.map PyData.int))) 2 (fun xs => ∀ x, x ∈ xs → ∀ y, y ∈ x → True) := layD_int.list.list
theorem Tab.dp {K : PySem.W.Frag} {H : Hp} {t : Addr} {ps : List Addr} {n : Nat} {f : Nat → Nat → Int} (h : Tab H t ps n f) : Dp K H (.ref t) (PyData.list ((tabL n f).map fun ys => PyData.list (ys.map PyData.int))) := by
  refine .lst (SqL.of h.lst) (dpAll_refs ?_ fun i p x h1 h2 => ?_)
  · rw [h.len]
    unfold tabL
    rw [List.length_map, List.length_range]
  · have hi := (List.getElem?_eq_some_iff.mp h1).1
    rw [h.len] at hi
    rw [tabL_at hi] at h2
    cases h2
    exact .lst (SqL.of (h.row i p h1)) (dpAll_ints _)
theorem refs_at {ps : List Addr} {i : Nat} {x : V} (h : (ps.map V.ref)[i]? = some x) : ∃ p, ps[i]? = some p ∧ x = V.ref p := by
  rw [List.getElem?_map] at h
  cases e : ps[i]? with
  | none => rw [e] at h; cases h
  | some z => rw [e] at h; exact ⟨z, rfl, (Option.some.inj h).symm⟩
theorem Tab.at {H : Hp} {t : Addr} {ps : List Addr} {n : Nat} {f : Nat → Nat → Int} (h : Tab H t ps n f) {i : Nat} (hi : i < n) : ∃ p, ps[i]? = some p ∧ atI (ps.map V.ref) (i : Int) = some (.ref p) ∧ H p = some (.lst ((rowI n (f i)).map V.int)) := by
  have hl : i < ps.length := by rw [h.len]; exact hi
  refine ⟨ps[i], List.getElem?_eq_getElem hl, at_of (j := i) rfl ?_, h.row i _ (List.getElem?_eq_getElem hl)⟩
  rw [List.getElem?_map, List.getElem?_eq_getElem hl]
  rfl

/-- a table that grows: m rows of n numbers -/
structure TabR (H : Hp) (t : Addr) (ps : List Addr) (m n : Nat) (f : Nat → Nat → Int) : Prop where
  lst : H t = some (.lst (ps.map V.ref))
  len : ps.length = m
  row : ∀ i p, ps[i]? = some p → H p = some (.lst ((rowI n (f i)).map V.int))
  nod : ps.Nodup
  out : t ∉ ps
theorem TabR.nil {H : Hp} {t : Addr} (n : Nat) (f : Nat → Nat → Int) (h : H t = some (.lst [])) : TabR H t [] 0 n f :=
  ⟨h, rfl, fun _ _ e => (by rw [List.getElem?_nil] at e; cases e), List.nodup_nil, fun h => (by cases h)⟩
theorem TabR.congr {H : Hp} {t : Addr} {ps : List Addr} {m n : Nat} {f g : Nat → Nat → Int} (h : TabR H t ps m n f) (e : ∀ i, i < m → ∀ j, j < n → f i j = g i j) : TabR H t ps m n g :=
  ⟨h.lst, h.len, fun i p hp => by
    have hi := (List.getElem?_eq_some_iff.mp hp).1
    rw [h.row i p hp, rowI_eq.mpr (e i (by rw [← h.len]; exact hi))], h.nod, h.out⟩
theorem TabR.push {H H' : Hp} {t p : Addr} {ps : List Addr} {m n : Nat} {f : Nat → Nat → Int} (h : TabR H t ps m n f) (e : Same H H') (np : H p = none) (hp : H' p = some (.lst ((rowI n (f m)).map V.int))) : TabR (upd H' t (.lst (ps.map V.ref ++ [V.ref p]))) t (ps ++ [p]) (m + 1) n f := by
  have hmem : ∀ q, q ∈ ps → ∃ o, H q = some o := fun q hq => by
    obtain ⟨i, hi⟩ := List.mem_iff_getElem?.mp hq
    exact ⟨_, h.row i q hi⟩
  have hpt : p ≠ t := fun z => by rw [z, h.lst] at np; cases np
  have hnp : p ∉ ps := fun z => by
    obtain ⟨o, ho⟩ := hmem p z
    rw [np] at ho
    cases ho
  refine ⟨?_, ?_, fun i q hq => ?_, ?_, ?_⟩
  · rw [upd_same, List.map_append]
    rfl
  · rw [List.length_append, h.len]
    rfl
  · by_cases hi : i < ps.length
    · rw [List.getElem?_append_left hi] at hq
      have hm := List.mem_of_getElem? hq
      rw [upd_ne (fun z => h.out (by rw [← z]; exact hm))]
      exact e _ _ (h.row i q hq)
    · rw [List.getElem?_append_right (by omega)] at hq
      have hi2 := (List.getElem?_eq_some_iff.mp hq).1
      have : i - ps.length = 0 := by
        rw [List.length_cons, List.length_nil] at hi2
        omega
      rw [this] at hq
      have hqp : p = q := Option.some.inj hq
      subst hqp
      rw [upd_ne hpt, hp]
      have : i = m := by have := h.len; omega
      rw [this]
  · rw [List.nodup_append]
    refine ⟨h.nod, List.nodup_cons.mpr ⟨fun z => (by cases z), List.nodup_nil⟩, fun a ha b hb z => ?_⟩
    rw [List.mem_singleton] at hb
    rw [hb] at z
    rw [z] at ha
    exact hnp ha
  · intro z
    rcases List.mem_append.mp z with z | z
    · exact h.out z
    · rw [List.mem_singleton] at z
      exact hpt z.symm
theorem TabR.tab {H : Hp} {t : Addr} {ps : List Addr} {n : Nat} {f : Nat → Nat → Int} (h : TabR H t ps n n f) : Tab H t ps n f := ⟨h.lst, h.len, h.row, h.nod, h.out⟩
theorem TabR.keep {H H0 : Hp} {t : Addr} {xs : List V} (s : Same H0 H) (nt : H0 t = none) : Same H0 (upd H t (.lst xs)) := fun b o e => by
  rw [upd_ne (ne_of_none e nt)]
  exact s b o e
/-- debts: one to thirteen houses, nobody owes itself -/
structure Debts (n : Nat) (f : Nat → Nat → Int) (m : Int) : Prop where
  n0 : 1 ≤ n
  n1 : n ≤ 13
  b : ∀ i, i < n → ∀ j, j < n → 0 ≤ f i j ∧ f i j ≤ m
  d : ∀ i, i < n → f i i = 0
theorem Debts.mono {n : Nat} {f : Nat → Nat → Int} {m k : Int} (h : Debts n f m) (e : m ≤ k) : Debts n f k := ⟨h.n0, h.n1, fun i hi j hj => ⟨(h.b i hi j hj).1, Int.le_trans (h.b i hi j hj).2 e⟩, h.d⟩

theorem TabR.same {H H' : Hp} {t : Addr} {ps : List Addr} {m n : Nat} {f : Nat → Nat → Int} (h : TabR H t ps m n f) (e : Same H H') : TabR H' t ps m n f :=
  ⟨e _ _ h.lst, h.len, fun i p hp => e _ _ (h.row i p hp), h.nod, h.out⟩
theorem TabR.at {H : Hp} {t : Addr} {ps : List Addr} {m n : Nat} {f : Nat → Nat → Int} (h : TabR H t ps m n f) {i : Nat} (hi : i < m) : ∃ p, ps[i]? = some p ∧ atI (ps.map V.ref) (i : Int) = some (.ref p) ∧ H p = some (.lst ((rowI n (f i)).map V.int)) := by
  have hl : i < ps.length := by rw [h.len]; exact hi
  refine ⟨ps[i], List.getElem?_eq_getElem hl, at_of (j := i) rfl ?_, h.row i _ (List.getElem?_eq_getElem hl)⟩
  rw [List.getElem?_map, List.getElem?_eq_getElem hl]
  rfl
/-- [list(row) for row in t]: a table copied -/
theorem lc_copyR {K : PySem.W.Frag} {t : Addr} {ps : List Addr} {m n : Nat} {f : Nat → Nat → Int} {σ : L2.St} {H1 : Hp} {D : Addr} {j : Nat} {Qd : Hp → Prop} (ht : TabR H1 t ps m n f) (hm : m ≤ 900) (hn : n ≤ 900) (nD : H1 D = none) (hj : Nat.ble (j + 1) σ.length = true)
    (q : ∀ H' qs, Same H1 H' → TabR H' D qs m n f → (∀ q, q ∈ qs → H1 q = none) → Qd H') :
    ∃ W : Nat → Nat → Hp → Prop, (∃ m, W 0 m (upd H1 D (.lst []))) ∧ ∀ i m H, W i m H →
      ((Itl K t).stop i H ∧ Qd H) ∨ ((Itl K t).go i H ∧ ∃ Nx : Hp → Prop, (∀ H', Nx H' → ∃ m', m' < m ∧ W (i + 1) m' H') ∧ ∀ x H', (Itl K t).yld i H x H' → gName j x (wipe σ [j]) H' fun σ2 H2 => wipe σ2 [j] = wipe σ [j] ∧ tYes σ2 H2 fun b H3 =>
        if b = true then tCB (rListOf K) (tCons (tVar j) tNil) σ2 H3 fun y H4 => ∃ acc, H4 D = some (.lst acc) ∧ acc.length < sizeLine ∧ Nx (upd H4 D (.lst (acc ++ [y]))) else Nx H3) := by
  have hs : SqL K H1 t (ps.map V.ref) := SqL.of ht.lst
  have hj' : j < (wipe σ [j]).length := by rw [wipe_length]; exact Nat.le_of_ble_eq_true hj
  refine lc_list (K := K) (a := t) (xs := ps.map V.ref) (fun i H' => ∃ qs, TabR H' D qs i n f ∧ Same H1 H' ∧ ∀ q, q ∈ qs → H1 q = none) ⟨[], .nil n f upd_same, same_upd nD, fun _ h => by cases h⟩ (fun i H' _ ⟨_, _, e, _⟩ => e.seq hs) ?_ ?_
  · rintro i x H' hx ⟨qs, hT, e, hfree⟩
    obtain ⟨p, hp, rfl⟩ := refs_at hx
    have hi := (List.getElem?_eq_some_iff.mp hp).1
    rw [ht.len] at hi
    refine ⟨?_, ?_⟩
    · show ((wipe σ [j]).set j (some (V.ref p))).set j none = σ.set j none
      show ((σ.set j none).set j (some (V.ref p))).set j none = σ.set j none
      rw [List.set_set, List.set_set]
    · refine ⟨_, List.getElem?_set_self hj', p, (rowI n (f i)).map V.int, rfl, .inl (e.seq (SqL.of (ht.row i p hp))), fun l nl => ?_⟩
      have sl := same_upd (o := .lst ((rowI n (f i)).map V.int)) nl
      refine ⟨_, sl _ _ hT.lst, ?_, qs ++ [l], hT.push sl nl upd_same, TabR.keep (e.trans sl) nD, fun q hq => ?_⟩
      · refine small1000 ?_
        rw [List.length_map, hT.len]
        omega
      · rcases List.mem_append.mp hq with hq | hq
        · exact hfree q hq
        · rw [List.mem_singleton.mp hq]
          exact e.free nl
  · rintro H' ⟨qs, hT, e, hfree⟩
    rw [List.length_map, ht.len] at hT
    exact q H' qs e hT hfree

/-- a list of tuples: the tuple of each item -/
structure Tups {α : Type} (enc : α → List V) (H : Hp) (l : Addr) (ps : List Addr) (xs : List α) : Prop where
  lst : H l = some (.lst (ps.map V.ref))
  len : ps.length = xs.length
  row : ∀ (i : Nat) (p : Addr) (x : α), ps[i]? = some p → xs[i]? = some x → H p = some (.tup (enc x))
theorem Tups.nil {α : Type} {enc : α → List V} {H : Hp} {l : Addr} (h : H l = some (.lst [])) : Tups enc H l [] ([] : List α) :=
  ⟨h, rfl, fun _ _ _ e => (by rw [List.getElem?_nil] at e; cases e)⟩
theorem Tups.same {α : Type} {enc : α → List V} {H H' : Hp} {l : Addr} {ps : List Addr} {xs : List α} (h : Tups enc H l ps xs) (e : Same H H') : Tups enc H' l ps xs :=
  ⟨e _ _ h.lst, h.len, fun i p x a b => e _ _ (h.row i p x a b)⟩
theorem Tups.at {α : Type} {enc : α → List V} {H : Hp} {l : Addr} {ps : List Addr} {xs : List α} (h : Tups enc H l ps xs) {i : Nat} {x : α} (e : xs[i]? = some x) : ∃ p, ps[i]? = some p ∧ atI (ps.map V.ref) (i : Int) = some (.ref p) ∧ H p = some (.tup (enc x)) := by
  have hi := (List.getElem?_eq_some_iff.mp e).1
  have hl : i < ps.length := by rw [h.len]; exact hi
  refine ⟨ps[i], List.getElem?_eq_getElem hl, at_of (j := i) rfl ?_, h.row i _ x (List.getElem?_eq_getElem hl) e⟩
  rw [List.getElem?_map, List.getElem?_eq_getElem hl]
  rfl
theorem Tups.item {α : Type} {enc : α → List V} {H : Hp} {l : Addr} {ps : List Addr} {xs : List α} (h : Tups enc H l ps xs) {i : Nat} {v : V} (e : (ps.map V.ref)[i]? = some v) : ∃ p x, ps[i]? = some p ∧ xs[i]? = some x ∧ v = .ref p ∧ H p = some (.tup (enc x)) := by
  obtain ⟨p, hp, rfl⟩ := refs_at e
  have hi := (List.getElem?_eq_some_iff.mp hp).1
  rw [h.len] at hi
  exact ⟨p, xs[i], hp, List.getElem?_eq_getElem hi, rfl, h.row i p _ hp (List.getElem?_eq_getElem hi)⟩
theorem Tups.push {α : Type} {enc : α → List V} {H H' : Hp} {l p : Addr} {ps : List Addr} {xs : List α} {x : α} (h : Tups enc H l ps xs) (e : Same H H') (np : H p = none) (hp : H' p = some (.tup (enc x))) : Tups enc (upd H' l (.lst (ps.map V.ref ++ [V.ref p]))) l (ps ++ [p]) (xs ++ [x]) := by
  have hpl : p ≠ l := fun z => by rw [z, h.lst] at np; cases np
  refine ⟨?_, ?_, fun i q y hq hy => ?_⟩
  · rw [upd_same, List.map_append]
    rfl
  · rw [List.length_append, List.length_append, h.len]
    rfl
  · by_cases hi : i < ps.length
    · rw [List.getElem?_append_left hi] at hq
      rw [List.getElem?_append_left (by rw [← h.len]; exact hi)] at hy
      have hq2 := h.row i q y hq hy
      rw [upd_ne (fun z => by rw [z, h.lst] at hq2; cases hq2)]
      exact e _ _ hq2
    · rw [List.getElem?_append_right (by omega)] at hq
      rw [List.getElem?_append_right (by have := h.len; omega)] at hy
      have h1 := (List.getElem?_eq_some_iff.mp hq).1
      rw [List.length_cons, List.length_nil] at h1
      have e0 : i - ps.length = 0 := by omega
      have e1 : i - xs.length = 0 := by have := h.len; omega
      rw [e0] at hq
      rw [e1] at hy
      have z1 : p = q := Option.some.inj hq
      have z2 : x = y := Option.some.inj hy
      rw [← z1, ← z2, upd_ne hpl]
      exact hp
theorem Tups.dp {α : Type} {enc : α → List V} {L : α → PyData} {K : PySem.W.Frag} {H : Hp} {l : Addr} {ps : List Addr} {xs : List α} (h : Tups enc H l ps xs) (he : ∀ x (p : Addr), H p = some (.tup (enc x)) → Dp K H (.ref p) (L x)) : Dp K H (.ref l) (PyData.list (xs.map L)) :=
  .lst (SqL.of h.lst) (dpAll_refs h.len fun i p x h1 h2 => he x p (h.row i p x h1 h2))
def enc2 (x : Int × Int) : List V := [.int x.1, .int x.2]
def enc3 (x : Int × Int × Int) : List V := [.int x.1, .int x.2.1, .int x.2.2]
def lay3 (x : Int × Int × Int) : PyData := .tuple [.int x.1, .int x.2.1, .int x.2.2]
theorem layD_3 : LayD lay3 1 (fun x => True ∧ True ∧ True) := layD_int.tup3 layD_int layD_int
theorem dp3 {K : PySem.W.Frag} {H : Hp} (x : Int × Int × Int) (p : Addr) (h : H p = some (.tup (enc3 x))) : Dp K H (.ref p) (lay3 x) :=
  .tup (SqT.of h) (.cons (.int _) (.cons (.int _) (.cons (.int _) .nil)))
theorem Tups.push2 {α : Type} {enc : α → List V} {H : Hp} {l p : Addr} {ps : List Addr} {xs : List α} {x : α} (h : Tups enc H l ps xs) (hp : H p = some (.tup (enc x))) : Tups enc (upd H l (.lst (ps.map V.ref ++ [V.ref p]))) l (ps ++ [p]) (xs ++ [x]) := by
  have hpl : p ≠ l := fun z => by rw [z, h.lst] at hp; cases hp
  refine ⟨?_, ?_, fun i q y hq hy => ?_⟩
  · rw [upd_same, List.map_append]
    rfl
  · rw [List.length_append, List.length_append, h.len]
    rfl
  · by_cases hi : i < ps.length
    · rw [List.getElem?_append_left hi] at hq
      rw [List.getElem?_append_left (by rw [← h.len]; exact hi)] at hy
      have hq2 := h.row i q y hq hy
      rw [upd_ne (fun z => by rw [z, h.lst] at hq2; cases hq2)]
      exact hq2
    · rw [List.getElem?_append_right (by omega)] at hq
      rw [List.getElem?_append_right (by have := h.len; omega)] at hy
      have h1 := (List.getElem?_eq_some_iff.mp hq).1
      rw [List.length_cons, List.length_nil] at h1
      have e0 : i - ps.length = 0 := by omega
      have e1 : i - xs.length = 0 := by have := h.len; omega
      rw [e0] at hq
      rw [e1] at hy
      have z1 : p = q := Option.some.inj hq
      have z2 : x = y := Option.some.inj hy
      rw [← z1, ← z2, upd_ne hpl]
      exact hp
theorem Tups.copy {α : Type} {enc : α → List V} {H H' : Hp} {l l2 : Addr} {ps : List Addr} {xs : List α} (h : Tups enc H l ps xs) (e : Same H H') (h2 : H' l2 = some (.lst (ps.map V.ref))) : Tups enc H' l2 ps xs :=
  ⟨h2, h.len, fun i p x a b => e _ _ (h.row i p x a b)⟩
theorem Tups.other {α : Type} {enc : α → List V} {H : Hp} {l A : Addr} {ps : List Addr} {xs : List α} {ys zs : List V} (h : Tups enc H l ps xs) (hA : H A = some (.lst ys)) (ne : l ≠ A) : Tups enc (upd H A (.lst zs)) l ps xs :=
  ⟨by rw [upd_ne ne]; exact h.lst, h.len, fun i p x a b => by
    have hp := h.row i p x a b
    rw [upd_ne (fun z => by rw [z, hA] at hp; cases hp)]
    exact hp⟩

/-! one try with any except clauses, with names or without (the library has one named clause, or several without names) -/
section
variable {X : Cx}
inductive Clause (X : Cx) : ExceptHandler → (WX → Ends → WX) → Prop
  | named {x n : Str} {c : Value} {i : Nat} {np pp : Pos} {ff : Stmt} {ss : List Stmt} {tt : Addr → Value → Option Addr → TS} (nm : Names X x c) (at_i : X.N[i]? = some n) (loc_n : X.env.kindOf n = some .local)
      (hsu : ∀ (a : Addr) (o : Obj) (cls : Value) (d : Option Addr) (pn : List (Addr × Obj)), Zc cls d o → (∃ vs, o.data = .fields vs) → PSs (X.suite a ((a, o) :: pn)) (ff :: ss) (tt a cls d)) :
      Clause X (.ExceptHandler (some (.Name x np)) (some n) (ff :: ss) pp) (fun Wn D => wAs X.K c i tt Wn D)
  | plain {x : Str} {c : Value} {np pp : Pos} {ff : Stmt} {ss : List Stmt} {tt : Addr → Value → Option Addr → TS} (nm : Names X x c)
      (hsu : ∀ (a : Addr) (o : Obj) (cls : Value) (d : Option Addr) (pn : List (Addr × Obj)), Zc cls d o → (∃ vs, o.data = .fields vs) → PSs (X.suite a ((a, o) :: pn)) (ff :: ss) (tt a cls d)) :
      Clause X (.ExceptHandler (some (.Name x np)) none (ff :: ss) pp) (fun Wn D cls d σ H => ∃ b, PySem.W.exmOne X.K cls c = some b ∧ (b = true → ∀ a, H a = none → tt a cls d D σ H) ∧ (b = false → Wn cls d σ H))
inductive Clauses (X : Cx) : List ExceptHandler → List (WX → Ends → WX) → Prop
  | nil : Clauses X [] []
  | cons {h : ExceptHandler} {w : WX → Ends → WX} {hs : List ExceptHandler} {ws : List (WX → Ends → WX)} : Clause X h w → Clauses X hs ws → Clauses X (h :: hs) (w :: ws)
def wishes (D : Ends) (Wout : WX) : List (WX → Ends → WX) → WX
  | [] => Wout
  | w :: ws => w (wishes D Wout ws) D
theorem ps_try_any {body : List Stmt} {h0 : ExceptHandler} {hds : List ExceptHandler} {ws : List (WX → Ends → WX)} {pos : Pos} {tb : WX → TS} {Wout : WX} (hst : X.stack = X.env :: X.outer) (hfr : X.env.frame = some X.env.locals) (nd : X.N.Nodup) (tk : Takes X Wout)
    (hbody : ∀ (W : WX) (pn : List (Addr × Obj)) (xe : Value → Shared → Prop), Takes (X.tr pn xe) W → PassesOwn (model X.prog X.w) X.A X.env xe → PSs (X.tr pn xe) body (tb W))
    (cl : Clauses X (h0 :: hds) ws) : PS X (.Try body (h0 :: hds) [] [] pos) (fun D σ H => tb (wishes D Wout ws) D σ H) := by
  refine ⟨fun pins sh st Hh D inv hyp => ?_⟩
  have okX := inv.ok
  have frs0 : X.A.frames = some (X.env :: X.outer) := okX.frames.trans (congrArg some hst)
  refine wpAny_Try_except ?_
  refine wpAny_mono ((hbody (wishes D Wout ws) (X.pn ++ pins) (fun ev q₁ => wpAny (model X.prog X.w) X.A (noteFrame ev X.env) (fun _ q₂ => wpAny (model X.prog X.w) X.A (setFlight ev none) (fun _ q₃ =>
    wpAny (model X.prog X.w) X.A (handleBy ev X.env (h0 :: hds)) (SP X pins D) X.xe q₃) X.xe q₂) X.xe q₁) (fun u z xx => ?_) PassesOwn.looking).run [] sh st Hh D (inv.toTry _) hyp) (fun fl z1 left => ?_) (fun _ _ same => same)
  · obtain ⟨a, B, zI, pins2, st2, Hh2, cls, d, rfl, JT, nb, up, sky, na, os, ag, wish⟩ := xx
    have J : Inv X pins st2 Hh2 zI := JT.ofTry okX
    have skyX : Sky B (X.env :: X.outer) a (Zc cls d) X.env.locals z.heap := hst ▸ sky
    show wpAny (model X.prog X.w) X.A (noteFrame (Value.ref a) X.env) _ _ _
    refine Sky.land Zc.steady frs0 hfr skyX fun hp flz upz => ?_
    have J3 : Inv X pins st2 Hh2 { z with heap := hp } := J.landed nb flz.1 (up.trans upz) os ag
    obtain ⟨oA, vsA, atA, zA, dA⟩ := flz.there
    have apart : a ∉ frs (X.env :: X.outer) := fun hm => by
      obtain ⟨_, o', e', hnf⟩ := flz.2.2.1.mem hm
      rw [atA] at e'
      cases e'
      exact hnf _ dA
    have n1 : a ≠ X.env.locals := fun w => apart (List.mem_filterMap.mpr ⟨X.env, List.mem_cons_self, hfr.trans (congrArg some w.symm)⟩)
    have n2 : a ∉ X.fs := fun hm => by
      obtain ⟨ee, he, q⟩ := List.mem_filterMap.mp hm
      exact apart (List.mem_filterMap.mpr ⟨ee, List.mem_cons_of_mem _ he, q⟩)
    have S3 := J3.suite atA dA na n1 n2
    have onward : ∀ {hs' : List ExceptHandler} {ws' : List (WX → Ends → WX)}, Clauses X hs' ws' → wishes D Wout ws' cls d st2 Hh2 → wpAny (model X.prog X.w) X.A (handleBy (.ref a) X.env hs') (SP X pins D) X.xe { z with heap := hp } := by
      intro hs' ws' all
      induction all with
      | nil =>
        intro out
        refine wpAny_handleBy_nil ?_
        obtain ⟨j1, j2, j3, oC, vC, T, oT, tC, atC, zC, dC, fC, rC⟩ := id flz
        unfold PySem.passOn
        refine wpAny_bind (wpAny_field atC dC fC ?_)
        rw [if_neg (show ¬ ((Value.ref T == Value.none) = true) by simp)]
        have fin : wpAny (model X.prog X.w) X.A (setFlight (.ref a) X.env.frame) (fun _ q4 => wpAny (model X.prog X.w) X.A (throw (.ref a) : Sem Flow) (SP X pins D) X.xe q4) X.xe { z with heap := hp } := by
          rw [hfr]
          refine HandSPX.setFlight_upZ flz fun hq fq uq => wpAny_throw (tk _ _ ?_)
          exact ⟨a, B, zI, pins, st2, Hh2, cls, d, rfl, J, nb, (up.trans upz).trans uq, .inr (.inr (hst.symm ▸ fq)), na, os, ag, out⟩
        first | (exact wpAny_bind (wpAny_pure (wpAny_bind fin))) | (exact wpAny_bind fin)
      | @cons h w more ws2 c1 _ ih =>
        intro wish2
        have looks : PySem.W.Looks (model X.prog X.w) hp (typeOf (.ref a)) cls := fun A Q E s k q => wpAny_typeOf_ref (k _ _ atA) (by rw [zA.1]; exact q)
        have test : ∀ {x' : Str} {c' : Value} {np : Pos} {Q E : Value → Shared → Prop}, Names X x' c' → Q c' { z with heap := hp } → wpAny (model X.prog X.w) (X.A.mark (some (.ref a))) (eval (.Name x' np) X.env) Q E { z with heap := hp } := fun {x' c' np Q E} nm q => by
          rcases nm with ⟨gl, nodb, known | ⟨unk, boot, nn⟩⟩
          · exact ld_glob (X := X.suite a ((a, oA) :: (X.pn ++ pins))) S3 gl known q nodb
          · exact ld_blt (X := X.suite a ((a, oA) :: (X.pn ++ pins))) S3 gl unk boot q nn nodb
        cases c1 with
        | @plain x' c' np pp ff ss tt nm hsu =>
          obtain ⟨b, isb, yes, no⟩ := wish2
          refine wpAny_handleBy_cons (codeAny_handlers_test ?_) (fun q => by cases q)
          refine test nm ((PySem.W.exm_one (M := model X.prog X.w) J3.kIn looks isb).here ?_)
          cases b with
          | false => exact ih (no rfl)
          | true =>
            refine (codeAny_handlers_suite ?_)
            refine HandSPX.lands_againZ flz fun hq flq upq => ?_
            have J4 : Inv X pins st2 Hh2 { z with heap := hq } := J.landed nb flq.1 ((up.trans upz).trans upq) os ag
            obtain ⟨oB, vsB, atB, zB, dB⟩ := flq.there
            have S4 := J4.suite atB dB na n1 n2
            refine wpAny_mono ((hsu a oB cls d (X.pn ++ pins) zB ⟨_, dB⟩).run [] _ _ Hh2 _ S4 (yes rfl a na)) (fun fl r6 got => ?_) (fun _ _ w => False.elim w)
            cases fl with
            | next =>
              obtain ⟨σ6, H6, S6, w⟩ := got
              exact ⟨_, _, S6.unsuite okX, w⟩
            | brk =>
              obtain ⟨σ6, H6, S6, w⟩ := got
              exact ⟨_, _, S6.unsuite okX, w⟩
            | cont =>
              obtain ⟨σ6, H6, S6, w⟩ := got
              exact ⟨_, _, S6.unsuite okX, w⟩
            | ret u =>
              obtain ⟨v6, σ6, H6, S6, r6', w⟩ := got
              exact ⟨_, _, _, S6.unsuite okX, r6', w⟩
        | @named x' n c' i np pp ff ss tt nm at_i loc_n hsu =>
          obtain ⟨b, isb, yes, no⟩ := wish2
          refine wpAny_handleBy_cons (codeAny_handlers_test ?_) (fun q => by cases q)
          refine test nm ((PySem.W.exm_one (M := model X.prog X.w) J3.kIn looks isb).here ?_)
          cases b with
          | false => exact ih (no rfl)
          | true =>
            refine (codeAny_handlers_suite_as ?_)
            refine HandSPX.lands_againZ flz fun hq flq upq => ?_
            have J4 : Inv X pins st2 Hh2 { z with heap := hq } := J.landed nb flq.1 ((up.trans upz).trans upq) os ag
            obtain ⟨oB, vsB, atB, zB, dB⟩ := flq.there
            have S4 := J4.suite atB dB na n1 n2
            refine store_ok (X := X.suite a ((a, oB) :: (X.pn ++ pins))) (v := .ref a) S4 nd at_i (.inl loc_n) rfl (fun r5 S5 => ?_) (.inr loc_n)
            refine wpAny_mono ((hsu a oB cls d (X.pn ++ pins) zB ⟨_, dB⟩).run [] r5 _ Hh2 _ S5 (yes rfl a na)) (fun fl r6 got => ?_) (fun _ _ w => False.elim w)
            have close : ∀ {σ6 : L2.St} {H6 : Hp} {Q : Shared → Prop}, Inv (X.suite a ((a, oB) :: (X.pn ++ pins))) [] σ6 H6 r6 → (∀ r7, Inv X pins (σ6.set i none) H6 r7 → Q r7) →
                wpAny (model X.prog X.w) X.A (do bindName X.env n .none; unbindBehindTheSuite X.env n pp) (fun _ r7 => Q r7) X.xe r6 := fun {σ6 H6 Q} S6 hq => gone_ok (S6.unsuite okX) nd at_i loc_n hq
            cases fl with
            | next =>
              obtain ⟨σ6, H6, S6, w⟩ := got
              exact close S6 fun r7 J7 => ⟨_, _, J7, w⟩
            | brk =>
              obtain ⟨σ6, H6, S6, w⟩ := got
              exact close S6 fun r7 J7 => ⟨_, _, J7, w⟩
            | cont =>
              obtain ⟨σ6, H6, S6, w⟩ := got
              exact close S6 fun r7 J7 => ⟨_, _, J7, w⟩
            | ret u =>
              obtain ⟨v6, σ6, H6, S6, r6', w⟩ := got
              exact close S6 fun r7 J7 => ⟨_, _, _, J7, r6', w⟩
    exact onward cl wish
  · cases fl with
    | next =>
      obtain ⟨σ', H', J', q⟩ := left
      exact wpAny_execs_nil ⟨σ', H', J'.ofTry okX, q⟩
    | brk =>
      obtain ⟨σ', H', J', q⟩ := left
      exact ⟨σ', H', J'.ofTry okX, q⟩
    | cont =>
      obtain ⟨σ', H', J', q⟩ := left
      exact ⟨σ', H', J'.ofTry okX, q⟩
    | ret u =>
      obtain ⟨v, σ', H', J', r, q⟩ := left
      exact ⟨v, σ', H', J'.ofTry okX, r, q⟩
end

section
variable {P : Program} {w : World} {K : PySem.W.Frag} {mg : Str → Option Value} {base : Heap}
/-- the told number of cells, drawn into a range -/
def sp_law_numbers (K : PySem.W.Frag) : Sp := fun vs H Q _ => ∃ (a : Addr) (ns : List Int) (start cnt low high : Int), vs = [.ref a, .int start, .int cnt, .int low, .int high] ∧ SqL K H a (ns.map V.int) ∧ 0 ≤ start ∧ 0 ≤ cnt ∧ cnt ≤ 100 ∧ low ≤ high ∧ -10000000000 ≤ low ∧ high ≤ 10000000000 ∧
  ∀ p H' (n : Nat) (f : Nat → Int), cnt = (n : Int) → Same H H' → H p = none → H' p = some (.lst ((rowI n f).map V.int)) → (∀ i, low ≤ f i ∧ f i ≤ high) → Q (.ref p) H'
set_option maxHeartbeats 0 in
theorem ok_law_numbers (T : Txt K mg) : FnOk P w K mg base CX0 1 T.f_law_numbers T.d_law_numbers ["script", "start", "count", "low", "high"] (sp_law_numbers K) := by
  refine T.F_law_numbers.ok sc_law_numbers (fun vs H Q E h => ?_) (fun cdv A outer s H vs Q E hr h => ?_)
  · obtain ⟨a, ns, start, cnt, low, high, rfl, _⟩ := h
    rfl
  · obtain ⟨a, ns, start', cnt, low, high, rfl, hs, h0, hn0, hn, hlh, hl, hh, q⟩ := h
    obtain ⟨n, rfl⟩ : ∃ n : Nat, cnt = (n : Int) := ⟨cnt.toNat, by omega⟩
    obtain ⟨start, rfl⟩ : ∃ start : Nat, start' = (start : Int) := ⟨start'.toNat, by omega⟩
    refine ⟨_, (pss_cons (ps_set (i := 5) sc_law_numbers.nd rfl (Or.inl rfl) (pe_lst pa_nil))
    (pss_cons (ps_for PassesOwn.never rfl (pi_range1 (by rfl) T.z_range (pa_cons (pv 2) pa_nil)) (pg_name (i := 6) sc_law_numbers.nd rfl (Or.inl rfl))
      (pss_cons (ps_set (i := 7) sc_law_numbers.nd rfl (Or.inl rfl) (pe_op op_mul pe_int (pv 6)))
      (pss_cons (ps_if (pt_cmpR op_lt (pe_op op_add (pv 1) (pv 6)) (pe_callB call_len_seq (by rfl) T.z_len PySem.boot_len (pa_cons (pv 0) pa_nil)) (nomark _))
        (pss_one (ps_set (i := 7) sc_law_numbers.nd rfl (Or.inl rfl) (pe_callTy call_int_i (by rfl) T.z_int (by decide +kernel) (pa_cons (pe_ix ix_list (pv 0) (pe_op op_add (pv 1) (pv 6)) (fun _ _ => rfl)) pa_nil))))
        pss_nil)
      (pss_one (ps_expr (pe_bm PySem.F.plainAttrs_list PySem.F.slot_list_append PySem.F.type_list_append mt_append (pv 5) (pa_cons (pe_op op_add (pv 3) (pe_op op_mod (pv 7) (pe_op op_add (pe_op op_sub (pv 4) (pv 3)) pe_int))) pa_nil)))))))
    (pss_one (ps_ret (pv 5))))), ?_⟩
    walk_at "st"
    intro D nD
    have hc : ∀ c : Int, low ≤ low + c % (high - low + 1) ∧ low + c % (high - low + 1) ≤ high := fun c => by
      have h1 := Int.emod_nonneg c (by omega : high - low + 1 ≠ 0)
      have h2 := Int.emod_lt_of_pos c (by omega : 0 < high - low + 1)
      omega
    walk_at "st"
    refine for_range (lo := 0) (n := ((n : Int)).toNat) (fun i σ H' => ∃ (v6 v7 : Option V) (f : Nat → Int), σ = [some (.ref a), some (.int (start : Int)), some (.int (n : Int)), some (.int low), some (.int high), some (.ref D), v6, v7] ∧ H' = upd H D (.lst ((rowI i f).map V.int)) ∧ ∀ i, low ≤ f i ∧ f i ≤ high) ⟨none, none, fun _ => low, rfl, rfl, fun i => ⟨Int.le_refl _, hlh⟩⟩ ?_ ?_
    · rintro i σ H' hi ⟨v6, v7, f, rfl, rfl, hf⟩
      rw [Int.toNat_natCast] at hi
      rw [show (0 : Int) + i = ((i : Nat) : Int) by omega]
      have hD : upd H D (.lst ((rowI i f).map V.int)) D = some (.lst ((rowI i f).map V.int)) := upd_same
      have hs1 := (same_upd (o := .lst ((rowI i f).map V.int)) nD).seq hs
      have hsz : ((rowI i f).map V.int).length < sizeLine := small1000 (by rw [List.length_map, rowI_len]; omega)
      have fin : ∀ c : Int, upd (upd H D (.lst ((rowI i f).map V.int))) D (.lst ((rowI i f).map V.int ++ [V.int (low + c % (high - low + 1))])) = upd H D (.lst ((rowI (i + 1) fun j => if j = i then low + c % (high - low + 1) else f j).map V.int)) ∧ ∀ j, low ≤ (if j = i then low + c % (high - low + 1) else f j) ∧ (if j = i then low + c % (high - low + 1) else f j) ≤ high := fun c => by
        refine ⟨?_, fun j => ?_⟩
        · rw [upd_upd, rowI_succ, List.map_append, if_pos rfl, rowI_eq.mpr fun j (hj : j < i) => if_neg (c := j = i) (t := low + c % (high - low + 1)) (e := f j) (by omega)]
          rfl
        · split
          · exact hc c
          · exact hf j
      walk_at "st"
      refine iteB (fun h => ?_) (fun h => ?_)
      · have h := dec_t h
        rw [List.length_map] at h
        have hj : start + i < ns.length := by omega
        have hat : atI (ns.map V.int) ((start : Int) + (i : Int)) = some (.int (cellOf ns (start + i))) := by
          rw [show (start : Int) + (i : Int) = ((start + i : Nat) : Int) by omega]
          exact atI_ints hj
        walk_at "st"
        exact ⟨_, _, _, rfl, (fin (cellOf ns (start + i))).1, (fin (cellOf ns (start + i))).2⟩
      · walk_at "st"
        exact ⟨_, _, _, rfl, (fin (7 * (i : Int))).1, (fin (7 * (i : Int))).2⟩
    · rintro σ H' ⟨v6, v7, f, rfl, rfl, hf⟩
      walk_at "st"
      rw [Int.toNat_natCast]
      exact q D _ n f rfl (same_upd nD) nD upd_same hf

def sp_law_is_integer (K : PySem.W.Frag) : Sp := fun vs H Q _ => ∃ x : Int, vs = [.int x] ∧ Q (.bl true) H
set_option maxHeartbeats 0 in
theorem ok_law_is_integer (T : Txt K mg) : FnOk P w K mg base CX0 1 T.f_law_is_integer T.d_law_is_integer ["actual"] (sp_law_is_integer K) := by
  refine T.F_law_is_integer.ok sc_law_is_integer (fun vs H Q E h => ?_) (fun cdv A outer s H vs Q E hr h => ?_)
  · obtain ⟨x, rfl, _⟩ := h
    rfl
  · obtain ⟨x, rfl, q⟩ := h
    refine ⟨_, (pss_one (ps_ret (pe_and (pe_callB call_isi (by rfl) T.z_isinstance (by decide +kernel) (pa_cons (pv 0) (pa_cons (pe_bltn (v := .ty "int") (u := .type "int") (by rfl) T.z_int (by decide +kernel) rfl) pa_nil))) (pe_one (pe_not (pe_callB call_isi (by rfl) T.z_isinstance (by decide +kernel) (pa_cons (pv 0) (pa_cons (pe_bltn (v := .ty "bool") (u := .type "bool") (by rfl) T.z_bool (by decide +kernel) rfl) pa_nil)))))))), ?_⟩
    refine ⟨_, rfl, ?_⟩
    refine ⟨_, _, _, _, true, rfl, .ty _, .base (.int _), kit_ty (by decide +kernel), ?_⟩
    refine ⟨true, rfl, iteT ?_⟩
    refine ⟨_, rfl, ?_⟩
    refine ⟨_, _, _, _, false, rfl, .ty _, .base (.int _), kit_ty (by decide +kernel), ?_⟩
    refine ⟨false, rfl, ?_⟩
    exact q

def encH (x : Str × Int) : List V := [.str x.1, .int x.2]
def layH (x : Str × Int) : PyData := .tuple [.str x.1, .int x.2]
theorem layD_H : LayD layH 1 (fun x => PyData.strOk x.1 = true ∧ True) := layD_str.tup2 layD_int
theorem dpH {K : PySem.W.Frag} {H : Hp} (x : Str × Int) (p : Addr) (h : H p = some (.tup (encH x))) : Dp K H (.ref p) (layH x) :=
  .tup (SqT.of h) (.cons (.str _) (.cons (.int _) .nil))
def encR (x : Str × Int × Int) : List V := [.str x.1, .int x.2.1, .int x.2.2]
def sp_is_integral (K : PySem.W.Frag) : Sp := fun vs H Q _ => ∃ x : Int, vs = [.int x] ∧ Q (.bl true) H
set_option maxHeartbeats 0 in
theorem ok_is_integral (T : Txt K mg) : FnOk P w K mg base CX0 1 T.f_is_integral T.d_is_integral ["value"] (sp_is_integral K) := by
  refine T.F_is_integral.ok sc_is_integral (fun vs H Q E h => ?_) (fun cdv A outer s H vs Q E hr h => ?_)
  · obtain ⟨x, rfl, _⟩ := h
    rfl
  · obtain ⟨x, rfl, q⟩ := h
    refine ⟨_, (pss_one (ps_ret (pe_and (pe_callB call_isi (by rfl) T.z_isinstance (by decide +kernel) (pa_cons (pv 0) (pa_cons (pe_bltn (v := .ty "int") (u := .type "int") (by rfl) T.z_int (by decide +kernel) rfl) pa_nil))) (pe_one (pe_not (pe_callB call_isi (by rfl) T.z_isinstance (by decide +kernel) (pa_cons (pv 0) (pa_cons (pe_bltn (v := .ty "bool") (u := .type "bool") (by rfl) T.z_bool (by decide +kernel) rfl) pa_nil)))))))), ?_⟩
    refine ⟨_, rfl, ?_⟩
    refine ⟨_, _, _, _, true, rfl, .ty _, .base (.int _), kit_ty (by decide +kernel), ?_⟩
    refine ⟨true, rfl, iteT ?_⟩
    refine ⟨_, rfl, ?_⟩
    refine ⟨_, _, _, _, false, rfl, .ty _, .base (.int _), kit_ty (by decide +kernel), ?_⟩
    refine ⟨false, rfl, ?_⟩
    exact q
def sp_check_number (K : PySem.W.Frag) (C : Addr) : Sp := fun vs H Q E => ∃ x l : Int, vs = [.int x, .int l] ∧ (l ≤ x → Q .non H) ∧ (x < l → E (.ref C) none H)
set_option maxHeartbeats 0 in
theorem ok_check_number (T : Txt K mg) : FnOk P w K mg base (L2.CX P w) 2 T.f_check_number T.d_check_number ["number", "least"] (sp_check_number K T.c_InvalidAmount) := by
  refine T.F_check_number.okX sc_check_number (fun vs H Q E h => ?_) (fun cdv A outer s H vs Q E hr h => ?_)
  · obtain ⟨x, l, rfl, _⟩ := h
    rfl
  · obtain ⟨x, l, rfl, q, qe⟩ := h
    have G_is_integral : FnOk P w K mg base CX0 1 T.f_is_integral T.d_is_integral ["value"] (sp_is_integral K) := ok_is_integral T
    refine ⟨_, (pss_one (ps_if (PW.pt (pw_or (pt_not (pt_val (pe_call G_is_integral hr (by rfl) T.m_is_integral T.F_is_integral.kp T.b_is_integral .nil pass0 (pa_cons (pv 0) pa_nil)))) (pw_or1 (pt_cmpR op_lt (pv 0) (pv 1) (nomark _)))))
      (pss_one (ps_raise rfl (takes_of rfl rfl rfl rfl) (pmk_own PySem.F.excBase_ValueError T.x_InvalidAmount T.m_InvalidAmount T.k_InvalidAmount (raises_own T.b_InvalidAmount T.t_InvalidAmount) (by rfl))))
      pss_nil)), ?_⟩
    walk_at "st"
    refine iteB (fun h => ?_) (fun h => ?_)
    · walk_at "st"
      exact qe (dec_t h)
    · exact q (by have := dec_f h; omega)
def nnH (hs : List (Str × Int)) : Prop := ∀ x, x ∈ hs → 0 ≤ x.2
def sp_check_holdings (K : PySem.W.Frag) (C : Addr) : Sp := fun vs H Q E => ∃ (hs : List (Str × Int)) (a : Addr) (qs : List Addr), vs = [.ref a] ∧ Tups encH H a qs hs ∧ (nnH hs → Q .non H) ∧ (¬ nnH hs → E (.ref C) none H)
set_option maxHeartbeats 0 in
theorem ok_check_holdings (T : Txt K mg) : FnOk P w K mg base (L2.CX P w) 3 T.f_check_holdings T.d_check_holdings ["holdings"] (sp_check_holdings K T.c_InvalidAmount) := by
  refine T.F_check_holdings.okX sc_check_holdings (fun vs H Q E h => ?_) (fun cdv A outer s H vs Q E hr h => ?_)
  · obtain ⟨hs, a, qs, rfl, _⟩ := h
    rfl
  · obtain ⟨hs, a, qs, rfl, ha, q, qe⟩ := h
    have G_check_number : FnOk P w K mg base (L2.CX P w) 2 T.f_check_number T.d_check_number ["number", "least"] (sp_check_number K T.c_InvalidAmount) := ok_check_number T
    have has : SqL K H a (qs.map V.ref) := SqL.of ha.lst
    refine ⟨_, (pss_one (ps_for (passes_of rfl) rfl (pi_list (pv 0)) (pg_tup rfl (pgs_cons (pg_name (i := 1) sc_check_holdings.nd rfl (Or.inl rfl)) (pgs_cons (pg_name (i := 2) sc_check_holdings.nd rfl (Or.inl rfl)) pgs_nil)))
      (pss_one (ps_expr (pe_callS G_check_number hr (by rfl) T.m_check_number T.F_check_number.kp T.b_check_number (fun σ => passAt (takes_of rfl rfl rfl rfl) σ) (pa_cons (pv 2) (pa_cons pe_int pa_nil))))))), ?_⟩
    walk_at "st"
    refine for_list (K := K) (a := a) (xs := qs.map V.ref) (fun i σ H' => (∃ v1 v2 : Option V, σ = [some (.ref a), v1, v2]) ∧ H' = H ∧ ∀ x, x ∈ hs.take i → 0 ≤ x.2) ⟨⟨none, none, rfl⟩, rfl, fun _ h => by cases h⟩ (fun i σ H' _ ⟨_, e, _⟩ => by rw [e]; exact has) ?_ ?_
    · rintro i x σ H' hx ⟨⟨v1, v2, rfl⟩, rfl, hb⟩
      obtain ⟨p, ⟨s, u⟩, hp, hxs, rfl, ht⟩ := ha.item hx
      have ht2 : SqT K H' p [.str s, .int u] := SqT.of ht
      have hm := List.mem_of_getElem? hxs
      walk_at "st"
      refine ⟨fun h => ?_, fun h => qe fun z => ?_⟩
      · refine ⟨⟨some (.str s), some (.int u), rfl⟩, rfl, fun x hx => ?_⟩
        rw [take_succ hxs] at hx
        rcases List.mem_append.mp hx with hx | hx
        · exact hb x hx
        · rw [List.mem_singleton.mp hx]
          exact h
      · have := z _ hm
        dsimp only at this
        omega
    · rintro σ H' ⟨⟨v1, v2, rfl⟩, rfl, hb⟩
      rw [List.length_map, ha.len, List.take_length] at hb
      exact q hb
def sp_dividend (K : PySem.W.Frag) (C : Addr) : Sp := fun vs H Q E => ∃ (hs : List (Str × Int)) (a : Addr) (qs : List Addr) (c : Int), vs = [.ref a, .int c] ∧ Tups encH H a qs hs ∧ hs.length ≤ 100 ∧ -1000000000000 ≤ c ∧ c ≤ 1000000000000 ∧
  (nnH hs → 0 ≤ c → ∀ r rs H', Same H H' → H r = none → Tups encH H' r rs (hs.map fun x => (x.1, x.2 * c)) → Q (.ref r) H') ∧ (¬ (nnH hs ∧ 0 ≤ c) → E (.ref C) none H)
set_option maxHeartbeats 0 in
theorem ok_dividend (T : Txt K mg) : FnOk P w K mg base (L2.CX P w) 4 T.f_dividend T.d_dividend ["holdings", "cents"] (sp_dividend K T.c_InvalidAmount) := by
  refine T.F_dividend.okX sc_dividend (fun vs H Q E h => ?_) (fun cdv A outer s H vs Q E hr h => ?_)
  · obtain ⟨hs, a, qs, c, rfl, _⟩ := h
    rfl
  · obtain ⟨hs, a, qs, c, rfl, ha, hl, hc0, hc1, q, qe⟩ := h
    have G_check_holdings : FnOk P w K mg base (L2.CX P w) 3 T.f_check_holdings T.d_check_holdings ["holdings"] (sp_check_holdings K T.c_InvalidAmount) := ok_check_holdings T
    have G_check_number : FnOk P w K mg base (L2.CX P w) 2 T.f_check_number T.d_check_number ["number", "least"] (sp_check_number K T.c_InvalidAmount) := ok_check_number T
    have has : SqL K H a (qs.map V.ref) := SqL.of ha.lst
    refine ⟨_, (pss_cons (ps_expr (pe_callS G_check_holdings hr (by rfl) T.m_check_holdings T.F_check_holdings.kp T.b_check_holdings (fun σ => passAt (takes_of rfl rfl rfl rfl) σ) (pa_cons (pv 0) pa_nil)))
    (pss_cons (ps_expr (pe_callS G_check_number (hr.mono (by decide)) (by rfl) T.m_check_number T.F_check_number.kp T.b_check_number (fun σ => passAt (takes_of rfl rfl rfl rfl) σ) (pa_cons (pv 1) (pa_cons pe_int pa_nil))))
    (pss_one (ps_ret (pe_lc (own := [("house", 2), ("units", 3)]) (tt := tYes) rfl sc_dividend.nd (pi_list (pv 0)) (blkOk_by (own := [("house", 2), ("units", 3)]) (N := N_dividend) (sc := defScope s_dividend) (by decide +kernel)) (fun _ _ _ _ _ => (show PG _ _ (gTup K 2 (gCons (gName 2) (gCons (gName 3) gNil))) from (pg_tup rfl (pgs_cons (pg_name (i := 2) sc_dividend.nd rfl (Or.inl rfl)) (pgs_cons (pg_name (i := 3) sc_dividend.nd rfl (Or.inl rfl)) pgs_nil))))) (fun _ _ _ _ _ => pts_nil) (fun _ _ _ _ _ => (pe_tup (pa_cons (pv 2) (pa_cons (pe_op op_mul (pv 3) (pv 1)) pa_nil))))))))), ?_⟩
    walk_at "st"
    refine ⟨hs, a, qs, rfl, ha, fun h1 => ?_, fun h1 => qe fun z => h1 z.1⟩
    walk_at "st"
    refine ⟨fun h2 => ?_, fun h2 => qe fun z => ?_⟩
    · walk_at "st"
      intro D nD
      refine lc_list (K := K) (a := a) (xs := qs.map V.ref) (fun i H' => ∃ rs, Tups encH H' D rs ((hs.take i).map fun x => (x.1, x.2 * c)) ∧ Same H H') ⟨[], .nil upd_same, same_upd nD⟩ (fun i H' _ ⟨_, _, e⟩ => e.seq has) ?_ ?_
      · rintro i x H' hx ⟨rs, hT, e⟩
        obtain ⟨p, ⟨s, u⟩, hp, hxs, rfl, ht⟩ := ha.item hx
        have ht2 : SqT K H' p [.str s, .int u] := SqT.of (e _ _ ht)
        have hi := (List.getElem?_eq_some_iff.mp hxs).1
        walk_at "st"
        intro t nt
        have st := same_upd (o := .tup [.str s, .int (u * c)]) nt
        refine ⟨_, st _ _ hT.lst, small1000 ?_, rs ++ [t], ?_, TabR.keep (e.trans st) nD⟩
        · rw [List.length_map, hT.len, List.length_map, List.length_take]
          omega
        · rw [take_succ hxs, List.map_append]
          exact hT.push (x := (s, u * c)) st nt upd_same
      · rintro H' ⟨rs, hT, e⟩
        rw [List.length_map, ha.len, List.take_length] at hT
        exact q h1 h2 D rs H' e nD hT
    · have := z.2
      omega
def goodS (hs : List (Str × Int)) (n d p : Int) : Prop := nnH hs ∧ 1 ≤ n ∧ 1 ≤ d ∧ 1 ≤ p
def splS (n d p : Int) (x : Str × Int) : Str × Int × Int := (x.1, x.2 * n / d, x.2 * n % d * p / d)
def sp_share_split (K : PySem.W.Frag) (C : Addr) : Sp := fun vs H Q E => ∃ (hs : List (Str × Int)) (a : Addr) (qs : List Addr) (n d p : Int), vs = [.ref a, .int n, .int d, .int p] ∧ Tups encH H a qs hs ∧ hs.length ≤ 100 ∧ -1000000000 ≤ n ∧ n ≤ 1000000000 ∧ d < 1000000000 ∧ p ≤ 1000000000 ∧
  (goodS hs n d p → ∀ r rs H', Same H H' → H r = none → Tups encR H' r rs (hs.map (splS n d p)) → Q (.ref r) H') ∧ (¬ goodS hs n d p → ∀ H', Same H H' → E (.ref C) none H')
set_option maxHeartbeats 0 in
theorem ok_share_split (T : Txt K mg) : FnOk P w K mg base (L2.CX P w) 4 T.f_share_split T.d_share_split ["holdings", "numerator", "denominator", "price"] (sp_share_split K T.c_InvalidAmount) := by
  refine T.F_share_split.okX sc_share_split (fun vs H Q E h => ?_) (fun cdv A outer s H vs Q E hr h => ?_)
  · obtain ⟨hs, a, qs, n, d, p, rfl, _⟩ := h
    rfl
  · obtain ⟨hs, a, qs, n, d, p, rfl, ha, hl, hn0, hn1, hd, hp, q, qe⟩ := h
    have G_check_holdings : FnOk P w K mg base (L2.CX P w) 3 T.f_check_holdings T.d_check_holdings ["holdings"] (sp_check_holdings K T.c_InvalidAmount) := ok_check_holdings T
    have G_check_number : FnOk P w K mg base (L2.CX P w) 2 T.f_check_number T.d_check_number ["number", "least"] (sp_check_number K T.c_InvalidAmount) := ok_check_number T
    have has : SqL K H a (qs.map V.ref) := SqL.of ha.lst
    refine ⟨_, (pss_cons (ps_expr (pe_callS G_check_holdings hr (by rfl) T.m_check_holdings T.F_check_holdings.kp T.b_check_holdings (fun σ => passAt (takes_of rfl rfl rfl rfl) σ) (pa_cons (pv 0) pa_nil)))
    (pss_cons (ps_for (passes_of rfl) rfl (pi_tup (pe_tup (pa_cons (pv 1) (pa_cons (pv 2) (pa_cons (pv 3) pa_nil))))) (pg_name (i := 4) sc_share_split.nd rfl (Or.inl rfl))
      (pss_one (ps_expr (pe_callS G_check_number (hr.mono (by decide)) (by rfl) T.m_check_number T.F_check_number.kp T.b_check_number (fun σ => passAt (takes_of rfl rfl rfl rfl) σ) (pa_cons (pv 4) (pa_cons pe_int pa_nil))))))
    (pss_cons (ps_set (i := 5) sc_share_split.nd rfl (Or.inl rfl) (pe_lst pa_nil))
    (pss_cons (ps_for (passes_of rfl) rfl (pi_list (pv 0)) (pg_tup rfl (pgs_cons (pg_name (i := 6) sc_share_split.nd rfl (Or.inl rfl)) (pgs_cons (pg_name (i := 7) sc_share_split.nd rfl (Or.inl rfl)) pgs_nil)))
      (pss_cons (ps_asg (pe_callB call_divmod (by rfl) T.z_divmod (by decide +kernel) (pa_cons (pe_op op_mul (pv 7) (pv 1)) (pa_cons (pv 2) pa_nil))) (pg_tup rfl (pgs_cons (pg_name (i := 8) sc_share_split.nd rfl (Or.inl rfl)) (pgs_cons (pg_name (i := 9) sc_share_split.nd rfl (Or.inl rfl)) pgs_nil))))
      (pss_one (ps_expr (pe_bm PySem.F.plainAttrs_list PySem.F.slot_list_append PySem.F.type_list_append mt_append (pv 5) (pa_cons (pe_tup (pa_cons (pv 6) (pa_cons (pv 8) (pa_cons (pe_op op_fdiv (pe_op op_mul (pv 9) (pv 3)) (pv 2)) pa_nil)))) pa_nil))))))
    (pss_one (ps_ret (pv 5))))))), ?_⟩
    walk_at "st"
    refine ⟨hs, a, qs, rfl, ha, fun h1 => ?_, fun h1 => qe (fun z => h1 z.1) H (Same.refl _)⟩
    walk_at "st"
    intro U nU
    have sU := same_upd (o := .tup [.int n, .int d, .int p]) nU
    have hU : SqT K (upd H U (.tup [.int n, .int d, .int p])) U [.int n, .int d, .int p] := SqT.of upd_same
    generalize upd H U _ = H1 at *
    walk_at "st"
    refine for_tup (K := K) (a := U) (xs := [n, d, p].map V.int) (fun i σ H' => (∃ v4 : Option V, σ = [some (.ref a), some (.int n), some (.int d), some (.int p), v4, none, none, none, none, none]) ∧ H' = H1 ∧ ∀ x, x ∈ [n, d, p].take i → 1 ≤ x) ⟨⟨none, rfl⟩, rfl, fun _ h => by cases h⟩ (fun i σ H' _ ⟨_, e, _⟩ => by rw [e]; exact hU) ?_ ?_
    · rintro i x σ H' hx ⟨⟨v4, rfl⟩, rfl, hb⟩
      obtain ⟨z, hz, rfl⟩ := ints_at hx
      have hm := List.mem_of_getElem? hz
      walk_at "st"
      refine ⟨fun h => ?_, fun h => qe (fun g => ?_) H' sU⟩
      · refine ⟨⟨some (.int z), rfl⟩, rfl, fun x hx => ?_⟩
        rw [take_succ hz] at hx
        rcases List.mem_append.mp hx with hx | hx
        · exact hb x hx
        · rw [List.mem_singleton.mp hx]
          exact h
      · obtain ⟨_, g1, g2, g3⟩ := g
        rcases List.mem_cons.mp hm with e | hm
        · omega
        rcases List.mem_cons.mp hm with e | hm
        · omega
        have := List.mem_singleton.mp hm
        omega
    · rintro σ H' ⟨⟨v4, rfl⟩, rfl, hb⟩
      have g1 := hb n List.mem_cons_self
      have g2 := hb d (List.mem_cons_of_mem _ List.mem_cons_self)
      have g3 := hb p (List.mem_cons_of_mem _ (List.mem_cons_of_mem _ List.mem_cons_self))
      have ha1 := ha.same sU
      have has1 := SqL.of (K := K) ha1.lst
      walk_at "st"
      intro D nD
      have sD := same_upd (o := .lst []) nD
      have hD : upd H' D (.lst []) D = some (.lst []) := upd_same
      have has2 := sD.seq has1
      generalize upd H' D _ = H2 at *
      walk_at "st"
      refine for_list (K := K) (a := a) (xs := qs.map V.ref) (fun i σ H3 => (∃ (v6 v7 v8 v9 : Option V) (rs : List Addr), σ = [some (.ref a), some (.int n), some (.int d), some (.int p), v4, some (.ref D), v6, v7, v8, v9] ∧ Tups encR H3 D rs ((hs.take i).map (splS n d p))) ∧ Same H' H3) ⟨⟨none, none, none, none, [], rfl, .nil hD⟩, sD⟩ (fun i σ H3 _ ⟨_, e⟩ => e.seq has1) ?_ ?_
      · rintro i x σ H3 hx ⟨⟨v6, v7, v8, v9, rs, rfl, hT⟩, e⟩
        obtain ⟨r, ⟨s, u⟩, hr, hxs, rfl, ht⟩ := (ha1.same e).item hx
        have ht2 : SqT K H3 r [.str s, .int u] := SqT.of ht
        have hi := (List.getElem?_eq_some_iff.mp hxs).1
        walk_at "st"
        intro Z nZ
        have sZ := same_upd (o := .tup [.int (u * n / d), .int (u * n % d)]) nZ
        have hZ : SqT K (upd H3 Z (.tup [.int (u * n / d), .int (u * n % d)])) Z [.int (u * n / d), .int (u * n % d)] := SqT.of upd_same
        have hTZ := hT.same sZ
        have hTl := hTZ.lst
        generalize upd H3 Z _ = H4 at *
        have m1 := Int.emod_nonneg (u * n) (by omega : d ≠ 0)
        have m2 := Int.emod_lt_of_pos (u * n) (by omega : 0 < d)
        walk_at "st"
        intro t nt
        have st := same_upd (o := .tup [.str s, .int (u * n / d), .int (u * n % d * p / d)]) nt
        have hsz : (rs.map V.ref).length < sizeLine := small1000 (by rw [List.length_map, hT.len, List.length_map, List.length_take]; omega)
        have hTt := st _ _ hTl
        have hpush := hTZ.push (x := splS n d p (s, u)) st nt upd_same
        walk_at "st"
        refine ⟨⟨some (.str s), some (.int u), some (.int (u * n / d)), some (.int (u * n % d)), rs ++ [t], rfl, ?_⟩, TabR.keep (e.trans (sZ.trans st)) nD⟩
        rw [take_succ hxs, List.map_append]
        exact hpush
      · rintro σ H3 ⟨⟨v6, v7, v8, v9, rs, rfl, hT⟩, e⟩
        rw [List.length_map, ha.len, List.take_length] at hT
        walk_at "st"
        exact q ⟨h1, g1, g2, g3⟩ D rs H3 (sU.trans e) (sU.free nD) hT
def sp_law_raises (K : PySem.W.Frag) : Sp := fun vs H Q _ => ∃ (hs : List (Str × Int)) (a : Addr) (qs : List Addr) (n d p : Int), vs = [.ref a, .int n, .int d, .int p] ∧ Tups encH H a qs hs ∧ hs.length ≤ 100 ∧ -1000000000 ≤ n ∧ n ≤ 1000000000 ∧ d < 1000000000 ∧ p ≤ 1000000000 ∧
  (goodS hs n d p → ∀ H', Same H H' → Q (.bl false) H') ∧ (¬ goodS hs n d p → ∀ H', Same H H' → Q (.bl true) H')
set_option maxHeartbeats 0 in
theorem ok_law_raises (T : Txt K mg) : FnOk P w K mg base CX0 5 T.f_law_raises T.d_law_raises ["holdings", "numerator", "denominator", "price"] (sp_law_raises K) := by
  refine T.F_law_raises.ok sc_law_raises (fun vs H Q E h => ?_) (fun cdv A outer s H vs Q E hr h => ?_)
  · obtain ⟨hs, a, qs, n, d, p, rfl, _⟩ := h
    rfl
  · obtain ⟨hs, a, qs, n, d, p, rfl, ha, hl, hn0, hn1, hd, hp, q, q'⟩ := h
    have G_share_split : FnOk P w K mg base (L2.CX P w) 4 T.f_share_split T.d_share_split ["holdings", "numerator", "denominator", "price"] (sp_share_split K T.c_InvalidAmount) := ok_share_split T
    have teA := PySem.W.exm_ref T.b_InvalidAmount T.d_InvalidAmount T.t_InvalidAmount T.s_InvalidAmount
    refine ⟨_, (pss_cons (ps_try_any rfl rfl sc_law_raises.nd takes0
      (fun W pn xe tk _ => (pss_one (ps_expr (pe_callS G_share_split hr (by rfl) T.m_share_split T.F_share_split.kp T.b_share_split (fun σ => passAt tk σ) (pa_cons (pv 0) (pa_cons (pv 1) (pa_cons (pv 2) (pa_cons (pv 3) pa_nil))))))))
      (.cons (.plain ⟨rfl, by decide, Or.inl T.m_InvalidAmount⟩ (fun a oe cls d pn hz hf => (pss_one (ps_ret pe_bl))))
      .nil))
    (pss_one (ps_ret pe_bl))), ?_⟩
    walk_at "st"
    refine ⟨hs, a, qs, n, d, p, rfl, ha, hl, hn0, hn1, hd, hp, fun h r rs H' e nr hr => ?_, fun h H' e => ?_⟩
    · walk_at "st"
      exact q h H' e
    · refine ⟨true, teA, fun _ a0 _ => ?_, fun q => Bool.noConfusion q⟩
      walk_at "st"
      exact q' h H' e
def sp_law_dividend_raises (K : PySem.W.Frag) : Sp := fun vs H Q _ => ∃ (hs : List (Str × Int)) (a : Addr) (qs : List Addr) (c : Int), vs = [.ref a, .int c] ∧ Tups encH H a qs hs ∧ hs.length ≤ 100 ∧ -1000000000000 ≤ c ∧ c ≤ 1000000000000 ∧
  (nnH hs → 0 ≤ c → ∀ H', Same H H' → Q (.bl false) H') ∧ (¬ (nnH hs ∧ 0 ≤ c) → ∀ H', Same H H' → Q (.bl true) H')
set_option maxHeartbeats 0 in
theorem ok_law_dividend_raises (T : Txt K mg) : FnOk P w K mg base CX0 5 T.f_law_dividend_raises T.d_law_dividend_raises ["holdings", "cents"] (sp_law_dividend_raises K) := by
  refine T.F_law_dividend_raises.ok sc_law_dividend_raises (fun vs H Q E h => ?_) (fun cdv A outer s H vs Q E hr h => ?_)
  · obtain ⟨hs, a, qs, c, rfl, _⟩ := h
    rfl
  · obtain ⟨hs, a, qs, c, rfl, ha, hl, hc0, hc1, q, q'⟩ := h
    have G_dividend : FnOk P w K mg base (L2.CX P w) 4 T.f_dividend T.d_dividend ["holdings", "cents"] (sp_dividend K T.c_InvalidAmount) := ok_dividend T
    have teA := PySem.W.exm_ref T.b_InvalidAmount T.d_InvalidAmount T.t_InvalidAmount T.s_InvalidAmount
    refine ⟨_, (pss_cons (ps_try_any rfl rfl sc_law_dividend_raises.nd takes0
      (fun W pn xe tk _ => (pss_one (ps_expr (pe_callS G_dividend hr (by rfl) T.m_dividend T.F_dividend.kp T.b_dividend (fun σ => passAt tk σ) (pa_cons (pv 0) (pa_cons (pv 1) pa_nil))))))
      (.cons (.plain ⟨rfl, by decide, Or.inl T.m_InvalidAmount⟩ (fun a oe cls d pn hz hf => (pss_one (ps_ret pe_bl))))
      .nil))
    (pss_one (ps_ret pe_bl))), ?_⟩
    walk_at "st"
    refine ⟨hs, a, qs, c, rfl, ha, hl, hc0, hc1, fun h h2 r rs H' e nr hr => ?_, fun h => ?_⟩
    · walk_at "st"
      exact q h h2 H' e
    · refine ⟨true, teA, fun _ a0 _ => ?_, fun q => Bool.noConfusion q⟩
      walk_at "st"
      exact q' h H (Same.refl _)

def nameH (d : Int) : Str := "house" ++ toString d
theorem nameH_ok (d : Int) (h0 : 0 ≤ d) (h1 : d < 10) : PyData.strOk (nameH d) = true ∧ ("house" : Str).length + (toString d : Str).length ≤ sizeLine ∧ d.natAbs.log2 < 1920 := by
  rcases (by omega : d = 0 ∨ d = 1 ∨ d = 2 ∨ d = 3 ∨ d = 4 ∨ d = 5 ∨ d = 6 ∨ d = 7 ∨ d = 8 ∨ d = 9) with e | e | e | e | e | e | e | e | e | e <;> (rw [e]; exact ⟨by decide +kernel, len_le (by decide +kernel), by decide +kernel⟩)
def hldI (f : Nat → Int) (n : Nat) : List (Str × Int) := (List.range n).map fun (k : Nat) => (nameH ((k : Int) * 7 % 10), f k)
theorem hldI_succ (f : Nat → Int) (n : Nat) : hldI f (n + 1) = hldI f n ++ [(nameH ((n : Int) * 7 % 10), f n)] := by
  unfold hldI
  rw [List.range_succ, List.map_append]
  rfl
theorem hldI_len (f : Nat → Int) (n : Nat) : (hldI f n).length = n := by
  unfold hldI
  rw [List.length_map, List.length_range]
theorem hldI_at {f : Nat → Int} {n k : Nat} (h : k < n) : (hldI f n)[k]? = some (nameH ((k : Int) * 7 % 10), f k) := by
  unfold hldI
  rw [List.getElem?_map, List.getElem?_range h]
  rfl
def sp_law (K : PySem.W.Frag) : Sp := fun vs H Q _ => ∃ (a : Addr) (ns : List Int), vs = [.ref a] ∧ SqL K H a (ns.map V.int) ∧ ns.length ≤ 63 ∧ ∀ H', Q (.bl true) H'
set_option maxHeartbeats 0 in
theorem ok_law {f : Addr} {fd : FuncData} (T : Txt K mg) (F : Fun K "law" "law" s_law f fd) : FnOk P w K mg base CX0 6 f fd ["script"] (sp_law K) := by
  refine F.ok sc_law (fun vs H Q E h => ?_) (fun cdv A outer s H vs Q E hr h => ?_)
  · obtain ⟨a, ns, rfl, _⟩ := h
    rfl
  · obtain ⟨a, ns, rfl, hs, hlen, q⟩ := h
    have G_law_numbers : FnOk P w K mg base CX0 1 T.f_law_numbers T.d_law_numbers ["script", "start", "count", "low", "high"] (sp_law_numbers K) := ok_law_numbers T
    have G_share_split : FnOk P w K mg base (L2.CX P w) 4 T.f_share_split T.d_share_split ["holdings", "numerator", "denominator", "price"] (sp_share_split K T.c_InvalidAmount) := ok_share_split T
    have G_dividend : FnOk P w K mg base (L2.CX P w) 4 T.f_dividend T.d_dividend ["holdings", "cents"] (sp_dividend K T.c_InvalidAmount) := ok_dividend T
    have G_law_dividend_raises : FnOk P w K mg base CX0 5 T.f_law_dividend_raises T.d_law_dividend_raises ["holdings", "cents"] (sp_law_dividend_raises K) := ok_law_dividend_raises T
    have G_law_raises : FnOk P w K mg base CX0 5 T.f_law_raises T.d_law_raises ["holdings", "numerator", "denominator", "price"] (sp_law_raises K) := ok_law_raises T
    have G_law_is_integer : FnOk P w K mg base CX0 1 T.f_law_is_integer T.d_law_is_integer ["actual"] (sp_law_is_integer K) := ok_law_is_integer T
    have e9 : (10 : Int) ^ Int.toNat 9 = 1000000000 := by decide
    refine ⟨_, (pss_cons (ps_set (i := 1) sc_law.nd rfl (Or.inl rfl) pe_int)
    (C8.pss_cut (ps_if (pt_truth (pv 0) (by intro _; rfl))
      (pss_one (ps_set (i := 1) sc_law.nd rfl (Or.inl rfl) (pe_callTy call_int_i (by rfl) T.z_int (by decide +kernel) (pa_cons (pe_ix ix_list (pv 0) pe_int (fun _ _ => rfl)) pa_nil))))
      pss_nil)
    (pss_cons (ps_set (i := 2) sc_law.nd rfl (Or.inr rfl) (pe_call G_law_numbers (hr.mono (by decide)) (by rfl) T.m_law_numbers T.F_law_numbers.kp T.b_law_numbers .nil pass0 (pa_cons (pv 0) (pa_cons pe_int (pa_cons (pe_op op_mod (pv 1) pe_int) (pa_cons pe_int (pa_cons (pe_op op_pow pe_int pe_int) pa_nil)))))))
    (pss_cons (ps_setLc (i := 3) (own := [("k", 4)]) (g := gName 4) (tt := tYes) rfl sc_law.nd rfl rfl (sw_true rfl rfl rfl (by decide +kernel)) (pi_range1 (by rfl) T.z_range (pa_cons (pe_callB call_len_seq (by rfl) T.z_len PySem.boot_len (pa_cons (pv 2) pa_nil)) pa_nil)) (blkOk_by (own := [("k", 4)]) (N := N_law) (sc := defScope s_law) (by decide +kernel)) (fun _ _ _ _ _ => (pg_name (i := 4) sc_law.nd rfl (Or.inl rfl))) (fun _ _ _ _ _ => pts_nil) (fun _ _ _ _ _ => (pe_tup (pa_cons (pe_op op_add_str pe_str (pe_callTy call_str_int (by rfl) T.z_str (by decide +kernel) (pa_cons (pe_op op_mod (pe_op op_mul (pv 4) pe_int) pe_int) pa_nil))) (pa_cons (pe_ix (show IxR _ (rIxL K) from ix_list) (pv 2) (pv 4) (fun _ _ => rfl)) pa_nil)))))
    (pss_cons (ps_asg (pe_call G_law_numbers (hr.mono (by decide)) (by rfl) T.m_law_numbers T.F_law_numbers.kp T.b_law_numbers .nil pass0 (pa_cons (pv 0) (pa_cons pe_int (pa_cons pe_int (pa_cons pe_int (pa_cons pe_int pa_nil)))))) (pg_unl rfl (pgs_cons (pg_name (i := 5) sc_law.nd rfl (Or.inl rfl)) (pgs_cons (pg_name (i := 6) sc_law.nd rfl (Or.inl rfl)) pgs_nil))))
    (pss_cons (ps_set (i := 7) sc_law.nd rfl (Or.inl rfl) (pe_op op_add pe_int (pe_op op_mod (pe_op op_fdiv (pv 1) pe_int) pe_int)))
    (pss_cons (ps_set (i := 8) sc_law.nd rfl (Or.inr rfl) (pe_op op_mod (pe_op op_fdiv (pv 1) pe_int) pe_int))
    (pss_cons (ps_if (pt_cmpR (op_neD hr.units) (pe_call G_dividend (hr.mono (by decide)) (by rfl) T.m_dividend T.F_dividend.kp T.b_dividend .nil passL (pa_cons (pe_callTy call_list_of (by rfl) T.z_list (by decide +kernel) (pa_cons (pv 3) pa_nil)) (pa_cons (pv 8) pa_nil))) (pe_lc (own := [("house", 9), ("units", 10)]) (tt := tYes) rfl sc_law.nd (pi_list (pv 3)) (blkOk_by (own := [("house", 9), ("units", 10)]) (N := N_law) (sc := defScope s_law) (by decide +kernel)) (fun _ _ _ _ _ => (show PG _ _ (gTup K 2 (gCons (gName 9) (gCons (gName 10) gNil))) from (pg_tup rfl (pgs_cons (pg_name (i := 9) sc_law.nd rfl (Or.inl rfl)) (pgs_cons (pg_name (i := 10) sc_law.nd rfl (Or.inl rfl)) pgs_nil))))) (fun _ _ _ _ _ => pts_nil) (fun _ _ _ _ _ => (pe_tup (pa_cons (pv 9) (pa_cons (pe_op op_mul (pv 10) (pv 8)) pa_nil))))) (nomark _))
      (pss_one (ps_ret pe_bl))
      pss_nil)
    (pss_cons (ps_set (i := 11) sc_law.nd rfl (Or.inl rfl) (pe_call G_share_split (hr.mono (by decide)) (by rfl) T.m_share_split T.F_share_split.kp T.b_share_split .nil passL (pa_cons (pe_callTy call_list_of (by rfl) T.z_list (by decide +kernel) (pa_cons (pv 3) pa_nil)) (pa_cons (pv 5) (pa_cons (pv 6) (pa_cons (pv 7) pa_nil))))))
    (pss_cons (ps_if (PW.pt (pw_or (pt_not (pt_val (pe_callB call_isi (by rfl) T.z_isinstance (by decide +kernel) (pa_cons (pv 11) (pa_cons (pe_bltn (v := .ty "list") (u := .type "list") (by rfl) T.z_list (by decide +kernel) rfl) pa_nil))))) (pw_or1 (pt_cmpR op_ne (pe_callB call_len_seq (by rfl) T.z_len PySem.boot_len (pa_cons (pv 11) pa_nil)) (pe_callB call_len_seq (by rfl) T.z_len PySem.boot_len (pa_cons (pv 3) pa_nil)) (nomark _)))))
      (pss_one (ps_ret pe_bl))
      pss_nil)
    (pss_cons (ps_for PassesOwn.never rfl (pi_range1 (by rfl) T.z_range (pa_cons (pe_callB call_len_seq (by rfl) T.z_len PySem.boot_len (pa_cons (pv 11) pa_nil)) pa_nil)) (pg_name (i := 4) sc_law.nd rfl (Or.inl rfl))
      (pss_cons (ps_asg (pe_ix ix_list (pv 11) (pv 4) (fun _ _ => rfl)) (pg_tup rfl (pgs_cons (pg_name (i := 9) sc_law.nd rfl (Or.inl rfl)) (pgs_cons (pg_name (i := 10) sc_law.nd rfl (Or.inl rfl)) (pgs_cons (pg_name (i := 12) sc_law.nd rfl (Or.inl rfl)) pgs_nil)))))
      (pss_cons (ps_if (PW.pt (pw_or (pt_cmpR op_ne (pv 9) (pe_ix ix_tup (pe_ix ix_list (pv 3) (pv 4) (fun _ _ => rfl)) pe_int (fun _ _ => rfl)) (nomark _)) (pw_or (pt_not (pt_val (pe_call G_law_is_integer (hr.mono (by decide)) (by rfl) T.m_law_is_integer T.F_law_is_integer.kp T.b_law_is_integer .nil pass0 (pa_cons (pv 10) pa_nil)))) (pw_or1 (pt_not (pt_val (pe_call G_law_is_integer (hr.mono (by decide)) (by rfl) T.m_law_is_integer T.F_law_is_integer.kp T.b_law_is_integer .nil pass0 (pa_cons (pv 12) pa_nil))))))))
        (pss_one (ps_ret pe_bl))
        pss_nil)
      (pss_cons (ps_set (i := 13) sc_law.nd rfl (Or.inl rfl) (pe_op op_sub (pe_op op_mul (pe_ix ix_tup (pe_ix ix_list (pv 3) (pv 4) (fun _ _ => rfl)) pe_int (fun _ _ => rfl)) (pv 5)) (pe_op op_mul (pv 10) (pv 6))))
      (pss_cons (ps_if (PW.pt (pw_or (pt_cmpR op_lt (pv 13) pe_int (nomark _)) (pw_or1 (pt_cmpR op_ge (pv 13) (pv 6) (nomark _)))))
        (pss_one (ps_ret pe_bl))
        pss_nil)
      (pss_one (ps_if (PW.pt (pw_or (pt_cmpR op_gt (pe_op op_mul (pv 12) (pv 6)) (pe_op op_mul (pv 13) (pv 7)) (nomark _)) (pw_or1 (pt_cmpR op_le (pe_op op_mul (pe_op op_add (pv 12) pe_int) (pv 6)) (pe_op op_mul (pv 13) (pv 7)) (nomark _)))))
        (pss_one (ps_ret pe_bl))
        pss_nil)))))))
    (pss_cons (ps_set (i := 14) sc_law.nd rfl (Or.inl rfl) (pe_op op_cat (pv 3) (pe_lst (pa_cons (pe_tup (pa_cons pe_str (pa_cons (pe_op op_sub (pe_op op_sub pe_int pe_int) (pe_op op_mod (pv 1) pe_int)) pa_nil))) pa_nil))))
    (pss_cons (ps_if (PW.pt (pw_or (pt_not (pt_val (pe_call G_law_raises hr (by rfl) T.m_law_raises T.F_law_raises.kp T.b_law_raises .nil pass0 (pa_cons (pv 14) (pa_cons pe_int (pa_cons pe_int (pa_cons pe_int pa_nil))))))) (pw_or (pt_not (pt_val (pe_call G_law_raises hr (by rfl) T.m_law_raises T.F_law_raises.kp T.b_law_raises .nil pass0 (pa_cons (pv 3) (pa_cons pe_int (pa_cons pe_int (pa_cons pe_int pa_nil))))))) (pw_or1 (pt_not (pt_val (pe_call G_law_raises hr (by rfl) T.m_law_raises T.F_law_raises.kp T.b_law_raises .nil pass0 (pa_cons (pv 3) (pa_cons pe_int (pa_cons pe_int (pa_cons pe_int pa_nil)))))))))))
      (pss_one (ps_ret pe_bl))
      pss_nil)
    (pss_cons (ps_if (PW.pt (pw_or (pt_not (pt_val (pe_call G_law_raises hr (by rfl) T.m_law_raises T.F_law_raises.kp T.b_law_raises .nil pass0 (pa_cons (pv 3) (pa_cons pe_int (pa_cons pe_int (pa_cons pe_int pa_nil))))))) (pw_or1 (pt_not (pt_val (pe_call G_law_dividend_raises hr (by rfl) T.m_law_dividend_raises T.F_law_dividend_raises.kp T.b_law_dividend_raises .nil pass0 (pa_cons (pv 3) (pa_cons (pe_op op_sub (pe_op op_sub pe_int pe_int) (pe_op op_mod (pv 1) pe_int)) pa_nil))))))))
      (pss_one (ps_ret pe_bl))
      pss_nil)
    (pss_one (ps_ret (pe_and (pe_call G_law_dividend_raises hr (by rfl) T.m_law_dividend_raises T.F_law_dividend_raises.kp T.b_law_dividend_raises .nil pass0 (pa_cons (pv 14) (pa_cons pe_int pa_nil))) (pe_one (pe_not (pe_call G_law_raises hr (by rfl) T.m_law_raises T.F_law_raises.kp T.b_law_raises .nil pass0 (pa_cons (pv 3) (pa_cons pe_int (pa_cons pe_int (pa_cons pe_int pa_nil)))))))))))))))))))))))), ?_⟩
    refine ⟨fun σ' H' => (∃ shape : Int, σ' = [some (.ref a), some (.int shape), none, none, none, none, none, none, none, none, none, none, none, none, none]) ∧ H' = H, ?_, ?_⟩
    · walk_at "st"
      refine iteB (fun h => ?_) (fun h => ?_)
      · have hl : 0 < ns.length := by
          cases ns with
          | nil => cases h
          | cons => exact Nat.succ_pos _
        have hat : atI (ns.map V.int) 0 = some (.int (cellOf ns 0)) := atI_ints hl
        walk_at "st"
        exact ⟨⟨_, rfl⟩, rfl⟩
      · exact ⟨⟨_, rfl⟩, rfl⟩
    · rintro σ' H' ⟨⟨shape, rfl⟩, rfl⟩
      obtain ⟨n, en, hn1⟩ : ∃ n : Nat, shape % 9 = (n : Int) ∧ n ≤ 8 := ⟨(shape % 9).toNat, by omega, by omega⟩
      walk_at "st"
      intro P H2 n2 pf en2 e2 nP hP hpf
      obtain rfl : n = n2 := by omega
      have hs2 := e2.seq hs
      have hPs := SqL.of (K := K) hP
      have hPl : ((rowI n pf).map V.int).length = n := by rw [List.length_map, rowI_len]
      walk_at "st"
      intro O nO
      refine lc_range (lo := 0) (n := ((((rowI n pf).map V.int).length : Nat) : Int).toNat) (fun i H' => ∃ os, Tups encH H' O os (hldI pf i) ∧ Same H2 H') ⟨[], .nil upd_same, same_upd nO⟩ ?_ ?_
      · rintro i H3 hi' ⟨os, hO, e3⟩
        rw [hPl, Int.toNat_natCast] at hi'
        rw [show (0 : Int) + i = ((i : Nat) : Int) by omega]
        have hP3 := e3.seq hPs
        have c1 := atI_row (g := pf) hi'
        obtain ⟨k1, k2, k3⟩ := nameH_ok ((i : Int) * 7 % 10) (by omega) (by omega)
        refine ⟨rfl, ?_⟩
        walk_at "st"
        intro p np
        have s9 := same_upd (o := .tup [.str (nameH ((i : Int) * 7 % 10)), .int (pf i)]) np
        refine ⟨_, s9 _ _ hO.lst, small1000 ?_, os ++ [p], ?_, TabR.keep (e3.trans s9) nO⟩
        · rw [List.length_map, hO.len, hldI_len]
          omega
        · rw [hldI_succ]
          exact hO.push s9 np upd_same
      · rintro H3 ⟨os, hO, e3⟩
        rw [hPl, Int.toNat_natCast] at hO
        have hs3 := e3.seq hs2
        walk_at "st"
        intro M H4 n4 mf en4 e4 nM hM hmf
        obtain rfl : 2 = n4 := by omega
        obtain ⟨nn, en⟩ : ∃ x, mf 0 = x := ⟨_, rfl⟩
        obtain ⟨dd, ed⟩ : ∃ x, mf 1 = x := ⟨_, rfl⟩
        have hM2 : SqL K H4 M [.int nn, .int dd] := by
          rw [← en, ← ed]
          exact SqL.of hM
        have bn := hmf 0
        have bd := hmf 1
        rw [en] at bn
        rw [ed] at bd
        have hO4 := hO.same e4
        have hOs4 := SqL.of (K := K) hO4.lst
        have hcb : 0 ≤ shape / 11 % 1000 ∧ shape / 11 % 1000 < 1000 := by omega
        have hpb : 0 ≤ shape / 9 % 1000000 ∧ shape / 9 % 1000000 < 1000000 := by omega
        obtain ⟨ce, ec⟩ : ∃ c, shape / 11 % 1000 = c := ⟨_, rfl⟩
        obtain ⟨pr, ep⟩ : ∃ p, 1 + shape / 9 % 1000000 = p := ⟨_, rfl⟩
        walk_at "st"
        dsimp only
        rw [ec, ep]
        intro l1 nl1
        have sl := same_upd (o := .lst (os.map V.ref)) nl1
        have hl1 : upd H4 l1 (.lst (os.map V.ref)) l1 = some (.lst (os.map V.ref)) := upd_same
        have hO5 := hO4.same sl
        have hTl : Tups encH (upd H4 l1 (.lst (os.map V.ref))) l1 os (hldI pf n) := ⟨hl1, hO5.len, hO5.row⟩
        generalize upd H4 l1 _ = H5 at *
        have hnn : nnH (hldI pf n) := fun x hx => by
          unfold hldI at hx
          obtain ⟨k, _, rfl⟩ := List.mem_map.mp hx
          exact (hpf k).1
        walk_at "st"
        refine ⟨hldI pf n, l1, os, ce, rfl, hTl, by rw [hldI_len]; omega, by omega, by omega, fun _ _ R rs H6 e6 nR hR => ?_, fun z => absurd ⟨hnn, by omega⟩ z⟩
        have hO6 := hO5.same e6
        have hOs6 := SqL.of (K := K) hO6.lst
        walk_at "st"
        intro D nD
        refine lc_list (K := K) (a := O) (xs := os.map V.ref) (fun i H' => ∃ rs, Tups encH H' D rs (((hldI pf n).take i).map fun x => (x.1, x.2 * ce)) ∧ Same H6 H') ⟨[], .nil upd_same, same_upd nD⟩ (fun i H' _ ⟨_, _, e⟩ => e.seq hOs6) ?_ ?_
        · rintro i x H7 hx ⟨rs, hT, e⟩
          obtain ⟨p, ⟨s, u⟩, hp, hxs, rfl, ht⟩ := hO6.item hx
          have ht2 : SqT K H7 p [.str s, .int u] := SqT.of (e _ _ ht)
          have hi := (List.getElem?_eq_some_iff.mp hxs).1
          rw [hldI_len] at hi
          walk_at "st"
          intro t nt
          have st := same_upd (o := .tup [.str s, .int (u * ce)]) nt
          refine ⟨_, st _ _ hT.lst, small1000 ?_, rs ++ [t], ?_, TabR.keep (e.trans st) nD⟩
          · rw [List.length_map, hT.len, List.length_map, List.length_take]
            omega
          · rw [take_succ hxs, List.map_append]
            exact hT.push (x := (s, u * ce)) st nt upd_same
        · rintro H7 ⟨rs', hT, e7⟩
          rw [List.length_map, hO6.len, List.take_length] at hT
          have hGd : ∀ x, x ∈ (hldI pf n).map (fun x => (x.1, x.2 * ce)) → PyData.strOk x.1 = true ∧ True := fun x hx => by
            obtain ⟨y, hy, rfl⟩ := List.mem_map.mp hx
            unfold hldI at hy
            obtain ⟨k, _, rfl⟩ := List.mem_map.mp hy
            exact ⟨(nameH_ok _ (by omega) (by omega)).1, trivial⟩
          refine neL (a := (hldI pf n).map fun x => (x.1, x.2 * ce)) (b := (hldI pf n).map fun x => (x.1, x.2 * ce)) layD_H.list (by decide) hGd hGd ((hR.same e7).dp dpH) (hT.dp dpH) ?_
          refine ⟨_, rfl, iteB (fun h => (ndec_t h rfl).elim) (fun _ => ?_)⟩
          have e47 := sl.trans (e6.trans e7)
          have hO7 := hO6.same e7
          have hOs7 := SqL.of (K := K) hO7.lst
          walk_at "st"
          intro l2 nl2
          have sl2 := same_upd (o := .lst (os.map V.ref)) nl2
          have hl2 : upd H7 l2 (.lst (os.map V.ref)) l2 = some (.lst (os.map V.ref)) := upd_same
          have hO8 := hO7.same sl2
          have hTl2 : Tups encH (upd H7 l2 (.lst (os.map V.ref))) l2 os (hldI pf n) := ⟨hl2, hO8.len, hO8.row⟩
          generalize upd H7 l2 _ = H8 at *
          have hgood : goodS (hldI pf n) nn dd pr := ⟨hnn, by omega, by omega, by omega⟩
          walk_at "st"
          refine ⟨hldI pf n, l2, os, nn, dd, pr, rfl, hTl2, by rw [hldI_len]; omega, by omega, by omega, by omega, by omega, fun _ W ws H9 e9 nW hW => ?_, fun z => absurd hgood z⟩
          have hO9 := hO8.same e9
          have hOs9 := SqL.of (K := K) hO9.lst
          have hWs := SqL.of (K := K) hW.lst
          refine ⟨_, rfl, ?_⟩
          refine ⟨_, _, _, _, true, rfl, .ty _, .base (.lst hW.lst), kit_ty (by decide +kernel), ?_⟩
          refine ⟨_, rfl, iteF ?_⟩
          have hwl : (ws.map V.ref).length = n := by rw [List.length_map, hW.len, List.length_map, hldI_len]
          have hol : (os.map V.ref).length = n := by rw [List.length_map, hO9.len, hldI_len]
          walk_at "st"
          refine iteB (fun h => (ndec_t h (congrArg V.int (by omega))).elim) (fun _ => ?_)
          walk_at "st"
          refine for_range (lo := 0) (n := (((ws.map V.ref).length : Nat) : Int).toNat) (fun i σ H' => (∃ v4 v9 v10 v12 v13 : Option V, σ = [some (.ref a), some (.int shape), some (.ref P), some (.ref O), v4, some (.int nn), some (.int dd), some (.int pr), some (.int ce), v9, v10, some (.ref W), v12, v13, none]) ∧ H' = H9) ⟨⟨_, _, _, _, _, rfl⟩, rfl⟩ ?_ ?_
          · rintro i σ H10 hi' ⟨⟨v4, v9, v10, v12, v13, rfl⟩, rfl⟩
            rw [hwl, Int.toNat_natCast] at hi'
            rw [show (0 : Int) + i = ((i : Nat) : Int) by omega]
            have hai := hldI_at (f := pf) hi'
            obtain ⟨p1, hp1, hp2, hp3⟩ := hO9.at hai
            have hbi : ((hldI pf n).map (splS nn dd pr))[i]? = some (splS nn dd pr (nameH ((i : Int) * 7 % 10), pf i)) := by rw [List.getElem?_map, hai]; rfl
            obtain ⟨r1, hr1, hr2, hr3⟩ := hW.at hbi
            have hp4 : SqT K H10 p1 [.str (nameH ((i : Int) * 7 % 10)), .int (pf i)] := SqT.of hp3
            obtain ⟨un, eun⟩ : ∃ x, pf i * nn / dd = x := ⟨_, rfl⟩
            obtain ⟨pd, epd⟩ : ∃ x, pf i * nn % dd * pr / dd = x := ⟨_, rfl⟩
            have hr4 : SqT K H10 r1 [.str (nameH ((i : Int) * 7 % 10)), .int un, .int pd] := by
              rw [← eun, ← epd]
              exact SqT.of hr3
            have hb1 := hpf i
            have dd0 : 0 < dd := by omega
            have m0 := Int.emod_def (pf i * nn) dd
            have m1 := Int.emod_nonneg (pf i * nn) (by omega : dd ≠ 0)
            have m2 := Int.emod_lt_of_pos (pf i * nn) dd0
            rw [eun, Int.mul_comm dd un] at m0
            have m3 := Int.ediv_mul_le (pf i * nn % dd * pr) (by omega : dd ≠ 0)
            have m4 := Int.lt_ediv_add_one_mul_self (pf i * nn % dd * pr) dd0
            rw [epd] at m3 m4
            generalize pf i * nn % dd = lf at *
            walk_at "st"
            refine iteB (fun h => (ndec_t h rfl).elim) (fun _ => ?_)
            walk_at "st"
            dsimp only
            rw [← m0]
            refine iteB (fun h => absurd (dec_t h) (by omega)) (fun _ => ?_)
            walk_at "st"
            refine iteB (fun h => absurd (dec_t h) (by omega)) (fun _ => ?_)
            walk_at "st"
            refine iteB (fun h => absurd (dec_t h) (by omega)) (fun _ => ?_)
            walk_at "st"
            refine iteB (fun h => absurd (dec_t h) (by omega)) (fun _ => ?_)
            exact ⟨⟨some (.int (i : Int)), some (.str (nameH ((i : Int) * 7 % 10))), some (.int un), some (.int pd), some (.int lf), rfl⟩, rfl⟩
          · rintro σ H10 ⟨⟨v4, v9, v10, v12, v13, rfl⟩, rfl⟩
            obtain ⟨bd', ebd, hbd0, hbd1⟩ : ∃ b, 0 - 1 - shape % 3 = b ∧ -3 ≤ b ∧ b < 0 := ⟨_, rfl, by omega, by omega⟩
            walk_at "st"
            dsimp only
            rw [ebd]
            intro p1 np1
            have w1 := same_upd (o := .tup [.str "ash", .int bd']) np1
            have hp1 : upd H10 p1 (.tup [.str "ash", .int bd']) p1 = some (.tup [.str "ash", .int bd']) := upd_same
            have hO11 := hO9.same w1
            generalize upd H10 p1 _ = H11 at *
            walk_at "st"
            intro p2 np2
            have w2 := same_upd (o := .lst [.ref p1]) np2
            have hp2 : upd H11 p2 (.lst [.ref p1]) p2 = some (.lst [.ref p1]) := upd_same
            have hp1' := w2 _ _ hp1
            have hO12 := hO11.same w2
            have hO12l := hO12.lst
            have hsz : (os.map V.ref).length + [V.ref p1].length ≤ sizeLine := Nat.le_of_lt (small1000 (by rw [hol, List.length_singleton]; omega))
            generalize upd H11 p2 _ = H12 at *
            walk_at "st"
            intro B nB
            have w3 := same_upd (o := .lst (os.map V.ref ++ [V.ref p1])) nB
            have hB : upd H12 B (.lst (os.map V.ref ++ [V.ref p1])) B = some (.lst ((os ++ [p1]).map V.ref)) := by
              rw [upd_same, List.map_append]
              rfl
            have hp1'' := w3 _ _ hp1'
            have hO13 := hO12.same w3
            generalize upd H12 B _ = H13 at *
            have hTB : Tups encH H13 B (os ++ [p1]) (hldI pf n ++ [(("ash" : Str), bd')]) := by
              refine ⟨hB, by rw [List.length_append, List.length_append, hO13.len]; rfl, fun i p x a b => ?_⟩
              by_cases hi : i < os.length
              · rw [List.getElem?_append_left hi] at a
                rw [List.getElem?_append_left (by rw [← hO13.len]; exact hi)] at b
                exact hO13.row i p x a b
              · rw [List.getElem?_append_right (by omega)] at a
                rw [List.getElem?_append_right (by have := hO13.len; omega)] at b
                have h1 := (List.getElem?_eq_some_iff.mp a).1
                rw [List.length_singleton] at h1
                rw [show i - os.length = 0 by omega] at a
                rw [show i - (hldI pf n).length = 0 by have := hO13.len; omega] at b
                cases a
                cases b
                exact hp1''
            have hbad : ¬ nnH (hldI pf n ++ [(("ash" : Str), bd')]) := fun z => by
              have := z _ (List.mem_append_right _ List.mem_cons_self)
              dsimp only at this
              omega
            have hbl : (hldI pf n ++ [(("ash" : Str), bd')]).length ≤ 100 := by rw [List.length_append, hldI_len, List.length_singleton]; omega
            have hnl : (hldI pf n).length ≤ 100 := by rw [hldI_len]; omega
            walk_at "st"
            refine ⟨_, B, os ++ [p1], 1, 1, 1, rfl, hTB, hbl, by decide, by decide, by decide, by decide, fun z => absurd z.1 hbad, fun _ H14 e14 => ?_⟩
            have hO14 := hO13.same e14
            have hTB14 := hTB.same e14
            walk_at "st"
            refine ⟨_, O, os, 0, 1, 1, rfl, hO14, hnl, by decide, by decide, by decide, by decide, fun z => absurd z.2.1 (by decide), fun _ H15 e15 => ?_⟩
            have hO15 := hO14.same e15
            have hTB15 := hTB14.same e15
            walk_at "st"
            refine ⟨_, O, os, 1, 0, 1, rfl, hO15, hnl, by decide, by decide, by decide, by decide, fun z => absurd z.2.2.1 (by decide), fun _ H16 e16 => ?_⟩
            have hO16 := hO15.same e16
            have hTB16 := hTB15.same e16
            walk_at "st"
            refine ⟨_, O, os, 1, 1, 0, rfl, hO16, hnl, by decide, by decide, by decide, by decide, fun z => absurd z.2.2.2 (by decide), fun _ H17 e17 => ?_⟩
            have hO17 := hO16.same e17
            have hTB17 := hTB16.same e17
            walk_at "st"
            refine ⟨_, O, os, 0 - 1 - shape % 3, rfl, hO17, hnl, by omega, by omega, fun _ z => absurd z (by omega), fun _ H18 e18 => ?_⟩
            have hO18 := hO17.same e18
            have hTB18 := hTB17.same e18
            walk_at "st"
            refine ⟨_, B, os ++ [p1], 1, rfl, hTB18, hbl, by decide, by decide, fun z => absurd z hbad, fun _ H19 e19 => ?_⟩
            have hO19 := hO18.same e19
            walk_at "st"
            refine ⟨_, O, os, 1, 1, 1, rfl, hO19, hnl, by decide, by decide, by decide, by decide, fun _ H20 e20 => ?_, fun z => absurd ⟨hnn, by decide, by decide, by decide⟩ z⟩
            walk_at "st"
            exact q _
end
set_option maxHeartbeats 0 in
theorem all_mk {l : PySem.W.OpenLaw} {w : World} {K : PySem.W.Frag} {h : Heap} {mg : Str → Option Value} {fa f1 f2 f3 f4 f5 f6 f7 f8 f9 f10 f11 : Addr} (X : K.In h) (G : h.Ns mainGlobals mg) (hfa : mg "law" = some (.ref fa))
    {c_BourseError c_InvalidAmount : Addr}
    {od1 an1 od2 an2 od3 an3 od4 an4 od5 an5 od6 an6 od7 an7 od8 an8 od9 an9 od10 an10 od11 an11 : Option Addr} {sl1 sl2 sl3 sl4 sl5 sl6 sl7 sl8 sl9 sl10 sl11 : Array (Option Value)} {oc1 kV1 dc1 pm1 cd1 ct1 oc2 kV2 dc2 pm2 cd2 ct2 oc3 kV3 dc3 pm3 cd3 ct3 oc4 kV4 dc4 pm4 cd4 ct4 oc5 kV5 dc5 pm5 cd5 ct5 oc6 kV6 dc6 pm6 cd6 ct6 oc7 kV7 dc7 pm7 cd7 ct7 oc8 kV8 dc8 pm8 cd8 ct8 oc9 kV9 dc9 pm9 cd9 ct9 oc10 kV10 dc10 pm10 cd10 ct10 oc11 kV11 dc11 pm11 cd11 ct11 : Value}
    (a1 : PySem.W.nsIn K mainGlobals "is_integral" = some (some (.ref f1)))
    (l1 : K.lookup f1 = some ⟨oc1, od1, .func (PySem.W.fnOf "is_integral" "is_integral" (defArgs s_is_integral) (defBody s_is_integral) (defScope s_is_integral) .none kV1 dc1 pm1 an1 cd1 ct1), sl1⟩) (c1 : PySem.W.codeIn K cd1 "is_integral" = true) (k1 : PySem.W.keepIn K (.ref f1) = true)
    (a2 : PySem.W.nsIn K mainGlobals "dividend" = some (some (.ref f2)))
    (l2 : K.lookup f2 = some ⟨oc2, od2, .func (PySem.W.fnOf "dividend" "dividend" (defArgs s_dividend) (defBody s_dividend) (defScope s_dividend) .none kV2 dc2 pm2 an2 cd2 ct2), sl2⟩) (c2 : PySem.W.codeIn K cd2 "dividend" = true) (k2 : PySem.W.keepIn K (.ref f2) = true)
    (a3 : PySem.W.nsIn K mainGlobals "share_split" = some (some (.ref f3)))
    (l3 : K.lookup f3 = some ⟨oc3, od3, .func (PySem.W.fnOf "share_split" "share_split" (defArgs s_share_split) (defBody s_share_split) (defScope s_share_split) .none kV3 dc3 pm3 an3 cd3 ct3), sl3⟩) (c3 : PySem.W.codeIn K cd3 "share_split" = true) (k3 : PySem.W.keepIn K (.ref f3) = true)
    (a4 : PySem.W.nsIn K mainGlobals "_check_holdings" = some (some (.ref f4)))
    (l4 : K.lookup f4 = some ⟨oc4, od4, .func (PySem.W.fnOf "_check_holdings" "_check_holdings" (defArgs s_check_holdings) (defBody s_check_holdings) (defScope s_check_holdings) .none kV4 dc4 pm4 an4 cd4 ct4), sl4⟩) (c4 : PySem.W.codeIn K cd4 "_check_holdings" = true) (k4 : PySem.W.keepIn K (.ref f4) = true)
    (a5 : PySem.W.nsIn K mainGlobals "_check_number" = some (some (.ref f5)))
    (l5 : K.lookup f5 = some ⟨oc5, od5, .func (PySem.W.fnOf "_check_number" "_check_number" (defArgs s_check_number) (defBody s_check_number) (defScope s_check_number) .none kV5 dc5 pm5 an5 cd5 ct5), sl5⟩) (c5 : PySem.W.codeIn K cd5 "_check_number" = true) (k5 : PySem.W.keepIn K (.ref f5) = true)
    (a6 : PySem.W.nsIn K mainGlobals "_law_is_integer" = some (some (.ref f6)))
    (l6 : K.lookup f6 = some ⟨oc6, od6, .func (PySem.W.fnOf "_law_is_integer" "_law_is_integer" (defArgs s_law_is_integer) (defBody s_law_is_integer) (defScope s_law_is_integer) .none kV6 dc6 pm6 an6 cd6 ct6), sl6⟩) (c6 : PySem.W.codeIn K cd6 "_law_is_integer" = true) (k6 : PySem.W.keepIn K (.ref f6) = true)
    (a7 : PySem.W.nsIn K mainGlobals "_law_numbers" = some (some (.ref f7)))
    (l7 : K.lookup f7 = some ⟨oc7, od7, .func (PySem.W.fnOf "_law_numbers" "_law_numbers" (defArgs s_law_numbers) (defBody s_law_numbers) (defScope s_law_numbers) .none kV7 dc7 pm7 an7 cd7 ct7), sl7⟩) (c7 : PySem.W.codeIn K cd7 "_law_numbers" = true) (k7 : PySem.W.keepIn K (.ref f7) = true)
    (a8 : PySem.W.nsIn K mainGlobals "_law_loss" = some (some (.ref f8)))
    (l8 : K.lookup f8 = some ⟨oc8, od8, .func (PySem.W.fnOf "_law_loss" "_law_loss" (defArgs s_law_loss) (defBody s_law_loss) (defScope s_law_loss) .none kV8 dc8 pm8 an8 cd8 ct8), sl8⟩) (c8 : PySem.W.codeIn K cd8 "_law_loss" = true) (k8 : PySem.W.keepIn K (.ref f8) = true)
    (a9 : PySem.W.nsIn K mainGlobals "_law_raises" = some (some (.ref f9)))
    (l9 : K.lookup f9 = some ⟨oc9, od9, .func (PySem.W.fnOf "_law_raises" "_law_raises" (defArgs s_law_raises) (defBody s_law_raises) (defScope s_law_raises) .none kV9 dc9 pm9 an9 cd9 ct9), sl9⟩) (c9 : PySem.W.codeIn K cd9 "_law_raises" = true) (k9 : PySem.W.keepIn K (.ref f9) = true)
    (a10 : PySem.W.nsIn K mainGlobals "_law_dividend_raises" = some (some (.ref f10)))
    (l10 : K.lookup f10 = some ⟨oc10, od10, .func (PySem.W.fnOf "_law_dividend_raises" "_law_dividend_raises" (defArgs s_law_dividend_raises) (defBody s_law_dividend_raises) (defScope s_law_dividend_raises) .none kV10 dc10 pm10 an10 cd10 ct10), sl10⟩) (c10 : PySem.W.codeIn K cd10 "_law_dividend_raises" = true) (k10 : PySem.W.keepIn K (.ref f10) = true)
    (a11 : PySem.W.nsIn K mainGlobals "law" = some (some (.ref f11)))
    (l11 : K.lookup f11 = some ⟨oc11, od11, .func (PySem.W.fnOf "law" "law" (defArgs s_law) (defBody s_law) (defScope s_law) .none kV11 dc11 pm11 an11 cd11 ct11), sl11⟩) (c11 : PySem.W.codeIn K cd11 "law" = true) (k11 : PySem.W.keepIn K (.ref f11) = true)
    (z_bool : PySem.W.nsIn K mainGlobals "bool" = some none)
    (z_divmod : PySem.W.nsIn K mainGlobals "divmod" = some none)
    (z_int : PySem.W.nsIn K mainGlobals "int" = some none)
    (z_isinstance : PySem.W.nsIn K mainGlobals "isinstance" = some none)
    (z_len : PySem.W.nsIn K mainGlobals "len" = some none)
    (z_list : PySem.W.nsIn K mainGlobals "list" = some none)
    (z_range : PySem.W.nsIn K mainGlobals "range" = some none)
    (z_str : PySem.W.nsIn K mainGlobals "str" = some none)
    (g_BourseError : PySem.W.nsIn K mainGlobals "BourseError" = some (some (.ref c_BourseError)))
    (g_InvalidAmount : PySem.W.nsIn K mainGlobals "InvalidAmount" = some (some (.ref c_InvalidAmount)))
    (x_InvalidAmount : PySem.W.excIn K c_InvalidAmount [.type "ValueError", .type "Exception", .type "BaseException", .type "object"] "ValueError.__new__" = true)
    (k_InvalidAmount : PySem.W.keepIn K (.ref c_InvalidAmount) = true)
    (b_InvalidAmount : PySem.W.subIn K (.ref c_InvalidAmount) (.type "BaseException") = some true)
    (t_InvalidAmount : PySem.W.typeIn K (.ref c_InvalidAmount) = some (.type "type"))
    (d_InvalidAmount : PySem.W.hasDictIn K c_InvalidAmount = true)
    (s_InvalidAmount : PySem.W.subIn K (.ref c_InvalidAmount) (.ref c_InvalidAmount) = some true)
    (eg_InvalidAmount : PySem.W.findIn K (.ref c_InvalidAmount) "__getattribute__" = some (some (.builtin "BaseException.__getattribute__")))
    (ek_InvalidAmount : PySem.W.findIn K (.ref c_InvalidAmount) "__getattr__" = some none)
    (ea_InvalidAmount : PySem.W.findIn K (.ref c_InvalidAmount) "__class__" = some (some (.builtin "object.__class__")))
    (en_InvalidAmount : PySem.W.specialIn K (.builtin "object.__class__") "__get__" = some (some (.builtin "getset_descriptor.__get__")))
    (et_InvalidAmount : PySem.W.takesIn K (.builtin "object.__class__") = some true)
    (em_InvalidAmount : PySem.W.mroIn K c_InvalidAmount (.type "object") = some true) :
    ∃ fd : FuncData, (∀ (s : Shared) (v : Value), BindsTo s fd ⟨[v], []⟩ [("script", v)]) ∧ ∀ base : Heap, K.In base → base.Ns mainGlobals mg → FnOk l.prog w K mg base CX0 6 fa fd ["script"] (sp_law K) := by
  have e := hfa.symm.trans (PySem.W.mg_of X G a11)
  cases e
  have F1 := fun_mk (st := s_is_integral) l1 c1 k1
  have b1 := F1.binds (ps := ["value"]) fun _ _ _ _ _ _ us hl => match us, hl with | [_], _ => rfl
  have F2 := fun_mk (st := s_dividend) l2 c2 k2
  have b2 := F2.binds (ps := ["holdings", "cents"]) fun _ _ _ _ _ _ us hl => match us, hl with | [_, _], _ => rfl
  have F3 := fun_mk (st := s_share_split) l3 c3 k3
  have b3 := F3.binds (ps := ["holdings", "numerator", "denominator", "price"]) fun _ _ _ _ _ _ us hl => match us, hl with | [_, _, _, _], _ => rfl
  have F4 := fun_mk (st := s_check_holdings) l4 c4 k4
  have b4 := F4.binds (ps := ["holdings"]) fun _ _ _ _ _ _ us hl => match us, hl with | [_], _ => rfl
  have F5 := fun_mk (st := s_check_number) l5 c5 k5
  have b5 := F5.binds (ps := ["number", "least"]) fun _ _ _ _ _ _ us hl => match us, hl with | [_, _], _ => rfl
  have F6 := fun_mk (st := s_law_is_integer) l6 c6 k6
  have b6 := F6.binds (ps := ["actual"]) fun _ _ _ _ _ _ us hl => match us, hl with | [_], _ => rfl
  have F7 := fun_mk (st := s_law_numbers) l7 c7 k7
  have b7 := F7.binds (ps := ["script", "start", "count", "low", "high"]) fun _ _ _ _ _ _ us hl => match us, hl with | [_, _, _, _, _], _ => rfl
  have F8 := fun_mk (st := s_law_loss) l8 c8 k8
  have b8 := F8.binds (ps := ["positions", "scenario"]) fun _ _ _ _ _ _ us hl => match us, hl with | [_, _], _ => rfl
  have F9 := fun_mk (st := s_law_raises) l9 c9 k9
  have b9 := F9.binds (ps := ["holdings", "numerator", "denominator", "price"]) fun _ _ _ _ _ _ us hl => match us, hl with | [_, _, _, _], _ => rfl
  have F10 := fun_mk (st := s_law_dividend_raises) l10 c10 k10
  have b10 := F10.binds (ps := ["holdings", "cents"]) fun _ _ _ _ _ _ us hl => match us, hl with | [_, _], _ => rfl
  have F11 := fun_mk (st := s_law) l11 c11 k11
  have b11 := F11.binds (ps := ["script"]) fun _ _ _ _ _ _ us hl => match us, hl with | [_], _ => rfl
  have T : Txt K mg := ⟨f1, _, F1, PySem.W.mg_of X G a1, b1, f2, _, F2, PySem.W.mg_of X G a2, b2, f3, _, F3, PySem.W.mg_of X G a3, b3, f4, _, F4, PySem.W.mg_of X G a4, b4, f5, _, F5, PySem.W.mg_of X G a5, b5, f6, _, F6, PySem.W.mg_of X G a6, b6, f7, _, F7, PySem.W.mg_of X G a7, b7, f8, _, F8, PySem.W.mg_of X G a8, b8, f9, _, F9, PySem.W.mg_of X G a9, b9, f10, _, F10, PySem.W.mg_of X G a10, b10, c_BourseError, PySem.W.mg_of X G g_BourseError, c_InvalidAmount, PySem.W.mg_of X G g_InvalidAmount, x_InvalidAmount, k_InvalidAmount, b_InvalidAmount, t_InvalidAmount, d_InvalidAmount, s_InvalidAmount, eg_InvalidAmount, ek_InvalidAmount, ea_InvalidAmount, en_InvalidAmount, et_InvalidAmount, em_InvalidAmount, ⟨eg_InvalidAmount, ek_InvalidAmount, b_InvalidAmount, d_InvalidAmount, ea_InvalidAmount, en_InvalidAmount, et_InvalidAmount, em_InvalidAmount⟩, PySem.W.mg_none_of X G z_bool, PySem.W.mg_none_of X G z_divmod, PySem.W.mg_none_of X G z_int, PySem.W.mg_none_of X G z_isinstance, PySem.W.mg_none_of X G z_len, PySem.W.mg_none_of X G z_list, PySem.W.mg_none_of X G z_range, PySem.W.mg_none_of X G z_str⟩
  exact ⟨PySem.W.fnOf "law" "law" (defArgs s_law) (defBody s_law) (defScope s_law) .none kV11 dc11 pm11 an11 cd11 ct11, fun s v => .of_eq rfl, fun base _ _ => ok_law T F11⟩
end FB
open PySem PySem.W PyProof.Rows
set_option maxRecDepth 100000 in
set_option maxHeartbeats 0 in
theorem PySem.Challenge.cw_fairbourse_k75_corporate_actions_keep_va_holds : PySem.Challenge.rw_fairbourse_k75_corporate_actions_keep_va.Holds := by
  w_on; o_law; k_head; (case hw => w_witness2)
  k_fill
  refine L2.walk_of (l := PySem.Challenge.rw_fairbourse_k75_corporate_actions_keep_va) (n := 63) (k := 6) (x := "script") (CX := fun _ => L2.CX0) (sp := fun w => FB.sp_law _) rfl (by decide) rfl ⟨rfl, by decide, by decide⟩ (fun w h Y => PySem.W.kIn_of Y) ?F (fun _ _ a ns hl _ hS => ⟨a, ns, rfl, hS, hl, fun _ => rfl⟩) (fun _ _ _ _ _ h => h)
  case F =>
    intro w mg fa h KX G hmg
    refine' FB.all_mk KX G hmg ?a1 ?l1 ?c1 ?k1 ?a2 ?l2 ?c2 ?k2 ?a3 ?l3 ?c3 ?k3 ?a4 ?l4 ?c4 ?k4 ?a5 ?l5 ?c5 ?k5 ?a6 ?l6 ?c6 ?k6 ?a7 ?l7 ?c7 ?k7 ?a8 ?l8 ?c8 ?k8 ?a9 ?l9 ?c9 ?k9 ?a10 ?l10 ?c10 ?k10 ?a11 ?l11 ?c11 ?k11 ?z_bool ?z_divmod ?z_int ?z_isinstance ?z_len ?z_list ?z_range ?z_str ?g_BourseError ?g_InvalidAmount ?x_InvalidAmount ?k_InvalidAmount ?b_InvalidAmount ?t_InvalidAmount ?d_InvalidAmount ?s_InvalidAmount ?eg_InvalidAmount ?ek_InvalidAmount ?ea_InvalidAmount ?en_InvalidAmount ?et_InvalidAmount ?em_InvalidAmount
    (case g_BourseError => k_is)
    (case g_InvalidAmount => k_is)
    (case a1 => k_is)
    (case l1 => k_is)
    (case c1 => k_is)
    (case k1 => k_is)
    (case a2 => k_is)
    (case l2 => k_is)
    (case c2 => k_is)
    (case k2 => k_is)
    (case a3 => k_is)
    (case l3 => k_is)
    (case c3 => k_is)
    (case k3 => k_is)
    (case a4 => k_is)
    (case l4 => k_is)
    (case c4 => k_is)
    (case k4 => k_is)
    (case a5 => k_is)
    (case l5 => k_is)
    (case c5 => k_is)
    (case k5 => k_is)
    (case a6 => k_is)
    (case l6 => k_is)
    (case c6 => k_is)
    (case k6 => k_is)
    (case a7 => k_is)
    (case l7 => k_is)
    (case c7 => k_is)
    (case k7 => k_is)
    (case a8 => k_is)
    (case l8 => k_is)
    (case c8 => k_is)
    (case k8 => k_is)
    (case a9 => k_is)
    (case l9 => k_is)
    (case c9 => k_is)
    (case k9 => k_is)
    (case a10 => k_is)
    (case l10 => k_is)
    (case c10 => k_is)
    (case k10 => k_is)
    (case a11 => k_is)
    (case l11 => k_is)
    (case c11 => k_is)
    (case k11 => k_is)
    (case z_bool => k_is)
    (case z_divmod => k_is)
    (case z_int => k_is)
    (case z_isinstance => k_is)
    (case z_len => k_is)
    (case z_list => k_is)
    (case z_range => k_is)
    (case z_str => k_is)
    (case x_InvalidAmount => k_exc)
    (case k_InvalidAmount => k_is)
    (case b_InvalidAmount => k_is)
    (case t_InvalidAmount => k_is)
    (case d_InvalidAmount => k_is)
    (case s_InvalidAmount => first | rfl | k_is)
    (case eg_InvalidAmount => k_is)
    (case ek_InvalidAmount => k_is)
    (case ea_InvalidAmount => k_is)
    (case en_InvalidAmount => k_is)
    (case et_InvalidAmount => k_is)
    (case em_InvalidAmount => k_is)
#print axioms PySem.Challenge.cw_fairbourse_k75_corporate_actions_keep_va_holds
