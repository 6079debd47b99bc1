import PyProof.Rows.All
import Wide.All
import OpenK.AllK
import Wide.FinOn
import HandS.ForMost
import HandS.Defaults
import HandS.IsInst
import HandS.Wide
import HandS.Codes
import PySem.Challenge.RW_fairbourse_k42_debts_of_pairs
set_option Elab.async false
set_option linter.all false
set_option maxRecDepth 100000
namespace FB
open PySem PySem.Spec PyProof.Rows L2
def topS (i : Nat) : Stmt := PySem.Challenge.pw_fairbourse_k42_debts_of_pairs.main.body.getD i (.Pass ⟨0, 0, 0, 0⟩)
abbrev s_is_integral : Stmt := topS 4
abbrev N_is_integral : List Str := ["value"]
theorem sc_is_integral : FnScope N_is_integral ["value"] (defScope s_is_integral) := ⟨rfl, rfl, rfl, by decide +kernel, rfl, by decide +kernel, by decide +kernel⟩
abbrev s_is_within : Stmt := topS 5
abbrev N_is_within : List Str := ["least", "most", "value"]
theorem sc_is_within : FnScope N_is_within ["least", "most", "value"] (defScope s_is_within) := ⟨rfl, rfl, rfl, by decide +kernel, rfl, by decide +kernel, by decide +kernel⟩
abbrev s_check_debts : Stmt := topS 9
abbrev N_check_debts : List Str := ["owed", "house", "row", "debt"]
theorem sc_check_debts : FnScope N_check_debts ["owed"] (defScope s_check_debts) := ⟨rfl, rfl, rfl, by decide +kernel, rfl, by decide +kernel, by decide +kernel⟩
abbrev s_net_amounts : Stmt := topS 10
abbrev N_net_amounts : List Str := ["owed", "row", "house"]
theorem sc_net_amounts : FnScope N_net_amounts ["owed"] (defScope s_net_amounts) := ⟨rfl, rfl, rfl, by decide +kernel, rfl, by decide +kernel, by decide +kernel⟩
abbrev s_bilateral : Stmt := topS 11
abbrev N_bilateral : List Str := ["owed", "houses", "creditor", "debtor"]
theorem sc_bilateral : FnScope N_bilateral ["owed"] (defScope s_bilateral) := ⟨rfl, rfl, rfl, by decide +kernel, rfl, by decide +kernel, by decide +kernel⟩
abbrev s_law_cell : Stmt := topS 13
abbrev N_law_cell : List Str := ["script", "k"]
theorem sc_law_cell : FnScope N_law_cell ["script", "k"] (defScope s_law_cell) := ⟨rfl, rfl, rfl, by decide +kernel, rfl, by decide +kernel, by decide +kernel⟩
abbrev s_law_draws : Stmt := topS 14
abbrev N_law_draws : List Str := ["cell", "count", "size", "draws", "rest", "k"]
theorem sc_law_draws : FnScope N_law_draws ["cell", "count", "size"] (defScope s_law_draws) := ⟨rfl, rfl, rfl, by decide +kernel, rfl, by decide +kernel, by decide +kernel⟩
abbrev s_law_integers : Stmt := topS 15
abbrev N_law_integers : List Str := ["actual", "count", "part"]
theorem sc_law_integers : FnScope N_law_integers ["actual", "count"] (defScope s_law_integers) := ⟨rfl, rfl, rfl, by decide +kernel, rfl, by decide +kernel, by decide +kernel⟩
abbrev s_law_table : Stmt := topS 16
abbrev N_law_table : List Str := ["actual", "count", "row"]
theorem sc_law_table : FnScope N_law_table ["actual", "count"] (defScope s_law_table) := ⟨rfl, rfl, rfl, by decide +kernel, rfl, by decide +kernel, by decide +kernel⟩
abbrev s_law_market_size : Stmt := topS 17
abbrev N_law_market_size : List Str := ["shape", "kind"]
theorem sc_law_market_size : FnScope N_law_market_size ["shape"] (defScope s_law_market_size) := ⟨rfl, rfl, rfl, by decide +kernel, rfl, by decide +kernel, by decide +kernel⟩
abbrev s_law_row : Stmt := topS 18
abbrev N_law_row : List Str := ["cell", "shape", "payer", "count", "size", "draws", "draw"]
theorem sc_law_row : FnScope N_law_row ["cell", "shape", "payer", "count", "size"] (defScope s_law_row) := ⟨rfl, rfl, rfl, by decide +kernel, rfl, by decide +kernel, by decide +kernel⟩
abbrev s_law_market : Stmt := topS 19
abbrev N_law_market : List Str := ["script", "shape", "count", "size", "k"]
theorem sc_law_market : FnScope N_law_market ["script"] (defScope s_law_market) := ⟨rfl, rfl, rfl, by decide +kernel, rfl, by decide +kernel, by decide +kernel⟩
abbrev s_law : Stmt := topS 20
abbrev N_law : List Str := ["script", "owed", "count", "kept", "row", "actual", "debts", "a", "b"]
theorem sc_law : FnScope N_law ["script"] (defScope s_law) := ⟨rfl, rfl, rfl, by decide +kernel, rfl, by decide +kernel, by decide +kernel⟩
structure Txt (K : PySem.W.Frag) (mg : Str → Option Value) where
  f_is_integral : Addr
  d_is_integral : FuncData
  F_is_integral : Fun K "is_integral" "is_integral" s_is_integral f_is_integral d_is_integral
  m_is_integral : mg "is_integral" = some (.ref f_is_integral)
  b_is_integral : Binds K d_is_integral ["value"] []
  f_is_within : Addr
  d_is_within : FuncData
  F_is_within : Fun K "is_within" "is_within" s_is_within f_is_within d_is_within
  m_is_within : mg "is_within" = some (.ref f_is_within)
  b_is_within : Binds K d_is_within ["least", "most", "value"] []
  f_check_debts : Addr
  d_check_debts : FuncData
  F_check_debts : Fun K "check_debts" "check_debts" s_check_debts f_check_debts d_check_debts
  m_check_debts : mg "check_debts" = some (.ref f_check_debts)
  b_check_debts : Binds K d_check_debts ["owed"] []
  f_net_amounts : Addr
  d_net_amounts : FuncData
  F_net_amounts : Fun K "net_amounts" "net_amounts" s_net_amounts f_net_amounts d_net_amounts
  m_net_amounts : mg "net_amounts" = some (.ref f_net_amounts)
  b_net_amounts : Binds K d_net_amounts ["owed"] []
  f_bilateral : Addr
  d_bilateral : FuncData
  F_bilateral : Fun K "bilateral" "bilateral" s_bilateral f_bilateral d_bilateral
  m_bilateral : mg "bilateral" = some (.ref f_bilateral)
  b_bilateral : Binds K d_bilateral ["owed"] []
  f_law_cell : Addr
  d_law_cell : FuncData
  F_law_cell : Fun K "_law_cell" "_law_cell" s_law_cell f_law_cell d_law_cell
  m_law_cell : mg "_law_cell" = some (.ref f_law_cell)
  b_law_cell : Binds K d_law_cell ["script", "k"] []
  f_law_draws : Addr
  d_law_draws : FuncData
  F_law_draws : Fun K "_law_draws" "_law_draws" s_law_draws f_law_draws d_law_draws
  m_law_draws : mg "_law_draws" = some (.ref f_law_draws)
  b_law_draws : Binds K d_law_draws ["cell", "count", "size"] []
  f_law_integers : Addr
  d_law_integers : FuncData
  F_law_integers : Fun K "_law_integers" "_law_integers" s_law_integers f_law_integers d_law_integers
  m_law_integers : mg "_law_integers" = some (.ref f_law_integers)
  b_law_integers : Binds K d_law_integers ["actual", "count"] []
  f_law_table : Addr
  d_law_table : FuncData
  F_law_table : Fun K "_law_table" "_law_table" s_law_table f_law_table d_law_table
  m_law_table : mg "_law_table" = some (.ref f_law_table)
  b_law_table : Binds K d_law_table ["actual", "count"] []
  f_law_market_size : Addr
  d_law_market_size : FuncData
  F_law_market_size : Fun K "_law_market_size" "_law_market_size" s_law_market_size f_law_market_size d_law_market_size
  m_law_market_size : mg "_law_market_size" = some (.ref f_law_market_size)
  b_law_market_size : Binds K d_law_market_size ["shape"] []
  f_law_row : Addr
  d_law_row : FuncData
  F_law_row : Fun K "_law_row" "_law_row" s_law_row f_law_row d_law_row
  m_law_row : mg "_law_row" = some (.ref f_law_row)
  b_law_row : Binds K d_law_row ["cell", "shape", "payer", "count", "size"] []
  f_law_market : Addr
  d_law_market : FuncData
  F_law_market : Fun K "_law_market" "_law_market" s_law_market f_law_market d_law_market
  m_law_market : mg "_law_market" = some (.ref f_law_market)
  b_law_market : Binds K d_law_market ["script"] []
  c_BourseError : Addr
  m_BourseError : mg "BourseError" = some (.ref c_BourseError)
  c_InvalidTrade : Addr
  m_InvalidTrade : mg "InvalidTrade" = some (.ref c_InvalidTrade)
  z_abs : mg "abs" = none
  z_all : mg "all" = none
  z_bool : mg "bool" = none
  z_enumerate : mg "enumerate" = none
  z_int : mg "int" = none
  z_isinstance : mg "isinstance" = none
  z_len : mg "len" = none
  z_list : mg "list" = none
  z_max : mg "max" = none
  z_range : mg "range" = none
  z_sum : mg "sum" = none
  t_MOST_HOUSES : Tok
  m_MOST_HOUSES : mg "MOST_HOUSES" = some (.int 13 t_MOST_HOUSES)
  t_MOST_DEBT : Tok
  m_MOST_DEBT : mg "MOST_DEBT" = some (.int 1000000000000000 t_MOST_DEBT)
/-! own short words -/
theorem iteD {p A B : Prop} [Decidable p] (h1 : p → A) (h2 : ¬ p → B) : if decide p = true then A else B := by
  by_cases h : p
  · rw [decide_eq_true h, if_pos rfl]; exact h1 h
  · rw [decide_eq_false h, if_neg Bool.false_ne_true]; exact h2 h
theorem iteDN {p A B : Prop} [Decidable p] (h1 : ¬ p → A) (h2 : p → B) : if (!decide p) = true then A else B := by
  by_cases h : p
  · rw [decide_eq_true h]; exact iteF (h2 h)
  · rw [decide_eq_false h]; exact iteT (h1 h)
theorem len_le {n : Nat} (h : Nat.ble n 1000 = true) : n ≤ sizeLine := Nat.le_trans (Nat.le_of_ble_eq_true h) (by decide)
theorem iteB {b : Bool} {A B : Prop} (h1 : b = true → A) (h2 : b = false → B) : if b = true then A else B := by
  cases b with
  | true => exact iteT (h1 rfl)
  | false => exact iteF (h2 rfl)
theorem cmul_l {i j : Int} (h : -(2 ^ 64) < i) (h' : i < 2 ^ 64) : CMul i j := .inl ⟨h, h'⟩
theorem cmul_r {i j : Int} (h : -(2 ^ 64) < j) (h' : j < 2 ^ 64) : CMul i j := .inr ⟨h, h'⟩
theorem dec_t {p : Prop} [Decidable p] (h : decide p = true) : p := of_decide_eq_true h
theorem dec_f {p : Prop} [Decidable p] (h : decide p = false) : ¬ p := of_decide_eq_false h
theorem ndec_t {p : Prop} [Decidable p] (h : (!decide p) = true) : ¬ p := fun q => by rw [decide_eq_true q] at h; cases h
theorem ndec_f {p : Prop} [Decidable p] (h : (!decide p) = false) : p := by
  by_cases q : p
  · exact q
  · rw [decide_eq_false q] at h; cases h
theorem fld_lt {n : Nat} (h : Nat.ble (n + 1) 1000 = true) : n < 1000 := Nat.le_of_ble_eq_true h
def rLen (K : PySem.W.Frag) : List V → Hp → VK → Prop := fun xs H Q => ∃ p ys, xs = [.ref p] ∧ (SqL K H p ys ∨ SqT K H p ys) ∧ Q (.int ys.length) H
def rListOf (K : PySem.W.Frag) : List V → Hp → VK → Prop := fun xs H Q => ∃ p ys, xs = [.ref p] ∧ (SqL K H p ys ∨ SqT K H p ys) ∧ ∀ l, H l = none → Q (.ref l) (upd H l (.lst ys))
def rTupleOf (K : PySem.W.Frag) : List V → Hp → VK → Prop := fun xs H Q => ∃ p ys, xs = [.ref p] ∧ ((SqL K H p ys ∧ ∀ l, H l = none → Q (.ref l) (upd H l (.tup ys))) ∨ (SqT K H p ys ∧ Q (.ref p) H))
theorem len0 : ([] : List V).length ≤ sizeLine := len_le rfl
theorem len1 {a : V} : [a].length ≤ sizeLine := len_le rfl
theorem len2 {a b : V} : [a, b].length ≤ sizeLine := len_le rfl
theorem len3 {a b c : V} : [a, b, c].length ≤ sizeLine := len_le rfl
theorem len4 {a b c d : V} : [a, b, c, d].length ≤ sizeLine := len_le rfl
theorem len5 {a b c d e : V} : [a, b, c, d, e].length ≤ sizeLine := len_le rfl
local macro_rules | `(tactic| walk_at "st") => `(tactic| repeat (first
  | (apply Exists.intro (α := V))
  | (apply Exists.intro (α := Int))
  | (apply Exists.intro (α := Bool))
  | (apply Exists.intro (α := Addr))
  | (apply Exists.intro (α := List V))
  | (apply Exists.intro (α := List Int))
  | (apply Exists.intro (α := List (Str × V)))
  | (apply Exists.intro (α := Str))
  | (apply And.intro; focus (first | omega | (dsimp only; omega) | (simp only [List.length_map, List.length_replicate]; omega) | exact rfl | assumption | exact SqL.of (by assumption) | exact Or.inl (by assumption) | exact Or.inr (by assumption) | exact Or.inr (SqT.of (by assumption)) | exact Or.inl (Or.inl upd_same) | exact Or.inl (Or.inl (Or.inl upd_same)) | (with_reducible exact len0) | (with_reducible exact len1) | (with_reducible exact len2) | (with_reducible exact len3) | (with_reducible exact len4) | (with_reducible exact len5) | exact upd_same | exact ⟨_, Or.inl (Or.inl upd_same)⟩ | exact ⟨_, SqL.of (by assumption)⟩ | exact ⟨_, by assumption⟩ | exact Or.inl ⟨rfl, _, SqL.of (by assumption)⟩ | exact Or.inl ⟨rfl, _, SqL.of upd_same⟩ | exact cmul_l (by omega) (by omega) | exact cmul_r (by omega) (by omega) | exact ⟨by omega, by omega⟩ | (simp only [List.length_map, List.length_replicate]; omega) | exact Or.inl (SqL.of (by assumption)) | exact SqT.of (by assumption) | exact fld_lt rfl))))
/-- the script's cell at j, 0 where there is none -/
def cellOf (ns : List Int) (j : Nat) : Int := ns.getD j 0
theorem atI_ints {ns : List Int} {j : Nat} (h : j < ns.length) : atI (ns.map V.int) (j : Int) = some (.int (cellOf ns j)) := by
  refine at_of (j := j) rfl ?_
  rw [List.getElem?_map, List.getElem?_eq_getElem h]
  unfold cellOf
  rw [List.getD_eq_getElem?_getD, List.getElem?_eq_getElem h]
  rfl
theorem cellOf_out {ns : List Int} {j : Nat} (h : ¬ j < ns.length) : cellOf ns j = 0 := by
  unfold cellOf
  rw [List.getD_eq_getElem?_getD, List.getElem?_eq_none (by omega)]
  rfl
theorem same_upd {H : Hp} {p : Addr} {o : HO} (h : H p = none) : Same H (upd H p o) := fun b x e => by
  rw [upd_ne (ne_of_none e h)]
  exact e
/-- a slice of a list of ints -/
def cutI (ns : List Int) (lo hi : Option Int) : List Int := (ns.drop (HT.sIx ns.length 0 lo)).take (HT.sIx ns.length ns.length hi - HT.sIx ns.length 0 lo)
theorem cutV_ints (ns : List Int) (lo hi : Option Int) : cutV (ns.map V.int) lo hi = (cutI ns lo hi).map V.int := by
  unfold cutV cutI
  rw [List.length_map, List.map_take, List.map_drop]
theorem cutI_len (ns : List Int) (lo hi : Option Int) : (cutI ns lo hi).length ≤ ns.length := by
  unfold cutI
  rw [List.length_take, List.length_drop]
  omega
theorem ints_at {ns : List Int} {i : Nat} {x : V} (h : (ns.map V.int)[i]? = some x) : ∃ z, ns[i]? = some z ∧ x = V.int z := by
  rw [List.getElem?_map] at h
  cases e : ns[i]? with
  | none => rw [e] at h; cases h
  | some z => rw [e] at h; exact ⟨z, rfl, (Option.some.inj h).symm⟩
theorem take_succ {α : Type} {xs : List α} {i : Nat} {x : α} (h : xs[i]? = some x) : xs.take (i + 1) = xs.take i ++ [x] := by
  rw [List.take_add_one, h]
  rfl
theorem sum_le_mul : ∀ (ws : List Int) (b : Int), (∀ w, w ∈ ws → w ≤ b) → ws.sum ≤ (ws.length : Int) * b
  | [], b, _ => by show (0 : Int) ≤ ((0 : Nat) : Int) * b; omega
  | w :: ws, b, h => by
    rw [List.sum_cons, List.length_cons, Int.natCast_add, Int.add_mul]
    have h1 := h w List.mem_cons_self
    have h2 := sum_le_mul ws b fun x hx => h x (List.mem_cons_of_mem _ hx)
    omega
theorem ixN_nat {n j : Nat} (h : j < n) : ixN n (j : Int) = some j := by
  unfold ixN
  rw [if_pos (by omega), if_pos (by omega), Int.toNat_natCast]
theorem call_int_i {X : Cx} : CallR X (.type "int") (fun xs H Q => ∃ i : Int, xs = [.int i] ∧ Q (.int i) H) := by
  intro pins s σ H xs us Q I r h
  obtain ⟨i, e, q⟩ := h
  exact call_int1 pins s σ H xs us Q I r (.inl ⟨i, e, q⟩)
theorem dpAll_ints {K : PySem.W.Frag} {H : Hp} : ∀ xs : List Int, DpAll K H (xs.map V.int) (xs.map PyData.int)
  | [] => .nil
  | x :: xs => .cons (.int x) (dpAll_ints xs)
theorem eqvAll_ints : ∀ xs ys : List Int, PyData.eqvAll (xs.map PyData.int) (ys.map PyData.int) = decide (xs = ys)
  | [], [] => by simp [PyData.eqvAll]
  | [], _ :: _ => by simp [PyData.eqvAll]
  | _ :: _, [] => by simp [PyData.eqvAll]
  | x :: xs, y :: ys => by
    rw [List.map_cons, List.map_cons]
    simp only [PyData.eqvAll, PyData.eqv]
    rw [eqvAll_ints xs ys]
    by_cases h : x = y <;> by_cases h2 : xs = ys <;> simp [h, h2]
theorem lay_ints : ∀ xs : List Int, PyData.canLayAll0 (xs.map PyData.int) = true
  | [] => rfl
  | x :: xs => by
    rw [List.map_cons]
    simp only [PyData.canLayAll0, PyData.canLay0, Bool.true_and]
    exact lay_ints xs
theorem depth_ints : ∀ xs : List Int, PyData.depthAll (xs.map PyData.int) = 0
  | [] => rfl
  | x :: xs => by
    rw [List.map_cons]
    simp only [PyData.depthAll, PyData.depth, depth_ints xs]
    rfl
theorem shaped_ints (xs : List Int) : SeqAt.shaped (.list (xs.map PyData.int)) = true := by
  unfold SeqAt.shaped
  simp only [PyData.canLay0, PyData.depth, lay_ints, depth_ints]
  rfl
theorem eqD_ints {K : PySem.W.Frag} {H : Hp} {a b : Addr} {xs ys : List Int} {Q : VK} (h1 : SqL K H a (xs.map V.int)) (h2 : SqL K H b (ys.map V.int)) (q : Q (.bl (decide (xs = ys))) H) : rEqD K (.ref a) (.ref b) H Q :=
  ⟨_, _, .lst h1 (dpAll_ints xs), .lst h2 (dpAll_ints ys), shaped_ints xs, shaped_ints ys, by rw [show PyData.eqv (.list (xs.map PyData.int)) (.list (ys.map PyData.int)) = decide (xs = ys) by simp only [PyData.eqv, eqvAll_ints]]; exact q⟩
theorem neD_ints {K : PySem.W.Frag} {H : Hp} {a b : Addr} {xs ys : List Int} {Q : VK} (h1 : SqL K H a (xs.map V.int)) (h2 : SqL K H b (ys.map V.int)) (q : Q (.bl (!decide (xs = ys))) H) : rNeD K (.ref a) (.ref b) H Q :=
  ⟨_, _, .lst h1 (dpAll_ints xs), .lst h2 (dpAll_ints ys), shaped_ints xs, shaped_ints ys, by rw [show PyData.eqv (.list (xs.map PyData.int)) (.list (ys.map PyData.int)) = decide (xs = ys) by simp only [PyData.eqv, eqvAll_ints]]; exact q⟩

def at0 (ws : List Int) (i : Nat) : Int := ws.getD i 0
theorem at0_lt {ws : List Int} {i : Nat} (h : i < ws.length) : ws[i]? = some (at0 ws i) := by
  unfold at0
  rw [List.getD_eq_getElem?_getD, List.getElem?_eq_getElem h]
  rfl
theorem atI_n {ws : List Int} {j : Nat} (h : j < ws.length) : atI (ws.map V.int) (j : Int) = some (.int (at0 ws j)) := by
  refine at_of (j := j) rfl ?_
  rw [List.getElem?_map, at0_lt h]
  rfl
theorem at0_of {ws : List Int} {i : Nat} {x : Int} (h : ws[i]? = some x) : at0 ws i = x := by
  unfold at0
  rw [List.getD_eq_getElem?_getD, h]
  rfl
theorem at0_out {ws : List Int} {i : Nat} (h : ws.length ≤ i) : at0 ws i = 0 := by
  unfold at0
  rw [List.getD_eq_getElem?_getD, List.getElem?_eq_none h]
  rfl
theorem at0_ext {xs ys : List Int} (hl : xs.length = ys.length) (h : ∀ i, i < xs.length → at0 xs i = at0 ys i) : xs = ys := by
  refine List.ext_getElem? fun i => ?_
  by_cases hi : i < xs.length
  · rw [at0_lt hi, at0_lt (by omega), h i hi]
  · rw [List.getElem?_eq_none (by omega), List.getElem?_eq_none (by omega)]
theorem at0_set {ps : List Int} {k i : Nat} {x : Int} (hk : k < ps.length) : at0 (ps.set k x) i = if i = k then x else at0 ps i := by
  by_cases h : i = k
  · subst h
    rw [if_pos rfl]
    exact at0_of (List.getElem?_set_self hk)
  · rw [if_neg h]
    unfold at0
    rw [List.getD_eq_getElem?_getD, List.getD_eq_getElem?_getD, List.getElem?_set_ne (fun e => h e.symm)]
theorem at0_nonneg {ws : List Int} (h : ∀ w, w ∈ ws → 0 ≤ w) (i : Nat) : 0 ≤ at0 ws i := by
  by_cases hi : i < ws.length
  · exact h _ (List.mem_of_getElem? (at0_lt hi))
  · rw [at0_out (by omega)]; exact Int.le_refl 0

/-- how items of one kind are told as data; equal data are equal items -/
structure LayD {α : Type} [DecidableEq α] (L : α → PyData) (k : Nat) (G : α → Prop) : Prop where
  lay : ∀ x, G x → (L x).canLay0 = true
  dep : ∀ x, (L x).depth ≤ k
  eqv : ∀ x y, PyData.eqv (L x) (L y) = decide (x = y)
theorem LayD.shaped {α : Type} [DecidableEq α] {L : α → PyData} {k : Nat} {G : α → Prop} (h : LayD L k G) (hk : k ≤ 64) {x : α} (g : G x) : SeqAt.shaped (L x) = true := by
  have h1 := h.lay x g
  have h2 := h.dep x
  unfold SeqAt.shaped
  rw [h1, Bool.true_and]
  exact decide_eq_true (by omega)
theorem layD_int : LayD PyData.int 0 (fun _ => True) := ⟨fun _ _ => rfl, fun _ => Nat.le_refl _, fun x y => by simp only [PyData.eqv]; exact (Bool.beq_eq_decide_eq x y)⟩
theorem layD_str : LayD PyData.str 0 (fun x => PyData.strOk x = true) := ⟨fun _ h => by simp only [PyData.canLay0]; exact h, fun _ => Nat.le_refl _, fun x y => by simp only [PyData.eqv]; exact (Bool.beq_eq_decide_eq x y)⟩
theorem decide_and2 {p q r : Prop} [Decidable p] [Decidable q] [Decidable r] (h : r ↔ p ∧ q) : (decide p && decide q) = decide r := by
  by_cases hp : p <;> by_cases hq : q <;> simp [h, hp, hq]
theorem layD_all {α : Type} [DecidableEq α] {L : α → PyData} {k : Nat} {G : α → Prop} (h : LayD L k G) : (∀ xs : List α, (∀ x, x ∈ xs → G x) → PyData.canLayAll0 (xs.map L) = true) ∧ (∀ xs : List α, PyData.depthAll (xs.map L) ≤ k) ∧ ∀ xs ys : List α, PyData.eqvAll (xs.map L) (ys.map L) = decide (xs = ys) := by
  refine ⟨fun xs => ?_, fun xs => ?_, fun xs => ?_⟩
  · induction xs with
    | nil => exact fun _ => rfl
    | cons x xs ih =>
      intro g
      rw [List.map_cons]
      simp only [PyData.canLayAll0, ih fun y hy => g y (List.mem_cons_of_mem _ hy), h.lay x (g x List.mem_cons_self)]
      rfl
  · induction xs with
    | nil => exact Nat.zero_le _
    | cons x xs ih => rw [List.map_cons]; simp only [PyData.depthAll]; exact Nat.max_le.mpr ⟨h.dep x, ih⟩
  · induction xs with
    | nil =>
      intro ys
      cases ys with
      | nil => rfl
      | cons y ys => simp [PyData.eqvAll]
    | cons x xs ih =>
      intro ys
      cases ys with
      | nil => simp [PyData.eqvAll]
      | cons y ys =>
        rw [List.map_cons, List.map_cons]
        simp only [PyData.eqvAll]
        rw [ih ys, h.eqv x y]
        exact decide_and2 (by rw [List.cons.injEq])
theorem LayD.list {α : Type} [DecidableEq α] {L : α → PyData} {k : Nat} {G : α → Prop} (h : LayD L k G) : LayD (fun xs : List α => PyData.list (xs.map L)) (k + 1) (fun xs => ∀ x, x ∈ xs → G x) := by
  obtain ⟨h1, h2, h3⟩ := layD_all h
  refine ⟨fun xs g => ?_, fun xs => ?_, fun xs ys => ?_⟩
  · simp only [PyData.canLay0]; exact h1 xs g
  · simp only [PyData.depth]; exact Nat.succ_le_succ (h2 xs)
  · simp only [PyData.eqv]; exact h3 xs ys
theorem LayD.tup2 {α β : Type} [DecidableEq α] [DecidableEq β] {L : α → PyData} {M : β → PyData} {k : Nat} {G : α → Prop} {G2 : β → Prop} (h : LayD L k G) (g : LayD M k G2) : LayD (fun x : α × β => PyData.tuple [L x.1, M x.2]) (k + 1) (fun x => G x.1 ∧ G2 x.2) := by
  refine ⟨fun x a => ?_, fun x => ?_, fun x y => ?_⟩
  · simp only [PyData.canLay0, PyData.canLayAll0, h.lay _ a.1, g.lay _ a.2, Bool.and_true]
  · simp only [PyData.depth, PyData.depthAll]
    have := h.dep x.1
    have := g.dep x.2
    omega
  · simp only [PyData.eqv, PyData.eqvAll, h.eqv, g.eqv, Bool.and_true]
    exact decide_and2 (by rw [Prod.ext_iff])
theorem LayD.tup3 {α β γ : Type} [DecidableEq α] [DecidableEq β] [DecidableEq γ] {L : α → PyData} {M : β → PyData} {N : γ → PyData} {k : Nat} {G : α → Prop} {G2 : β → Prop} {G3 : γ → Prop} (h : LayD L k G) (g : LayD M k G2) (e : LayD N k G3) : LayD (fun x : α × β × γ => PyData.tuple [L x.1, M x.2.1, N x.2.2]) (k + 1) (fun x => G x.1 ∧ G2 x.2.1 ∧ G3 x.2.2) := by
  refine ⟨fun x a => ?_, fun x => ?_, fun x y => ?_⟩
  · simp only [PyData.canLay0, PyData.canLayAll0, h.lay _ a.1, g.lay _ a.2.1, e.lay _ a.2.2, Bool.and_true]
  · simp only [PyData.depth, PyData.depthAll]
    have := h.dep x.1
    have := g.dep x.2.1
    have := e.dep x.2.2
    omega
  · simp only [PyData.eqv, PyData.eqvAll, h.eqv, g.eqv, e.eqv, Bool.and_true]
    rw [decide_and2 (r := x.2 = y.2) (by rw [Prod.ext_iff])]
    exact decide_and2 (by rw [Prod.ext_iff])
theorem LayD.tup4 {α β γ δ : Type} [DecidableEq α] [DecidableEq β] [DecidableEq γ] [DecidableEq δ] {L : α → PyData} {M : β → PyData} {N : γ → PyData} {O : δ → PyData} {k : Nat} {G : α → Prop} {G2 : β → Prop} {G3 : γ → Prop} {G4 : δ → Prop} (h : LayD L k G) (g : LayD M k G2) (e : LayD N k G3) (d : LayD O k G4) : LayD (fun x : α × β × γ × δ => PyData.tuple [L x.1, M x.2.1, N x.2.2.1, O x.2.2.2]) (k + 1) (fun x => G x.1 ∧ G2 x.2.1 ∧ G3 x.2.2.1 ∧ G4 x.2.2.2) := by
  refine ⟨fun x a => ?_, fun x => ?_, fun x y => ?_⟩
  · simp only [PyData.canLay0, PyData.canLayAll0, h.lay _ a.1, g.lay _ a.2.1, e.lay _ a.2.2.1, d.lay _ a.2.2.2, Bool.and_true]
  · simp only [PyData.depth, PyData.depthAll]
    have := h.dep x.1
    have := g.dep x.2.1
    have := e.dep x.2.2.1
    have := d.dep x.2.2.2
    omega
  · simp only [PyData.eqv, PyData.eqvAll, h.eqv, g.eqv, e.eqv, d.eqv, Bool.and_true]
    rw [decide_and2 (r := x.2.2 = y.2.2) (by rw [Prod.ext_iff]), decide_and2 (r := x.2 = y.2) (by rw [Prod.ext_iff])]
    exact decide_and2 (by rw [Prod.ext_iff])
theorem eqL {α : Type} [DecidableEq α] {L : α → PyData} {k : Nat} {G : α → Prop} (h : LayD L k G) (hk : k ≤ 64) {K : PySem.W.Frag} {H : Hp} {x y : V} {a b : α} {Q : VK} (ga : G a) (gb : G b) (h1 : Dp K H x (L a)) (h2 : Dp K H y (L b)) (q : Q (.bl (decide (a = b))) H) : rEqD K x y H Q :=
  ⟨_, _, h1, h2, h.shaped hk ga, h.shaped hk gb, by rw [h.eqv]; exact q⟩
theorem neL {α : Type} [DecidableEq α] {L : α → PyData} {k : Nat} {G : α → Prop} (h : LayD L k G) (hk : k ≤ 64) {K : PySem.W.Frag} {H : Hp} {x y : V} {a b : α} {Q : VK} (ga : G a) (gb : G b) (h1 : Dp K H x (L a)) (h2 : Dp K H y (L b)) (q : Q (.bl (!decide (a = b))) H) : rNeD K x y H Q :=
  ⟨_, _, h1, h2, h.shaped hk ga, h.shaped hk gb, by rw [h.eqv]; exact q⟩
theorem dpAll_refs {α : Type} {L : α → PyData} {K : PySem.W.Frag} {H : Hp} : ∀ {ps : List Addr} {xs : List α}, ps.length = xs.length → (∀ (i : Nat) (p : Addr) (x : α), ps[i]? = some p → xs[i]? = some x → Dp K H (.ref p) (L x)) → DpAll K H (ps.map V.ref) (xs.map L)
  | [], [], _, _ => .nil
  | [], _ :: _, h, _ => by cases h
  | _ :: _, [], h, _ => by cases h
  | p :: ps, x :: xs, h, e => .cons (e 0 p x rfl rfl) (dpAll_refs (Nat.succ.inj h) fun i p' x' h1 h2 => e (i + 1) p' x' h1 h2)

/-- for i, x in enumerate(xs): each turn a new pair -/
theorem for_enum {K : PySem.W.Frag} {a : Addr} {xs : List V} {g : TG} {tb : TS} {D : Ends} {σ : L2.St} {H : Hp} (Pv : Nat → L2.St → Hp → Prop) (h0 : Pv 0 σ H) (hl : ∀ i σ H, i ≤ xs.length → Pv i σ H → SqL K H a xs)
    (hs : ∀ (i : Nat) (x : V) (σ : L2.St) (H : Hp) (T : Addr), xs[i]? = some x → Pv i σ H → H T = none → g (.ref T) σ (upd H T (.tup [.int (i : Int), x])) fun σ2 H2 => tb { D with nx := Pv (i + 1), ct := Pv (i + 1), bk := D.nx } σ2 H2) (hd : ∀ σ H, Pv xs.length σ H → D.nx σ H) :
    ∃ W : Nat → Nat → L2.St → Hp → Prop, (∃ m, W 0 m σ H) ∧ ∀ i m σ H, W i m σ H →
      ((Ite K a).stop i H ∧ D.nx σ H) ∨ ((Ite K a).go i H ∧ ∃ N : L2.St → Hp → Prop, (∀ σ' H', N σ' H' → ∃ m', m' < m ∧ W (i + 1) m' σ' H') ∧ ∀ x H', (Ite K a).yld i H x H' → g x σ H' fun σ2 H2 => tb { D with nx := N, ct := N, bk := D.nx } σ2 H2) := by
  refine ⟨fun i m σ H => m + i = xs.length ∧ Pv i σ H, ⟨xs.length, rfl, h0⟩, ?_⟩
  rintro i m σ H ⟨em, p⟩
  have q := hl i σ H (by omega) p
  by_cases hlt : i < xs.length
  · refine .inr ⟨⟨xs, xs[i], q, List.getElem?_eq_getElem hlt⟩, Pv (i + 1), fun σ' H' p' => ⟨m - 1, by omega, by omega, p'⟩, fun x H' y => ?_⟩
    obtain ⟨T, z, rfl, nT, rfl, hz⟩ := y
    exact hs i z σ H T (hz xs q) p nT
  · have e : i = xs.length := by omega
    subst e
    exact .inl ⟨⟨xs, q, Nat.le_refl _⟩, hd σ H p⟩
theorem call_int_b {X : Cx} : CallR X (.type "int") (fun xs H Q => ∃ b : Bool, xs = [.bl b] ∧ Q (.int (if b = true then 1 else 0)) H) := by
  intro pins s σ H xs us Q I r h
  obtain ⟨i, e, q⟩ := h
  exact call_int1 pins s σ H xs us Q I r (.inr ⟨i, e, q⟩)

/-- the first n values of g -/
def rowI (n : Nat) (g : Nat → Int) : List Int := (List.range n).map g
theorem rowI_len (n : Nat) (g : Nat → Int) : (rowI n g).length = n := by
  unfold rowI
  rw [List.length_map, List.length_range]
theorem rowI_at {n : Nat} {g : Nat → Int} {i : Nat} (h : i < n) : (rowI n g)[i]? = some (g i) := by
  unfold rowI
  rw [List.getElem?_map, List.getElem?_range h]
  rfl
theorem atI_row {n : Nat} {g : Nat → Int} {i : Nat} (h : i < n) : atI ((rowI n g).map V.int) (i : Int) = some (.int (g i)) := by
  refine at_of (j := i) rfl ?_
  rw [List.getElem?_map, rowI_at h]
  rfl
theorem rowI_succ (n : Nat) (g : Nat → Int) : rowI (n + 1) g = rowI n g ++ [g n] := by
  unfold rowI
  rw [List.range_succ, List.map_append]
  rfl
theorem rowI_eq {n : Nat} {f g : Nat → Int} : rowI n f = rowI n g ↔ ∀ i, i < n → f i = g i := by
  unfold rowI
  rw [List.map_inj_left]
  exact ⟨fun h i hi => h i (List.mem_range.mpr hi), fun h i hi => h i (List.mem_range.mp hi)⟩
theorem rowI_of (ws : List Int) : rowI ws.length (at0 ws) = ws := by
  refine List.ext_getElem? fun i => ?_
  by_cases h : i < ws.length
  · rw [rowI_at h, at0_lt h]
  · rw [List.getElem?_eq_none (by rw [rowI_len]; omega), List.getElem?_eq_none (by omega)]
theorem rowI_mem {n : Nat} {g : Nat → Int} {x : Int} : x ∈ rowI n g ↔ ∃ i, i < n ∧ g i = x := by
  unfold rowI
  rw [List.mem_map]
  exact ⟨fun ⟨i, h, e⟩ => ⟨i, List.mem_range.mp h, e⟩, fun ⟨i, h, e⟩ => ⟨i, List.mem_range.mpr h, e⟩⟩
/-- the sum of the first n values of g -/
def sumI (n : Nat) (g : Nat → Int) : Int := (rowI n g).sum
theorem sumI_succ (n : Nat) (g : Nat → Int) : sumI (n + 1) g = sumI n g + g n := by
  unfold sumI
  rw [rowI_succ, List.sum_append, List.sum_cons, List.sum_nil]
  omega
theorem sumI_congr {n : Nat} {f g : Nat → Int} (h : ∀ i, i < n → f i = g i) : sumI n f = sumI n g := by
  unfold sumI
  rw [rowI_eq.mpr h]
theorem sumI_sub : ∀ (n : Nat) (f g : Nat → Int), sumI n (fun i => f i - g i) = sumI n f - sumI n g
  | 0, _, _ => rfl
  | n + 1, f, g => by rw [sumI_succ, sumI_succ, sumI_succ, sumI_sub n f g]; omega
theorem sumI_bound {n : Nat} {g : Nat → Int} {m : Int} (h : ∀ i, i < n → 0 ≤ g i ∧ g i ≤ m) : 0 ≤ sumI n g ∧ sumI n g ≤ n * m := by
  induction n with
  | zero => exact ⟨Int.le_refl 0, by show (0 : Int) ≤ ((0 : Nat) : Int) * m; omega⟩
  | succ n ih =>
    have h1 := ih fun i hi => h i (by omega)
    have h2 := h n (by omega)
    rw [sumI_succ]
    have e : ((n + 1 : Nat) : Int) * m = n * m + m := by rw [Int.natCast_add, Int.add_mul]; omega
    omega
/-- a square table of numbers, its rows at ps -/
structure Tab (H : Hp) (t : Addr) (ps : List Addr) (n : Nat) (f : Nat → Nat → Int) : Prop where
  lst : H t = some (.lst (ps.map V.ref))
  len : ps.length = n
  row : ∀ i p, ps[i]? = some p → H p = some (.lst ((rowI n (f i)).map V.int))
  nod : ps.Nodup
  out : t ∉ ps
theorem Tab.same {H H' : Hp} {t : Addr} {ps : List Addr} {n : Nat} {f : Nat → Nat → Int} (h : Tab H t ps n f) (e : Same H H') : Tab H' t ps n f :=
  ⟨e _ _ h.lst, h.len, fun i p hp => e _ _ (h.row i p hp), h.nod, h.out⟩
def tabL (n : Nat) (f : Nat → Nat → Int) : List (List Int) := (List.range n).map fun i => rowI n (f i)
theorem tabL_at {n : Nat} {f : Nat → Nat → Int} {i : Nat} (h : i < n) : (tabL n f)[i]? = some (rowI n (f i)) := by
  unfold tabL
  rw [List.getElem?_map, List.getElem?_range h]
  rfl
theorem tabL_eq {n : Nat} {f g : Nat → Nat → Int} : tabL n f = tabL n g ↔ ∀ i, i < n → ∀ j, j < n → f i j = g i j := by
  unfold tabL
  rw [List.map_inj_left]
  exact ⟨fun h i hi => rowI_eq.mp (h i (List.mem_range.mpr hi)), fun h i hi => rowI_eq.mpr (h i (List.mem_range.mp hi))⟩
theorem layD_tab : LayD (fun xs : List (List Int) => PyData.list (xs.map fun ys => PyData.list (ys.map PyData.int))) 2 (fun xs => ∀ x, x ∈ xs → ∀ y, y ∈ x → True) := layD_int.list.list
theorem Tab.dp {K : PySem.W.Frag} {H : Hp} {t : Addr} {ps : List Addr} {n : Nat} {f : Nat → Nat → Int} (h : Tab H t ps n f) : Dp K H (.ref t) (PyData.list ((tabL n f).map fun ys => PyData.list (ys.map PyData.int))) := by
  refine .lst (SqL.of h.lst) (dpAll_refs ?_ fun i p x h1 h2 => ?_)
  · rw [h.len]
    unfold tabL
    rw [List.length_map, List.length_range]
  · have hi := (List.getElem?_eq_some_iff.mp h1).1
    rw [h.len] at hi
    rw [tabL_at hi] at h2
    cases h2
    exact .lst (SqL.of (h.row i p h1)) (dpAll_ints _)
theorem refs_at {ps : List Addr} {i : Nat} {x : V} (h : (ps.map V.ref)[i]? = some x) : ∃ p, ps[i]? = some p ∧ x = V.ref p := by
  rw [List.getElem?_map] at h
  cases e : ps[i]? with
  | none => rw [e] at h; cases h
  | some z => rw [e] at h; exact ⟨z, rfl, (Option.some.inj h).symm⟩
theorem Tab.at {H : Hp} {t : Addr} {ps : List Addr} {n : Nat} {f : Nat → Nat → Int} (h : Tab H t ps n f) {i : Nat} (hi : i < n) : ∃ p, ps[i]? = some p ∧ atI (ps.map V.ref) (i : Int) = some (.ref p) ∧ H p = some (.lst ((rowI n (f i)).map V.int)) := by
  have hl : i < ps.length := by rw [h.len]; exact hi
  refine ⟨ps[i], List.getElem?_eq_getElem hl, at_of (j := i) rfl ?_, h.row i _ (List.getElem?_eq_getElem hl)⟩
  rw [List.getElem?_map, List.getElem?_eq_getElem hl]
  rfl

/-- a table that grows: m rows of n numbers -/
structure TabR (H : Hp) (t : Addr) (ps : List Addr) (m n : Nat) (f : Nat → Nat → Int) : Prop where
  lst : H t = some (.lst (ps.map V.ref))
  len : ps.length = m
  row : ∀ i p, ps[i]? = some p → H p = some (.lst ((rowI n (f i)).map V.int))
  nod : ps.Nodup
  out : t ∉ ps
theorem TabR.nil {H : Hp} {t : Addr} (n : Nat) (f : Nat → Nat → Int) (h : H t = some (.lst [])) : TabR H t [] 0 n f :=
  ⟨h, rfl, fun _ _ e => (by rw [List.getElem?_nil] at e; cases e), List.nodup_nil, fun h => (by cases h)⟩
theorem TabR.congr {H : Hp} {t : Addr} {ps : List Addr} {m n : Nat} {f g : Nat → Nat → Int} (h : TabR H t ps m n f) (e : ∀ i, i < m → ∀ j, j < n → f i j = g i j) : TabR H t ps m n g :=
  ⟨h.lst, h.len, fun i p hp => by
    have hi := (List.getElem?_eq_some_iff.mp hp).1
    rw [h.row i p hp, rowI_eq.mpr (e i (by rw [← h.len]; exact hi))], h.nod, h.out⟩
theorem TabR.push {H H' : Hp} {t p : Addr} {ps : List Addr} {m n : Nat} {f : Nat → Nat → Int} (h : TabR H t ps m n f) (e : Same H H') (np : H p = none) (hp : H' p = some (.lst ((rowI n (f m)).map V.int))) : TabR (upd H' t (.lst (ps.map V.ref ++ [V.ref p]))) t (ps ++ [p]) (m + 1) n f := by
  have hmem : ∀ q, q ∈ ps → ∃ o, H q = some o := fun q hq => by
    obtain ⟨i, hi⟩ := List.mem_iff_getElem?.mp hq
    exact ⟨_, h.row i q hi⟩
  have hpt : p ≠ t := fun z => by rw [z, h.lst] at np; cases np
  have hnp : p ∉ ps := fun z => by
    obtain ⟨o, ho⟩ := hmem p z
    rw [np] at ho
    cases ho
  refine ⟨?_, ?_, fun i q hq => ?_, ?_, ?_⟩
  · rw [upd_same, List.map_append]
    rfl
  · rw [List.length_append, h.len]
    rfl
  · by_cases hi : i < ps.length
    · rw [List.getElem?_append_left hi] at hq
      have hm := List.mem_of_getElem? hq
      rw [upd_ne (fun z => h.out (by rw [← z]; exact hm))]
      exact e _ _ (h.row i q hq)
    · rw [List.getElem?_append_right (by omega)] at hq
      have hi2 := (List.getElem?_eq_some_iff.mp hq).1
      have : i - ps.length = 0 := by
        rw [List.length_cons, List.length_nil] at hi2
        omega
      rw [this] at hq
      have hqp : p = q := Option.some.inj hq
      subst hqp
      rw [upd_ne hpt, hp]
      have : i = m := by have := h.len; omega
      rw [this]
  · rw [List.nodup_append]
    refine ⟨h.nod, List.nodup_cons.mpr ⟨fun z => (by cases z), List.nodup_nil⟩, fun a ha b hb z => ?_⟩
    rw [List.mem_singleton] at hb
    rw [hb] at z
    rw [z] at ha
    exact hnp ha
  · intro z
    rcases List.mem_append.mp z with z | z
    · exact h.out z
    · rw [List.mem_singleton] at z
      exact hpt z.symm
theorem TabR.tab {H : Hp} {t : Addr} {ps : List Addr} {n : Nat} {f : Nat → Nat → Int} (h : TabR H t ps n n f) : Tab H t ps n f := ⟨h.lst, h.len, h.row, h.nod, h.out⟩
theorem TabR.keep {H H0 : Hp} {t : Addr} {xs : List V} (s : Same H0 H) (nt : H0 t = none) : Same H0 (upd H t (.lst xs)) := fun b o e => by
  rw [upd_ne (ne_of_none e nt)]
  exact s b o e
/-- debts: one to thirteen houses, nobody owes itself -/
structure Debts (n : Nat) (f : Nat → Nat → Int) (m : Int) : Prop where
  n0 : 1 ≤ n
  n1 : n ≤ 13
  b : ∀ i, i < n → ∀ j, j < n → 0 ≤ f i j ∧ f i j ≤ m
  d : ∀ i, i < n → f i i = 0
theorem Debts.mono {n : Nat} {f : Nat → Nat → Int} {m k : Int} (h : Debts n f m) (e : m ≤ k) : Debts n f k := ⟨h.n0, h.n1, fun i hi j hj => ⟨(h.b i hi j hj).1, Int.le_trans (h.b i hi j hj).2 e⟩, h.d⟩

/-- [row[h] for row in t]: a column of a table -/
theorem lc_col {K : PySem.W.Frag} {t : Addr} {ps : List Addr} {n : Nat} {f : Nat → Nat → Int} {σ : L2.St} {H1 : Hp} {D : Addr} {j l h : Nat} {Qd : Hp → Prop} (ht : Tab H1 t ps n f) (hn : n ≤ 1000) (hh : h < n) (nD : H1 D = none) (hj : Nat.ble (j + 1) σ.length = true) (hlj : l ≠ j) (hl : σ[l]? = some (some (.int (h : Int))))
    (q : Qd (upd H1 D (.lst ((rowI n fun a => f a h).map V.int)))) :
    ∃ W : Nat → Nat → Hp → Prop, (∃ m, W 0 m (upd H1 D (.lst []))) ∧ ∀ i m H, W i m H →
      ((Itl K t).stop i H ∧ Qd H) ∨ ((Itl K t).go i H ∧ ∃ Nx : Hp → Prop, (∀ H', Nx H' → ∃ m', m' < m ∧ W (i + 1) m' H') ∧ ∀ x H', (Itl K t).yld i H x H' → gName j x (wipe σ [j]) H' fun σ2 H2 => wipe σ2 [j] = wipe σ [j] ∧ tYes σ2 H2 fun b H3 =>
        if b = true then tOp (rIxL K) (tVar j) (tVar l) σ2 H3 fun y H4 => ∃ acc, H4 D = some (.lst acc) ∧ acc.length < sizeLine ∧ Nx (upd H4 D (.lst (acc ++ [y]))) else Nx H3) := by
  have hs : SqL K H1 t (ps.map V.ref) := SqL.of ht.lst
  have hj' : j < (wipe σ [j]).length := by rw [wipe_length]; exact Nat.le_of_ble_eq_true hj
  refine lc_list (K := K) (a := t) (xs := ps.map V.ref) (fun i H' => H' = upd H1 D (.lst ((rowI i fun a => f a h).map V.int))) rfl (fun i H' _ e => by rw [e]; exact (same_upd nD).seq hs) ?_ ?_
  · rintro i x H' hx rfl
    obtain ⟨p, hp, rfl⟩ := refs_at hx
    have hi := (List.getElem?_eq_some_iff.mp hp).1
    rw [ht.len] at hi
    refine ⟨?_, ?_⟩
    · show ((wipe σ [j]).set j (some (V.ref p))).set j none = σ.set j none
      show ((σ.set j none).set j (some (V.ref p))).set j none = σ.set j none
      rw [List.set_set, List.set_set]
    · refine ⟨_, List.getElem?_set_self hj', _, ?_, p, (rowI n (f i)).map V.int, (h : Int), _, rfl, rfl, (same_upd nD).seq (SqL.of (ht.row i p hp)), atI_row hh, ?_⟩
      · show ((wipe σ [j]).set j (some (V.ref p)))[l]? = some (some (V.int (h : Int)))
        rw [List.getElem?_set_ne (fun e => hlj e.symm)]
        show (σ.set j none)[l]? = _
        rw [List.getElem?_set_ne (fun e => hlj e.symm)]
        exact hl
      · refine ⟨_, upd_same, ?_, ?_⟩
        · refine small1000 ?_
          rw [List.length_map, rowI_len]
          omega
        · rw [upd_upd, rowI_succ, List.map_append]
          rfl
  · rintro H' rfl
    rw [List.length_map, ht.len]
    exact q
/-- [t[b][h] for b in range(n)]: the same column -/
theorem lc_colR {K : PySem.W.Frag} {t : Addr} {ps : List Addr} {n : Nat} {f : Nat → Nat → Int} {σ : L2.St} {H1 : Hp} {D : Addr} {j l u h m : Nat} {Qd : Hp → Prop} (ht : Tab H1 t ps n f) (hn : n ≤ 1000) (hh : h < n) (nD : H1 D = none) (hm : m = n) (hj : Nat.ble (j + 1) σ.length = true) (hlj : l ≠ j) (huj : u ≠ j) (hl : σ[l]? = some (some (.int (h : Int)))) (hu : σ[u]? = some (some (.ref t)))
    (q : Qd (upd H1 D (.lst ((rowI n fun a => f a h).map V.int)))) :
    ∃ W : Nat → Nat → Hp → Prop, (∃ m, W 0 m (upd H1 D (.lst []))) ∧ ∀ i k H, W i k H →
      ((Itr 0 m).stop i H ∧ Qd H) ∨ ((Itr 0 m).go i H ∧ ∃ Nx : Hp → Prop, (∀ H', Nx H' → ∃ m', m' < k ∧ W (i + 1) m' H') ∧ ∀ x H', (Itr 0 m).yld i H x H' → gName j x (wipe σ [j]) H' fun σ2 H2 => wipe σ2 [j] = wipe σ [j] ∧ tYes σ2 H2 fun b H3 =>
        if b = true then tOp (rIxL K) (tOp (rIxL K) (tVar u) (tVar j)) (tVar l) σ2 H3 fun y H4 => ∃ acc, H4 D = some (.lst acc) ∧ acc.length < sizeLine ∧ Nx (upd H4 D (.lst (acc ++ [y]))) else Nx H3) := by
  subst hm
  have hj' : j < (wipe σ [j]).length := by rw [wipe_length]; exact Nat.le_of_ble_eq_true hj
  have keep : ∀ (y : V) (i : Nat) (x : Option V), i ≠ j → σ[i]? = some x → ((wipe σ [j]).set j (some y))[i]? = some x := fun y i x e z => by
    rw [List.getElem?_set_ne fun w => e w.symm]
    show (σ.set j none)[i]? = _
    rw [List.getElem?_set_ne fun w => e w.symm]
    exact z
  refine lc_range (lo := 0) (n := m) (fun i H' => H' = upd H1 D (.lst ((rowI i fun a => f a h).map V.int))) rfl ?_ ?_
  · rintro i H' hi rfl
    rw [show (0 : Int) + i = ((i : Nat) : Int) by omega]
    have s1 : Same H1 (upd H1 D (.lst ((rowI i fun a => f a h).map V.int))) := same_upd nD
    obtain ⟨p, hp, ha, hr⟩ := (ht.same s1).at hi
    refine ⟨?_, ?_⟩
    · show ((wipe σ [j]).set j (some (V.int (i : Int)))).set j none = σ.set j none
      show ((σ.set j none).set j (some (V.int (i : Int)))).set j none = σ.set j none
      rw [List.set_set, List.set_set]
    · refine ⟨_, keep _ _ _ huj hu, _, List.getElem?_set_self hj', t, ps.map V.ref, (i : Int), _, rfl, rfl, SqL.of (ht.same s1).lst, ha, _, keep _ _ _ hlj hl, p, (rowI m (f i)).map V.int, (h : Int), _, rfl, rfl, SqL.of hr, atI_row hh, ?_⟩
      refine ⟨_, upd_same, ?_, ?_⟩
      · refine small1000 ?_
        rw [List.length_map, rowI_len]
        omega
      · rw [upd_upd, rowI_succ, List.map_append]
        rfl
  · rintro H' rfl
    exact q

/-! a range that is kept under a name -/
theorem mk_rng {X : Cx} : CallR X (.type "range") (fun xs H Q => ∃ top, xs = [V.int top] ∧ ∀ a, H a = none → Q (.ref a) (upd H a (.rng 0 top))) := by
  intro pn sh st Hh xs us Q inv rel hyp
  obtain ⟨top, rfl, go⟩ := hyp
  obtain ⟨w1, rfl, tk1, rfl⟩ := vals1 rel
  refine call_range_1 ⟨.ref sh.heap.objs.size, upd Hh sh.heap.objs.size (.rng 0 top), ?_, rfl, go _ (inv.hok.fresh (Nat.le_refl _))⟩
  refine inv.laid (t' := sh.toks + 2) (fun b o e => Heap.get?_push_of_some _ e) (Nat.le_refl _) ?_
  exact ⟨sh.toks, tk1, sh.toks + 1, Heap.get?_push_size _ rfl⟩
/-- walking it: lo, the bounds, the turns -/
def iRngV (tv : TE) : TI := fun σ H R => tv σ H fun x H1 => ∃ (a : Addr) (n : Nat), x = .ref a ∧ H1 a = some (.rng 0 (n : Int)) ∧ (n : Int) < 2 ^ 62 ∧ R (Itr 0 n) H1
theorem pi_rng {X : Cx} {tg l : Expr} {tv : TE} (hl : PE X l tv) : PI X tg l (iRngV tv) := by
  refine ⟨fun pn sh st Hh R inv hyp => ?_⟩
  refine thn (hl.run pn sh st Hh _ inv hyp) fun vv s2 ⟨y, H2, inv2, rel2, more⟩ => ?_
  obtain ⟨a, n, ea, ha, hb, go⟩ := more
  subst ea
  cases rel2
  obtain ⟨k1, k2, k3, hobj⟩ := inv2.hok a _ ha
  have small : Builtin.Range.small 0 (n : Int) 1 = true := small_one (by omega) (by omega) (by omega) (by omega)
  refine wpAny_pyIter_range (a := 0) (b := (n : Int)) (c := 1) hobj small ?_
  have inv3 : Inv X pn st H2 { s2 with heap := s2.heap.push { cls := Value.type "range_iterator", data := Data.fields #[rawInt 0, rawInt (Builtin.Range.rangeSize 0 (n : Int) 1), rawInt 1] } } := inv2.kept (t' := s2.toks) fun _ _ was => Heap.get?_push_of_some _ was
  have size : (n : Int) - ((0 : Nat) : Int) = Builtin.Range.rangeSize 0 (n : Int) 1 := by
    rw [rangeSize_one]
    split <;> omega
  refine ⟨s2.heap.objs.size, [s2.heap.objs.size], _, _, H2, rfl, inv3, turn_range _ 0 n, ?_, fun c hc => ?_, go⟩
  · rw [show IsRangeIter _ _ _ _ _ = _ from rfl, size]
    exact (Heap.get?_push_size _ rfl)
  · obtain rfl : c = s2.heap.objs.size := List.mem_singleton.mp hc
    exact inv2.fpOk (Nat.le_refl _) (inv2.hok.fresh (Nat.le_refl _))

section
variable {P : Program} {w : World} {K : PySem.W.Frag} {mg : Str → Option Value} {base : Heap}
def sp_law_cell (K : PySem.W.Frag) : Sp := fun vs H Q _ => ∃ (a : Addr) (ns : List Int) (j : Nat), vs = [.ref a, .int j] ∧ SqL K H a (ns.map V.int) ∧ Q (.int (cellOf ns j)) H
theorem ok_law_cell (T : Txt K mg) : FnOk P w K mg base CX0 1 T.f_law_cell T.d_law_cell ["script", "k"] (sp_law_cell K) := by
  refine T.F_law_cell.ok sc_law_cell (fun vs H Q E h => ?_) (fun cdv A outer s H vs Q E hr h => ?_)
  · obtain ⟨a, ns, j, rfl, _⟩ := h
    rfl
  · obtain ⟨a, ns, j, rfl, hs, q⟩ := h
    refine ⟨_, (pss_cons (ps_if (pt_cmpR op_lt (pv 1) (pe_callB call_len_seq (by rfl) T.z_len PySem.boot_len (pa_cons (pv 0) pa_nil)) (nomark _))
      (pss_one (ps_ret (pe_ix ix_list (pv 0) (pv 1) (fun _ _ => rfl))))
      pss_nil)
    (pss_one (ps_ret pe_int))), ?_⟩
    walk_at "st"
    refine iteD (fun h => ?_) (fun h => ?_)
    · have hj : j < ns.length := by rw [List.length_map] at h; omega
      walk_at "st"
      exact ⟨atI_ints hj, q⟩
    · have hj : ¬ j < ns.length := by rw [List.length_map] at h; omega
      rw [cellOf_out hj] at q
      exact q

/-- what the draws are: only their number and their bounds matter -/
def sp_law_draws (K : PySem.W.Frag) : Sp := fun vs H Q _ => ∃ (cell : Int) (n : Nat) (size : Int), vs = [.int cell, .int (n : Int), .int size] ∧ n ≤ 1000 ∧ 0 < size ∧ size < 1073741824 ∧
  ∀ p H' (ds : List Int), Same H H' → H p = none → H' p = some (.lst (ds.map V.int)) → ds.length = n → (∀ d, d ∈ ds → 0 ≤ d ∧ d < size) → Q (.ref p) H'
theorem ok_law_draws (T : Txt K mg) : FnOk P w K mg base CX0 1 T.f_law_draws T.d_law_draws ["cell", "count", "size"] (sp_law_draws K) := by
  refine T.F_law_draws.ok sc_law_draws (fun vs H Q E h => ?_) (fun cdv A outer s H vs Q E hr h => ?_)
  · obtain ⟨cell, n, size, rfl, _⟩ := h
    rfl
  · obtain ⟨cell, n, size, rfl, hn, h0, h1, q⟩ := h
    refine ⟨_, (pss_cons (ps_set (i := 3) sc_law_draws.nd rfl (Or.inl rfl) (pe_lst pa_nil))
    (pss_cons (ps_set (i := 4) sc_law_draws.nd rfl (Or.inl rfl) (pe_callB call_abs (by rfl) T.z_abs (by decide +kernel) (pa_cons (pv 0) pa_nil)))
    (pss_cons (ps_if (pt_cmpR op_ge (pv 4) pe_int (nomark _))
      (pss_cons (ps_for PassesOwn.never rfl (pi_range1 (by rfl) T.z_range (pa_cons (pv 1) pa_nil)) (pg_name (i := 5) sc_law_draws.nd rfl (Or.inl rfl))
        (pss_cons (ps_expr (pe_bm PySem.F.plainAttrs_list PySem.F.slot_list_append PySem.F.type_list_append mt_append (pv 3) (pa_cons (pe_op op_mod (pe_callTy call_int_i (by rfl) T.z_int (by decide +kernel) (pa_cons (pv 4) pa_nil)) (pv 2)) pa_nil)))
        (pss_one (ps_set (i := 4) sc_law_draws.nd rfl (Or.inl rfl) (pe_op op_fdiv (pv 4) (pv 2))))))
      (pss_one (ps_ret (pv 3))))
      pss_nil)
    (pss_cons (ps_for PassesOwn.never rfl (pi_range1 (by rfl) T.z_range (pa_cons (pv 1) pa_nil)) (pg_name (i := 5) sc_law_draws.nd rfl (Or.inl rfl))
      (pss_cons (ps_set (i := 4) sc_law_draws.nd rfl (Or.inl rfl) (pe_op op_mod (pe_callTy call_int_i (by rfl) T.z_int (by decide +kernel) (pa_cons (pe_op op_add (pe_op op_add (pe_op op_mul (pv 4) pe_int) (pe_op op_mul (pv 5) pe_int)) pe_int) pa_nil)) pe_int))
      (pss_one (ps_expr (pe_bm PySem.F.plainAttrs_list PySem.F.slot_list_append PySem.F.type_list_append mt_append (pv 3) (pa_cons (pe_op op_mod (pe_op op_mod (pe_callTy call_int_i (by rfl) T.z_int (by decide +kernel) (pa_cons (pe_op op_add (pe_op op_mul (pv 4) pe_int) (pv 5)) pa_nil)) pe_int) (pv 2)) pa_nil))))))
    (pss_one (ps_ret (pv 3))))))), ?_⟩
    walk_at "st"
    intro D nD
    walk_at "st"
    generalize hrest : (if cell < 0 then -cell else cell) = rest
    have hrest0 : 0 ≤ rest := by rw [← hrest]; split <;> omega
    have eD : (upd H D (.lst [])) D = some (.lst (([] : List Int).map V.int)) := upd_same
    have s1 : Same H (upd H D (.lst [])) := same_upd nD
    generalize upd H D (.lst []) = H1 at eD s1
    refine iteB (fun h => ?_) (fun h => ?_)
    · walk_at "st"
      refine for_range (lo := 0) (n := ((n : Int)).toNat) (fun i σ H' => ∃ (v5 : Option V) (r : Int) (ds : List Int), σ = [some (.int cell), some (.int (n : Int)), some (.int size), some (.ref D), some (.int r), v5] ∧ 0 ≤ r ∧ H' D = some (.lst (ds.map V.int)) ∧ ds.length = i ∧ (∀ d, d ∈ ds → 0 ≤ d ∧ d < size) ∧ Same H H')
        ⟨none, rest, [], rfl, hrest0, eD, rfl, (fun _ hd => by cases hd), s1⟩ ?_ ?_
      · rintro i σ H' hi ⟨v5, r, ds, rfl, hr0, hD, hl, hb, e⟩
        have hlt : (ds.map V.int).length < sizeLine := small1000 (by rw [List.length_map]; omega)
        walk_at "st"
        refine ⟨some (.int (0 + (i : Int))), r / size, ds ++ [r % size], rfl, ?_, ?_, ?_, ?_, fun b o z => ?_⟩
        · exact Int.ediv_nonneg hr0 (by omega)
        · rw [upd_same, List.map_append]
          rfl
        · rw [List.length_append, hl]
          rfl
        · intro d hd
          rcases List.mem_append.mp hd with hd | hd
          · exact hb d hd
          · rw [List.mem_singleton.mp hd]
            exact ⟨Int.emod_nonneg _ (by omega), Int.emod_lt_of_pos _ h0⟩
        · rw [upd_ne (ne_of_none z nD)]
          exact e b o z
      · rintro σ H' ⟨v5, r, ds, rfl, hr0, hD, hl, hb, e⟩
        walk_at "st"
        exact q D H' ds e nD hD (by omega) hb
    · walk_at "st"
      refine for_range (lo := 0) (n := ((n : Int)).toNat) (fun i σ H' => ∃ (v5 : Option V) (r : Int) (ds : List Int), σ = [some (.int cell), some (.int (n : Int)), some (.int size), some (.ref D), some (.int r), v5] ∧ 0 ≤ r ∧ H' D = some (.lst (ds.map V.int)) ∧ ds.length = i ∧ (∀ d, d ∈ ds → 0 ≤ d ∧ d < size) ∧ Same H H')
        ⟨none, rest, [], rfl, hrest0, eD, rfl, (fun _ hd => by cases hd), s1⟩ ?_ ?_
      · rintro i σ H' hi ⟨v5, r, ds, rfl, hr0, hD, hl, hb, e⟩
        have hlt : (ds.map V.int).length < sizeLine := small1000 (by rw [List.length_map]; omega)
        walk_at "st"
        refine ⟨some (.int (0 + (i : Int))), (r * 48271 + (0 + (i : Int)) * 69621 + 11) % 2147483647, ds ++ [((r * 48271 + (0 + (i : Int)) * 69621 + 11) % 2147483647 * 16807 + (0 + (i : Int))) % 2147483629 % size], rfl, ?_, ?_, ?_, ?_, fun b o z => ?_⟩
        · exact Int.emod_nonneg _ (by decide)
        · rw [upd_same, List.map_append]
          rfl
        · rw [List.length_append, hl]
          rfl
        · intro d hd
          rcases List.mem_append.mp hd with hd | hd
          · exact hb d hd
          · rw [List.mem_singleton.mp hd]
            exact ⟨Int.emod_nonneg _ (by omega), Int.emod_lt_of_pos _ h0⟩
        · rw [upd_ne (ne_of_none z nD)]
          exact e b o z
      · rintro σ H' ⟨v5, r, ds, rfl, hr0, hD, hl, hb, e⟩
        walk_at "st"
        exact q D H' ds e nD hD (by omega) hb

def sp_law_integers (K : PySem.W.Frag) : Sp := fun vs H Q _ => ∃ (a : Addr) (ns : List Int) (n : Int), vs = [.ref a, .int n] ∧ H a = some (.lst (ns.map V.int)) ∧ (ns.length : Int) = n ∧ Q (.bl true) H
theorem ok_law_integers (T : Txt K mg) : FnOk P w K mg base CX0 1 T.f_law_integers T.d_law_integers ["actual", "count"] (sp_law_integers K) := by
  refine T.F_law_integers.ok sc_law_integers (fun vs H Q E h => ?_) (fun cdv A outer s H vs Q E hr h => ?_)
  · obtain ⟨a, ns, n, rfl, _⟩ := h
    rfl
  · obtain ⟨a, ns, n, rfl, hs, hl, q⟩ := h
    refine ⟨_, (pss_cons (ps_if (PW.pt (pw_or (pt_not (pt_val (pe_callB call_isi (by rfl) T.z_isinstance (by decide +kernel) (pa_cons (pv 0) (pa_cons (pe_bltn (v := .ty "list") (u := .type "list") (by rfl) T.z_list (by decide +kernel) rfl) pa_nil))))) (pw_or1 (pt_cmpR op_ne (pe_callB call_len_seq (by rfl) T.z_len PySem.boot_len (pa_cons (pv 0) pa_nil)) (pv 1) (nomark _)))))
      (pss_one (ps_ret pe_bl))
      pss_nil)
    (pss_cons (ps_for PassesOwn.never rfl (pi_list (pv 0)) (pg_name (i := 2) sc_law_integers.nd rfl (Or.inl rfl))
      (pss_one (ps_if (PW.pt (pw_or (pt_not (pt_val (pe_callB call_isi (by rfl) T.z_isinstance (by decide +kernel) (pa_cons (pv 2) (pa_cons (pe_bltn (v := .ty "int") (u := .type "int") (by rfl) T.z_int (by decide +kernel) rfl) pa_nil))))) (pw_or1 (pt_val (pe_callB call_isi (by rfl) T.z_isinstance (by decide +kernel) (pa_cons (pv 2) (pa_cons (pe_bltn (v := .ty "bool") (u := .type "bool") (by rfl) T.z_bool (by decide +kernel) rfl) pa_nil)))))))
        (pss_one (ps_ret pe_bl))
        pss_nil)))
    (pss_one (ps_ret pe_bl)))), ?_⟩
    refine ⟨_, rfl, ?_⟩
    refine ⟨_, _, _, _, true, rfl, .ty _, .base (.lst hs), kit_ty (by decide +kernel), ?_⟩
    refine ⟨_, rfl, iteF ?_⟩
    walk_at "st"
    refine iteB (fun h => (ndec_t h (congrArg V.int (by rw [List.length_map]; exact hl))).elim) (fun _ => ?_)
    walk_at "st"
    refine for_list (K := K) (a := a) (xs := ns.map V.int) (fun i σ H' => (∃ v, σ = [some (.ref a), some (.int n), v]) ∧ H' = H) ⟨⟨none, rfl⟩, rfl⟩ (fun i σ H' _ ⟨_, e⟩ => by rw [e]; exact SqL.of hs) ?_ ?_
    · rintro i x σ H' hx ⟨⟨v, rfl⟩, rfl⟩
      obtain ⟨z, hz, rfl⟩ := ints_at hx
      refine ⟨_, rfl, ?_⟩
      refine ⟨_, _, _, _, true, rfl, .ty _, .base (.int _), kit_ty (by decide +kernel), ?_⟩
      refine ⟨_, rfl, iteF ?_⟩
      refine ⟨_, rfl, ?_⟩
      refine ⟨_, _, _, _, false, rfl, .ty _, .base (.int _), kit_ty (by decide +kernel), ?_⟩
      refine ⟨_, rfl, iteF ?_⟩
      exact ⟨⟨_, rfl⟩, rfl⟩
    · rintro σ H' ⟨⟨v, rfl⟩, rfl⟩
      exact q

def sp_law_market_size (K : PySem.W.Frag) : Sp := fun vs H Q _ => ∃ shape : Int, vs = [.int shape] ∧ ∀ p H' (n : Nat) (size : Int), Same H H' → H p = none → H' p = some (.tup [.int (n : Int), .int size]) → 1 ≤ n → n ≤ 12 → 0 < size → size ≤ 9999 → Q (.ref p) H'
theorem ok_law_market_size (T : Txt K mg) : FnOk P w K mg base CX0 1 T.f_law_market_size T.d_law_market_size ["shape"] (sp_law_market_size K) := by
  refine T.F_law_market_size.ok sc_law_market_size (fun vs H Q E h => ?_) (fun cdv A outer s H vs Q E hr h => ?_)
  · obtain ⟨shape, rfl, _⟩ := h
    rfl
  · obtain ⟨shape, rfl, q⟩ := h
    refine ⟨_, (pss_cons (ps_set (i := 1) sc_law_market_size.nd rfl (Or.inl rfl) (pe_op op_mod (pe_callB call_abs (by rfl) T.z_abs (by decide +kernel) (pa_cons (pv 0) pa_nil)) pe_int))
    (pss_cons (ps_if (pt_cmpR op_eq (pv 1) pe_int (nomark _))
      (pss_one (ps_ret (pe_tup (pa_cons (pe_op op_add pe_int (pe_op op_mod (pe_op op_fdiv (pe_callB call_abs (by rfl) T.z_abs (by decide +kernel) (pa_cons (pv 0) pa_nil)) pe_int) pe_int)) (pa_cons pe_int pa_nil)))))
      pss_nil)
    (pss_cons (ps_if (pt_cmpR op_eq (pv 1) pe_int (nomark _))
      (pss_one (ps_ret (pe_tup (pa_cons pe_int (pa_cons pe_int pa_nil)))))
      pss_nil)
    (pss_one (ps_ret (pe_tup (pa_cons (pe_op op_add pe_int (pe_op op_mod (pe_op op_fdiv (pe_callB call_abs (by rfl) T.z_abs (by decide +kernel) (pa_cons (pv 0) pa_nil)) pe_int) pe_int)) (pa_cons (pe_ix ix_list (pe_lst (pa_cons pe_int (pa_cons pe_int (pa_cons pe_int pa_nil)))) (pe_op op_mod (pe_op op_fdiv (pe_callB call_abs (by rfl) T.z_abs (by decide +kernel) (pa_cons (pv 0) pa_nil)) pe_int) pe_int) (fun _ _ => rfl)) pa_nil)))))))), ?_⟩
    walk_at "st"
    obtain ⟨s, hs⟩ : ∃ s, (if shape < 0 then -shape else shape) = s := ⟨_, rfl⟩
    have h1 := Int.emod_nonneg (s / 5) (by decide : (2 : Int) ≠ 0)
    have h2 := Int.emod_lt_of_pos (s / 5) (by decide : (0 : Int) < 2)
    have h3 := Int.emod_nonneg (s / 5) (by decide : (6 : Int) ≠ 0)
    have h4 := Int.emod_lt_of_pos (s / 5) (by decide : (0 : Int) < 6)
    rw [hs]
    refine iteB (fun _ => ?_) (fun _ => ?_)
    · walk_at "st"
      rw [hs]
      intro p np
      obtain ⟨n, en⟩ : ∃ n : Nat, 2 + s / 5 % 2 = (n : Int) := ⟨(2 + s / 5 % 2).toNat, by omega⟩
      refine q p _ n 9999 (same_upd np) np ?_ (by omega) (by omega) (by decide) (by decide)
      rw [← en]
      dsimp only
      exact upd_same
    · walk_at "st"
      refine iteB (fun _ => ?_) (fun _ => ?_)
      · walk_at "st"
        intro p np
        exact q p _ 12 30 (same_upd np) np upd_same (by decide) (by decide) (by decide) (by decide)
      · obtain ⟨size, hat, hsz0, hsz1⟩ : ∃ size : Int, atI [V.int 400, V.int 3, V.int 40] ((if shape < 0 then -shape else shape) / 30 % 3) = some (.int size) ∧ 0 < size ∧ size ≤ 9999 := by
          rw [hs]
          have h1 := Int.emod_nonneg (s / 30) (by decide : (3 : Int) ≠ 0)
          have h2 := Int.emod_lt_of_pos (s / 30) (by decide : (0 : Int) < 3)
          generalize s / 30 % 3 = m at *
          rcases (by omega : m = 0 ∨ m = 1 ∨ m = 2) with e | e | e
          · exact ⟨400, by rw [e]; rfl, by decide, by decide⟩
          · exact ⟨3, by rw [e]; rfl, by decide, by decide⟩
          · exact ⟨40, by rw [e]; rfl, by decide, by decide⟩
        walk_at "st"
        intro L nL
        walk_at "st"
        intro p np
        obtain ⟨n, en⟩ : ∃ n : Nat, 1 + s / 5 % 6 = (n : Int) := ⟨(1 + s / 5 % 6).toNat, by omega⟩
        refine q p _ n size ((same_upd nL).trans (same_upd np)) ((same_upd nL).free np) ?_ (by omega) (by omega) hsz0 hsz1
        rw [← en]
        dsimp only
        rw [hs]
        exact upd_same
def sp_law_row (K : PySem.W.Frag) : Sp := fun vs H Q _ => ∃ (cell shape : Int) (k n : Nat) (size : Int), vs = [.int cell, .int shape, .int (k : Int), .int (n : Int), .int size] ∧ k < n ∧ n ≤ 12 ∧ 0 < size ∧ size ≤ 9999 ∧
  ∀ p H' (ds : List Int), Same H H' → H p = none → H' p = some (.lst (ds.map V.int)) → ds.length = n → (∀ d, d ∈ ds → 0 ≤ d ∧ d ≤ size) → at0 ds k = 0 → Q (.ref p) H'
theorem ok_law_row (T : Txt K mg) : FnOk P w K mg base CX0 2 T.f_law_row T.d_law_row ["cell", "shape", "payer", "count", "size"] (sp_law_row K) := by
  refine T.F_law_row.ok sc_law_row (fun vs H Q E h => ?_) (fun cdv A outer s H vs Q E hr h => ?_)
  · obtain ⟨cell, shape, k, n, size, rfl, _⟩ := h
    rfl
  · obtain ⟨cell, shape, k, n, size, rfl, hk, hn, hz0, hz1, q⟩ := h
    have G_law_draws : FnOk P w K mg base CX0 1 T.f_law_draws T.d_law_draws ["cell", "count", "size"] (sp_law_draws K) := ok_law_draws T
    refine ⟨_, (pss_cons (ps_set (i := 5) sc_law_row.nd rfl (Or.inl rfl) (pe_call G_law_draws hr (by rfl) T.m_law_draws T.F_law_draws.kp T.b_law_draws .nil pass0 (pa_cons (pv 0) (pa_cons (pv 3) (pa_cons (pe_op op_add (pv 4) pe_int) pa_nil)))))
    (C8.pss_cut (ps_if (pt_cmpR op_eq (pe_op op_mod (pe_callB call_abs (by rfl) T.z_abs (by decide +kernel) (pa_cons (pv 1) pa_nil)) pe_int) pe_int (nomark _))
      (pss_cons (ps_setLc (i := 5) (own := [("draw", 6)]) (g := gName 6) (tt := tYes) rfl sc_law_row.nd rfl rfl (sw_true rfl rfl rfl (by decide +kernel)) (pi_list (pv 5)) (blkOk_by (own := [("draw", 6)]) (N := N_law_row) (sc := defScope s_law_row) (by decide +kernel)) (fun _ _ _ _ _ => (pg_name (i := 6) sc_law_row.nd rfl (Or.inl rfl))) (fun _ _ _ _ _ => pts_nil) (fun _ _ _ _ _ => (pe_op op_mod (pe_callTy call_int_i (by rfl) T.z_int (by decide +kernel) (pa_cons (pv 6) pa_nil)) pe_int)))
      (pss_one (ps_asg (pv 4) (pg_sub (pv 5) (pe_op op_mod (pe_callTy call_int_i (by rfl) T.z_int (by decide +kernel) (pa_cons (pe_op op_add (pv 2) pe_int) pa_nil)) (pv 3)) set_list))))
      pss_nil)
    (C8.pss_cut (ps_if (pt_cmpR op_eq (pe_op op_mod (pe_callB call_abs (by rfl) T.z_abs (by decide +kernel) (pa_cons (pv 1) pa_nil)) pe_int) pe_int (nomark _))
      (pss_one (ps_setLc (i := 5) (own := [("draw", 6)]) (g := gName 6) (tt := tYes) rfl sc_law_row.nd rfl rfl (sw_true rfl rfl rfl (by decide +kernel)) (pi_list (pv 5)) (blkOk_by (own := [("draw", 6)]) (N := N_law_row) (sc := defScope s_law_row) (by decide +kernel)) (fun _ _ _ _ _ => (pg_name (i := 6) sc_law_row.nd rfl (Or.inl rfl))) (fun _ _ _ _ _ => pts_nil) (fun _ _ _ _ _ => (pe_op op_mul (pv 6) (pe_callTy call_int_b (by rfl) T.z_int (by decide +kernel) (pa_cons (pe_cmpR op_eq (pe_op op_mod (pv 6) pe_int) pe_int (nomark _)) pa_nil))))))
      pss_nil)
    (pss_cons (ps_asg pe_int (pg_sub (pv 5) (pv 2) set_list))
    (pss_one (ps_ret (pv 5))))))), ?_⟩
    walk_at "st"
    intro p H1 ds e1 np hp hl hb
    walk_at "st"
    obtain ⟨s, hs⟩ : ∃ s, (if shape < 0 then -shape else shape) = s := ⟨_, rfl⟩
    have hp1 : SqL K H1 p (ds.map V.int) := SqL.of hp
    refine ⟨fun σ' H' => ∃ (p : Addr) (ds : List Int), σ' = [some (.int cell), some (.int shape), some (.int (k : Int)), some (.int (n : Int)), some (.int size), some (.ref p), none] ∧ Same H H' ∧ H p = none ∧ H' p = some (.lst (ds.map V.int)) ∧ ds.length = n ∧ ∀ d, d ∈ ds → 0 ≤ d ∧ d ≤ size, ?_, ?_⟩
    · walk_at "st"
      refine iteB (fun _ => ?_) (fun _ => ?_)
      · walk_at "st"
        intro D nD
        refine lc_list (K := K) (a := p) (xs := ds.map V.int) (fun i H' => ∃ es : List Int, H' = upd H1 D (.lst (es.map V.int)) ∧ es.length = i ∧ ∀ d, d ∈ es → 0 ≤ d ∧ d ≤ size) ⟨[], rfl, rfl, fun _ h => by cases h⟩ (fun i H' _ ⟨es, e, _⟩ => by rw [e]; exact (same_upd nD).seq hp1) ?_ ?_
        · rintro i x H' hx ⟨es, rfl, le, be⟩
          obtain ⟨z, hz, rfl⟩ := ints_at hx
          have hi := (List.getElem?_eq_some_iff.mp hz).1
          have hm1 := Int.emod_nonneg z (by decide : (2 : Int) ≠ 0)
          have hm2 := Int.emod_lt_of_pos z (by decide : (0 : Int) < 2)
          refine ⟨rfl, ?_⟩
          walk_at "st"
          refine ⟨small1000 (by rw [List.length_map]; omega), es ++ [z % 2], ?_, by rw [List.length_append, le]; rfl, fun d hd => ?_⟩
          · rw [upd_upd, List.map_append]
            rfl
          · rcases List.mem_append.mp hd with hd | hd
            · exact be d hd
            · rw [List.mem_singleton.mp hd]
              omega
        · rintro H' ⟨es, rfl, le, be⟩
          rw [List.length_map, hl] at le
          obtain ⟨j, ej, hj⟩ : ∃ j : Nat, ((k : Int) + 1) % (n : Int) = (j : Int) ∧ j < n := by
            have h1 := Int.emod_nonneg ((k : Int) + 1) (by omega : (n : Int) ≠ 0)
            have h2 := Int.emod_lt_of_pos ((k : Int) + 1) (by omega : (0 : Int) < n)
            exact ⟨(((k : Int) + 1) % (n : Int)).toNat, by omega, by omega⟩
          walk_at "st"
          dsimp only
          rw [ej]
          have hj' : j < (es.map V.int).length := by rw [List.length_map, le]; exact hj
          refine ⟨ixN_nat hj', D, es.set j size, rfl, fun b o e => ?_, e1.free nD, ?_, by rw [List.length_set, le], fun d hd => ?_⟩
          · rw [upd_ne (ne_of_none e (e1.free nD)), upd_ne (ne_of_none e (e1.free nD))]
            exact e1 b o e
          · rw [upd_same, List.map_set]
          · rcases List.mem_or_eq_of_mem_set hd with hd | hd
            · exact be d hd
            · rw [hd]
              omega
      · exact ⟨p, ds, rfl, e1, np, hp, hl, fun d hd => by have := hb d hd; omega⟩
    · rintro σ' H' ⟨p, ds, rfl, e1, np, hp, hl, hb⟩
      refine ⟨fun σ' H' => ∃ (p : Addr) (ds : List Int), σ' = [some (.int cell), some (.int shape), some (.int (k : Int)), some (.int (n : Int)), some (.int size), some (.ref p), none] ∧ Same H H' ∧ H p = none ∧ H' p = some (.lst (ds.map V.int)) ∧ ds.length = n ∧ ∀ d, d ∈ ds → 0 ≤ d ∧ d ≤ size, ?_, ?_⟩
      · have hp1 : SqL K H' p (ds.map V.int) := SqL.of hp
        walk_at "st"
        refine iteB (fun _ => ?_) (fun _ => ?_)
        · walk_at "st"
          intro D nD
          refine lc_list (K := K) (a := p) (xs := ds.map V.int) (fun i H2 => ∃ es : List Int, H2 = upd H' D (.lst (es.map V.int)) ∧ es.length = i ∧ ∀ d, d ∈ es → 0 ≤ d ∧ d ≤ size) ⟨[], rfl, rfl, fun _ h => by cases h⟩ (fun i H2 _ ⟨es, e, _⟩ => by rw [e]; exact (same_upd nD).seq hp1) ?_ ?_
          · rintro i x H2 hx ⟨es, rfl, le, be⟩
            obtain ⟨z, hz, rfl⟩ := ints_at hx
            have hi := (List.getElem?_eq_some_iff.mp hz).1
            have hzb := hb z (List.mem_of_getElem? hz)
            refine ⟨rfl, ?_⟩
            walk_at "st"
            refine ⟨small1000 (by rw [List.length_map]; omega), es ++ [z * (if decide (V.int (z % 3) = V.int 1) = true then 1 else 0)], ?_, by rw [List.length_append, le]; rfl, fun d hd => ?_⟩
            · rw [upd_upd, List.map_append]
              rfl
            · rcases List.mem_append.mp hd with hd | hd
              · exact be d hd
              · rw [List.mem_singleton.mp hd]
                split
                · omega
                · omega
          · rintro H2 ⟨es, rfl, le, be⟩
            rw [List.length_map, hl] at le
            refine ⟨D, es, rfl, e1.trans (same_upd nD), e1.free nD, upd_same, le, be⟩
        · exact ⟨p, ds, rfl, e1, np, hp, hl, hb⟩
      · rintro σ' H' ⟨p, ds, rfl, e1, np, hp, hl, hb⟩
        have hp1 : SqL K H' p (ds.map V.int) := SqL.of hp
        have hk' : k < (ds.map V.int).length := by rw [List.length_map]; omega
        walk_at "st"
        refine ⟨ixN_nat hk', ?_⟩
        walk_at "st"
        refine q p _ (ds.set k 0) (fun b o e => ?_) np ?_ (by rw [List.length_set, hl]) (fun d hd => ?_) ?_
        · rw [upd_ne (ne_of_none e np)]
          exact e1 b o e
        · rw [upd_same, List.map_set]
        · rcases List.mem_or_eq_of_mem_set hd with hd | hd
          · exact hb d hd
          · rw [hd]
            omega
        · rw [at0_set (by omega), if_pos rfl]
def sp_law_market (K : PySem.W.Frag) : Sp := fun vs H Q _ => ∃ (a : Addr) (ns : List Int), vs = [.ref a] ∧ SqL K H a (ns.map V.int) ∧
  ∀ t H' ps n f, Same H H' → H t = none → Tab H' t ps n f → Debts n f 9999 → n ≤ 12 → Q (.ref t) H'
theorem ok_law_market (T : Txt K mg) : FnOk P w K mg base CX0 3 T.f_law_market T.d_law_market ["script"] (sp_law_market K) := by
  refine T.F_law_market.ok sc_law_market (fun vs H Q E h => ?_) (fun cdv A outer s H vs Q E hr h => ?_)
  · obtain ⟨a, ns, rfl, _⟩ := h
    rfl
  · obtain ⟨a, ns, rfl, hs, q⟩ := h
    have G_law_cell : FnOk P w K mg base CX0 1 T.f_law_cell T.d_law_cell ["script", "k"] (sp_law_cell K) := ok_law_cell T
    have G_law_market_size : FnOk P w K mg base CX0 1 T.f_law_market_size T.d_law_market_size ["shape"] (sp_law_market_size K) := ok_law_market_size T
    have G_law_row : FnOk P w K mg base CX0 2 T.f_law_row T.d_law_row ["cell", "shape", "payer", "count", "size"] (sp_law_row K) := ok_law_row T
    refine ⟨_, (pss_cons (ps_set (i := 1) sc_law_market.nd rfl (Or.inr rfl) (pe_call G_law_cell (hr.mono (by decide)) (by rfl) T.m_law_cell T.F_law_cell.kp T.b_law_cell .nil pass0 (pa_cons (pv 0) (pa_cons pe_int pa_nil))))
    (pss_cons (ps_asg (pe_call G_law_market_size (hr.mono (by decide)) (by rfl) T.m_law_market_size T.F_law_market_size.kp T.b_law_market_size .nil pass0 (pa_cons (pv 1) pa_nil)) (pg_tup rfl (pgs_cons (pg_name (i := 2) sc_law_market.nd rfl (Or.inr rfl)) (pgs_cons (pg_name (i := 3) sc_law_market.nd rfl (Or.inr rfl)) pgs_nil))))
    (pss_one (ps_ret (pe_lc (own := [("k", 4)]) (g := gName 4) (tt := tYes) rfl sc_law_market.nd (pi_range1 (by rfl) T.z_range (pa_cons (pv 2) pa_nil)) (blkOk_by (own := [("k", 4)]) (N := N_law_market) (sc := defScope s_law_market) (by decide +kernel)) (fun _ _ _ _ _ => (pg_name (i := 4) sc_law_market.nd rfl (Or.inl rfl))) (fun _ _ _ _ _ => pts_nil) (fun _ _ _ _ _ => (pe_call G_law_row hr (by rfl) T.m_law_row T.F_law_row.kp T.b_law_row .nil pass0 (pa_cons (pe_call G_law_cell (hr.mono (by decide)) (by rfl) T.m_law_cell T.F_law_cell.kp T.b_law_cell .nil pass0 (pa_cons (pv 0) (pa_cons (pe_op op_add pe_int (pv 4)) pa_nil))) (pa_cons (pv 1) (pa_cons (pv 4) (pa_cons (pv 2) (pa_cons (pv 3) pa_nil)))))))))))), ?_⟩
    walk_at "st"
    intro p H1 n size e1 np hp hn0 hn1 hz0 hz1
    have hp1 : SqT K H1 p [.int (n : Int), .int size] := SqT.of hp
    have hs1 := e1.seq hs
    walk_at "st"
    intro D nD
    refine lc_range (lo := 0) (n := (n : Int).toNat) (fun i H' => ∃ (_ : Unit) (ps : List Addr) (f : Nat → Nat → Int), TabR H' D ps i n f ∧ (∀ a, a < i → ∀ b, b < n → 0 ≤ f a b ∧ f a b ≤ 9999) ∧ (∀ a, a < i → f a a = 0) ∧ Same H1 H') ⟨(), [], fun _ _ => 0, .nil n _ upd_same, (fun a h => by omega), (fun a h => by omega), same_upd nD⟩ ?_ ?_
    · rintro i H' hi ⟨_, ps, f, ht, hb', hd, e2⟩
      have hs2 := e2.seq hs1
      have hi2 : i < n := by omega
      rw [show (0 : Int) + i = ((i : Nat) : Int) by omega]
      refine ⟨rfl, ?_⟩
      walk_at "st"
      intro p H2 ds e3 np hp hl hb2 hd2
      have hg : rowI n (at0 ds) = ds := by rw [← hl]; exact rowI_of ds
      have hlt : ∀ b, b < n → 0 ≤ at0 ds b ∧ at0 ds b ≤ 9999 := fun b hb => by
        have := hb2 _ (List.mem_of_getElem? (at0_lt (by omega : b < ds.length)))
        omega
      have ht' := TabR.push (ht.congr (g := fun a => if a = i then at0 ds else f a) fun a ha b hb => by rw [if_neg (by omega)]) e3 np (by rw [if_pos rfl, hg]; exact hp)
      refine ⟨_, e3 _ _ ht.lst, small1000 (by rw [List.length_map, ht.len]; omega), (), _, _, ht', fun a ha b hb => ?_, fun a ha => ?_, TabR.keep (e2.trans e3) nD⟩
      · by_cases h : a = i
        · rw [if_pos h]
          exact hlt b hb
        · rw [if_neg h]
          exact hb' a (by omega) b hb
      · by_cases h : a = i
        · rw [if_pos h, h]
          exact hd2
        · rw [if_neg h]
          exact hd a (by omega)
    · rintro H' ⟨_, ps, f, ht, hb, hd, e2⟩
      rw [Int.toNat_natCast] at ht hb hd
      refine q D H' ps n f (e1.trans e2) (e1.free nD) ht.tab ⟨hn0, by omega, hb, hd⟩ hn1

def sp_is_integral (K : PySem.W.Frag) : Sp := fun vs H Q _ => ∃ x : Int, vs = [.int x] ∧ Q (.bl true) H
theorem ok_is_integral (T : Txt K mg) : FnOk P w K mg base CX0 1 T.f_is_integral T.d_is_integral ["value"] (sp_is_integral K) := by
  refine T.F_is_integral.ok sc_is_integral (fun vs H Q E h => ?_) (fun cdv A outer s H vs Q E hr h => ?_)
  · obtain ⟨x, rfl, _⟩ := h
    rfl
  · obtain ⟨x, rfl, q⟩ := h
    refine ⟨_, (pss_one (ps_ret (pe_and (pe_callB call_isi (by rfl) T.z_isinstance (by decide +kernel) (pa_cons (pv 0) (pa_cons (pe_bltn (v := .ty "int") (u := .type "int") (by rfl) T.z_int (by decide +kernel) rfl) pa_nil))) (pe_one (pe_not (pe_callB call_isi (by rfl) T.z_isinstance (by decide +kernel) (pa_cons (pv 0) (pa_cons (pe_bltn (v := .ty "bool") (u := .type "bool") (by rfl) T.z_bool (by decide +kernel) rfl) pa_nil)))))))), ?_⟩
    refine ⟨_, rfl, ?_⟩
    refine ⟨_, _, _, _, true, rfl, .ty _, .base (.int _), kit_ty (by decide +kernel), ?_⟩
    refine ⟨true, rfl, iteT ?_⟩
    refine ⟨_, rfl, ?_⟩
    refine ⟨_, _, _, _, false, rfl, .ty _, .base (.int _), kit_ty (by decide +kernel), ?_⟩
    refine ⟨false, rfl, ?_⟩
    exact q
def sp_is_within (K : PySem.W.Frag) : Sp := fun vs H Q _ => ∃ a b x : Int, vs = [.int a, .int b, .int x] ∧ Q (.bl (decide (a ≤ x ∧ x ≤ b))) H
theorem ok_is_within (T : Txt K mg) : FnOk P w K mg base CX0 2 T.f_is_within T.d_is_within ["least", "most", "value"] (sp_is_within K) := by
  refine T.F_is_within.ok sc_is_within (fun vs H Q E h => ?_) (fun cdv A outer s H vs Q E hr h => ?_)
  · obtain ⟨a, b, x, rfl, _⟩ := h
    rfl
  · obtain ⟨a, b, x, rfl, q⟩ := h
    have G_is_integral : FnOk P w K mg base CX0 1 T.f_is_integral T.d_is_integral ["value"] (sp_is_integral K) := ok_is_integral T
    refine ⟨_, (pss_one (ps_ret (pe_and (pe_call G_is_integral hr (by rfl) T.m_is_integral T.F_is_integral.kp T.b_is_integral .nil pass0 (pa_cons (pv 2) pa_nil)) (pe_one (pe_chain op_le op_le (pv 0) (pv 2) (pv 1)))))), ?_⟩
    walk_at "st"
    refine iteB (fun h => ?_) (fun h => ?_)
    · walk_at "st"
      rw [show (decide (a ≤ x ∧ x ≤ b)) = decide (x ≤ b) from decide_eq_decide.mpr ⟨fun z => z.2, fun z => ⟨dec_t h, z⟩⟩] at q
      exact q
    · rw [decide_eq_false (fun z => dec_f h z.1)] at q
      exact q
def sp_check_debts (K : PySem.W.Frag) : Sp := fun vs H Q _ => ∃ (t : Addr) (ps : List Addr) (n : Nat) (f : Nat → Nat → Int), vs = [.ref t] ∧ Tab H t ps n f ∧ Debts n f 1000000000000000 ∧ ∀ H', Same H H' → Q .non H'
theorem ok_check_debts (T : Txt K mg) : FnOk P w K mg base CX0 3 T.f_check_debts T.d_check_debts ["owed"] (sp_check_debts K) := by
  refine T.F_check_debts.ok sc_check_debts (fun vs H Q E h => ?_) (fun cdv A outer s H vs Q E hr h => ?_)
  · obtain ⟨t, ps, n, f, rfl, _⟩ := h
    rfl
  · obtain ⟨t, ps, n, f, rfl, ht, hd, q⟩ := h
    have G_is_within : FnOk P w K mg base CX0 2 T.f_is_within T.d_is_within ["least", "most", "value"] (sp_is_within K) := ok_is_within T
    have l0 := hd.n0
    have l1 := hd.n1
    have hl := ht.len
    have hs : SqL K H t (ps.map V.ref) := SqL.of ht.lst
    refine ⟨_, (pss_cons (ps_if (pt_not (pt_chain op_le op_le pe_int (pe_callB call_len_seq (by rfl) T.z_len PySem.boot_len (pa_cons (pv 0) pa_nil)) (pe_glob (v := .int 13) rfl T.m_MOST_HOUSES ⟨_, rfl⟩)))
      (pss_one ps_never)
      pss_nil)
    (pss_one (ps_for PassesOwn.never rfl (pi_enum (by rfl) T.z_enumerate (pa_cons (pv 0) pa_nil)) (pg_tup rfl (pgs_cons (pg_name (i := 1) sc_check_debts.nd rfl (Or.inl rfl)) (pgs_cons (pg_name (i := 2) sc_check_debts.nd rfl (Or.inl rfl)) pgs_nil)))
      (pss_cons (ps_if (pt_cmpR op_ne (pe_callB call_len_seq (by rfl) T.z_len PySem.boot_len (pa_cons (pv 2) pa_nil)) (pe_callB call_len_seq (by rfl) T.z_len PySem.boot_len (pa_cons (pv 0) pa_nil)) (nomark _))
        (pss_one ps_never)
        pss_nil)
      (pss_cons (ps_if (pt_not (pt_val (pe_callB (cr_all rfl) (by rfl) T.z_all (by decide +kernel) (pa_cons (pe_lc (own := [("debt", 3)]) (g := gName 3) (tt := tYes) rfl sc_check_debts.nd (pi_list (pv 2)) (blkOk_by (own := [("debt", 3)]) (N := N_check_debts) (sc := defScope s_check_debts) (by decide +kernel)) (fun _ _ _ _ _ => (pg_name (i := 3) sc_check_debts.nd rfl (Or.inl rfl))) (fun _ _ _ _ _ => pts_nil) (fun _ _ _ _ _ => (pe_call G_is_within hr (by rfl) T.m_is_within T.F_is_within.kp T.b_is_within .nil pass0 (pa_cons pe_int (pa_cons (pe_glob (v := .int 1000000000000000) rfl T.m_MOST_DEBT ⟨_, rfl⟩) (pa_cons (pv 3) pa_nil)))))) pa_nil))))
        (pss_one ps_never)
        pss_nil)
      (pss_one (ps_if (pt_cmpR op_ne (pe_ix ix_list (pv 2) (pv 1) (fun _ _ => rfl)) pe_int (nomark _))
        (pss_one ps_never)
        pss_nil))))))), ?_⟩
    walk_at "st"
    refine iteB (fun _ => ?_) (fun h => absurd (dec_f h) (by rw [List.length_map]; omega))
    walk_at "st"
    refine iteB (fun h => absurd (ndec_t h) (by rw [List.length_map]; omega)) (fun _ => ?_)
    walk_at "st"
    refine for_enum (K := K) (a := t) (xs := ps.map V.ref) (fun i σ H' => ∃ v1 v2 : Option V, σ = [some (.ref t), v1, v2, none] ∧ Same H H') ⟨none, none, rfl, Same.refl H⟩ (fun i σ H' _ ⟨_, _, _, e⟩ => e.seq hs) ?_ ?_
    · rintro i x σ H' T hx ⟨v1, v2, rfl, e⟩ nT
      obtain ⟨p, hp, rfl⟩ := refs_at hx
      have hi := (List.getElem?_eq_some_iff.mp hp).1
      have eT := e.trans (same_upd (o := .tup [.int (i : Int), .ref p]) nT)
      have hrow : SqL K (upd H' T (.tup [.int (i : Int), .ref p])) p ((rowI n (f i)).map V.int) := eT.seq (SqL.of (ht.row i p hp))
      have hst := eT.seq hs
      have hT : upd H' T (.tup [.int (i : Int), .ref p]) T = some (.tup [.int (i : Int), .ref p]) := upd_same
      have hT2 : SqT K (upd H' T (.tup [.int (i : Int), .ref p])) T [.int (i : Int), .ref p] := SqT.of hT
      generalize upd H' T (.tup [.int (i : Int), .ref p]) = H2 at *
      walk_at "st"
      refine iteB (fun h => (ndec_t h (congrArg V.int (by rw [List.length_map, rowI_len, List.length_map, hl]))).elim) (fun _ => ?_)
      walk_at "st"
      intro D nD
      refine lc_list (K := K) (a := p) (xs := (rowI n (f i)).map V.int) (fun j H' => H' = upd H2 D (.lst ((List.replicate j true).map V.bl))) rfl (fun j H' _ e => by rw [e]; exact (same_upd nD).seq hrow) ?_ ?_
      · rintro j x H' hx rfl
        obtain ⟨z, hz', rfl⟩ := ints_at hx
        have hm := List.mem_of_getElem? hz'
        have hj := (List.getElem?_eq_some_iff.mp hz').1
        rw [rowI_len] at hj
        rw [rowI_at hj] at hz'
        cases hz'
        have hb := hd.b i (by omega) j hj
        refine ⟨rfl, ?_⟩
        walk_at "st"
        refine ⟨?_, ?_⟩
        · refine small1000 ?_
          rw [List.length_map, List.length_replicate]
          omega
        · rw [upd_upd, List.replicate_succ', List.map_append]
          have e0 : decide ((0 : Int) ≤ f i j ∧ f i j ≤ 1000000000000000) = true := decide_eq_true hb
          rw [e0]
          rfl
      · rintro H' rfl
        have sD := same_upd (o := .lst ((List.replicate ((rowI n (f i)).map V.int).length true).map V.bl)) nD
        have hs' := sD.seq hrow
        have at1 := atI_row (g := f i) (n := n) (i := i) (by omega)
        have e3 := eT.trans sD
        walk_at "st"
        refine ⟨List.replicate ((rowI n (f i)).map V.int).length true, rfl, .inl (.inl upd_same), ?_⟩
        have ea : (List.replicate ((rowI n (f i)).map V.int).length true).all id = true := by
          rw [List.all_eq_true]
          intro b hb
          exact List.eq_of_mem_replicate hb
        rw [ea]
        walk_at "st"
        refine iteB (fun h => (ndec_t h (congrArg V.int (hd.d i (by omega)))).elim) (fun _ => ?_)
        exact ⟨_, _, rfl, e3⟩
    · rintro σ H' ⟨v1, v2, rfl, e⟩
      exact q _ e
/-- what each house is owed less what it owes -/
def netF (n : Nat) (f : Nat → Nat → Int) (h : Nat) : Int := sumI n (fun a => f a h) - sumI n (f h)
def sp_net_amounts (K : PySem.W.Frag) : Sp := fun vs H Q _ => ∃ (t : Addr) (ps : List Addr) (n : Nat) (f : Nat → Nat → Int), vs = [.ref t] ∧ Tab H t ps n f ∧ Debts n f 1000000000000000 ∧ ∀ p H', Same H H' → H p = none → H' p = some (.lst ((rowI n (netF n f)).map V.int)) → Q (.ref p) H'
theorem ok_net_amounts (T : Txt K mg) : FnOk P w K mg base CX0 4 T.f_net_amounts T.d_net_amounts ["owed"] (sp_net_amounts K) := by
  refine T.F_net_amounts.ok sc_net_amounts (fun vs H Q E h => ?_) (fun cdv A outer s H vs Q E hr h => ?_)
  · obtain ⟨t, ps, n, f, rfl, _⟩ := h
    rfl
  · obtain ⟨t, ps, n, f, rfl, ht, hd, q⟩ := h
    have G_check_debts : FnOk P w K mg base CX0 3 T.f_check_debts T.d_check_debts ["owed"] (sp_check_debts K) := ok_check_debts T
    refine ⟨_, (pss_cons (ps_expr (pe_call G_check_debts hr (by rfl) T.m_check_debts T.F_check_debts.kp T.b_check_debts .nil pass0 (pa_cons (pv 0) pa_nil)))
    (pss_one (ps_ret (pe_lc (own := [("house", 2)]) (g := gName 2) (tt := tYes) rfl sc_net_amounts.nd (pi_range1 (by rfl) T.z_range (pa_cons (pe_callB call_len_seq (by rfl) T.z_len PySem.boot_len (pa_cons (pv 0) pa_nil)) pa_nil)) (blkOk_by (own := [("house", 2)]) (N := N_net_amounts) (sc := defScope s_net_amounts) (by decide +kernel)) (fun _ _ _ _ _ => (pg_name (i := 2) sc_net_amounts.nd rfl (Or.inr rfl))) (fun _ _ _ _ _ => pts_nil) (fun _ _ _ _ _ => (pe_op op_sub (pe_callB (show CallR _ (.builtin "sum") (rSum K) from (cr_sum rfl)) (by rfl) T.z_sum (by decide +kernel) (pa_cons (pe_lc (own := [("row", 1)]) (g := gName 1) (tt := tYes) rfl sc_net_amounts.nd (show PI _ _ _ (iList K _) from pi_list (pv 0)) (blkOk_by (own := [("row", 1)]) (N := N_net_amounts) (by show blkC _ (relS _ (defScope s_net_amounts)) _ _ = true; decide +kernel)) (fun _ _ _ _ _ => (pg_name (i := 1) sc_net_amounts.nd rfl (Or.inl rfl))) (fun _ _ _ _ _ => pts_nil) (fun _ _ _ _ _ => (pe_ix (show IxR _ (rIxL K) from ix_list) (pv 1) (pv 2) (fun _ _ => rfl)))) pa_nil)) (pe_callB (show CallR _ (.builtin "sum") (rSum K) from (cr_sum rfl)) (by rfl) T.z_sum (by decide +kernel) (pa_cons (pe_ix (show IxR _ (rIxL K) from ix_list) (pv 0) (pv 2) (fun _ _ => rfl)) pa_nil)))))))), ?_⟩
    walk_at "st"
    refine ⟨ps, n, f, rfl, ht, hd, fun H1 e1 => ?_⟩
    have ht1 := ht.same e1
    have hs1 : SqL K H1 t (ps.map V.ref) := SqL.of ht1.lst
    have hl := ht.len
    have hn := hd.n1
    walk_at "st"
    intro D nD
    refine lc_range (lo := 0) (n := (((ps.map V.ref).length : Nat) : Int).toNat) (fun i H' => H' D = some (.lst ((rowI i (netF n f)).map V.int)) ∧ Same H1 H') ⟨upd_same, same_upd nD⟩ ?_ ?_
    · rintro i H2 hi ⟨hD, e2⟩
      rw [List.length_map, hl] at hi
      have hi2 : i < n := by omega
      rw [show (0 : Int) + i = ((i : Nat) : Int) by omega]
      have hs2 := e2.seq hs1
      have ht2 := ht1.same e2
      refine ⟨rfl, ?_⟩
      walk_at "st"
      intro C nC
      refine lc_col ht2 (by omega) hi2 nC rfl (by decide) rfl ?_
      have e3 := same_upd (o := .lst ((rowI n fun a => f a i).map V.int)) nC
      have hC : SqL K (upd H2 C (.lst ((rowI n fun a => f a i).map V.int))) C ((rowI n fun a => f a i).map V.int) := SqL.of upd_same
      have ht3 := ht2.same e3
      have hs3 := e3.seq hs2
      have hD3 := e3 _ _ hD
      obtain ⟨r, hr1, hr2, hr3⟩ := ht3.at hi2
      have hr4 : SqL K (upd H2 C (.lst ((rowI n fun a => f a i).map V.int))) r ((rowI n (f i)).map V.int) := SqL.of hr3
      have e13 := e2.trans e3
      generalize upd H2 C (.lst ((rowI n fun a => f a i).map V.int)) = H3 at *
      walk_at "st"
      refine ⟨small1000 (by rw [List.length_map, rowI_len]; omega), ?_, TabR.keep e13 nD⟩
      rw [upd_same, rowI_succ, List.map_append]
      rfl
    · rintro H' ⟨hD, e2⟩
      rw [List.length_map, hl, Int.toNat_natCast] at hD
      exact q D H' (e1.trans e2) (e1.free nD) hD
/-- the two debts of a pair set off -/
def bilF (f : Nat → Nat → Int) (a b : Nat) : Int := if f a b - f b a > 0 then f a b - f b a else 0
theorem bilF_sub (f : Nat → Nat → Int) (a b : Nat) : bilF f a b - bilF f b a = f a b - f b a := by
  unfold bilF
  split <;> split <;> omega
theorem netF_eq (n : Nat) (f : Nat → Nat → Int) (h : Nat) : netF n f h = sumI n fun a => f a h - f h a := (sumI_sub n _ _).symm
theorem netF_bil (n : Nat) (f : Nat → Nat → Int) (h : Nat) : netF n (bilF f) h = netF n f h := by
  rw [netF_eq, netF_eq]
  exact sumI_congr fun a _ => bilF_sub f a h
theorem bilF_debts {n : Nat} {f : Nat → Nat → Int} {m : Int} (h : Debts n f m) : Debts n (bilF f) m := by
  refine ⟨h.n0, h.n1, fun i hi j hj => ?_, fun i hi => ?_⟩
  · have h1 := h.b i hi j hj
    have h2 := h.b j hj i hi
    unfold bilF
    split <;> omega
  · unfold bilF
    split <;> omega
def sp_bilateral (K : PySem.W.Frag) : Sp := fun vs H Q _ => ∃ (t : Addr) (ps : List Addr) (n : Nat) (f : Nat → Nat → Int), vs = [.ref t] ∧ Tab H t ps n f ∧ Debts n f 1000000000000000 ∧ ∀ t2 H' ps2, Same H H' → H t2 = none → Tab H' t2 ps2 n (bilF f) → Q (.ref t2) H'
theorem ok_bilateral (T : Txt K mg) : FnOk P w K mg base CX0 4 T.f_bilateral T.d_bilateral ["owed"] (sp_bilateral K) := by
  refine T.F_bilateral.ok sc_bilateral (fun vs H Q E h => ?_) (fun cdv A outer s H vs Q E hr h => ?_)
  · obtain ⟨t, ps, n, f, rfl, _⟩ := h
    rfl
  · obtain ⟨t, ps, n, f, rfl, ht, hd, q⟩ := h
    have G_check_debts : FnOk P w K mg base CX0 3 T.f_check_debts T.d_check_debts ["owed"] (sp_check_debts K) := ok_check_debts T
    refine ⟨_, (pss_cons (ps_expr (pe_call G_check_debts hr (by rfl) T.m_check_debts T.F_check_debts.kp T.b_check_debts .nil pass0 (pa_cons (pv 0) pa_nil)))
    (pss_cons (ps_set (i := 1) sc_bilateral.nd rfl (Or.inr rfl) (pe_callTy mk_rng (by rfl) T.z_range (by decide +kernel) (pa_cons (pe_callB call_len_seq (by rfl) T.z_len PySem.boot_len (pa_cons (pv 0) pa_nil)) pa_nil)))
    (pss_one (ps_ret (pe_lc (own := [("debtor", 3)]) (g := gName 3) (tt := tYes) rfl sc_bilateral.nd (pi_rng (pv 1)) (blkOk_by (own := [("debtor", 3)]) (N := N_bilateral) (sc := defScope s_bilateral) (by decide +kernel)) (fun _ _ _ _ _ => (pg_name (i := 3) sc_bilateral.nd rfl (Or.inr rfl))) (fun _ _ _ _ _ => pts_nil) (fun _ _ _ _ _ => (pe_lc (own := [("creditor", 2)]) (g := gName 2) (tt := tYes) rfl sc_bilateral.nd (pi_rng (pv 1)) (blkOk_by (own := [("creditor", 2)]) (N := N_bilateral) (by show blkC _ (relS _ (defScope s_bilateral)) _ _ = true; decide +kernel)) (fun _ _ _ _ _ => (pg_name (i := 2) sc_bilateral.nd rfl (Or.inl rfl))) (fun _ _ _ _ _ => pts_nil) (fun _ _ _ _ _ => (pe_callB (call_max2 rfl) (by rfl) T.z_max (by decide +kernel) (pa_cons pe_int (pa_cons (pe_op op_sub (pe_ix (show IxR _ (rIxL K) from ix_list) (pe_ix (show IxR _ (rIxL K) from ix_list) (pv 0) (pv 3) (fun _ _ => rfl)) (pv 2) (fun _ _ => rfl)) (pe_ix (show IxR _ (rIxL K) from ix_list) (pe_ix (show IxR _ (rIxL K) from ix_list) (pv 0) (pv 2) (fun _ _ => rfl)) (pv 3) (fun _ _ => rfl))) pa_nil))))))))))), ?_⟩
    walk_at "st"
    refine ⟨ps, n, f, rfl, ht, hd, fun H1 e1 => ?_⟩
    have ht1 := ht.same e1
    have hs1 : SqL K H1 t (ps.map V.ref) := SqL.of ht1.lst
    have hl := ht.len
    have hn := hd.n1
    walk_at "st"
    intro R nR
    have eR : upd H1 R (.rng 0 ((ps.map V.ref).length : Nat)) R = some (.rng 0 (n : Int)) := by rw [upd_same, List.length_map, hl]
    have s2 : Same H1 (upd H1 R (.rng 0 ((ps.map V.ref).length : Nat))) := same_upd nR
    generalize upd H1 R (.rng 0 ((ps.map V.ref).length : Nat)) = H2 at eR s2
    have ht2 := ht1.same s2
    have e02 := e1.trans s2
    walk_at "st"
    intro D nD
    refine lc_range (lo := 0) (n := n) (fun i H' => ∃ (_ : Unit) (qs : List Addr), TabR H' D qs i n (bilF f) ∧ Same H2 H') ⟨(), [], .nil n _ upd_same, same_upd nD⟩ ?_ ?_
    · rintro i H3 hi ⟨_, qs, hT, s3⟩
      rw [show (0 : Int) + i = ((i : Nat) : Int) by omega]
      refine ⟨rfl, ?_⟩
      have eR3 := s3 _ _ eR
      have ht3 := ht2.same s3
      walk_at "st"
      intro C nC
      refine lc_range (lo := 0) (n := n) (fun j H' => H' = upd H3 C (.lst ((rowI j (bilF f i)).map V.int))) rfl ?_ ?_
      · rintro j H4 hj rfl
        rw [show (0 : Int) + j = ((j : Nat) : Int) by omega]
        have ht4 := ht3.same (same_upd (o := .lst ((rowI j (bilF f i)).map V.int)) nC)
        have hs4 : SqL K (upd H3 C (.lst ((rowI j (bilF f i)).map V.int))) t (ps.map V.ref) := SqL.of ht4.lst
        obtain ⟨p1, g1, a1, r1⟩ := ht4.at hi
        obtain ⟨p2, g2, a2, r2⟩ := ht4.at hj
        have q1 : SqL K (upd H3 C (.lst ((rowI j (bilF f i)).map V.int))) p1 ((rowI n (f i)).map V.int) := SqL.of r1
        have q2 : SqL K (upd H3 C (.lst ((rowI j (bilF f i)).map V.int))) p2 ((rowI n (f j)).map V.int) := SqL.of r2
        have b1 := atI_row (g := f i) hj
        have b2 := atI_row (g := f j) hi
        refine ⟨rfl, ?_⟩
        walk_at "st"
        refine ⟨small1000 (by rw [List.length_map, rowI_len]; omega), ?_⟩
        rw [upd_upd, rowI_succ, List.map_append]
        rfl
      · rintro H4 rfl
        have hp := upd_same (H := H3) (a := C) (o := .lst ((rowI n (bilF f i)).map V.int))
        have s4 : Same H3 (upd H3 C (.lst ((rowI n (bilF f i)).map V.int))) := same_upd nC
        exact ⟨_, s4 _ _ hT.lst, small1000 (by rw [List.length_map, hT.len]; omega), (), _, hT.push s4 nC hp, TabR.keep (s3.trans s4) nD⟩
    · rintro H3 ⟨_, qs, hT, s3⟩
      exact q D H3 qs (e02.trans s3) (e02.free nD) hT.tab

def sp_law_table (K : PySem.W.Frag) : Sp := fun vs H Q _ => ∃ (t : Addr) (ps : List Addr) (n : Nat) (f : Nat → Nat → Int), vs = [.ref t, .int (n : Int)] ∧ Tab H t ps n f ∧ Q (.bl true) H
theorem ok_law_table (T : Txt K mg) : FnOk P w K mg base CX0 2 T.f_law_table T.d_law_table ["actual", "count"] (sp_law_table K) := by
  refine T.F_law_table.ok sc_law_table (fun vs H Q E h => ?_) (fun cdv A outer s H vs Q E hr h => ?_)
  · obtain ⟨t, ps, n, f, rfl, _⟩ := h
    rfl
  · obtain ⟨t, ps, n, f, rfl, ht, q⟩ := h
    have G_law_integers : FnOk P w K mg base CX0 1 T.f_law_integers T.d_law_integers ["actual", "count"] (sp_law_integers K) := ok_law_integers T
    have hs : SqL K H t (ps.map V.ref) := SqL.of ht.lst
    have hl := ht.len
    refine ⟨_, (pss_cons (ps_if (PW.pt (pw_or (pt_not (pt_val (pe_callB call_isi (by rfl) T.z_isinstance (by decide +kernel) (pa_cons (pv 0) (pa_cons (pe_bltn (v := .ty "list") (u := .type "list") (by rfl) T.z_list (by decide +kernel) rfl) pa_nil))))) (pw_or1 (pt_cmpR op_ne (pe_callB call_len_seq (by rfl) T.z_len PySem.boot_len (pa_cons (pv 0) pa_nil)) (pv 1) (nomark _)))))
      (pss_one (ps_ret pe_bl))
      pss_nil)
    (pss_cons (ps_for PassesOwn.never rfl (pi_list (pv 0)) (pg_name (i := 2) sc_law_table.nd rfl (Or.inl rfl))
      (pss_one (ps_if (pt_not (pt_val (pe_call G_law_integers hr (by rfl) T.m_law_integers T.F_law_integers.kp T.b_law_integers .nil pass0 (pa_cons (pv 2) (pa_cons (pv 1) pa_nil)))))
        (pss_one (ps_ret pe_bl))
        pss_nil)))
    (pss_one (ps_ret pe_bl)))), ?_⟩
    refine ⟨_, rfl, ?_⟩
    refine ⟨_, _, _, _, true, rfl, .ty _, .base (.lst ht.lst), kit_ty (by decide +kernel), ?_⟩
    refine ⟨_, rfl, iteF ?_⟩
    walk_at "st"
    refine iteB (fun h => (ndec_t h (congrArg V.int (by rw [List.length_map, hl]))).elim) (fun _ => ?_)
    walk_at "st"
    refine for_list (K := K) (a := t) (xs := ps.map V.ref) (fun i σ H' => (∃ v, σ = [some (.ref t), some (.int (n : Int)), v]) ∧ H' = H) ⟨⟨none, rfl⟩, rfl⟩ (fun i σ H' _ ⟨_, e⟩ => by rw [e]; exact hs) ?_ ?_
    · rintro i x σ H' hx ⟨⟨v, rfl⟩, rfl⟩
      obtain ⟨p, hp, rfl⟩ := refs_at hx
      have hr := ht.row i p hp
      walk_at "st"
      refine ⟨congrArg _ (rowI_len n (f i)), ?_⟩
      walk_at "st"
      exact ⟨⟨_, rfl⟩, rfl⟩
    · rintro σ H' ⟨⟨v, rfl⟩, rfl⟩
      exact q

def sp_law (K : PySem.W.Frag) : Sp := fun vs H Q _ => ∃ (a : Addr) (ns : List Int), vs = [.ref a] ∧ SqL K H a (ns.map V.int) ∧ ns.length ≤ 63 ∧ ∀ H', Q (.bl true) H'
theorem ok_law {f : Addr} {fd : FuncData} (T : Txt K mg) (F : Fun K "law" "law" s_law f fd) : FnOk P w K mg base CX0 5 f fd ["script"] (sp_law K) := by
  refine F.ok sc_law (fun vs H Q E h => ?_) (fun cdv A outer s H vs Q E hr h => ?_)
  · obtain ⟨a, ns, rfl, _⟩ := h
    rfl
  · obtain ⟨a, ns, rfl, hs, hlen, q⟩ := h
    have G_law_market : FnOk P w K mg base CX0 3 T.f_law_market T.d_law_market ["script"] (sp_law_market K) := ok_law_market T
    have G_net_amounts : FnOk P w K mg base CX0 4 T.f_net_amounts T.d_net_amounts ["owed"] (sp_net_amounts K) := ok_net_amounts T
    have G_bilateral : FnOk P w K mg base CX0 4 T.f_bilateral T.d_bilateral ["owed"] (sp_bilateral K) := ok_bilateral T
    have G_law_integers : FnOk P w K mg base CX0 1 T.f_law_integers T.d_law_integers ["actual", "count"] (sp_law_integers K) := ok_law_integers T
    have G_law_table : FnOk P w K mg base CX0 2 T.f_law_table T.d_law_table ["actual", "count"] (sp_law_table K) := ok_law_table T
    refine ⟨_, (pss_cons (ps_set (i := 1) sc_law.nd rfl (Or.inl rfl) (pe_call G_law_market (hr.mono (by decide)) (by rfl) T.m_law_market T.F_law_market.kp T.b_law_market .nil pass0 (pa_cons (pv 0) pa_nil)))
    (pss_cons (ps_set (i := 2) sc_law.nd rfl (Or.inl rfl) (pe_callB call_len_seq (by rfl) T.z_len PySem.boot_len (pa_cons (pv 1) pa_nil)))
    (pss_cons (ps_set (i := 3) sc_law.nd rfl (Or.inr rfl) (pe_lc (own := [("row", 4)]) (g := gName 4) (tt := tYes) rfl sc_law.nd (pi_list (pv 1)) (blkOk_by (own := [("row", 4)]) (N := N_law) (sc := defScope s_law) (by decide +kernel)) (fun _ _ _ _ _ => (pg_name (i := 4) sc_law.nd rfl (Or.inl rfl))) (fun _ _ _ _ _ => pts_nil) (fun _ _ _ _ _ => (pe_callTy (show CallR _ (.type "list") (rListOf K) from call_list_of) (by rfl) T.z_list (by decide +kernel) (pa_cons (pv 4) pa_nil)))))
    (pss_cons (ps_set (i := 5) sc_law.nd rfl (Or.inl rfl) (pe_call G_net_amounts hr (by rfl) T.m_net_amounts T.F_net_amounts.kp T.b_net_amounts .nil pass0 (pa_cons (pv 1) pa_nil)))
    (pss_cons (ps_set (i := 6) sc_law.nd rfl (Or.inl rfl) (pe_call G_bilateral hr (by rfl) T.m_bilateral T.F_bilateral.kp T.b_bilateral .nil pass0 (pa_cons (pv 1) pa_nil)))
    (pss_cons (ps_if (PW.pt (pw_or (pt_cmpR (op_neD hr.units) (pv 1) (pv 3) (nomark _)) (pw_or (pt_not (pt_val (pe_call G_law_integers (hr.mono (by decide)) (by rfl) T.m_law_integers T.F_law_integers.kp T.b_law_integers .nil pass0 (pa_cons (pv 5) (pa_cons (pv 2) pa_nil))))) (pw_or1 (pt_not (pt_val (pe_call G_law_table (hr.mono (by decide)) (by rfl) T.m_law_table T.F_law_table.kp T.b_law_table .nil pass0 (pa_cons (pv 6) (pa_cons (pv 2) pa_nil)))))))))
      (pss_one (ps_ret pe_bl))
      pss_nil)
    (pss_cons (ps_for PassesOwn.never rfl (pi_range1 (by rfl) T.z_range (pa_cons (pv 2) pa_nil)) (pg_name (i := 7) sc_law.nd rfl (Or.inr rfl))
      (pss_cons (ps_if (pt_cmpR op_ne (pe_ix ix_list (pv 5) (pv 7) (fun _ _ => rfl)) (pe_op op_sub (pe_callB (cr_sum rfl) (by rfl) T.z_sum (by decide +kernel) (pa_cons (pe_lc (own := [("b", 8)]) (g := gName 8) (tt := tYes) rfl sc_law.nd (pi_range1 (by rfl) T.z_range (pa_cons (pv 2) pa_nil)) (blkOk_by (own := [("b", 8)]) (N := N_law) (sc := defScope s_law) (by decide +kernel)) (fun _ _ _ _ _ => (pg_name (i := 8) sc_law.nd rfl (Or.inl rfl))) (fun _ _ _ _ _ => pts_nil) (fun _ _ _ _ _ => (pe_ix (show IxR _ (rIxL K) from ix_list) (pe_ix (show IxR _ (rIxL K) from ix_list) (pv 3) (pv 8) (fun _ _ => rfl)) (pv 7) (fun _ _ => rfl)))) pa_nil)) (pe_callB (cr_sum rfl) (by rfl) T.z_sum (by decide +kernel) (pa_cons (pe_ix ix_list (pv 3) (pv 7) (fun _ _ => rfl)) pa_nil))) (nomark _))
        (pss_one (ps_ret pe_bl))
        pss_nil)
      (pss_one (ps_for PassesOwn.never rfl (pi_range1 (by rfl) T.z_range (pa_cons (pv 2) pa_nil)) (pg_name (i := 8) sc_law.nd rfl (Or.inl rfl))
        (pss_cons (ps_if (PW.pt (pw_or (pt_cmpR op_lt (pe_ix ix_list (pe_ix ix_list (pv 6) (pv 7) (fun _ _ => rfl)) (pv 8) (fun _ _ => rfl)) pe_int (nomark _)) (pw_or1 (PW.pt (pw_and (pt_cmpR op_gt (pe_ix ix_list (pe_ix ix_list (pv 6) (pv 7) (fun _ _ => rfl)) (pv 8) (fun _ _ => rfl)) pe_int (nomark _)) (pw_and1 (pt_cmpR op_gt (pe_ix ix_list (pe_ix ix_list (pv 6) (pv 8) (fun _ _ => rfl)) (pv 7) (fun _ _ => rfl)) pe_int (nomark _))))))))
          (pss_one (ps_ret pe_bl))
          pss_nil)
        (pss_one (ps_if (pt_cmpR op_ne (pe_op op_sub (pe_ix ix_list (pe_ix ix_list (pv 6) (pv 7) (fun _ _ => rfl)) (pv 8) (fun _ _ => rfl)) (pe_ix ix_list (pe_ix ix_list (pv 6) (pv 8) (fun _ _ => rfl)) (pv 7) (fun _ _ => rfl))) (pe_op op_sub (pe_ix ix_list (pe_ix ix_list (pv 3) (pv 7) (fun _ _ => rfl)) (pv 8) (fun _ _ => rfl)) (pe_ix ix_list (pe_ix ix_list (pv 3) (pv 8) (fun _ _ => rfl)) (pv 7) (fun _ _ => rfl))) (nomark _))
          (pss_one (ps_ret pe_bl))
          pss_nil)))))))
    (pss_one (ps_ret (pe_cmpR (op_eqD hr.units) (pe_call G_net_amounts hr (by rfl) T.m_net_amounts T.F_net_amounts.kp T.b_net_amounts .nil pass0 (pa_cons (pv 6) pa_nil)) (pv 5) (nomark _))))))))))), ?_⟩
    walk_at "st"
    intro t H1 ps n f e1 nt ht hd hn
    have hs1 : SqL K H1 t (ps.map V.ref) := SqL.of ht.lst
    have hl := ht.len
    walk_at "st"
    intro D nD
    refine lc_list (K := K) (a := t) (xs := ps.map V.ref) (fun i H' => ∃ (_ : Unit) (qs : List Addr), TabR H' D qs i n f ∧ Same H1 H') ⟨(), [], .nil n _ upd_same, same_upd nD⟩ (fun i H' _ ⟨_, _, _, e⟩ => e.seq hs1) ?_ ?_
    · rintro i x H2 hx ⟨_, qs, hT, e2⟩
      obtain ⟨p, hp, rfl⟩ := refs_at hx
      have hi := (List.getElem?_eq_some_iff.mp hp).1
      have hr : SqL K H2 p ((rowI n (f i)).map V.int) := e2.seq (SqL.of (ht.row i p hp))
      refine ⟨rfl, ?_⟩
      walk_at "st"
      intro l nl
      have hp2 := upd_same (H := H2) (a := l) (o := .lst ((rowI n (f i)).map V.int))
      have s2 : Same H2 (upd H2 l (.lst ((rowI n (f i)).map V.int))) := same_upd nl
      exact ⟨_, s2 _ _ hT.lst, small1000 (by rw [List.length_map, hT.len]; omega), (), _, hT.push s2 nl hp2, TabR.keep (e2.trans s2) nD⟩
    · rintro H2 ⟨_, qs, hT, e2⟩
      rw [List.length_map, hl] at hT
      have hk := hT.tab
      have ht2 := ht.same e2
      have nD2 : H D = none := e1.free nD
      walk_at "st"
      refine ⟨ps, n, f, rfl, ht2, hd.mono (by decide), fun p1 H3 e3 np1 hp1 => ?_⟩
      have ht3 := ht2.same e3
      have hk3 := hk.same e3
      walk_at "st"
      refine ⟨ps, n, f, rfl, ht3, hd.mono (by decide), fun t2 H4 rs e4 nt2 hb => ?_⟩
      have ht4 := ht3.same e4
      have hk4 := hk3.same e4
      have hp4 := e4 _ _ hp1
      walk_at "st"
      refine neL layD_tab (by decide) (fun _ _ _ _ => trivial) (fun _ _ _ _ => trivial) ht4.dp hk4.dp ?_
      refine ⟨_, rfl, iteB (fun h => (ndec_t h rfl).elim) (fun _ => ?_)⟩
      walk_at "st"
      refine ⟨by rw [rowI_len, List.length_map, hl], ?_⟩
      walk_at "st"
      refine ⟨rs, n, bilF f, show [V.ref t2, V.int ((ps.map V.ref).length : Nat)] = [V.ref t2, V.int (n : Int)] by rw [List.length_map, hl], hb, ?_⟩
      walk_at "st"
      refine for_range (lo := 0) (n := (((ps.map V.ref).length : Nat) : Int).toNat) (fun i σ H' => (∃ (v7 v8 : Option V), σ = [some (.ref a), some (.ref t), some (.int ((ps.map V.ref).length : Nat)), some (.ref D), none, some (.ref p1), some (.ref t2), v7, v8]) ∧ Same H4 H') ⟨⟨none, none, rfl⟩, Same.refl _⟩ ?_ ?_
      · rintro i σ H5 hi ⟨⟨v7, v8, rfl⟩, e5⟩
        rw [List.length_map, hl] at hi
        have hi2 : i < n := by omega
        rw [show (0 : Int) + i = ((i : Nat) : Int) by omega]
        have hp5 : SqL K H5 p1 ((rowI n (netF n f)).map V.int) := SqL.of (e5 _ _ hp4)
        have hk5 := hk4.same e5
        have a1 := atI_row (g := netF n f) hi2
        have hm : ((((ps.map V.ref).length : Nat) : Int)).toNat = n := by rw [List.length_map, hl, Int.toNat_natCast]
        walk_at "st"
        intro C nC
        refine lc_colR hk5 (by omega) hi2 nC hm rfl (by decide) (by decide) rfl rfl ?_
        have hC : SqL K (upd H5 C (.lst ((rowI n fun a => f a i).map V.int))) C ((rowI n fun a => f a i).map V.int) := SqL.of upd_same
        have e6 := same_upd (o := .lst ((rowI n fun a => f a i).map V.int)) nC
        have e46 := e5.trans e6
        generalize upd H5 C (.lst ((rowI n fun a => f a i).map V.int)) = H6 at *
        have hp6 : SqL K H6 p1 ((rowI n (netF n f)).map V.int) := e6.seq hp5
        have hk6 := hk5.same e6
        have hb6 := hb.same e46
        obtain ⟨r, hr1, hr2, hr3⟩ := hk6.at hi2
        have hr4 : SqL K H6 r ((rowI n (f i)).map V.int) := SqL.of hr3
        have hD6 : SqL K H6 D (qs.map V.ref) := SqL.of hk6.lst
        walk_at "st"
        refine iteB (fun h => (ndec_t h rfl).elim) (fun _ => ?_)
        have hT6 : SqL K H6 t2 (rs.map V.ref) := SqL.of hb6.lst
        walk_at "st"
        refine for_range (lo := 0) (n := (((ps.map V.ref).length : Nat) : Int).toNat) (fun j σ H' => (∃ v8 : Option V, σ = [some (.ref a), some (.ref t), some (.int ((ps.map V.ref).length : Nat)), some (.ref D), none, some (.ref p1), some (.ref t2), some (.int (i : Int)), v8]) ∧ H' = H6) ⟨⟨_, rfl⟩, rfl⟩ ?_ ?_
        · rintro j σ H7 hj ⟨⟨v8, rfl⟩, rfl⟩
          have hj2 : j < n := by omega
          rw [show (0 : Int) + j = ((j : Nat) : Int) by omega]
          obtain ⟨x1, hx1, hx2, hx3⟩ := hb6.at hi2
          obtain ⟨y1, hy1, hy2, hy3⟩ := hb6.at hj2
          obtain ⟨z1, hz1, hz2, hz3⟩ := hk6.at hj2
          have hx4 : SqL K H7 x1 ((rowI n (bilF f i)).map V.int) := SqL.of hx3
          have hy4 : SqL K H7 y1 ((rowI n (bilF f j)).map V.int) := SqL.of hy3
          have hz4 : SqL K H7 z1 ((rowI n (f j)).map V.int) := SqL.of hz3
          have c1 := atI_row (g := bilF f i) hj2
          have c2 := atI_row (g := bilF f j) hi2
          have c3 := atI_row (g := f i) hj2
          have c4 := atI_row (g := f j) hi2
          have hbd := bilF_debts hd
          have w1 := hbd.b i hi2 j hj2
          have w2 : bilF f i j > 0 → bilF f j i > 0 → False := fun u v => by
            unfold bilF at u v
            split at u <;> split at v <;> omega
          have w3 := bilF_sub f i j
          walk_at "st"
          refine iteB (fun h => absurd (dec_t h) (by omega)) (fun _ => ?_)
          walk_at "st"
          refine iteB (fun h => ?_) (fun h => ?_)
          · have u1 := dec_t h
            walk_at "st"
            refine iteB (fun h => (w2 u1 (dec_t h)).elim) (fun h => ?_)
            walk_at "st"
            refine iteB (fun h => (ndec_t h (congrArg V.int w3)).elim) (fun _ => ?_)
            exact ⟨⟨_, rfl⟩, rfl⟩
          · walk_at "st"
            refine iteB (fun h => (ndec_t h (congrArg V.int w3)).elim) (fun _ => ?_)
            exact ⟨⟨_, rfl⟩, rfl⟩
        · rintro σ H7 ⟨⟨v8, rfl⟩, rfl⟩
          exact ⟨⟨_, _, rfl⟩, e46⟩
      · rintro σ H5 ⟨⟨v7, v8, rfl⟩, e5⟩
        walk_at "st"
        refine ⟨rs, n, bilF f, rfl, hb.same e5, (bilF_debts hd).mono (by decide), fun p2 H6 e6 np2 hp6 => ?_⟩
        have hp61 := e6 _ _ (e5 _ _ hp4)
        refine ⟨_, rfl, ?_⟩
        refine eqD_ints (SqL.of hp6) (SqL.of hp61) ?_
        rw [decide_eq_true (rowI_eq.mpr fun h _ => netF_bil n f h)]
        exact q _
end
set_option maxHeartbeats 0 in
theorem all_mk {l : PySem.W.OpenLaw} {w : World} {K : PySem.W.Frag} {h : Heap} {mg : Str → Option Value} {fa f1 f2 f3 f4 f5 f6 f7 f8 f9 f10 f11 f12 f13 : Addr} (X : K.In h) (G : h.Ns mainGlobals mg) (hfa : mg "law" = some (.ref fa))
    {c_BourseError c_InvalidTrade : Addr}
    {od1 an1 od2 an2 od3 an3 od4 an4 od5 an5 od6 an6 od7 an7 od8 an8 od9 an9 od10 an10 od11 an11 od12 an12 od13 an13 : Option Addr} {sl1 sl2 sl3 sl4 sl5 sl6 sl7 sl8 sl9 sl10 sl11 sl12 sl13 : Array (Option Value)} {oc1 kV1 dc1 pm1 cd1 ct1 oc2 kV2 dc2 pm2 cd2 ct2 oc3 kV3 dc3 pm3 cd3 ct3 oc4 kV4 dc4 pm4 cd4 ct4 oc5 kV5 dc5 pm5 cd5 ct5 oc6 kV6 dc6 pm6 cd6 ct6 oc7 kV7 dc7 pm7 cd7 ct7 oc8 kV8 dc8 pm8 cd8 ct8 oc9 kV9 dc9 pm9 cd9 ct9 oc10 kV10 dc10 pm10 cd10 ct10 oc11 kV11 dc11 pm11 cd11 ct11 oc12 kV12 dc12 pm12 cd12 ct12 oc13 kV13 dc13 pm13 cd13 ct13 : Value}
    (a1 : PySem.W.nsIn K mainGlobals "is_integral" = some (some (.ref f1)))
    (l1 : K.lookup f1 = some ⟨oc1, od1, .func (PySem.W.fnOf "is_integral" "is_integral" (defArgs s_is_integral) (defBody s_is_integral) (defScope s_is_integral) .none kV1 dc1 pm1 an1 cd1 ct1), sl1⟩) (c1 : PySem.W.codeIn K cd1 "is_integral" = true) (k1 : PySem.W.keepIn K (.ref f1) = true)
    (a2 : PySem.W.nsIn K mainGlobals "is_within" = some (some (.ref f2)))
    (l2 : K.lookup f2 = some ⟨oc2, od2, .func (PySem.W.fnOf "is_within" "is_within" (defArgs s_is_within) (defBody s_is_within) (defScope s_is_within) .none kV2 dc2 pm2 an2 cd2 ct2), sl2⟩) (c2 : PySem.W.codeIn K cd2 "is_within" = true) (k2 : PySem.W.keepIn K (.ref f2) = true)
    (a3 : PySem.W.nsIn K mainGlobals "check_debts" = some (some (.ref f3)))
    (l3 : K.lookup f3 = some ⟨oc3, od3, .func (PySem.W.fnOf "check_debts" "check_debts" (defArgs s_check_debts) (defBody s_check_debts) (defScope s_check_debts) .none kV3 dc3 pm3 an3 cd3 ct3), sl3⟩) (c3 : PySem.W.codeIn K cd3 "check_debts" = true) (k3 : PySem.W.keepIn K (.ref f3) = true)
    (a4 : PySem.W.nsIn K mainGlobals "net_amounts" = some (some (.ref f4)))
    (l4 : K.lookup f4 = some ⟨oc4, od4, .func (PySem.W.fnOf "net_amounts" "net_amounts" (defArgs s_net_amounts) (defBody s_net_amounts) (defScope s_net_amounts) .none kV4 dc4 pm4 an4 cd4 ct4), sl4⟩) (c4 : PySem.W.codeIn K cd4 "net_amounts" = true) (k4 : PySem.W.keepIn K (.ref f4) = true)
    (a5 : PySem.W.nsIn K mainGlobals "bilateral" = some (some (.ref f5)))
    (l5 : K.lookup f5 = some ⟨oc5, od5, .func (PySem.W.fnOf "bilateral" "bilateral" (defArgs s_bilateral) (defBody s_bilateral) (defScope s_bilateral) .none kV5 dc5 pm5 an5 cd5 ct5), sl5⟩) (c5 : PySem.W.codeIn K cd5 "bilateral" = true) (k5 : PySem.W.keepIn K (.ref f5) = true)
    (a6 : PySem.W.nsIn K mainGlobals "_law_cell" = some (some (.ref f6)))
    (l6 : K.lookup f6 = some ⟨oc6, od6, .func (PySem.W.fnOf "_law_cell" "_law_cell" (defArgs s_law_cell) (defBody s_law_cell) (defScope s_law_cell) .none kV6 dc6 pm6 an6 cd6 ct6), sl6⟩) (c6 : PySem.W.codeIn K cd6 "_law_cell" = true) (k6 : PySem.W.keepIn K (.ref f6) = true)
    (a7 : PySem.W.nsIn K mainGlobals "_law_draws" = some (some (.ref f7)))
    (l7 : K.lookup f7 = some ⟨oc7, od7, .func (PySem.W.fnOf "_law_draws" "_law_draws" (defArgs s_law_draws) (defBody s_law_draws) (defScope s_law_draws) .none kV7 dc7 pm7 an7 cd7 ct7), sl7⟩) (c7 : PySem.W.codeIn K cd7 "_law_draws" = true) (k7 : PySem.W.keepIn K (.ref f7) = true)
    (a8 : PySem.W.nsIn K mainGlobals "_law_integers" = some (some (.ref f8)))
    (l8 : K.lookup f8 = some ⟨oc8, od8, .func (PySem.W.fnOf "_law_integers" "_law_integers" (defArgs s_law_integers) (defBody s_law_integers) (defScope s_law_integers) .none kV8 dc8 pm8 an8 cd8 ct8), sl8⟩) (c8 : PySem.W.codeIn K cd8 "_law_integers" = true) (k8 : PySem.W.keepIn K (.ref f8) = true)
    (a9 : PySem.W.nsIn K mainGlobals "_law_table" = some (some (.ref f9)))
    (l9 : K.lookup f9 = some ⟨oc9, od9, .func (PySem.W.fnOf "_law_table" "_law_table" (defArgs s_law_table) (defBody s_law_table) (defScope s_law_table) .none kV9 dc9 pm9 an9 cd9 ct9), sl9⟩) (c9 : PySem.W.codeIn K cd9 "_law_table" = true) (k9 : PySem.W.keepIn K (.ref f9) = true)
    (a10 : PySem.W.nsIn K mainGlobals "_law_market_size" = some (some (.ref f10)))
    (l10 : K.lookup f10 = some ⟨oc10, od10, .func (PySem.W.fnOf "_law_market_size" "_law_market_size" (defArgs s_law_market_size) (defBody s_law_market_size) (defScope s_law_market_size) .none kV10 dc10 pm10 an10 cd10 ct10), sl10⟩) (c10 : PySem.W.codeIn K cd10 "_law_market_size" = true) (k10 : PySem.W.keepIn K (.ref f10) = true)
    (a11 : PySem.W.nsIn K mainGlobals "_law_row" = some (some (.ref f11)))
    (l11 : K.lookup f11 = some ⟨oc11, od11, .func (PySem.W.fnOf "_law_row" "_law_row" (defArgs s_law_row) (defBody s_law_row) (defScope s_law_row) .none kV11 dc11 pm11 an11 cd11 ct11), sl11⟩) (c11 : PySem.W.codeIn K cd11 "_law_row" = true) (k11 : PySem.W.keepIn K (.ref f11) = true)
    (a12 : PySem.W.nsIn K mainGlobals "_law_market" = some (some (.ref f12)))
    (l12 : K.lookup f12 = some ⟨oc12, od12, .func (PySem.W.fnOf "_law_market" "_law_market" (defArgs s_law_market) (defBody s_law_market) (defScope s_law_market) .none kV12 dc12 pm12 an12 cd12 ct12), sl12⟩) (c12 : PySem.W.codeIn K cd12 "_law_market" = true) (k12 : PySem.W.keepIn K (.ref f12) = true)
    (a13 : PySem.W.nsIn K mainGlobals "law" = some (some (.ref f13)))
    (l13 : K.lookup f13 = some ⟨oc13, od13, .func (PySem.W.fnOf "law" "law" (defArgs s_law) (defBody s_law) (defScope s_law) .none kV13 dc13 pm13 an13 cd13 ct13), sl13⟩) (c13 : PySem.W.codeIn K cd13 "law" = true) (k13 : PySem.W.keepIn K (.ref f13) = true)
    (z_abs : PySem.W.nsIn K mainGlobals "abs" = some none)
    (z_all : PySem.W.nsIn K mainGlobals "all" = some none)
    (z_bool : PySem.W.nsIn K mainGlobals "bool" = some none)
    (z_enumerate : PySem.W.nsIn K mainGlobals "enumerate" = some none)
    (z_int : PySem.W.nsIn K mainGlobals "int" = some none)
    (z_isinstance : PySem.W.nsIn K mainGlobals "isinstance" = some none)
    (z_len : PySem.W.nsIn K mainGlobals "len" = some none)
    (z_list : PySem.W.nsIn K mainGlobals "list" = some none)
    (z_max : PySem.W.nsIn K mainGlobals "max" = some none)
    (z_range : PySem.W.nsIn K mainGlobals "range" = some none)
    (z_sum : PySem.W.nsIn K mainGlobals "sum" = some none)
    {t_MOST_HOUSES t_MOST_DEBT : Tok}
    (v_MOST_HOUSES : PySem.W.nsIn K mainGlobals "MOST_HOUSES" = some (some (.int 13 t_MOST_HOUSES)))
    (v_MOST_DEBT : PySem.W.nsIn K mainGlobals "MOST_DEBT" = some (some (.int 1000000000000000 t_MOST_DEBT)))
    (g_BourseError : PySem.W.nsIn K mainGlobals "BourseError" = some (some (.ref c_BourseError)))
    (g_InvalidTrade : PySem.W.nsIn K mainGlobals "InvalidTrade" = some (some (.ref c_InvalidTrade))) :
    ∃ fd : FuncData, (∀ (s : Shared) (v : Value), BindsTo s fd ⟨[v], []⟩ [("script", v)]) ∧ ∀ base : Heap, K.In base → base.Ns mainGlobals mg → FnOk l.prog w K mg base CX0 5 fa fd ["script"] (sp_law K) := by
  have e := hfa.symm.trans (PySem.W.mg_of X G a13)
  cases e
  have F1 := fun_mk (st := s_is_integral) l1 c1 k1
  have b1 := F1.binds (ps := ["value"]) fun _ _ _ _ _ _ us hl => match us, hl with | [_], _ => rfl
  have F2 := fun_mk (st := s_is_within) l2 c2 k2
  have b2 := F2.binds (ps := ["least", "most", "value"]) fun _ _ _ _ _ _ us hl => match us, hl with | [_, _, _], _ => rfl
  have F3 := fun_mk (st := s_check_debts) l3 c3 k3
  have b3 := F3.binds (ps := ["owed"]) fun _ _ _ _ _ _ us hl => match us, hl with | [_], _ => rfl
  have F4 := fun_mk (st := s_net_amounts) l4 c4 k4
  have b4 := F4.binds (ps := ["owed"]) fun _ _ _ _ _ _ us hl => match us, hl with | [_], _ => rfl
  have F5 := fun_mk (st := s_bilateral) l5 c5 k5
  have b5 := F5.binds (ps := ["owed"]) fun _ _ _ _ _ _ us hl => match us, hl with | [_], _ => rfl
  have F6 := fun_mk (st := s_law_cell) l6 c6 k6
  have b6 := F6.binds (ps := ["script", "k"]) fun _ _ _ _ _ _ us hl => match us, hl with | [_, _], _ => rfl
  have F7 := fun_mk (st := s_law_draws) l7 c7 k7
  have b7 := F7.binds (ps := ["cell", "count", "size"]) fun _ _ _ _ _ _ us hl => match us, hl with | [_, _, _], _ => rfl
  have F8 := fun_mk (st := s_law_integers) l8 c8 k8
  have b8 := F8.binds (ps := ["actual", "count"]) fun _ _ _ _ _ _ us hl => match us, hl with | [_, _], _ => rfl
  have F9 := fun_mk (st := s_law_table) l9 c9 k9
  have b9 := F9.binds (ps := ["actual", "count"]) fun _ _ _ _ _ _ us hl => match us, hl with | [_, _], _ => rfl
  have F10 := fun_mk (st := s_law_market_size) l10 c10 k10
  have b10 := F10.binds (ps := ["shape"]) fun _ _ _ _ _ _ us hl => match us, hl with | [_], _ => rfl
  have F11 := fun_mk (st := s_law_row) l11 c11 k11
  have b11 := F11.binds (ps := ["cell", "shape", "payer", "count", "size"]) fun _ _ _ _ _ _ us hl => match us, hl with | [_, _, _, _, _], _ => rfl
  have F12 := fun_mk (st := s_law_market) l12 c12 k12
  have b12 := F12.binds (ps := ["script"]) fun _ _ _ _ _ _ us hl => match us, hl with | [_], _ => rfl
  have F13 := fun_mk (st := s_law) l13 c13 k13
  have b13 := F13.binds (ps := ["script"]) fun _ _ _ _ _ _ us hl => match us, hl with | [_], _ => rfl
  have T : Txt K mg := ⟨f1, _, F1, PySem.W.mg_of X G a1, b1, f2, _, F2, PySem.W.mg_of X G a2, b2, f3, _, F3, PySem.W.mg_of X G a3, b3, f4, _, F4, PySem.W.mg_of X G a4, b4, f5, _, F5, PySem.W.mg_of X G a5, b5, f6, _, F6, PySem.W.mg_of X G a6, b6, f7, _, F7, PySem.W.mg_of X G a7, b7, f8, _, F8, PySem.W.mg_of X G a8, b8, f9, _, F9, PySem.W.mg_of X G a9, b9, f10, _, F10, PySem.W.mg_of X G a10, b10, f11, _, F11, PySem.W.mg_of X G a11, b11, f12, _, F12, PySem.W.mg_of X G a12, b12, c_BourseError, PySem.W.mg_of X G g_BourseError, c_InvalidTrade, PySem.W.mg_of X G g_InvalidTrade, PySem.W.mg_none_of X G z_abs, PySem.W.mg_none_of X G z_all, PySem.W.mg_none_of X G z_bool, PySem.W.mg_none_of X G z_enumerate, PySem.W.mg_none_of X G z_int, PySem.W.mg_none_of X G z_isinstance, PySem.W.mg_none_of X G z_len, PySem.W.mg_none_of X G z_list, PySem.W.mg_none_of X G z_max, PySem.W.mg_none_of X G z_range, PySem.W.mg_none_of X G z_sum, t_MOST_HOUSES, PySem.W.mg_of X G v_MOST_HOUSES, t_MOST_DEBT, PySem.W.mg_of X G v_MOST_DEBT⟩
  exact ⟨PySem.W.fnOf "law" "law" (defArgs s_law) (defBody s_law) (defScope s_law) .none kV13 dc13 pm13 an13 cd13 ct13, fun s v => .of_eq rfl, fun base _ _ => ok_law T F13⟩
end FB
open PySem PySem.W PyProof.Rows
set_option maxRecDepth 100000 in
set_option maxHeartbeats 0 in
theorem PySem.Challenge.cw_fairbourse_k42_debts_of_pairs_holds : PySem.Challenge.rw_fairbourse_k42_debts_of_pairs.Holds := by
  w_on; o_law; k_head; (case hw => w_witness2)
  k_fill
  refine L2.walk_of (l := PySem.Challenge.rw_fairbourse_k42_debts_of_pairs) (n := 63) (k := 5) (x := "script") (CX := fun _ => L2.CX0) (sp := fun w => FB.sp_law _) rfl (by decide) rfl ⟨rfl, by decide, by decide⟩ (fun w h Y => PySem.W.kIn_of Y) ?F (fun _ _ a ns hl _ hS => ⟨a, ns, rfl, hS, hl, fun _ => rfl⟩) (fun _ _ _ _ _ h => h)
  case F =>
    intro w mg fa h KX G hmg
    refine' FB.all_mk KX G hmg ?a1 ?l1 ?c1 ?k1 ?a2 ?l2 ?c2 ?k2 ?a3 ?l3 ?c3 ?k3 ?a4 ?l4 ?c4 ?k4 ?a5 ?l5 ?c5 ?k5 ?a6 ?l6 ?c6 ?k6 ?a7 ?l7 ?c7 ?k7 ?a8 ?l8 ?c8 ?k8 ?a9 ?l9 ?c9 ?k9 ?a10 ?l10 ?c10 ?k10 ?a11 ?l11 ?c11 ?k11 ?a12 ?l12 ?c12 ?k12 ?a13 ?l13 ?c13 ?k13 ?z_abs ?z_all ?z_bool ?z_enumerate ?z_int ?z_isinstance ?z_len ?z_list ?z_max ?z_range ?z_sum ?v_MOST_HOUSES ?v_MOST_DEBT ?g_BourseError ?g_InvalidTrade
    (case g_BourseError => k_is)
    (case g_InvalidTrade => k_is)
    (case a1 => k_is)
    (case l1 => k_is)
    (case c1 => k_is)
    (case k1 => k_is)
    (case a2 => k_is)
    (case l2 => k_is)
    (case c2 => k_is)
    (case k2 => k_is)
    (case a3 => k_is)
    (case l3 => k_is)
    (case c3 => k_is)
    (case k3 => k_is)
    (case a4 => k_is)
    (case l4 => k_is)
    (case c4 => k_is)
    (case k4 => k_is)
    (case a5 => k_is)
    (case l5 => k_is)
    (case c5 => k_is)
    (case k5 => k_is)
    (case a6 => k_is)
    (case l6 => k_is)
    (case c6 => k_is)
    (case k6 => k_is)
    (case a7 => k_is)
    (case l7 => k_is)
    (case c7 => k_is)
    (case k7 => k_is)
    (case a8 => k_is)
    (case l8 => k_is)
    (case c8 => k_is)
    (case k8 => k_is)
    (case a9 => k_is)
    (case l9 => k_is)
    (case c9 => k_is)
    (case k9 => k_is)
    (case a10 => k_is)
    (case l10 => k_is)
    (case c10 => k_is)
    (case k10 => k_is)
    (case a11 => k_is)
    (case l11 => k_is)
    (case c11 => k_is)
    (case k11 => k_is)
    (case a12 => k_is)
    (case l12 => k_is)
    (case c12 => k_is)
    (case k12 => k_is)
    (case a13 => k_is)
    (case l13 => k_is)
    (case c13 => k_is)
    (case k13 => k_is)
    (case z_abs => k_is)
    (case z_all => k_is)
    (case z_bool => k_is)
    (case z_enumerate => k_is)
    (case z_int => k_is)
    (case z_isinstance => k_is)
    (case z_len => k_is)
    (case z_list => k_is)
    (case z_max => k_is)
    (case z_range => k_is)
    (case z_sum => k_is)
    (case v_MOST_HOUSES => k_is)
    (case v_MOST_DEBT => k_is)
#print axioms PySem.Challenge.cw_fairbourse_k42_debts_of_pairs_holds
