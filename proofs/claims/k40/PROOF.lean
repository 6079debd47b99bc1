import PyProof.Rows.All
import Wide.All
import OpenK.AllK
import Wide.FinOn
import HandS.ForMost
import HandS.Defaults
import HandS.IsInst
import HandS.Wide
import HandS.Codes
import HandS.More
import PySem.Challenge.RW_fairbourse_k40_nets_of_trades
set_option Elab.async false
set_option linter.all false
set_option maxRecDepth 100000
namespace FB
open PySem PySem.Spec PyProof.Rows L2
def topS (i : Nat) : Stmt := PySem.Challenge.pw_fairbourse_k40_nets_of_trades.main.body.getD i (.Pass ⟨0, 0, 0, 0⟩)
abbrev s_is_integral : Stmt := topS 4
abbrev N_is_integral : List Str := ["value"]
theorem sc_is_integral : FnScope N_is_integral ["value"] (defScope s_is_integral) := ⟨rfl, rfl, rfl, by decide +kernel, rfl, by decide +kernel, by decide +kernel⟩
abbrev s_nets : Stmt := topS 6
abbrev N_nets : List Str := ["trades", "units", "cents", "buyer", "seller", "bought", "paid", "house"]
theorem sc_nets : FnScope N_nets ["trades"] (defScope s_nets) := ⟨rfl, rfl, rfl, by decide +kernel, rfl, by decide +kernel, by decide +kernel⟩
abbrev s_check_trades : Stmt := topS 7
abbrev N_check_trades : List Str := ["trades", "buyer", "seller", "units", "cents"]
theorem sc_check_trades : FnScope N_check_trades ["trades"] (defScope s_check_trades) := ⟨rfl, rfl, rfl, by decide +kernel, rfl, by decide +kernel, by decide +kernel⟩
abbrev s_law_cell : Stmt := topS 9
abbrev N_law_cell : List Str := ["script", "k"]
theorem sc_law_cell : FnScope N_law_cell ["script", "k"] (defScope s_law_cell) := ⟨rfl, rfl, rfl, by decide +kernel, rfl, by decide +kernel, by decide +kernel⟩
abbrev s_law_draws : Stmt := topS 10
abbrev N_law_draws : List Str := ["cell", "count", "size", "draws", "rest", "k"]
theorem sc_law_draws : FnScope N_law_draws ["cell", "count", "size"] (defScope s_law_draws) := ⟨rfl, rfl, rfl, by decide +kernel, rfl, by decide +kernel, by decide +kernel⟩
abbrev s_law_is_integer : Stmt := topS 11
abbrev N_law_is_integer : List Str := ["actual"]
theorem sc_law_is_integer : FnScope N_law_is_integer ["actual"] (defScope s_law_is_integer) := ⟨rfl, rfl, rfl, by decide +kernel, rfl, by decide +kernel, by decide +kernel⟩
abbrev s_law_trade : Stmt := topS 12
abbrev N_law_trade : List Str := ["cell", "names", "draws", "buyer", "seller", "units"]
theorem sc_law_trade : FnScope N_law_trade ["cell", "names"] (defScope s_law_trade) := ⟨rfl, rfl, rfl, by decide +kernel, rfl, by decide +kernel, by decide +kernel⟩
abbrev s_law_names : Stmt := topS 13
abbrev N_law_names : List Str := ["cell", "names", "draw", "letters", "name"]
theorem sc_law_names : FnScope N_law_names ["cell"] (defScope s_law_names) := ⟨rfl, rfl, rfl, by decide +kernel, rfl, by decide +kernel, by decide +kernel⟩
abbrev s_law : Stmt := topS 14
abbrev N_law : List Str := ["script", "names", "trades", "cell", "actual", "at", "name", "bought", "trade", "sold", "cents"]
theorem sc_law : FnScope N_law ["script"] (defScope s_law) := ⟨rfl, rfl, rfl, by decide +kernel, rfl, by decide +kernel, by decide +kernel⟩
structure Txt (K : PySem.W.Frag) (mg : Str → Option Value) where
  f_is_integral : Addr
  d_is_integral : FuncData
  F_is_integral : Fun K "is_integral" "is_integral" s_is_integral f_is_integral d_is_integral
  m_is_integral : mg "is_integral" = some (.ref f_is_integral)
  b_is_integral : Binds K d_is_integral ["value"] []
  f_nets : Addr
  d_nets : FuncData
  F_nets : Fun K "nets" "nets" s_nets f_nets d_nets
  m_nets : mg "nets" = some (.ref f_nets)
  b_nets : Binds K d_nets ["trades"] []
  f_check_trades : Addr
  d_check_trades : FuncData
  F_check_trades : Fun K "_check_trades" "_check_trades" s_check_trades f_check_trades d_check_trades
  m_check_trades : mg "_check_trades" = some (.ref f_check_trades)
  b_check_trades : Binds K d_check_trades ["trades"] []
  f_law_cell : Addr
  d_law_cell : FuncData
  F_law_cell : Fun K "_law_cell" "_law_cell" s_law_cell f_law_cell d_law_cell
  m_law_cell : mg "_law_cell" = some (.ref f_law_cell)
  b_law_cell : Binds K d_law_cell ["script", "k"] []
  f_law_draws : Addr
  d_law_draws : FuncData
  F_law_draws : Fun K "_law_draws" "_law_draws" s_law_draws f_law_draws d_law_draws
  m_law_draws : mg "_law_draws" = some (.ref f_law_draws)
  b_law_draws : Binds K d_law_draws ["cell", "count", "size"] []
  f_law_is_integer : Addr
  d_law_is_integer : FuncData
  F_law_is_integer : Fun K "_law_is_integer" "_law_is_integer" s_law_is_integer f_law_is_integer d_law_is_integer
  m_law_is_integer : mg "_law_is_integer" = some (.ref f_law_is_integer)
  b_law_is_integer : Binds K d_law_is_integer ["actual"] []
  f_law_trade : Addr
  d_law_trade : FuncData
  F_law_trade : Fun K "_law_trade" "_law_trade" s_law_trade f_law_trade d_law_trade
  m_law_trade : mg "_law_trade" = some (.ref f_law_trade)
  b_law_trade : Binds K d_law_trade ["cell", "names"] []
  f_law_names : Addr
  d_law_names : FuncData
  F_law_names : Fun K "_law_names" "_law_names" s_law_names f_law_names d_law_names
  m_law_names : mg "_law_names" = some (.ref f_law_names)
  b_law_names : Binds K d_law_names ["cell"] []
  c_BourseError : Addr
  m_BourseError : mg "BourseError" = some (.ref c_BourseError)
  c_InvalidTrade : Addr
  m_InvalidTrade : mg "InvalidTrade" = some (.ref c_InvalidTrade)
  z_abs : mg "abs" = none
  z_bool : mg "bool" = none
  z_int : mg "int" = none
  z_isinstance : mg "isinstance" = none
  z_len : mg "len" = none
  z_list : mg "list" = none
  z_range : mg "range" = none
  z_sorted : mg "sorted" = none
  z_sum : mg "sum" = none
  z_tuple : mg "tuple" = none
/-! own short words -/
theorem iteD {p A B : Prop} [Decidable p] (h1 : p → A) (h2 : ¬ p → B) : if decide p = true then A else B := by
  by_cases h : p
  · rw [decide_eq_true h, if_pos rfl]; exact h1 h
  · rw [decide_eq_false h, if_neg Bool.false_ne_true]; exact h2 h
theorem iteDN {p A B : Prop} [Decidable p] (h1 : ¬ p → A) (h2 : p → B) : if (!decide p) = true then A else B := by
  by_cases h : p
  · rw [decide_eq_true h]; exact iteF (h2 h)
  · rw [decide_eq_false h]; exact iteT (h1 h)
theorem len_le {n : Nat} (h : Nat.ble n 1000 = true) : n ≤ sizeLine := Nat.le_trans (Nat.le_of_ble_eq_true h) (by decide)
theorem iteB {b : Bool} {A B : Prop} (h1 : b = true → A) (h2 : b = false → B) : if b = true then A else B := by
  cases b with
  | true => exact iteT (h1 rfl)
  | false => exact iteF (h2 rfl)
theorem cmul_l {i j : Int} (h : -(2 ^ 64) < i) (h' : i < 2 ^ 64) : CMul i j := .inl ⟨h, h'⟩
theorem cmul_r {i j : Int} (h : -(2 ^ 64) < j) (h' : j < 2 ^ 64) : CMul i j := .inr ⟨h, h'⟩
theorem dec_t {p : Prop} [Decidable p] (h : decide p = true) : p := of_decide_eq_true h
theorem dec_f {p : Prop} [Decidable p] (h : decide p = false) : ¬ p := of_decide_eq_false h
theorem ndec_t {p : Prop} [Decidable p] (h : (!decide p) = true) : ¬ p := fun q => by rw [decide_eq_true q] at h; cases h
theorem ndec_f {p : Prop} [Decidable p] (h : (!decide p) = false) : p := by
  by_cases q : p
  · exact q
  · rw [decide_eq_false q] at h; cases h
theorem fld_lt {n : Nat} (h : Nat.ble (n + 1) 1000 = true) : n < 1000 := Nat.le_of_ble_eq_true h
def rLen (K : PySem.W.Frag) : List V → Hp → VK → Prop := fun xs H Q => ∃ p ys, xs = [.ref p] ∧ (SqL K H p ys ∨ SqT K H p ys) ∧ Q (.int ys.length) H
def rListOf (K : PySem.W.Frag) : List V → Hp → VK → Prop := fun xs H Q => ∃ p ys, xs = [.ref p] ∧ (SqL K H p ys ∨ SqT K H p ys) ∧ ∀ l, H l = none → Q (.ref l) (upd H l (.lst ys))
def rTupleOf (K : PySem.W.Frag) : List V → Hp → VK → Prop := fun xs H Q => ∃ p ys, xs = [.ref p] ∧ ((SqL K H p ys ∧ ∀ l, H l = none → Q (.ref l) (upd H l (.tup ys))) ∨ (SqT K H p ys ∧ Q (.ref p) H))
theorem len0 : ([] : List V).length ≤ sizeLine := len_le rfl
theorem len1 {a : V} : [a].length ≤ sizeLine := len_le rfl
theorem len2 {a b : V} : [a, b].length ≤ sizeLine := len_le rfl
theorem len3 {a b c : V} : [a, b, c].length ≤ sizeLine := len_le rfl
theorem len4 {a b c d : V} : [a, b, c, d].length ≤ sizeLine := len_le rfl
theorem len5 {a b c d e : V} : [a, b, c, d, e].length ≤ sizeLine := len_le rfl
local macro_rules | `(tactic| walk_at "st") => `(tactic| repeat (first
  | (apply Exists.intro (α := V))
  | (apply Exists.intro (α := Int))
  | (apply Exists.intro (α := Bool))
  | (apply Exists.intro (α := Addr))
  | (apply Exists.intro (α := List V))
  | (apply Exists.intro (α := List Int))
  | (apply Exists.intro (α := List (Str × V)))
  | (apply Exists.intro (α := Str))
  | (apply And.intro; focus (first | omega | (dsimp only; omega) | (simp only [List.length_map, List.length_replicate]; omega) | exact rfl | assumption | exact SqL.of (by assumption) | exact Or.inl (by assumption) | exact Or.inr (by assumption) | exact Or.inr (SqT.of (by assumption)) | exact Or.inl (Or.inl upd_same) | exact Or.inl (Or.inl (Or.inl upd_same)) | (with_reducible exact len0) | (with_reducible exact len1) | (with_reducible exact len2) | (with_reducible exact len3) | (with_reducible exact len4) | (with_reducible exact len5) | exact upd_same | exact ⟨_, Or.inl (Or.inl upd_same)⟩ | exact ⟨_, SqL.of (by assumption)⟩ | exact ⟨_, by assumption⟩ | exact Or.inl ⟨rfl, _, SqL.of (by assumption)⟩ | exact Or.inl ⟨rfl, _, SqL.of upd_same⟩ | exact cmul_l (by omega) (by omega) | exact cmul_r (by omega) (by omega) | exact ⟨by omega, by omega⟩ | (simp only [List.length_map, List.length_replicate]; omega) | exact Or.inl (SqL.of (by assumption)) | exact SqT.of (by assumption) | exact fld_lt rfl))))
/-- the script's cell at j, 0 where there is none -/
def cellOf (ns : List Int) (j : Nat) : Int := ns.getD j 0
theorem atI_ints {ns : List Int} {j : Nat} (h : j < ns.length) : atI (ns.map V.int) (j : Int) = some (.int (cellOf ns j)) := by
  refine at_of (j := j) rfl ?_
  rw [List.getElem?_map, List.getElem?_eq_getElem h]
  unfold cellOf
  rw [List.getD_eq_getElem?_getD, List.getElem?_eq_getElem h]
  rfl
theorem cellOf_out {ns : List Int} {j : Nat} (h : ¬ j < ns.length) : cellOf ns j = 0 := by
  unfold cellOf
  rw [List.getD_eq_getElem?_getD, List.getElem?_eq_none (by omega)]
  rfl
theorem same_upd {H : Hp} {p : Addr} {o : HO} (h : H p = none) : Same H (upd H p o) := fun b x e => by
  rw [upd_ne (ne_of_none e h)]
  exact e
/-- a slice of a list of ints -/
def cutI (ns : List Int) (lo hi : Option Int) : List Int := (ns.drop (HT.sIx ns.length 0 lo)).take (HT.sIx ns.length ns.length hi - HT.sIx ns.length 0 lo)
theorem cutV_ints (ns : List Int) (lo hi : Option Int) : cutV (ns.map V.int) lo hi = (cutI ns lo hi).map V.int := by
  unfold cutV cutI
  rw [List.length_map, List.map_take, List.map_drop]
theorem cutI_len (ns : List Int) (lo hi : Option Int) : (cutI ns lo hi).length ≤ ns.length := by
  unfold cutI
  rw [List.length_take, List.length_drop]
  omega
theorem ints_at {ns : List Int} {i : Nat} {x : V} (h : (ns.map V.int)[i]? = some x) : ∃ z, ns[i]? = some z ∧ x = V.int z := by
  rw [List.getElem?_map] at h
  cases e : ns[i]? with
  | none => rw [e] at h; cases h
  | some z => rw [e] at h; exact ⟨z, rfl, (Option.some.inj h).symm⟩
theorem take_succ {α : Type} {xs : List α} {i : Nat} {x : α} (h : xs[i]? = some x) : xs.take (i + 1) = xs.take i ++ [x] := by
  rw [List.take_add_one, h]
  rfl
theorem sum_le_mul : ∀ (ws : List Int) (b : Int), (∀ w, w ∈ ws → w ≤ b) → ws.sum ≤ (ws.length : Int) * b
  | [], b, _ => by show (0 : Int) ≤ ((0 : Nat) : Int) * b; omega
  | w :: ws, b, h => by
    rw [List.sum_cons, List.length_cons, Int.natCast_add, Int.add_mul]
    have h1 := h w List.mem_cons_self
    have h2 := sum_le_mul ws b fun x hx => h x (List.mem_cons_of_mem _ hx)
    omega
theorem ixN_nat {n j : Nat} (h : j < n) : ixN n (j : Int) = some j := by
  unfold ixN
  rw [if_pos (by omega), if_pos (by omega), Int.toNat_natCast]
theorem call_int_i {X : Cx} : CallR X (.type "int") (fun xs H Q => ∃ i : Int, xs = [.int i] ∧ Q (.int i) H) := by
  intro pins s σ H xs us Q I r h
  obtain ⟨i, e, q⟩ := h
  exact call_int1 pins s σ H xs us Q I r (.inl ⟨i, e, q⟩)
theorem dpAll_ints {K : PySem.W.Frag} {H : Hp} : ∀ xs : List Int, DpAll K H (xs.map V.int) (xs.map PyData.int)
  | [] => .nil
  | x :: xs => .cons (.int x) (dpAll_ints xs)
theorem eqvAll_ints : ∀ xs ys : List Int, PyData.eqvAll (xs.map PyData.int) (ys.map PyData.int) = decide (xs = ys)
  | [], [] => by simp [PyData.eqvAll]
  | [], _ :: _ => by simp [PyData.eqvAll]
  | _ :: _, [] => by simp [PyData.eqvAll]
  | x :: xs, y :: ys => by
    rw [List.map_cons, List.map_cons]
    simp only [PyData.eqvAll, PyData.eqv]
    rw [eqvAll_ints xs ys]
    by_cases h : x = y <;> by_cases h2 : xs = ys <;> simp [h, h2]
theorem lay_ints : ∀ xs : List Int, PyData.canLayAll0 (xs.map PyData.int) = true
  | [] => rfl
  | x :: xs => by
    rw [List.map_cons]
    simp only [PyData.canLayAll0, PyData.canLay0, Bool.true_and]
    exact lay_ints xs
theorem depth_ints : ∀ xs : List Int, PyData.depthAll (xs.map PyData.int) = 0
  | [] => rfl
  | x :: xs => by
    rw [List.map_cons]
    simp only [PyData.depthAll, PyData.depth, depth_ints xs]
    rfl
theorem shaped_ints (xs : List Int) : SeqAt.shaped (.list (xs.map PyData.int)) = true := by
  unfold SeqAt.shaped
  simp only [PyData.canLay0, PyData.depth, lay_ints, depth_ints]
  rfl
theorem eqD_ints {K : PySem.W.Frag} {H : Hp} {a b : Addr} {xs ys : List Int} {Q : VK} (h1 : SqL K H a (xs.map V.int)) (h2 : SqL K H b (ys.map V.int)) (q : Q (.bl (decide (xs = ys))) H) : rEqD K (.ref a) (.ref b) H Q :=
  ⟨_, _, .lst h1 (dpAll_ints xs), .lst h2 (dpAll_ints ys), shaped_ints xs, shaped_ints ys, by rw [show PyData.eqv (.list (xs.map PyData.int)) (.list (ys.map PyData.int)) = decide (xs = ys) by simp only [PyData.eqv, eqvAll_ints]]; exact q⟩
theorem neD_ints {K : PySem.W.Frag} {H : Hp} {a b : Addr} {xs ys : List Int} {Q : VK} (h1 : SqL K H a (xs.map V.int)) (h2 : SqL K H b (ys.map V.int)) (q : Q (.bl (!decide (xs = ys))) H) : rNeD K (.ref a) (.ref b) H Q :=
  ⟨_, _, .lst h1 (dpAll_ints xs), .lst h2 (dpAll_ints ys), shaped_ints xs, shaped_ints ys, by rw [show PyData.eqv (.list (xs.map PyData.int)) (.list (ys.map PyData.int)) = decide (xs = ys) by simp only [PyData.eqv, eqvAll_ints]]; exact q⟩

def at0 (ws : List Int) (i : Nat) : Int := ws.getD i 0
theorem at0_lt {ws : List Int} {i : Nat} (h : i < ws.length) : ws[i]? = some (at0 ws i) := by
  unfold at0
  rw [List.getD_eq_getElem?_getD, List.getElem?_eq_getElem h]
  rfl
theorem atI_n {ws : List Int} {j : Nat} (h : j < ws.length) : atI (ws.map V.int) (j : Int) = some (.int (at0 ws j)) := by
  refine at_of (j := j) rfl ?_
  rw [List.getElem?_map, at0_lt h]
  rfl
theorem at0_of {ws : List Int} {i : Nat} {x : Int} (h : ws[i]? = some x) : at0 ws i = x := by
  unfold at0
  rw [List.getD_eq_getElem?_getD, h]
  rfl
theorem at0_out {ws : List Int} {i : Nat} (h : ws.length ≤ i) : at0 ws i = 0 := by
  unfold at0
  rw [List.getD_eq_getElem?_getD, List.getElem?_eq_none h]
  rfl
theorem at0_ext {xs ys : List Int} (hl : xs.length = ys.length) (h : ∀ i, i < xs.length → at0 xs i = at0 ys i) : xs = ys := by
  refine List.ext_getElem? fun i => ?_
  by_cases hi : i < xs.length
  · rw [at0_lt hi, at0_lt (by omega), h i hi]
  · rw [List.getElem?_eq_none (by omega), List.getElem?_eq_none (by omega)]
theorem at0_set {ps : List Int} {k i : Nat} {x : Int} (hk : k < ps.length) : at0 (ps.set k x) i = if i = k then x else at0 ps i := by
  by_cases h : i = k
  · subst h
    rw [if_pos rfl]
    exact at0_of (List.getElem?_set_self hk)
  · rw [if_neg h]
    unfold at0
    rw [List.getD_eq_getElem?_getD, List.getD_eq_getElem?_getD, List.getElem?_set_ne (fun e => h e.symm)]
theorem at0_nonneg {ws : List Int} (h : ∀ w, w ∈ ws → 0 ≤ w) (i : Nat) : 0 ≤ at0 ws i := by
  by_cases hi : i < ws.length
  · exact h _ (List.mem_of_getElem? (at0_lt hi))
  · rw [at0_out (by omega)]; exact Int.le_refl 0

/-- how items of one kind are told as data; equal data are equal items -/
structure LayD {α : Type} [DecidableEq α] (L : α → PyData) (k : Nat) (G : α → Prop) : Prop where
  lay : ∀ x, G x → (L x).canLay0 = true
  dep : ∀ x, (L x).depth ≤ k
  eqv : ∀ x y, PyData.eqv (L x) (L y) = decide (x = y)
theorem LayD.shaped {α : Type} [DecidableEq α] {L : α → PyData} {k : Nat} {G : α → Prop} (h : LayD L k G) (hk : k ≤ 64) {x : α} (g : G x) : SeqAt.shaped (L x) = true := by
  have h1 := h.lay x g
  have h2 := h.dep x
  unfold SeqAt.shaped
  rw [h1, Bool.true_and]
  exact decide_eq_true (by omega)
theorem layD_int : LayD PyData.int 0 (fun _ => True) := ⟨fun _ _ => rfl, fun _ => Nat.le_refl _, fun x y => by simp only [PyData.eqv]; exact (Bool.beq_eq_decide_eq x y)⟩
theorem layD_str : LayD PyData.str 0 (fun x => PyData.strOk x = true) := ⟨fun _ h => by simp only [PyData.canLay0]; exact h, fun _ => Nat.le_refl _, fun x y => by simp only [PyData.eqv]; exact (Bool.beq_eq_decide_eq x y)⟩
theorem decide_and2 {p q r : Prop} [Decidable p] [Decidable q] [Decidable r] (h : r ↔ p ∧ q) : (decide p && decide q) = decide r := by
  by_cases hp : p <;> by_cases hq : q <;> simp [h, hp, hq]
theorem layD_all {α : Type} [DecidableEq α] {L : α → PyData} {k : Nat} {G : α → Prop} (h : LayD L k G) : (∀ xs : List α, (∀ x, x ∈ xs → G x) → PyData.canLayAll0 (xs.map L) = true) ∧ (∀ xs : List α, PyData.depthAll (xs.map L) ≤ k) ∧ ∀ xs ys : List α, PyData.eqvAll (xs.map L) (ys.map L) = decide (xs = ys) := by
  refine ⟨fun xs => ?_, fun xs => ?_, fun xs => ?_⟩
  · induction xs with
    | nil => exact fun _ => rfl
    | cons x xs ih =>
      intro g
      rw [List.map_cons]
      simp only [PyData.canLayAll0, ih fun y hy => g y (List.mem_cons_of_mem _ hy), h.lay x (g x List.mem_cons_self)]
      rfl
  · induction xs with
    | nil => exact Nat.zero_le _
    | cons x xs ih => rw [List.map_cons]; simp only [PyData.depthAll]; exact Nat.max_le.mpr ⟨h.dep x, ih⟩
  · induction xs with
    | nil =>
      intro ys
      cases ys with
      | nil => rfl
      | cons y ys => simp [PyData.eqvAll]
    | cons x xs ih =>
      intro ys
      cases ys with
      | nil => simp [PyData.eqvAll]
      | cons y ys =>
        rw [List.map_cons, List.map_cons]
        simp only [PyData.eqvAll]
        rw [ih ys, h.eqv x y]
        exact decide_and2 (by rw [List.cons.injEq])
theorem LayD.list {α : Type} [DecidableEq α] {L : α → PyData} {k : Nat} {G : α → Prop} (h : LayD L k G) : LayD (fun xs : List α => PyData.list (xs.map L)) (k + 1) (fun xs => ∀ x, x ∈ xs → G x) := by
  obtain ⟨h1, h2, h3⟩ := layD_all h
  refine ⟨fun xs g => ?_, fun xs => ?_, fun xs ys => ?_⟩
  · simp only [PyData.canLay0]; exact h1 xs g
  · simp only [PyData.depth]; exact Nat.succ_le_succ (h2 xs)
  · simp only [PyData.eqv]; exact h3 xs ys
theorem LayD.tup2 {α β : Type} [DecidableEq α] [DecidableEq β] {L : α → PyData} {M : β → PyData} {k : Nat} {G : α → Prop} {G2 : β → Prop} (h : LayD L k G) (g : LayD M k G2) : LayD (fun x : α × β => PyData.tuple [L x.1, M x.2]) (k + 1) (fun x => G x.1 ∧ G2 x.2) := by
  refine ⟨fun x a => ?_, fun x => ?_, fun x y => ?_⟩
  · simp only [PyData.canLay0, PyData.canLayAll0, h.lay _ a.1, g.lay _ a.2, Bool.and_true]
  · simp only [PyData.depth, PyData.depthAll]
    have := h.dep x.1
    have := g.dep x.2
    omega
  · simp only [PyData.eqv, PyData.eqvAll, h.eqv, g.eqv, Bool.and_true]
    exact decide_and2 (by rw [Prod.ext_iff])
theorem LayD.tup3 {α β γ : Type} [DecidableEq α] [DecidableEq β] [DecidableEq γ] {L : α → PyData} {M : β → PyData} {N : γ → PyData} {k : Nat} {G : α → Prop} {G2 : β → Prop} {G3 : γ → Prop} (h : LayD L k G) (g : LayD M k G2) (e : LayD N k G3) : LayD (fun x : α × β × γ => PyData.tuple [L x.1, M x.2.1, N x.2.2]) (k + 1) (fun x => G x.1 ∧ G2 x.2.1 ∧ G3 x.2.2) := by
  refine ⟨fun x a => ?_, fun x => ?_, fun x y => ?_⟩
  · simp only [PyData.canLay0, PyData.canLayAll0, h.lay _ a.1, g.lay _ a.2.1, e.lay _ a.2.2, Bool.and_true]
  · simp only [PyData.depth, PyData.depthAll]
    have := h.dep x.1
    have := g.dep x.2.1
    have := e.dep x.2.2
    omega
  · simp only [PyData.eqv, PyData.eqvAll, h.eqv, g.eqv, e.eqv, Bool.and_true]
    rw [decide_and2 (r := x.2 = y.2) (by rw [Prod.ext_iff])]
    exact decide_and2 (by rw [Prod.ext_iff])
theorem LayD.tup4 {α β γ δ : Type} [DecidableEq α] [DecidableEq β] [DecidableEq γ] [DecidableEq δ] {L : α → PyData} {M : β → PyData} {N : γ → PyData} {O : δ → PyData} {k : Nat} {G : α → Prop} {G2 : β → Prop} {G3 : γ → Prop} {G4 : δ → Prop} (h : LayD L k G) (g : LayD M k G2) (e : LayD N k G3) (d : LayD O k G4) : LayD (fun x : α × β × γ × δ => PyData.tuple [L x.1, M x.2.1, N x.2.2.1, O x.2.2.2]) (k + 1) (fun x => G x.1 ∧ G2 x.2.1 ∧ G3 x.2.2.1 ∧ G4 x.2.2.2) := by
  refine ⟨fun x a => ?_, fun x => ?_, fun x y => ?_⟩
  · simp only [PyData.canLay0, PyData.canLayAll0, h.lay _ a.1, g.lay _ a.2.1, e.lay _ a.2.2.1, d.lay _ a.2.2.2, Bool.and_true]
  · simp only [PyData.depth, PyData.depthAll]
    have := h.dep x.1
    have := g.dep x.2.1
    have := e.dep x.2.2.1
    have := d.dep x.2.2.2
    omega
  · simp only [PyData.eqv, PyData.eqvAll, h.eqv, g.eqv, e.eqv, d.eqv, Bool.and_true]
    rw [decide_and2 (r := x.2.2 = y.2.2) (by rw [Prod.ext_iff]), decide_and2 (r := x.2 = y.2) (by rw [Prod.ext_iff])]
    exact decide_and2 (by rw [Prod.ext_iff])
theorem eqL {α : Type} [DecidableEq α] {L : α → PyData} {k : Nat} {G : α → Prop} (h : LayD L k G) (hk : k ≤ 64) {K : PySem.W.Frag} {H : Hp} {x y : V} {a b : α} {Q : VK} (ga : G a) (gb : G b) (h1 : Dp K H x (L a)) (h2 : Dp K H y (L b)) (q : Q (.bl (decide (a = b))) H) : rEqD K x y H Q :=
  ⟨_, _, h1, h2, h.shaped hk ga, h.shaped hk gb, by rw [h.eqv]; exact q⟩
theorem neL {α : Type} [DecidableEq α] {L : α → PyData} {k : Nat} {G : α → Prop} (h : LayD L k G) (hk : k ≤ 64) {K : PySem.W.Frag} {H : Hp} {x y : V} {a b : α} {Q : VK} (ga : G a) (gb : G b) (h1 : Dp K H x (L a)) (h2 : Dp K H y (L b)) (q : Q (.bl (!decide (a = b))) H) : rNeD K x y H Q :=
  ⟨_, _, h1, h2, h.shaped hk ga, h.shaped hk gb, by rw [h.eqv]; exact q⟩
theorem dpAll_refs {α : Type} {L : α → PyData} {K : PySem.W.Frag} {H : Hp} : ∀ {ps : List Addr} {xs : List α}, ps.length = xs.length → (∀ (i : Nat) (p : Addr) (x : α), ps[i]? = some p → xs[i]? = some x → Dp K H (.ref p) (L x)) → DpAll K H (ps.map V.ref) (xs.map L)
  | [], [], _, _ => .nil
  | [], _ :: _, h, _ => by cases h
  | _ :: _, [], h, _ => by cases h
  | p :: ps, x :: xs, h, e => .cons (e 0 p x rfl rfl) (dpAll_refs (Nat.succ.inj h) fun i p' x' h1 h2 => e (i + 1) p' x' h1 h2)

/-- the first n values of g -/
def rowI (n : Nat) (g : Nat → Int) : List Int := (List.range n).map g
theorem rowI_len (n : Nat) (g : Nat → Int) : (rowI n g).length = n := by
  unfold rowI
  rw [List.length_map, List.length_range]
theorem rowI_at {n : Nat} {g : Nat → Int} {i : Nat} (h : i < n) : (rowI n g)[i]? = some (g i) := by
  unfold rowI
  rw [List.getElem?_map, List.getElem?_range h]
  rfl
theorem atI_row {n : Nat} {g : Nat → Int} {i : Nat} (h : i < n) : atI ((rowI n g).map V.int) (i : Int) = some (.int (g i)) := by
  refine at_of (j := i) rfl ?_
  rw [List.getElem?_map, rowI_at h]
  rfl
theorem rowI_succ (n : Nat) (g : Nat → Int) : rowI (n + 1) g = rowI n g ++ [g n] := by
  unfold rowI
  rw [List.range_succ, List.map_append]
  rfl
theorem rowI_eq {n : Nat} {f g : Nat → Int} : rowI n f = rowI n g ↔ ∀ i, i < n → f i = g i := by
  unfold rowI
  rw [List.map_inj_left]
  exact ⟨fun h i hi => h i (List.mem_range.mpr hi), fun h i hi => h i (List.mem_range.mp hi)⟩
theorem rowI_of (ws : List Int) : rowI ws.length (at0 ws) = ws := by
  refine List.ext_getElem? fun i => ?_
  by_cases h : i < ws.length
  · rw [rowI_at h, at0_lt h]
  · rw [List.getElem?_eq_none (by rw [rowI_len]; omega), List.getElem?_eq_none (by omega)]
theorem rowI_mem {n : Nat} {g : Nat → Int} {x : Int} : x ∈ rowI n g ↔ ∃ i, i < n ∧ g i = x := by
  unfold rowI
  rw [List.mem_map]
  exact ⟨fun ⟨i, h, e⟩ => ⟨i, List.mem_range.mp h, e⟩, fun ⟨i, h, e⟩ => ⟨i, List.mem_range.mpr h, e⟩⟩
/-- the sum of the first n values of g -/
def sumI (n : Nat) (g : Nat → Int) : Int := (rowI n g).sum
theorem sumI_succ (n : Nat) (g : Nat → Int) : sumI (n + 1) g = sumI n g + g n := by
  unfold sumI
  rw [rowI_succ, List.sum_append, List.sum_cons, List.sum_nil]
  omega
theorem sumI_congr {n : Nat} {f g : Nat → Int} (h : ∀ i, i < n → f i = g i) : sumI n f = sumI n g := by
  unfold sumI
  rw [rowI_eq.mpr h]
theorem sumI_sub : ∀ (n : Nat) (f g : Nat → Int), sumI n (fun i => f i - g i) = sumI n f - sumI n g
  | 0, _, _ => rfl
  | n + 1, f, g => by rw [sumI_succ, sumI_succ, sumI_succ, sumI_sub n f g]; omega
theorem sumI_bound {n : Nat} {g : Nat → Int} {m : Int} (h : ∀ i, i < n → 0 ≤ g i ∧ g i ≤ m) : 0 ≤ sumI n g ∧ sumI n g ≤ n * m := by
  induction n with
  | zero => exact ⟨Int.le_refl 0, by show (0 : Int) ≤ ((0 : Nat) : Int) * m; omega⟩
  | succ n ih =>
    have h1 := ih fun i hi => h i (by omega)
    have h2 := h n (by omega)
    rw [sumI_succ]
    have e : ((n + 1 : Nat) : Int) * m = n * m + m := by rw [Int.natCast_add, Int.add_mul]; omega
    omega
/-- a square table of numbers, its rows at ps -/
structure Tab (H : Hp) (t : Addr) (ps : List Addr) (n : Nat) (f : Nat → Nat → Int) : Prop where
  lst : H t = some (.lst (ps.map V.ref))
  len : ps.length = n
  row : ∀ i p, ps[i]? = some p → H p = some (.lst ((rowI n (f i)).map V.int))
  nod : ps.Nodup
  out : t ∉ ps
theorem Tab.same {H H' : Hp} {t : Addr} {ps : List Addr} {n : Nat} {f : Nat → Nat → Int} (h : Tab H t ps n f) (e : Same H H') : Tab H' t ps n f :=
  ⟨e _ _ h.lst, h.len, fun i p hp => e _ _ (h.row i p hp), h.nod, h.out⟩
def tabL (n : Nat) (f : Nat → Nat → Int) : List (List Int) := (List.range n).map fun i => rowI n (f i)
theorem tabL_at {n : Nat} {f : Nat → Nat → Int} {i : Nat} (h : i < n) : (tabL n f)[i]? = some (rowI n (f i)) := by
  unfold tabL
  rw [List.getElem?_map, List.getElem?_range h]
  rfl
theorem tabL_eq {n : Nat} {f g : Nat → Nat → Int} : tabL n f = tabL n g ↔ ∀ i, i < n → ∀ j, j < n → f i j = g i j := by
  unfold tabL
  rw [List.map_inj_left]
  exact ⟨fun h i hi => rowI_eq.mp (h i (List.mem_range.mpr hi)), fun h i hi => rowI_eq.mpr (h i (List.mem_range.mp hi))⟩
theorem layD_tab : LayD (fun xs : List (List Int) => PyData.list (xs.map fun ys => PyData.list (ys.map PyData.int))) 2 (fun xs => ∀ x, x ∈ xs → ∀ y, y ∈ x → True) := layD_int.list.list
theorem Tab.dp {K : PySem.W.Frag} {H : Hp} {t : Addr} {ps : List Addr} {n : Nat} {f : Nat → Nat → Int} (h : Tab H t ps n f) : Dp K H (.ref t) (PyData.list ((tabL n f).map fun ys => PyData.list (ys.map PyData.int))) := by
  refine .lst (SqL.of h.lst) (dpAll_refs ?_ fun i p x h1 h2 => ?_)
  · rw [h.len]
    unfold tabL
    rw [List.length_map, List.length_range]
  · have hi := (List.getElem?_eq_some_iff.mp h1).1
    rw [h.len] at hi
    rw [tabL_at hi] at h2
    cases h2
    exact .lst (SqL.of (h.row i p h1)) (dpAll_ints _)
theorem refs_at {ps : List Addr} {i : Nat} {x : V} (h : (ps.map V.ref)[i]? = some x) : ∃ p, ps[i]? = some p ∧ x = V.ref p := by
  rw [List.getElem?_map] at h
  cases e : ps[i]? with
  | none => rw [e] at h; cases h
  | some z => rw [e] at h; exact ⟨z, rfl, (Option.some.inj h).symm⟩
theorem Tab.at {H : Hp} {t : Addr} {ps : List Addr} {n : Nat} {f : Nat → Nat → Int} (h : Tab H t ps n f) {i : Nat} (hi : i < n) : ∃ p, ps[i]? = some p ∧ atI (ps.map V.ref) (i : Int) = some (.ref p) ∧ H p = some (.lst ((rowI n (f i)).map V.int)) := by
  have hl : i < ps.length := by rw [h.len]; exact hi
  refine ⟨ps[i], List.getElem?_eq_getElem hl, at_of (j := i) rfl ?_, h.row i _ (List.getElem?_eq_getElem hl)⟩
  rw [List.getElem?_map, List.getElem?_eq_getElem hl]
  rfl

/-- a table that grows: m rows of n numbers -/
structure TabR (H : Hp) (t : Addr) (ps : List Addr) (m n : Nat) (f : Nat → Nat → Int) : Prop where
  lst : H t = some (.lst (ps.map V.ref))
  len : ps.length = m
  row : ∀ i p, ps[i]? = some p → H p = some (.lst ((rowI n (f i)).map V.int))
  nod : ps.Nodup
  out : t ∉ ps
theorem TabR.nil {H : Hp} {t : Addr} (n : Nat) (f : Nat → Nat → Int) (h : H t = some (.lst [])) : TabR H t [] 0 n f :=
  ⟨h, rfl, fun _ _ e => (by rw [List.getElem?_nil] at e; cases e), List.nodup_nil, fun h => (by cases h)⟩
theorem TabR.congr {H : Hp} {t : Addr} {ps : List Addr} {m n : Nat} {f g : Nat → Nat → Int} (h : TabR H t ps m n f) (e : ∀ i, i < m → ∀ j, j < n → f i j = g i j) : TabR H t ps m n g :=
  ⟨h.lst, h.len, fun i p hp => by
    have hi := (List.getElem?_eq_some_iff.mp hp).1
    rw [h.row i p hp, rowI_eq.mpr (e i (by rw [← h.len]; exact hi))], h.nod, h.out⟩
theorem TabR.push {H H' : Hp} {t p : Addr} {ps : List Addr} {m n : Nat} {f : Nat → Nat → Int} (h : TabR H t ps m n f) (e : Same H H') (np : H p = none) (hp : H' p = some (.lst ((rowI n (f m)).map V.int))) : TabR (upd H' t (.lst (ps.map V.ref ++ [V.ref p]))) t (ps ++ [p]) (m + 1) n f := by
  have hmem : ∀ q, q ∈ ps → ∃ o, H q = some o := fun q hq => by
    obtain ⟨i, hi⟩ := List.mem_iff_getElem?.mp hq
    exact ⟨_, h.row i q hi⟩
  have hpt : p ≠ t := fun z => by rw [z, h.lst] at np; cases np
  have hnp : p ∉ ps := fun z => by
    obtain ⟨o, ho⟩ := hmem p z
    rw [np] at ho
    cases ho
  refine ⟨?_, ?_, fun i q hq => ?_, ?_, ?_⟩
  · rw [upd_same, List.map_append]
    rfl
  · rw [List.length_append, h.len]
    rfl
  · by_cases hi : i < ps.length
    · rw [List.getElem?_append_left hi] at hq
      have hm := List.mem_of_getElem? hq
      rw [upd_ne (fun z => h.out (by rw [← z]; exact hm))]
      exact e _ _ (h.row i q hq)
    · rw [List.getElem?_append_right (by omega)] at hq
      have hi2 := (List.getElem?_eq_some_iff.mp hq).1
      have : i - ps.length = 0 := by
        rw [List.length_cons, List.length_nil] at hi2
        omega
      rw [this] at hq
      have hqp : p = q := Option.some.inj hq
      subst hqp
      rw [upd_ne hpt, hp]
      have : i = m := by have := h.len; omega
      rw [this]
  · rw [List.nodup_append]
    refine ⟨h.nod, List.nodup_cons.mpr ⟨fun z => (by cases z), List.nodup_nil⟩, fun a ha b hb z => ?_⟩
    rw [List.mem_singleton] at hb
    rw [hb] at z
    rw [z] at ha
    exact hnp ha
  · intro z
    rcases List.mem_append.mp z with z | z
    · exact h.out z
    · rw [List.mem_singleton] at z
      exact hpt z.symm
theorem TabR.tab {H : Hp} {t : Addr} {ps : List Addr} {n : Nat} {f : Nat → Nat → Int} (h : TabR H t ps n n f) : Tab H t ps n f := ⟨h.lst, h.len, h.row, h.nod, h.out⟩
theorem TabR.keep {H H0 : Hp} {t : Addr} {xs : List V} (s : Same H0 H) (nt : H0 t = none) : Same H0 (upd H t (.lst xs)) := fun b o e => by
  rw [upd_ne (ne_of_none e nt)]
  exact s b o e
/-- debts: one to thirteen houses, nobody owes itself -/
structure Debts (n : Nat) (f : Nat → Nat → Int) (m : Int) : Prop where
  n0 : 1 ≤ n
  n1 : n ≤ 13
  b : ∀ i, i < n → ∀ j, j < n → 0 ≤ f i j ∧ f i j ≤ m
  d : ∀ i, i < n → f i i = 0
theorem Debts.mono {n : Nat} {f : Nat → Nat → Int} {m k : Int} (h : Debts n f m) (e : m ≤ k) : Debts n f k := ⟨h.n0, h.n1, fun i hi j hj => ⟨(h.b i hi j hj).1, Int.le_trans (h.b i hi j hj).2 e⟩, h.d⟩

/-- a list of tuples: the tuple of each item -/
structure Tups {α : Type} (enc : α → List V) (H : Hp) (l : Addr) (ps : List Addr) (xs : List α) : Prop where
  lst : H l = some (.lst (ps.map V.ref))
  len : ps.length = xs.length
  row : ∀ (i : Nat) (p : Addr) (x : α), ps[i]? = some p → xs[i]? = some x → H p = some (.tup (enc x))
theorem Tups.nil {α : Type} {enc : α → List V} {H : Hp} {l : Addr} (h : H l = some (.lst [])) : Tups enc H l [] ([] : List α) :=
  ⟨h, rfl, fun _ _ _ e => (by rw [List.getElem?_nil] at e; cases e)⟩
theorem Tups.same {α : Type} {enc : α → List V} {H H' : Hp} {l : Addr} {ps : List Addr} {xs : List α} (h : Tups enc H l ps xs) (e : Same H H') : Tups enc H' l ps xs :=
  ⟨e _ _ h.lst, h.len, fun i p x a b => e _ _ (h.row i p x a b)⟩
theorem Tups.at {α : Type} {enc : α → List V} {H : Hp} {l : Addr} {ps : List Addr} {xs : List α} (h : Tups enc H l ps xs) {i : Nat} {x : α} (e : xs[i]? = some x) : ∃ p, ps[i]? = some p ∧ atI (ps.map V.ref) (i : Int) = some (.ref p) ∧ H p = some (.tup (enc x)) := by
  have hi := (List.getElem?_eq_some_iff.mp e).1
  have hl : i < ps.length := by rw [h.len]; exact hi
  refine ⟨ps[i], List.getElem?_eq_getElem hl, at_of (j := i) rfl ?_, h.row i _ x (List.getElem?_eq_getElem hl) e⟩
  rw [List.getElem?_map, List.getElem?_eq_getElem hl]
  rfl
theorem Tups.item {α : Type} {enc : α → List V} {H : Hp} {l : Addr} {ps : List Addr} {xs : List α} (h : Tups enc H l ps xs) {i : Nat} {v : V} (e : (ps.map V.ref)[i]? = some v) : ∃ p x, ps[i]? = some p ∧ xs[i]? = some x ∧ v = .ref p ∧ H p = some (.tup (enc x)) := by
  obtain ⟨p, hp, rfl⟩ := refs_at e
  have hi := (List.getElem?_eq_some_iff.mp hp).1
  rw [h.len] at hi
  exact ⟨p, xs[i], hp, List.getElem?_eq_getElem hi, rfl, h.row i p _ hp (List.getElem?_eq_getElem hi)⟩
theorem Tups.push {α : Type} {enc : α → List V} {H H' : Hp} {l p : Addr} {ps : List Addr} {xs : List α} {x : α} (h : Tups enc H l ps xs) (e : Same H H') (np : H p = none) (hp : H' p = some (.tup (enc x))) : Tups enc (upd H' l (.lst (ps.map V.ref ++ [V.ref p]))) l (ps ++ [p]) (xs ++ [x]) := by
  have hpl : p ≠ l := fun z => by rw [z, h.lst] at np; cases np
  refine ⟨?_, ?_, fun i q y hq hy => ?_⟩
  · rw [upd_same, List.map_append]
    rfl
  · rw [List.length_append, List.length_append, h.len]
    rfl
  · by_cases hi : i < ps.length
    · rw [List.getElem?_append_left hi] at hq
      rw [List.getElem?_append_left (by rw [← h.len]; exact hi)] at hy
      have hq2 := h.row i q y hq hy
      rw [upd_ne (fun z => by rw [z, h.lst] at hq2; cases hq2)]
      exact e _ _ hq2
    · rw [List.getElem?_append_right (by omega)] at hq
      rw [List.getElem?_append_right (by have := h.len; omega)] at hy
      have h1 := (List.getElem?_eq_some_iff.mp hq).1
      rw [List.length_cons, List.length_nil] at h1
      have e0 : i - ps.length = 0 := by omega
      have e1 : i - xs.length = 0 := by have := h.len; omega
      rw [e0] at hq
      rw [e1] at hy
      have z1 : p = q := Option.some.inj hq
      have z2 : x = y := Option.some.inj hy
      rw [← z1, ← z2, upd_ne hpl]
      exact hp
theorem Tups.dp {α : Type} {enc : α → List V} {L : α → PyData} {K : PySem.W.Frag} {H : Hp} {l : Addr} {ps : List Addr} {xs : List α} (h : Tups enc H l ps xs) (he : ∀ x (p : Addr), H p = some (.tup (enc x)) → Dp K H (.ref p) (L x)) : Dp K H (.ref l) (PyData.list (xs.map L)) :=
  .lst (SqL.of h.lst) (dpAll_refs h.len fun i p x h1 h2 => he x p (h.row i p x h1 h2))
def enc2 (x : Int × Int) : List V := [.int x.1, .int x.2]
def enc3 (x : Int × Int × Int) : List V := [.int x.1, .int x.2.1, .int x.2.2]
def lay3 (x : Int × Int × Int) : PyData := .tuple [.int x.1, .int x.2.1, .int x.2.2]
theorem layD_3 : LayD lay3 1 (fun x => True ∧ True ∧ True) := layD_int.tup3 layD_int layD_int
theorem dp3 {K : PySem.W.Frag} {H : Hp} (x : Int × Int × Int) (p : Addr) (h : H p = some (.tup (enc3 x))) : Dp K H (.ref p) (lay3 x) :=
  .tup (SqT.of h) (.cons (.int _) (.cons (.int _) (.cons (.int _) .nil)))
theorem Tups.push2 {α : Type} {enc : α → List V} {H : Hp} {l p : Addr} {ps : List Addr} {xs : List α} {x : α} (h : Tups enc H l ps xs) (hp : H p = some (.tup (enc x))) : Tups enc (upd H l (.lst (ps.map V.ref ++ [V.ref p]))) l (ps ++ [p]) (xs ++ [x]) := by
  have hpl : p ≠ l := fun z => by rw [z, h.lst] at hp; cases hp
  refine ⟨?_, ?_, fun i q y hq hy => ?_⟩
  · rw [upd_same, List.map_append]
    rfl
  · rw [List.length_append, List.length_append, h.len]
    rfl
  · by_cases hi : i < ps.length
    · rw [List.getElem?_append_left hi] at hq
      rw [List.getElem?_append_left (by rw [← h.len]; exact hi)] at hy
      have hq2 := h.row i q y hq hy
      rw [upd_ne (fun z => by rw [z, h.lst] at hq2; cases hq2)]
      exact hq2
    · rw [List.getElem?_append_right (by omega)] at hq
      rw [List.getElem?_append_right (by have := h.len; omega)] at hy
      have h1 := (List.getElem?_eq_some_iff.mp hq).1
      rw [List.length_cons, List.length_nil] at h1
      have e0 : i - ps.length = 0 := by omega
      have e1 : i - xs.length = 0 := by have := h.len; omega
      rw [e0] at hq
      rw [e1] at hy
      have z1 : p = q := Option.some.inj hq
      have z2 : x = y := Option.some.inj hy
      rw [← z1, ← z2, upd_ne hpl]
      exact hp
theorem Tups.copy {α : Type} {enc : α → List V} {H H' : Hp} {l l2 : Addr} {ps : List Addr} {xs : List α} (h : Tups enc H l ps xs) (e : Same H H') (h2 : H' l2 = some (.lst (ps.map V.ref))) : Tups enc H' l2 ps xs :=
  ⟨h2, h.len, fun i p x a b => e _ _ (h.row i p x a b)⟩

/-! a dict from texts to whole numbers -/
def encD (d : List (Str × Int)) : List (Key × V) := d.map fun x => (Sum.inr x.1, V.int x.2)
def getS (d : List (Str × Int)) (s : Str) : Option Int := (d.find? fun x => decide (x.1 = s)).map (·.2)
def keysS (d : List (Str × Int)) : List Str := d.map (·.1)
def putS (d : List (Str × Int)) (s : Str) (v : Int) : List (Str × Int) := if s ∈ keysS d then d.map (fun x => if x.1 = s then (x.1, v) else x) else d ++ [(s, v)]
def gD (d : List (Str × Int)) (s : Str) : Int := (getS d s).getD 0
theorem inr_eq {a b : Str} : ((Sum.inr a : Key) = Sum.inr b) ↔ a = b := ⟨fun h => Sum.inr.inj h, fun h => by rw [h]⟩
theorem valV_enc (s : Str) : ∀ d : List (Str × Int), valV (encD d) (Sum.inr s) = (getS d s).map V.int
  | [] => rfl
  | x :: d => by
    unfold encD getS
    rw [List.map_cons, List.find?_cons]
    by_cases h : x.1 = s
    · rw [valV_pos (by rw [h]), decide_eq_true h]; rfl
    · rw [valV_neg (fun z => h (Sum.inr.inj z)), decide_eq_false h]
      exact valV_enc s d
theorem any_enc (s : Str) : ∀ d : List (Str × Int), ((encD d).any fun kv => decide (kv.1 = Sum.inr s)) = decide (s ∈ keysS d)
  | [] => rfl
  | x :: d => by
    have ih := any_enc s d
    unfold encD at ih ⊢
    rw [List.map_cons, List.any_cons, ih]
    unfold keysS
    rw [List.map_cons]
    by_cases h : x.1 = s
    · have hm : s ∈ x.1 :: List.map (fun x => x.1) d := by rw [← h]; exact List.mem_cons_self
      rw [decide_eq_true (show ((Sum.inr x.1 : Key) = Sum.inr s) by rw [h]), decide_eq_true hm]; rfl
    · rw [decide_eq_false (fun z => h (Sum.inr.inj z)), Bool.false_or]
      exact decide_eq_decide.mpr ⟨fun z => List.mem_cons_of_mem _ z, fun z => (List.mem_cons.mp z).resolve_left fun e => h e.symm⟩
theorem putK_enc (d : List (Str × Int)) (s : Str) (v : Int) : putK (encD d) (Sum.inr s) (V.int v) = encD (putS d s v) := by
  unfold putK putS
  rw [any_enc]
  by_cases h : s ∈ keysS d
  · rw [if_pos (decide_eq_true h), if_pos h]
    unfold encD
    rw [List.map_map, List.map_map]
    refine List.map_congr_left fun x _ => ?_
    show (if (Sum.inr x.1 : Key) = Sum.inr s then ((Sum.inr x.1 : Key), V.int v) else (Sum.inr x.1, V.int x.2)) = _
    by_cases z : x.1 = s
    · rw [if_pos (by rw [z])]
      show _ = ((Sum.inr (if x.1 = s then (x.1, v) else x).1 : Key), V.int (if x.1 = s then (x.1, v) else x).2)
      rw [if_pos z]
    · rw [if_neg (fun e => z (Sum.inr.inj e))]
      show _ = ((Sum.inr (if x.1 = s then (x.1, v) else x).1 : Key), V.int (if x.1 = s then (x.1, v) else x).2)
      rw [if_neg z]
  · rw [if_neg (by rw [decide_eq_false h]; exact Bool.false_ne_true), if_neg h]
    unfold encD
    rw [List.map_append]
    rfl
def addK (ks : List Str) (s : Str) : List Str := if s ∈ ks then ks else ks ++ [s]
theorem keys_put (d : List (Str × Int)) (s : Str) (v : Int) : keysS (putS d s v) = addK (keysS d) s := by
  unfold putS addK
  by_cases h : s ∈ keysS d
  · rw [if_pos h, if_pos h]
    unfold keysS
    rw [List.map_map]
    refine List.map_congr_left fun x _ => ?_
    show (if x.1 = s then (x.1, v) else x).1 = x.1
    split <;> rfl
  · rw [if_neg h, if_neg h]
    unfold keysS
    rw [List.map_append]
    rfl
theorem get_mem (s : Str) : ∀ d : List (Str × Int), (getS d s).isSome = decide (s ∈ keysS d)
  | [] => rfl
  | x :: d => by
    have ih := get_mem s d
    unfold getS keysS at ih ⊢
    rw [List.find?_cons, List.map_cons]
    by_cases h : x.1 = s
    · rw [decide_eq_true h, decide_eq_true (by rw [h]; exact List.mem_cons_self)]; rfl
    · rw [decide_eq_false h]
      refine ih.trans (decide_eq_decide.mpr ⟨fun z => List.mem_cons_of_mem _ z, fun z => (List.mem_cons.mp z).resolve_left fun e => h e.symm⟩)
theorem get_some {d : List (Str × Int)} {s : Str} (h : s ∈ keysS d) : getS d s = some (gD d s) := by
  have e := get_mem s d
  rw [decide_eq_true h] at e
  unfold gD
  cases w : getS d s with
  | none => rw [w] at e; cases e
  | some x => rfl
theorem get_map (s t : Str) (v : Int) : ∀ d : List (Str × Int), getS (d.map fun x => if x.1 = s then (x.1, v) else x) t = (getS d t).map fun w => if t = s then v else w
  | [] => rfl
  | x :: d => by
    have ih := get_map s t v d
    unfold getS at ih ⊢
    rw [List.map_cons, List.find?_cons, List.find?_cons]
    have e1 : (if x.1 = s then (x.1, v) else x).1 = x.1 := by split <;> rfl
    rw [e1]
    by_cases h : x.1 = t
    · rw [decide_eq_true h]
      show some (if x.1 = s then (x.1, v) else x).2 = some (if t = s then v else x.2)
      by_cases z : x.1 = s
      · rw [if_pos z, if_pos (h.symm.trans z)]
      · rw [if_neg z, if_neg fun e => z (h.trans e)]
    · rw [decide_eq_false h]
      exact ih
theorem gD_put (d : List (Str × Int)) (s t : Str) (v : Int) : gD (putS d s v) t = if t = s then v else gD d t := by
  unfold gD putS
  by_cases h : s ∈ keysS d
  · rw [if_pos h, get_map]
    by_cases z : t = s
    · have := get_some h
      rw [z, this, if_pos rfl]
      show (if s = s then v else gD d s) = v
      rw [if_pos rfl]
    · rw [if_neg z]
      cases getS d t with
      | none => rfl
      | some w => show (if t = s then v else w) = w; rw [if_neg z]
  · rw [if_neg h]
    unfold getS
    rw [List.find?_append]
    by_cases z : t = s
    · have e := get_mem s d
      rw [decide_eq_false h] at e
      unfold getS at e
      rw [z, if_pos rfl]
      cases w : d.find? fun x => decide (x.1 = s) with
      | none => rw [Option.none_or, List.find?_cons, decide_eq_true rfl]; rfl
      | some x => rw [w] at e; cases e
    · rw [if_neg z]
      have : List.find? (fun x : Str × Int => decide (x.1 = t)) [(s, v)] = none := by
        rw [List.find?_cons, decide_eq_false fun e : s = t => z e.symm]
        rfl
      rw [this, Option.or_none]
theorem dget_go {H : Hp} {a : Addr} {s : Str} {d : List (Str × Int)} {R : Option V → Prop} (h : H a = some (.dK (encD d))) (q : R ((getS d s).map V.int)) : ∃ o, DGet H a (.str s) o ∧ R o := by
  refine ⟨_, ?_, q⟩
  have := DGet.k (k := Sum.inr s) h
  rw [valV_enc] at this
  exact this
theorem dget_at {H : Hp} {a : Addr} {s : Str} {d : List (Str × Int)} (h : H a = some (.dK (encD d))) (k : s ∈ keysS d) : DGet H a (.str s) (some (.int (gD d s))) := by
  have := DGet.k (k := Sum.inr s) h
  rw [valV_enc, get_some k] at this
  exact this
theorem dput_go {H : Hp} {a : Addr} {s : Str} {v : Int} {d : List (Str × Int)} {R : Hp → Prop} (h : H a = some (.dK (encD d))) (hl : d.length ≤ 1000) (q : R (upd H a (.dK (encD (putS d s v))))) : ∃ H', V.ref a = V.ref a ∧ DPut H a (.str s) (.int v) H' ∧ R H' := by
  refine ⟨_, rfl, ?_, q⟩
  rw [← putK_enc]
  refine DPut.k (k := Sum.inr s) h ?_
  unfold encD
  rw [List.length_map]
  exact small1000 (by omega)
theorem getD_int (d : List (Str × Int)) (s : Str) : ((getS d s).map V.int).getD (.int 0) = .int (gD d s) := by
  unfold gD
  cases getS d s <;> rfl
theorem isD_enc {H : Hp} {a : Addr} {d : List (Str × Int)} (h : H a = some (.dK (encD d))) : IsD H a := .inl ⟨_, .inl h⟩
theorem addK_mem {ks : List Str} {s t : Str} : t ∈ addK ks s ↔ t ∈ ks ∨ t = s := by
  unfold addK
  split
  · exact ⟨.inl, fun h => h.elim id fun e => by rw [e]; assumption⟩
  · rw [List.mem_append, List.mem_singleton]
theorem addK_nodup {ks : List Str} {s : Str} (h : ks.Nodup) : (addK ks s).Nodup := by
  unfold addK
  split
  · exact h
  · rename_i n
    rw [List.nodup_append]
    exact ⟨h, List.nodup_cons.mpr ⟨fun z => (by cases z), List.nodup_nil⟩, fun a ha b hb e => n (by rw [List.mem_singleton] at hb; rw [← hb, ← e]; exact ha)⟩
theorem addK_len (ks : List Str) (s : Str) : (addK ks s).length ≤ ks.length + 1 := by
  unfold addK
  split
  · omega
  · rw [List.length_append]; exact Nat.le_refl _
/-- two ascending lists with the same texts, none twice, are equal -/
theorem rising_le : ∀ {xs : List Str} {p : Str}, risingS p xs = true → (p :: xs).Pairwise fun a b => a.cps.toList ≤ b.cps.toList
  | [], p, _ => List.pairwise_singleton _ _
  | x :: xs, p, h => by
    have h' : (!ltCps x.cps.toList p.cps.toList && risingS x xs) = true := h
    rw [Bool.and_eq_true] at h'
    have h1 : p.cps.toList ≤ x.cps.toList := by
      have := h'.1
      rw [ltCps_eq] at this
      exact ndec_t this
    have ih := rising_le h'.2
    refine List.pairwise_cons.mpr ⟨fun y hy => ?_, ih⟩
    rcases List.mem_cons.mp hy with e | e
    · rw [e]; exact h1
    · exact List.le_trans h1 ((List.pairwise_cons.mp ih).1 y e)
theorem sorted_le {xs : List Str} (h : sortedS xs = true) : xs.Pairwise fun a b => a.cps.toList ≤ b.cps.toList := by
  cases xs with
  | nil => exact .nil
  | cons x xs => exact rising_le h
theorem sorted_same : ∀ {xs ys : List Str}, xs.Pairwise (fun a b => a.cps.toList ≤ b.cps.toList) → ys.Pairwise (fun a b => a.cps.toList ≤ b.cps.toList) → xs.Nodup → ys.Nodup → (∀ s, s ∈ xs ↔ s ∈ ys) → xs = ys
  | [], [], _, _, _, _, _ => rfl
  | [], y :: ys, _, _, _, _, h => absurd ((h y).mpr List.mem_cons_self) (fun z => by cases z)
  | x :: xs, [], _, _, _, _, h => absurd ((h x).mp List.mem_cons_self) (fun z => by cases z)
  | x :: xs, y :: ys, h1, h2, n1, n2, h => by
    have a := List.pairwise_cons.mp h1
    have b := List.pairwise_cons.mp h2
    have c := List.nodup_cons.mp n1
    have d := List.nodup_cons.mp n2
    have e : x = y := by
      rcases List.mem_cons.mp ((h x).mp List.mem_cons_self) with e | e
      · exact e
      · rcases List.mem_cons.mp ((h y).mpr List.mem_cons_self) with f | f
        · exact f.symm
        · have z := List.le_antisymm (a.1 y f) (b.1 x e)
          cases x
          cases y
          exact congrArg _ (Array.toList_inj.mp z)
    subst e
    rw [sorted_same a.2 b.2 c.2 d.2 fun s => ?_]
    constructor
    · intro hs
      rcases List.mem_cons.mp ((h s).mp (List.mem_cons_of_mem _ hs)) with e | e
      · rw [e] at hs; exact absurd hs c.1
      · exact e
    · intro hs
      rcases List.mem_cons.mp ((h s).mpr (List.mem_cons_of_mem _ hs)) with e | e
      · rw [e] at hs; exact absurd hs d.1
      · exact e
theorem keys_enc (d : List (Str × Int)) : (encD d).map (·.1) = (keysS d).map Sum.inr := by
  unfold encD keysS
  rw [List.map_map, List.map_map]
  rfl

section
variable {P : Program} {w : World} {K : PySem.W.Frag} {mg : Str → Option Value} {base : Heap}
def sp_law_cell (K : PySem.W.Frag) : Sp := fun vs H Q _ => ∃ (a : Addr) (ns : List Int) (j : Nat), vs = [.ref a, .int j] ∧ SqL K H a (ns.map V.int) ∧ Q (.int (cellOf ns j)) H
theorem ok_law_cell (T : Txt K mg) : FnOk P w K mg base CX0 1 T.f_law_cell T.d_law_cell ["script", "k"] (sp_law_cell K) := by
  refine T.F_law_cell.ok sc_law_cell (fun vs H Q E h => ?_) (fun cdv A outer s H vs Q E hr h => ?_)
  · obtain ⟨a, ns, j, rfl, _⟩ := h
    rfl
  · obtain ⟨a, ns, j, rfl, hs, q⟩ := h
    refine ⟨_, (pss_cons (ps_if (pt_cmpR op_lt (pv 1) (pe_callB call_len_seq (by rfl) T.z_len PySem.boot_len (pa_cons (pv 0) pa_nil)) (nomark _))
      (pss_one (ps_ret (pe_ix ix_list (pv 0) (pv 1) (fun _ _ => rfl))))
      pss_nil)
    (pss_one (ps_ret pe_int))), ?_⟩
    walk_at "st"
    refine iteD (fun h => ?_) (fun h => ?_)
    · have hj : j < ns.length := by rw [List.length_map] at h; omega
      walk_at "st"
      exact ⟨atI_ints hj, q⟩
    · have hj : ¬ j < ns.length := by rw [List.length_map] at h; omega
      rw [cellOf_out hj] at q
      exact q

/-- the draws of a cell, one by one -/
def restB (size r : Int) : Nat → Int
  | 0 => r
  | k + 1 => restB size r k / size
def restS (r : Int) : Nat → Int
  | 0 => r
  | k + 1 => (restS r k * 48271 + (k : Int) * 69621 + 11) % 2147483647
def drawG (cell size : Int) (k : Nat) : Int :=
  if 1000000000000000000 ≤ (if cell < 0 then -cell else cell) then restB size (if cell < 0 then -cell else cell) k % size
  else (restS (if cell < 0 then -cell else cell) (k + 1) * 16807 + (k : Int)) % 2147483629 % size
theorem drawG_bound {cell size : Int} (h : 0 < size) (k : Nat) : 0 ≤ drawG cell size k ∧ drawG cell size k < size := by
  unfold drawG
  generalize (if cell < 0 then -cell else cell) = r
  split <;> exact ⟨Int.emod_nonneg _ (by omega), Int.emod_lt_of_pos _ h⟩
def sp_law_draws (K : PySem.W.Frag) : Sp := fun vs H Q _ => ∃ (cell : Int) (n : Nat) (size : Int), vs = [.int cell, .int (n : Int), .int size] ∧ n ≤ 1000 ∧ 0 < size ∧ size < 1073741824 ∧
  ∀ p H', Same H H' → H p = none → H' p = some (.lst ((rowI n (drawG cell size)).map V.int)) → Q (.ref p) H'
theorem ok_law_draws (T : Txt K mg) : FnOk P w K mg base CX0 1 T.f_law_draws T.d_law_draws ["cell", "count", "size"] (sp_law_draws K) := by
  refine T.F_law_draws.ok sc_law_draws (fun vs H Q E h => ?_) (fun cdv A outer s H vs Q E hr h => ?_)
  · obtain ⟨cell, n, size, rfl, _⟩ := h
    rfl
  · obtain ⟨cell, n, size, rfl, hn, h0, h1, q⟩ := h
    refine ⟨_, (pss_cons (ps_set (i := 3) sc_law_draws.nd rfl (Or.inl rfl) (pe_lst pa_nil))
    (pss_cons (ps_set (i := 4) sc_law_draws.nd rfl (Or.inl rfl) (pe_callB call_abs (by rfl) T.z_abs (by decide +kernel) (pa_cons (pv 0) pa_nil)))
    (pss_cons (ps_if (pt_cmpR op_ge (pv 4) pe_int (nomark _))
      (pss_cons (ps_for PassesOwn.never rfl (pi_range1 (by rfl) T.z_range (pa_cons (pv 1) pa_nil)) (pg_name (i := 5) sc_law_draws.nd rfl (Or.inl rfl))
        (pss_cons (ps_expr (pe_bm PySem.F.plainAttrs_list PySem.F.slot_list_append PySem.F.type_list_append mt_append (pv 3) (pa_cons (pe_op op_mod (pe_callTy call_int_i (by rfl) T.z_int (by decide +kernel) (pa_cons (pv 4) pa_nil)) (pv 2)) pa_nil)))
        (pss_one (ps_set (i := 4) sc_law_draws.nd rfl (Or.inl rfl) (pe_op op_fdiv (pv 4) (pv 2))))))
      (pss_one (ps_ret (pv 3))))
      pss_nil)
    (pss_cons (ps_for PassesOwn.never rfl (pi_range1 (by rfl) T.z_range (pa_cons (pv 1) pa_nil)) (pg_name (i := 5) sc_law_draws.nd rfl (Or.inl rfl))
      (pss_cons (ps_set (i := 4) sc_law_draws.nd rfl (Or.inl rfl) (pe_op op_mod (pe_callTy call_int_i (by rfl) T.z_int (by decide +kernel) (pa_cons (pe_op op_add (pe_op op_add (pe_op op_mul (pv 4) pe_int) (pe_op op_mul (pv 5) pe_int)) pe_int) pa_nil)) pe_int))
      (pss_one (ps_expr (pe_bm PySem.F.plainAttrs_list PySem.F.slot_list_append PySem.F.type_list_append mt_append (pv 3) (pa_cons (pe_op op_mod (pe_op op_mod (pe_callTy call_int_i (by rfl) T.z_int (by decide +kernel) (pa_cons (pe_op op_add (pe_op op_mul (pv 4) pe_int) (pv 5)) pa_nil)) pe_int) (pv 2)) pa_nil))))))
    (pss_one (ps_ret (pv 3))))))), ?_⟩
    walk_at "st"
    intro D nD
    walk_at "st"
    generalize hrest : (if cell < 0 then -cell else cell) = rest
    have hrest0 : 0 ≤ rest := by rw [← hrest]; split <;> omega
    have eD : (upd H D (.lst [])) D = some (.lst (([] : List Int).map V.int)) := upd_same
    have s1 : Same H (upd H D (.lst [])) := same_upd nD
    generalize upd H D (.lst []) = H1 at eD s1
    refine iteB (fun h => ?_) (fun h => ?_)
    · walk_at "st"
      refine for_range (lo := 0) (n := ((n : Int)).toNat) (fun i σ H' => ∃ (v5 : Option V) (r : Int), σ = [some (.int cell), some (.int (n : Int)), some (.int size), some (.ref D), some (.int r), v5] ∧ 0 ≤ r ∧ H' D = some (.lst ((rowI i (drawG cell size)).map V.int)) ∧ restB size rest i = r ∧ Same H H')
        ⟨none, rest, rfl, hrest0, eD, rfl, s1⟩ ?_ ?_
      · rintro i σ H' hi ⟨v5, r, rfl, hr0, hD, hrr, e⟩
        have hlt : ((rowI i (drawG cell size)).map V.int).length < sizeLine := small1000 (by rw [List.length_map, rowI_len]; omega)
        walk_at "st"
        refine ⟨some (.int (0 + (i : Int))), r / size, rfl, Int.ediv_nonneg hr0 (by omega), ?_, ?_, fun b o z => ?_⟩
        · have eg : drawG cell size i = r % size := by
            unfold drawG
            rw [hrest, if_pos (dec_t h), hrr]
          rw [upd_same, rowI_succ, List.map_append, eg]
          rfl
        · show restB size rest i / size = _
          rw [hrr]
        · rw [upd_ne (ne_of_none z nD)]
          exact e b o z
      · rintro σ H' ⟨v5, r, rfl, hr0, hD, hrr, e⟩
        walk_at "st"
        exact q D H' e nD (by rw [Int.toNat_natCast] at hD; exact hD)
    · walk_at "st"
      refine for_range (lo := 0) (n := ((n : Int)).toNat) (fun i σ H' => ∃ (v5 : Option V) (r : Int), σ = [some (.int cell), some (.int (n : Int)), some (.int size), some (.ref D), some (.int r), v5] ∧ 0 ≤ r ∧ H' D = some (.lst ((rowI i (drawG cell size)).map V.int)) ∧ restS rest i = r ∧ Same H H')
        ⟨none, rest, rfl, hrest0, eD, rfl, s1⟩ ?_ ?_
      · rintro i σ H' hi ⟨v5, r, rfl, hr0, hD, hrr, e⟩
        have hlt : ((rowI i (drawG cell size)).map V.int).length < sizeLine := small1000 (by rw [List.length_map, rowI_len]; omega)
        walk_at "st"
        refine ⟨some (.int (0 + (i : Int))), (r * 48271 + (0 + (i : Int)) * 69621 + 11) % 2147483647, rfl, Int.emod_nonneg _ (by decide), ?_, ?_, fun b o z => ?_⟩
        · have eg : drawG cell size i = ((r * 48271 + (0 + (i : Int)) * 69621 + 11) % 2147483647 * 16807 + (0 + (i : Int))) % 2147483629 % size := by
            unfold drawG
            rw [hrest, if_neg (dec_f h)]
            show ((restS rest i * 48271 + (i : Int) * 69621 + 11) % 2147483647 * 16807 + (i : Int)) % 2147483629 % size = _
            rw [hrr, Int.zero_add]
          rw [upd_same, rowI_succ, List.map_append, eg]
          rfl
        · show (restS rest i * 48271 + (i : Int) * 69621 + 11) % 2147483647 = _
          rw [hrr, Int.zero_add]
        · rw [upd_ne (ne_of_none z nD)]
          exact e b o z
      · rintro σ H' ⟨v5, r, rfl, hr0, hD, hrr, e⟩
        walk_at "st"
        exact q D H' e nD (by rw [Int.toNat_natCast] at hD; exact hD)

def sp_law_is_integer (K : PySem.W.Frag) : Sp := fun vs H Q _ => ∃ x : Int, vs = [.int x] ∧ Q (.bl true) H
theorem ok_law_is_integer (T : Txt K mg) : FnOk P w K mg base CX0 1 T.f_law_is_integer T.d_law_is_integer ["actual"] (sp_law_is_integer K) := by
  refine T.F_law_is_integer.ok sc_law_is_integer (fun vs H Q E h => ?_) (fun cdv A outer s H vs Q E hr h => ?_)
  · obtain ⟨x, rfl, _⟩ := h
    rfl
  · obtain ⟨x, rfl, q⟩ := h
    refine ⟨_, (pss_one (ps_ret (pe_and (pe_callB call_isi (by rfl) T.z_isinstance (by decide +kernel) (pa_cons (pv 0) (pa_cons (pe_bltn (v := .ty "int") (u := .type "int") (by rfl) T.z_int (by decide +kernel) rfl) pa_nil))) (pe_one (pe_not (pe_callB call_isi (by rfl) T.z_isinstance (by decide +kernel) (pa_cons (pv 0) (pa_cons (pe_bltn (v := .ty "bool") (u := .type "bool") (by rfl) T.z_bool (by decide +kernel) rfl) pa_nil)))))))), ?_⟩
    refine ⟨_, rfl, ?_⟩
    refine ⟨_, _, _, _, true, rfl, .ty _, .base (.int _), kit_ty (by decide +kernel), ?_⟩
    refine ⟨true, rfl, iteT ?_⟩
    refine ⟨_, rfl, ?_⟩
    refine ⟨_, _, _, _, false, rfl, .ty _, .base (.int _), kit_ty (by decide +kernel), ?_⟩
    refine ⟨false, rfl, ?_⟩
    exact q

def enc4 (x : Str × Str × Int × Int) : List V := [.str x.1, .str x.2.1, .int x.2.2.1, .int x.2.2.2]
def lay4 (x : Str × Str × Int × Int) : PyData := .tuple [.str x.1, .str x.2.1, .int x.2.2.1, .int x.2.2.2]
theorem layD_4 : LayD lay4 1 (fun x => PyData.strOk x.1 = true ∧ PyData.strOk x.2.1 = true ∧ True ∧ True) := layD_str.tup4 layD_str layD_int layD_int
theorem dp4 {K : PySem.W.Frag} {H : Hp} (x : Str × Str × Int × Int) (p : Addr) (h : H p = some (.tup (enc4 x))) : Dp K H (.ref p) (lay4 x) :=
  .tup (SqT.of h) (.cons (.str _) (.cons (.str _) (.cons (.int _) (.cons (.int _) .nil))))
def encR (x : Str × Int × Int) : List V := [.str x.1, .int x.2.1, .int x.2.2]
def layR (x : Str × Int × Int) : PyData := .tuple [.str x.1, .int x.2.1, .int x.2.2]
theorem layD_R : LayD layR 1 (fun x => PyData.strOk x.1 = true ∧ True ∧ True) := layD_str.tup3 layD_int layD_int
theorem dpR {K : PySem.W.Frag} {H : Hp} (x : Str × Int × Int) (p : Addr) (h : H p = some (.tup (encR x))) : Dp K H (.ref p) (layR x) :=
  .tup (SqT.of h) (.cons (.str _) (.cons (.int _) (.cons (.int _) .nil)))
structure TradeOk (x : Str × Str × Int × Int) : Prop where
  b : x.1 ≠ ""
  s : x.2.1 ≠ ""
  ne : x.1 ≠ x.2.1
  u : 1 ≤ x.2.2.1
  c : 0 ≤ x.2.2.2
def touch (T : List (Str × Str × Int × Int)) (h : Str) : Prop := ∃ x, x ∈ T ∧ (x.1 = h ∨ x.2.1 = h)
def unitsOf (T : List (Str × Str × Int × Int)) (h : Str) : Int := (T.map fun x => (if h = x.1 then x.2.2.1 else 0) - (if h = x.2.1 then x.2.2.1 else 0)).sum
def centsOf (T : List (Str × Str × Int × Int)) (h : Str) : Int := (T.map fun x => (if h = x.2.1 then x.2.2.2 else 0) - (if h = x.1 then x.2.2.2 else 0)).sum
theorem inV2_no {x a b : Str} (h1 : a ≠ x) (h2 : b ≠ x) : inV (.str x) [.str a, .str b] = false := by
  unfold inV
  rw [List.any_cons, List.any_cons, List.any_nil]
  have e : ∀ y : Str, y ≠ x → eqV (.str y) (.str x) = false := fun y hy => by
    unfold eqV
    exact beq_eq_false_iff_ne.mpr hy
  rw [e a h1, e b h2]
  rfl
def sp_is_integral (K : PySem.W.Frag) : Sp := fun vs H Q _ => ∃ x : Int, vs = [.int x] ∧ Q (.bl true) H
theorem ok_is_integral (T : Txt K mg) : FnOk P w K mg base CX0 1 T.f_is_integral T.d_is_integral ["value"] (sp_is_integral K) := by
  refine T.F_is_integral.ok sc_is_integral (fun vs H Q E h => ?_) (fun cdv A outer s H vs Q E hr h => ?_)
  · obtain ⟨x, rfl, _⟩ := h
    rfl
  · obtain ⟨x, rfl, q⟩ := h
    refine ⟨_, (pss_one (ps_ret (pe_and (pe_callB call_isi (by rfl) T.z_isinstance (by decide +kernel) (pa_cons (pv 0) (pa_cons (pe_bltn (v := .ty "int") (u := .type "int") (by rfl) T.z_int (by decide +kernel) rfl) pa_nil))) (pe_one (pe_not (pe_callB call_isi (by rfl) T.z_isinstance (by decide +kernel) (pa_cons (pv 0) (pa_cons (pe_bltn (v := .ty "bool") (u := .type "bool") (by rfl) T.z_bool (by decide +kernel) rfl) pa_nil)))))))), ?_⟩
    refine ⟨_, rfl, ?_⟩
    refine ⟨_, _, _, _, true, rfl, .ty _, .base (.int _), kit_ty (by decide +kernel), ?_⟩
    refine ⟨true, rfl, iteT ?_⟩
    refine ⟨_, rfl, ?_⟩
    refine ⟨_, _, _, _, false, rfl, .ty _, .base (.int _), kit_ty (by decide +kernel), ?_⟩
    refine ⟨false, rfl, ?_⟩
    exact q
def sp_check_trades (K : PySem.W.Frag) : Sp := fun vs H Q _ => ∃ (l : Addr) (rs : List Addr) (T : List (Str × Str × Int × Int)), vs = [.ref l] ∧ Tups enc4 H l rs T ∧ (∀ x, x ∈ T → TradeOk x) ∧ ∀ H', Same H H' → Q .non H'
theorem ok_check_trades (T : Txt K mg) : FnOk P w K mg base CX0 2 T.f_check_trades T.d_check_trades ["trades"] (sp_check_trades K) := by
  refine T.F_check_trades.ok sc_check_trades (fun vs H Q E h => ?_) (fun cdv A outer s H vs Q E hr h => ?_)
  · obtain ⟨l, rs, T, rfl, _⟩ := h
    rfl
  · obtain ⟨l, rs, T', rfl, hT, hok, q⟩ := h
    have G_is_integral : FnOk P w K mg base CX0 1 T.f_is_integral T.d_is_integral ["value"] (sp_is_integral K) := ok_is_integral T
    have hs : SqL K H l (rs.map V.ref) := SqL.of hT.lst
    refine ⟨_, (pss_one (ps_for PassesOwn.never rfl (pi_list (pv 0)) (pg_tup rfl (pgs_cons (pg_name (i := 1) sc_check_trades.nd rfl (Or.inl rfl)) (pgs_cons (pg_name (i := 2) sc_check_trades.nd rfl (Or.inl rfl)) (pgs_cons (pg_name (i := 3) sc_check_trades.nd rfl (Or.inl rfl)) (pgs_cons (pg_name (i := 4) sc_check_trades.nd rfl (Or.inl rfl)) pgs_nil)))))
      (pss_cons (ps_if (PW.pt (pw_or (pt_cmpR op_in_seq pe_str (pe_tup (pa_cons (pv 1) (pa_cons (pv 2) pa_nil))) rfl) (pw_or1 (pt_cmpR op_eq (pv 1) (pv 2) (nomark _)))))
        (pss_one ps_never)
        pss_nil)
      (pss_cons (ps_if (PW.pt (pw_or (pt_not (pt_val (pe_call G_is_integral hr (by rfl) T.m_is_integral T.F_is_integral.kp T.b_is_integral .nil pass0 (pa_cons (pv 3) pa_nil)))) (pw_or1 (pt_cmpR op_lt (pv 3) pe_int (nomark _)))))
        (pss_one ps_never)
        pss_nil)
      (pss_one (ps_if (PW.pt (pw_or (pt_not (pt_val (pe_call G_is_integral hr (by rfl) T.m_is_integral T.F_is_integral.kp T.b_is_integral .nil pass0 (pa_cons (pv 4) pa_nil)))) (pw_or1 (pt_cmpR op_lt (pv 4) pe_int (nomark _)))))
        (pss_one ps_never)
        pss_nil)))))), ?_⟩
    walk_at "st"
    refine for_list (K := K) (a := l) (xs := rs.map V.ref) (fun i σ H' => (∃ v1 v2 v3 v4 : Option V, σ = [some (.ref l), v1, v2, v3, v4]) ∧ Same H H') ⟨⟨none, none, none, none, rfl⟩, Same.refl _⟩ (fun i σ H' _ ⟨_, e⟩ => e.seq hs) ?_ ?_
    · rintro i x σ H' hx ⟨⟨v1, v2, v3, v4, rfl⟩, e⟩
      obtain ⟨p, y, hp, hy, rfl, hyr⟩ := (hT.same e).item hx
      have ok := hok y (List.mem_of_getElem? hy)
      have hyt : SqT K H' p [.str y.1, .str y.2.1, .int y.2.2.1, .int y.2.2.2] := SqT.of hyr
      walk_at "st"
      intro U nU
      refine ⟨U, _, rfl, .inr (SqT.of upd_same), rfl, rfl, ?_⟩
      rw [if_neg Bool.false_ne_true, inV2_no ok.b ok.s]
      have e2 := e.trans (same_upd (o := .tup [.str y.1, .str y.2.1]) nU)
      generalize upd H' U (.tup [.str y.1, .str y.2.1]) = H2 at *
      have ku := ok.u
      have kc := ok.c
      walk_at "st"
      refine iteB (fun h => (ok.ne (V.str.inj (dec_t h))).elim) (fun _ => ?_)
      walk_at "st"
      refine iteB (fun h => absurd (dec_t h) (by omega)) (fun _ => ?_)
      walk_at "st"
      refine iteB (fun h => absurd (dec_t h) (by omega)) (fun _ => ?_)
      exact ⟨⟨_, _, _, _, rfl⟩, e2⟩
    · rintro σ H' ⟨⟨v1, v2, v3, v4, rfl⟩, e⟩
      exact q _ e
/-- each trade as two, with a center between -/
def novL (c : Str) (T : List (Str × Str × Int × Int)) : List (Str × Str × Int × Int) := T.flatMap fun x => [(x.1, c, x.2.2.1, x.2.2.2), (c, x.2.1, x.2.2.1, x.2.2.2)]
theorem novL_snoc (c : Str) (T : List (Str × Str × Int × Int)) (x : Str × Str × Int × Int) : novL c (T ++ [x]) = novL c T ++ [(x.1, c, x.2.2.1, x.2.2.2)] ++ [(c, x.2.1, x.2.2.1, x.2.2.2)] := by
  unfold novL
  rw [List.flatMap_append, List.append_assoc]
  rfl
theorem novL_len (c : Str) : ∀ T : List (Str × Str × Int × Int), (novL c T).length = 2 * T.length
  | [] => rfl
  | x :: T => by
    show (_ ++ novL c T).length = _
    rw [List.length_append, novL_len c T]
    show 2 + 2 * T.length = 2 * (T.length + 1)
    omega
theorem unitsOf_snoc (T : List (Str × Str × Int × Int)) (x : Str × Str × Int × Int) (h : Str) : unitsOf (T ++ [x]) h = unitsOf T h + ((if h = x.1 then x.2.2.1 else 0) - (if h = x.2.1 then x.2.2.1 else 0)) := by
  unfold unitsOf
  rw [List.map_append, List.sum_append, List.map_cons, List.map_nil, List.sum_cons, List.sum_nil]
  omega
theorem centsOf_snoc (T : List (Str × Str × Int × Int)) (x : Str × Str × Int × Int) (h : Str) : centsOf (T ++ [x]) h = centsOf T h + ((if h = x.2.1 then x.2.2.2 else 0) - (if h = x.1 then x.2.2.2 else 0)) := by
  unfold centsOf
  rw [List.map_append, List.sum_append, List.map_cons, List.map_nil, List.sum_cons, List.sum_nil]
  omega
theorem touch_snoc (T : List (Str × Str × Int × Int)) (x : Str × Str × Int × Int) (h : Str) : touch (T ++ [x]) h ↔ touch T h ∨ h = x.1 ∨ h = x.2.1 := by
  unfold touch
  constructor
  · rintro ⟨y, hy, e⟩
    rcases List.mem_append.mp hy with z | z
    · exact .inl ⟨y, z, e⟩
    · rw [List.mem_singleton] at z
      rw [z] at e
      exact .inr (e.imp Eq.symm Eq.symm)
  · rintro (⟨y, hy, e⟩ | e)
    · exact ⟨y, List.mem_append_left _ hy, e⟩
    · exact ⟨x, List.mem_append_right _ (List.mem_singleton.mpr rfl), e.imp Eq.symm Eq.symm⟩
theorem touch_take {T : List (Str × Str × Int × Int)} {i : Nat} {h : Str} (t : touch (T.take i) h) : touch T h := by
  obtain ⟨x, hx, e⟩ := t
  exact ⟨x, List.mem_of_mem_take hx, e⟩
def sp_nets (K : PySem.W.Frag) : Sp := fun vs H Q _ => ∃ (l : Addr) (rs : List Addr) (T : List (Str × Str × Int × Int)), vs = [.ref l] ∧ Tups enc4 H l rs T ∧ (∀ x, x ∈ T → TradeOk x) ∧ T.length ≤ 200 ∧
  (∀ ks : List Str, ks.Nodup → (∀ s, s ∈ ks → touch T s) → ks.length < 60) ∧
  ∀ p H' rs2 ys, Same H H' → H p = none → ys.Nodup → sortedS ys = true → (∀ s, s ∈ ys ↔ touch T s) → Tups encR H' p rs2 (ys.map fun y => (y, unitsOf T y, centsOf T y)) → Q (.ref p) H'
theorem ok_nets (T : Txt K mg) : FnOk P w K mg base CX0 3 T.f_nets T.d_nets ["trades"] (sp_nets K) := by
  refine T.F_nets.ok sc_nets (fun vs H Q E h => ?_) (fun cdv A outer s H vs Q E hr h => ?_)
  · obtain ⟨l, rs, T, rfl, _⟩ := h
    rfl
  · obtain ⟨l, rs, T', rfl, hT, hok, hlen, hks, q⟩ := h
    have G_check_trades : FnOk P w K mg base CX0 2 T.f_check_trades T.d_check_trades ["trades"] (sp_check_trades K) := ok_check_trades T
    have hs : SqL K H l (rs.map V.ref) := SqL.of hT.lst
    refine ⟨_, (pss_cons (ps_expr (pe_call G_check_trades hr (by rfl) T.m_check_trades T.F_check_trades.kp T.b_check_trades .nil pass0 (pa_cons (pv 0) pa_nil)))
    (pss_cons (ps_set (i := 1) sc_nets.nd rfl (Or.inr rfl) pe_dnewK)
    (pss_cons (ps_set (i := 2) sc_nets.nd rfl (Or.inr rfl) pe_dnewK)
    (pss_cons (ps_for PassesOwn.never rfl (pi_list (pv 0)) (pg_tup rfl (pgs_cons (pg_name (i := 3) sc_nets.nd rfl (Or.inl rfl)) (pgs_cons (pg_name (i := 4) sc_nets.nd rfl (Or.inl rfl)) (pgs_cons (pg_name (i := 5) sc_nets.nd rfl (Or.inl rfl)) (pgs_cons (pg_name (i := 6) sc_nets.nd rfl (Or.inl rfl)) pgs_nil)))))
      (pss_cons (ps_dput (hu_of hr) (pv 1) (pv 3) (pe_op op_add (pe_dget2 (hu_of hr) (pv 1) (pv 3) pe_int ⟨rfl, rfl, rfl, rfl⟩) (pv 5)) rfl)
      (pss_cons (ps_dput (hu_of hr) (pv 1) (pv 4) (pe_op op_sub (pe_dget2 (hu_of hr) (pv 1) (pv 4) pe_int ⟨rfl, rfl, rfl, rfl⟩) (pv 5)) rfl)
      (pss_cons (ps_dput (hu_of hr) (pv 2) (pv 3) (pe_op op_sub (pe_dget2 (hu_of hr) (pv 2) (pv 3) pe_int ⟨rfl, rfl, rfl, rfl⟩) (pv 6)) rfl)
      (pss_one (ps_dput (hu_of hr) (pv 2) (pv 4) (pe_op op_add (pe_dget2 (hu_of hr) (pv 2) (pv 4) pe_int ⟨rfl, rfl, rfl, rfl⟩) (pv 6)) rfl))))))
    (pss_one (ps_ret (pe_lc (own := [("house", 7)]) (g := gName 7) (tt := tYes) rfl sc_nets.nd (pi_list (pe_callB (call_sortedD rfl) (by rfl) T.z_sorted (by decide +kernel) (pa_cons (pv 1) pa_nil))) (blkOk_by (own := [("house", 7)]) (N := N_nets) (sc := defScope s_nets) (by decide +kernel)) (fun _ _ _ _ _ => (pg_name (i := 7) sc_nets.nd rfl (Or.inl rfl))) (fun _ _ _ _ _ => pts_nil) (fun _ _ _ _ _ => (pe_tup (pa_cons (pv 7) (pa_cons (pe_dget (hu_of hr) (pv 1) (pv 7) (fun _ _ => rfl)) (pa_cons (pe_dget (hu_of hr) (pv 2) (pv 7) (fun _ _ => rfl)) pa_nil)))))))))))), ?_⟩
    walk_at "st"
    refine ⟨rs, T', rfl, hT, hok, fun H1 e1 => ?_⟩
    have hs1 := e1.seq hs
    walk_at "st"
    intro U nU
    walk_at "st"
    intro C nC
    have hUC : U ≠ C := fun z => by rw [z, upd_same] at nC; cases nC
    have eU0 : upd (upd H1 U (.dK [])) C (.dK []) U = some (.dK (encD [])) := by
      rw [upd_ne hUC]
      exact upd_same
    have eC0 : upd (upd H1 U (.dK [])) C (.dK []) C = some (.dK (encD [])) := upd_same
    have sU := same_upd (o := .dK []) nU
    have s2 := e1.trans (sU.trans (same_upd (o := .dK []) nC))
    have nU0 : H U = none := e1.free nU
    have nC0 : H C = none := (e1.trans sU).free nC
    generalize upd (upd H1 U (.dK [])) C (.dK []) = H2 at *
    have hs2 := s2.seq hs
    walk_at "st"
    refine for_list (K := K) (a := l) (xs := rs.map V.ref) (fun i σ H' => ∃ (v3 v4 v5 v6 : Option V) (dU dC : List (Str × Int)), σ = [some (.ref l), some (.ref U), some (.ref C), v3, v4, v5, v6, none] ∧ Same H H' ∧ H' U = some (.dK (encD dU)) ∧ H' C = some (.dK (encD dC)) ∧ keysS dU = keysS dC ∧ (keysS dU).Nodup ∧ (∀ s, s ∈ keysS dU ↔ touch (T'.take i) s) ∧ (∀ h, gD dU h = unitsOf (T'.take i) h) ∧ ∀ h, gD dC h = centsOf (T'.take i) h)
      ⟨none, none, none, none, [], [], rfl, s2, eU0, eC0, rfl, List.nodup_nil, fun s => ⟨fun z => (by cases z), fun ⟨x, z, _⟩ => (by cases z)⟩, fun h => rfl, fun h => rfl⟩ (fun i σ H' _ ⟨_, _, _, _, _, _, _, e, _⟩ => e.seq hs) ?_ ?_
    · rintro i x σ H3 hx ⟨v3, v4, v5, v6, dU, dC, rfl, e3, hU, hC, hkk, hnd, hto, hgu, hgc⟩
      obtain ⟨p, y, hp, hy, rfl, hyr⟩ := (hT.same e3).item hx
      have hyt : SqT K H3 p [.str y.1, .str y.2.1, .int y.2.2.1, .int y.2.2.2] := SqT.of hyr
      have hkl := hks _ hnd fun s hs => touch_take ((hto s).mp hs)
      have lU : dU.length < 60 := by unfold keysS at hkl; rw [List.length_map] at hkl; exact hkl
      have lC : dC.length < 60 := by rw [hkk] at hkl; unfold keysS at hkl; rw [List.length_map] at hkl; exact hkl
      have plen : ∀ (d : List (Str × Int)) (s : Str) (v : Int), (putS d s v).length ≤ d.length + 1 := fun d s v => by
        have := addK_len (keysS d) s
        rw [← keys_put d s v] at this
        unfold keysS at this
        rw [List.length_map, List.length_map] at this
        exact this
      have i1 := isD_enc hU
      walk_at "st"
      refine dget_go hU ?_
      rw [getD_int]
      walk_at "st"
      refine dput_go hU (by omega) ?_
      generalize hv1 : gD dU y.1 + y.2.2.1 = x1
      have hU1 : upd H3 U (.dK (encD (putS dU y.1 x1))) U = some (.dK (encD (putS dU y.1 x1))) := upd_same
      have hC1 : upd H3 U (.dK (encD (putS dU y.1 x1))) C = some (.dK (encD dC)) := by rw [upd_ne hUC.symm]; exact hC
      have e4 : Same H (upd H3 U (.dK (encD (putS dU y.1 x1)))) := fun b o z => by rw [upd_ne (ne_of_none z nU0)]; exact e3 b o z
      have l1 := plen dU y.1 x1
      generalize upd H3 U (.dK (encD (putS dU y.1 x1))) = H4 at *
      have i2 := isD_enc hU1
      walk_at "st"
      refine dget_go hU1 ?_
      rw [getD_int]
      walk_at "st"
      refine dput_go hU1 (by omega) ?_
      generalize hv2 : gD (putS dU y.1 x1) y.2.1 - y.2.2.1 = x2
      have hU2 : upd H4 U (.dK (encD (putS (putS dU y.1 x1) y.2.1 x2))) U = some (.dK (encD (putS (putS dU y.1 x1) y.2.1 x2))) := upd_same
      have hC2 : upd H4 U (.dK (encD (putS (putS dU y.1 x1) y.2.1 x2))) C = some (.dK (encD dC)) := by rw [upd_ne hUC.symm]; exact hC1
      have e5 : Same H (upd H4 U (.dK (encD (putS (putS dU y.1 x1) y.2.1 x2)))) := fun b o z => by rw [upd_ne (ne_of_none z nU0)]; exact e4 b o z
      generalize upd H4 U (.dK (encD (putS (putS dU y.1 x1) y.2.1 x2))) = H5 at *
      have i3 := isD_enc hC2
      walk_at "st"
      refine dget_go hC2 ?_
      rw [getD_int]
      walk_at "st"
      refine dput_go hC2 (by omega) ?_
      generalize hv3 : gD dC y.1 - y.2.2.2 = x3
      have hC3 : upd H5 C (.dK (encD (putS dC y.1 x3))) C = some (.dK (encD (putS dC y.1 x3))) := upd_same
      have hU3 : upd H5 C (.dK (encD (putS dC y.1 x3))) U = some (.dK (encD (putS (putS dU y.1 x1) y.2.1 x2))) := by rw [upd_ne hUC]; exact hU2
      have e6 : Same H (upd H5 C (.dK (encD (putS dC y.1 x3)))) := fun b o z => by rw [upd_ne (ne_of_none z nC0)]; exact e5 b o z
      have l3 := plen dC y.1 x3
      generalize upd H5 C (.dK (encD (putS dC y.1 x3))) = H6 at *
      have i4 := isD_enc hC3
      walk_at "st"
      refine dget_go hC3 ?_
      rw [getD_int]
      walk_at "st"
      refine dput_go hC3 (by omega) ?_
      generalize hv4 : gD (putS dC y.1 x3) y.2.1 + y.2.2.2 = x4
      refine ⟨_, _, _, _, putS (putS dU y.1 x1) y.2.1 x2, putS (putS dC y.1 x3) y.2.1 x4, rfl, fun b o z => by rw [upd_ne (ne_of_none z nC0)]; exact e6 b o z, by rw [upd_ne hUC]; exact hU3, upd_same, ?_, ?_, fun s => ?_, fun h => ?_, fun h => ?_⟩
      · rw [keys_put, keys_put, keys_put, keys_put, hkk]
      · rw [keys_put, keys_put]
        exact addK_nodup (addK_nodup hnd)
      · rw [keys_put, keys_put, addK_mem, addK_mem, take_succ hy, touch_snoc, hto s, or_assoc]
      · rw [take_succ hy, unitsOf_snoc, ← hgu h, gD_put, ← hv2, gD_put, gD_put, ← hv1]
        by_cases a : h = y.2.1
        · rw [if_pos a, a]
          by_cases b : y.2.1 = y.1
          · rw [if_pos b, if_pos b, if_pos rfl, b]
            omega
          · rw [if_neg b, if_neg b, if_pos rfl]
            omega
        · rw [if_neg a, if_neg a]
          by_cases b : h = y.1
          · rw [if_pos b, if_pos b, b]
            omega
          · rw [if_neg b, if_neg b]
            omega
      · rw [take_succ hy, centsOf_snoc, ← hgc h, gD_put, ← hv4, gD_put, gD_put, ← hv3]
        by_cases a : h = y.2.1
        · rw [if_pos a, if_pos a, a]
          by_cases b : y.2.1 = y.1
          · rw [if_pos b, if_pos b, b]
            omega
          · rw [if_neg b, if_neg b]
            omega
        · rw [if_neg a, if_neg a]
          by_cases b : h = y.1
          · rw [if_pos b, if_pos b, b]
            omega
          · rw [if_neg b, if_neg b]
            omega
    · rintro σ H3 ⟨v3, v4, v5, v6, dU, dC, rfl, e3, hU, hC, hkk, hnd, hto, hgu, hgc⟩
      rw [show T'.take (rs.map V.ref).length = T' by rw [List.length_map, hT.len, List.take_length]] at hto hgu hgc
      have hkl := hks _ hnd fun s hs => (hto s).mp hs
      have i1 := isD_enc hU
      walk_at "st"
      refine ⟨encD dU, keysS dU, rfl, .inl hU, keys_enc dU, by omega, fun ys p hpe hso np => ?_⟩
      have hyn : ys.Nodup := hpe.nodup_iff.mpr hnd
      have hym : ∀ s, s ∈ ys ↔ touch T' s := fun s => hpe.mem_iff.trans (hto s)
      have sp := same_upd (o := .lst (ys.map V.str)) np
      have hp : upd H3 p (.lst (ys.map V.str)) p = some (.lst (ys.map V.str)) := upd_same
      have hU4 := sp _ _ hU
      have hC4 := sp _ _ hC
      have e4 := e3.trans sp
      have hyl : ys.length < 60 := by rw [hpe.length_eq]; exact hkl
      generalize upd H3 p (.lst (ys.map V.str)) = H4 at *
      have hp' : SqL K H4 p (ys.map V.str) := SqL.of hp
      walk_at "st"
      intro D nD
      refine lc_list (K := K) (a := p) (xs := ys.map V.str) (fun i H' => ∃ rs2, Tups encR H' D rs2 ((ys.take i).map fun y => (y, unitsOf T' y, centsOf T' y)) ∧ Same H4 H') ⟨[], .nil upd_same, same_upd nD⟩ (fun i H' _ ⟨_, _, e⟩ => e.seq hp') ?_ ?_
      · rintro i x H5 hx ⟨rs2, hD, e5⟩
        rw [List.getElem?_map] at hx
        cases hy : ys[i]? with
        | none => rw [hy] at hx; cases hx
        | some y =>
          rw [hy] at hx
          have hx : V.str y = x := Option.some.inj hx
          subst hx
          have hm := List.mem_of_getElem? hy
          have hkU : y ∈ keysS dU := hpe.mem_iff.mp hm
          have gU := dget_at (e5 _ _ hU4) hkU
          have gC := dget_at (e5 _ _ hC4) (by rw [← hkk]; exact hkU)
          rw [hgu] at gU
          rw [hgc] at gC
          refine ⟨rfl, ?_⟩
          walk_at "st"
          intro A nA
          have sA := same_upd (o := .tup [.str y, .int (unitsOf T' y), .int (centsOf T' y)]) nA
          have hDA := hD.push (x := (y, unitsOf T' y, centsOf T' y)) sA nA upd_same
          refine ⟨_, sA _ _ hD.lst, small1000 ?_, rs2 ++ [A], ?_, TabR.keep (e5.trans sA) nD⟩
          · rw [List.length_map, hD.len, List.length_map, List.length_take]
            omega
          · rw [take_succ hy, List.map_append]
            exact hDA
      · rintro H5 ⟨rs2, hD, e5⟩
        rw [show ys.take (ys.map V.str).length = ys by rw [List.length_map, List.take_length]] at hD
        exact q D H5 rs2 ys (e4.trans e5) (e4.free nD) hyn hso hym hD

theorem unitsOf_cons (T : List (Str × Str × Int × Int)) (x : Str × Str × Int × Int) (h : Str) : unitsOf (x :: T) h = ((if h = x.1 then x.2.2.1 else 0) - (if h = x.2.1 then x.2.2.1 else 0)) + unitsOf T h := by
  unfold unitsOf
  rw [List.map_cons, List.sum_cons]
theorem centsOf_cons (T : List (Str × Str × Int × Int)) (x : Str × Str × Int × Int) (h : Str) : centsOf (x :: T) h = ((if h = x.2.1 then x.2.2.2 else 0) - (if h = x.1 then x.2.2.2 else 0)) + centsOf T h := by
  unfold centsOf
  rw [List.map_cons, List.sum_cons]
theorem units_nov (c : Str) (h : Str) : ∀ T : List (Str × Str × Int × Int), unitsOf (novL c T) h = unitsOf T h
  | [] => rfl
  | x :: T => by
    show unitsOf ((x.1, c, x.2.2.1, x.2.2.2) :: (c, x.2.1, x.2.2.1, x.2.2.2) :: novL c T) h = _
    rw [unitsOf_cons, unitsOf_cons, unitsOf_cons, units_nov c h T]
    dsimp only
    omega
theorem cents_nov (c : Str) (h : Str) : ∀ T : List (Str × Str × Int × Int), centsOf (novL c T) h = centsOf T h
  | [] => rfl
  | x :: T => by
    show centsOf ((x.1, c, x.2.2.1, x.2.2.2) :: (c, x.2.1, x.2.2.1, x.2.2.2) :: novL c T) h = _
    rw [centsOf_cons, centsOf_cons, centsOf_cons, cents_nov c h T]
    dsimp only
    omega
theorem units_out {h : Str} : ∀ {T : List (Str × Str × Int × Int)}, ¬ touch T h → unitsOf T h = 0 ∧ centsOf T h = 0
  | [], _ => ⟨rfl, rfl⟩
  | x :: T, n => by
    have ih := units_out (T := T) fun ⟨y, hy, e⟩ => n ⟨y, List.mem_cons_of_mem _ hy, e⟩
    rw [unitsOf_cons, centsOf_cons, ih.1, ih.2, if_neg (fun e => n ⟨x, List.mem_cons_self, .inl e.symm⟩), if_neg (fun e => n ⟨x, List.mem_cons_self, .inr e.symm⟩), if_neg (fun e => n ⟨x, List.mem_cons_self, .inr e.symm⟩), if_neg (fun e => n ⟨x, List.mem_cons_self, .inl e.symm⟩)]
    exact ⟨rfl, rfl⟩
theorem mem_nov {c : Str} {T : List (Str × Str × Int × Int)} {y : Str × Str × Int × Int} (h : y ∈ novL c T) : ∃ x, x ∈ T ∧ (y = (x.1, c, x.2.2.1, x.2.2.2) ∨ y = (c, x.2.1, x.2.2.1, x.2.2.2)) := by
  unfold novL at h
  obtain ⟨x, hx, hy⟩ := List.mem_flatMap.mp h
  refine ⟨x, hx, ?_⟩
  rcases List.mem_cons.mp hy with e | e
  · exact .inl e
  · exact .inr (List.mem_singleton.mp e)
theorem touch_nov {c s : Str} {T : List (Str × Str × Int × Int)} : touch (novL c T) s ↔ touch T s ∨ (s = c ∧ T ≠ []) := by
  constructor
  · rintro ⟨y, hy, e⟩
    obtain ⟨x, hx, z | z⟩ := mem_nov hy
    · rw [z] at e
      rcases e with e | e
      · exact .inl ⟨x, hx, .inl e⟩
      · exact .inr ⟨e.symm, fun w => by rw [w] at hx; cases hx⟩
    · rw [z] at e
      rcases e with e | e
      · exact .inr ⟨e.symm, fun w => by rw [w] at hx; cases hx⟩
      · exact .inl ⟨x, hx, .inr e⟩
  · have key : ∀ x, x ∈ T → (x.1, c, x.2.2.1, x.2.2.2) ∈ novL c T ∧ (c, x.2.1, x.2.2.1, x.2.2.2) ∈ novL c T := fun x hx => by
      unfold novL
      exact ⟨List.mem_flatMap.mpr ⟨x, hx, List.mem_cons_self⟩, List.mem_flatMap.mpr ⟨x, hx, List.mem_cons_of_mem _ List.mem_cons_self⟩⟩
    rintro (⟨x, hx, e⟩ | ⟨e, hT⟩)
    · rcases e with e | e
      · exact ⟨_, (key x hx).1, .inl e⟩
      · exact ⟨_, (key x hx).2, .inr e⟩
    · cases T with
      | nil => exact absurd rfl hT
      | cons x T => exact ⟨_, (key x List.mem_cons_self).1, .inr e.symm⟩
theorem nodup_len {α : Type} [DecidableEq α] : ∀ {xs ys : List α}, xs.Nodup → (∀ x, x ∈ xs → x ∈ ys) → xs.length ≤ ys.length
  | [], _, _, _ => Nat.zero_le _
  | x :: xs, ys, h, k => by
    have h' := List.nodup_cons.mp h
    have ih := nodup_len (ys := ys.erase x) h'.2 fun y hy => (List.mem_erase_of_ne fun e => h'.1 (by rw [← e]; exact hy)).mpr (k y (List.mem_cons_of_mem _ hy))
    have hm := k x List.mem_cons_self
    rw [List.length_erase_of_mem hm] at ih
    have := List.length_pos_of_mem hm
    rw [List.length_cons]
    omega
theorem filter_one {α : Type} [DecidableEq α] {c : α} : ∀ {xs : List α}, xs.Nodup → c ∈ xs → xs.filter (fun x => decide (x = c)) = [c]
  | [], _, h => by cases h
  | x :: xs, h, k => by
    have h' := List.nodup_cons.mp h
    by_cases e : x = c
    · rw [List.filter_cons_of_pos (by exact decide_eq_true e), e, List.filter_eq_nil_iff.mpr fun y hy => ?_]
      intro z
      exact h'.1 (by rw [e, ← of_decide_eq_true z]; exact hy)
    · rw [List.filter_cons_of_neg (by rw [decide_eq_false e]; exact Bool.false_ne_true)]
      exact filter_one h'.2 ((List.mem_cons.mp k).resolve_left fun z => e z.symm)

/-- a name: some text with good signs -/
def NameOk (s : Str) : Prop := s ≠ "" ∧ PyData.strOk s = true
theorem inV_strs (x : Str) : ∀ nm : List Str, inV (.str x) (nm.map V.str) = decide (x ∈ nm)
  | [] => rfl
  | y :: nm => by
    have ih := inV_strs x nm
    unfold inV at ih ⊢
    rw [List.map_cons, List.any_cons, ih]
    have e : eqV (.str y) (.str x) = decide (y = x) := by
      unfold eqV
      exact Bool.beq_eq_decide_eq y x
    rw [e]
    by_cases h : y = x
    · have hm : x ∈ y :: nm := by rw [h]; exact List.mem_cons_self
      rw [decide_eq_true h, decide_eq_true hm]
      rfl
    · rw [decide_eq_false h, Bool.false_or]
      exact decide_eq_decide.mpr ⟨fun z => List.mem_cons_of_mem _ z, fun z => (List.mem_cons.mp z).resolve_left fun e => h e.symm⟩
theorem flat_strs : ∀ nm : List Str, (nm.map V.str).all flatV = true
  | [] => rfl
  | y :: nm => by rw [List.map_cons, List.all_cons, flat_strs nm]; rfl
theorem name3 {a b c : Nat} (ha : a < 26) (hb : b < 26) (hc : c < 26) {k : Int} (h0 : 0 ≤ k) (h1 : k < 3) : NameOk (cutS ((⟨#[97 + a]⟩ : Str) ++ (⟨#[97 + b]⟩ : Str) ++ (⟨#[97 + c]⟩ : Str)) none (some (1 + k))) := by
  have key : ∀ z : Nat, z < 26 → decide (97 + z < 0x110000) = true := fun z hz => decide_eq_true (by omega)
  rcases (by omega : k = 0 ∨ k = 1 ∨ k = 2) with e | e | e
  · subst e
    have : cutS ((⟨#[97 + a]⟩ : Str) ++ (⟨#[97 + b]⟩ : Str) ++ (⟨#[97 + c]⟩ : Str)) none (some (1 + 0)) = ⟨#[97 + a]⟩ := rfl
    rw [this]
    refine ⟨fun z => ?_, ?_⟩
    · have := congrArg (fun s : Str => s.cps.size) z
      cases this
    · unfold PyData.strOk
      simp only [List.all_toArray, List.all_cons, List.all_nil, Bool.and_true]
      exact key a ha
  · subst e
    have : cutS ((⟨#[97 + a]⟩ : Str) ++ (⟨#[97 + b]⟩ : Str) ++ (⟨#[97 + c]⟩ : Str)) none (some (1 + 1)) = ⟨#[97 + a, 97 + b]⟩ := rfl
    rw [this]
    refine ⟨fun z => ?_, ?_⟩
    · have := congrArg (fun s : Str => s.cps.size) z
      cases this
    · unfold PyData.strOk
      simp only [List.all_toArray, List.all_cons, List.all_nil, Bool.and_true]
      rw [key a ha, key b hb]
      rfl
  · subst e
    have : cutS ((⟨#[97 + a]⟩ : Str) ++ (⟨#[97 + b]⟩ : Str) ++ (⟨#[97 + c]⟩ : Str)) none (some (1 + 2)) = ⟨#[97 + a, 97 + b, 97 + c]⟩ := rfl
    rw [this]
    refine ⟨fun z => ?_, ?_⟩
    · have := congrArg (fun s : Str => s.cps.size) z
      cases this
    · unfold PyData.strOk
      simp only [List.all_toArray, List.all_cons, List.all_nil, Bool.and_true]
      rw [key a ha, key b hb, key c hc]
      rfl
theorem letters_at : ∀ i : Fin 26, atI (Str.ofString "abcdefghijklmnopqrstuvwxyz").cps.toList ((i.val : Nat) : Int) = some (97 + i.val) := by decide +kernel
theorem letter {x : Int} (h0 : 0 ≤ x) (h1 : x < 26) : ∃ a : Nat, a < 26 ∧ atI (Str.ofString "abcdefghijklmnopqrstuvwxyz").cps.toList x = some (97 + a) := by
  have h2 : x.toNat < 26 := by omega
  refine ⟨x.toNat, h2, ?_⟩
  have h3 := letters_at ⟨x.toNat, h2⟩
  rw [show x = ((x.toNat : Nat) : Int) by omega]
  exact h3
def sp_law_names (K : PySem.W.Frag) : Sp := fun vs H Q _ => ∃ cell : Int, vs = [.int cell] ∧ ∀ p H' (nm : List Str), Same H H' → H p = none → H' p = some (.lst (nm.map V.str)) → nm.Nodup → (∀ s, s ∈ nm → NameOk s) → 2 ≤ nm.length → nm.length ≤ 9 → Q (.ref p) H'
theorem ok_law_names (T : Txt K mg) : FnOk P w K mg base CX0 2 T.f_law_names T.d_law_names ["cell"] (sp_law_names K) := by
  refine T.F_law_names.ok sc_law_names (fun vs H Q E h => ?_) (fun cdv A outer s H vs Q E hr h => ?_)
  · obtain ⟨cell, rfl, _⟩ := h
    rfl
  · obtain ⟨cell, rfl, q⟩ := h
    have G_law_draws : FnOk P w K mg base CX0 1 T.f_law_draws T.d_law_draws ["cell", "count", "size"] (sp_law_draws K) := ok_law_draws T
    refine ⟨_, (pss_cons (ps_set (i := 1) sc_law_names.nd rfl (Or.inl rfl) (pe_lst (pa_cons pe_str (pa_cons pe_str pa_nil))))
    (pss_cons (ps_for PassesOwn.never rfl (pi_list (pe_call G_law_draws hr (by rfl) T.m_law_draws T.F_law_draws.kp T.b_law_draws .nil pass0 (pa_cons (pv 0) (pa_cons pe_int (pa_cons pe_int pa_nil))))) (pg_name (i := 2) sc_law_names.nd rfl (Or.inl rfl))
      (pss_cons (ps_set (i := 3) sc_law_names.nd rfl (Or.inl rfl) pe_str)
      (pss_cons (ps_set (i := 4) sc_law_names.nd rfl (Or.inl rfl) (pe_op op_add_str (pe_op op_add_str (pe_ix ix_str (pv 3) (pe_op op_mod (pv 2) pe_int) (fun _ _ => rfl)) (pe_ix ix_str (pv 3) (pe_op op_mod (pe_op op_fdiv (pv 2) pe_int) pe_int) (fun _ _ => rfl))) (pe_ix ix_str (pv 3) (pe_op op_fdiv (pv 2) pe_int) (fun _ _ => rfl))))
      (pss_cons (ps_set (i := 4) sc_law_names.nd rfl (Or.inl rfl) (pe_slice sl_str (pv 4) po_none (po_some (pe_op op_add pe_int (pe_op op_mod (pv 2) pe_int)))))
      (pss_one (ps_if (pt_cmpR op_notIn_seq (pv 4) (pv 1) rfl)
        (pss_one (ps_expr (pe_bm PySem.F.plainAttrs_list PySem.F.slot_list_append PySem.F.type_list_append mt_append (pv 1) (pa_cons (pv 4) pa_nil))))
        pss_nil))))))
    (pss_one (ps_ret (pv 1))))), ?_⟩
    walk_at "st"
    intro D nD
    have sD := same_upd (o := .lst [.str "ab", .str "b"]) nD
    have hD : upd H D (.lst [.str "ab", .str "b"]) D = some (.lst (([("ab" : Str), "b"]).map V.str)) := upd_same
    generalize upd H D (.lst [.str "ab", .str "b"]) = H1 at *
    walk_at "st"
    intro p H2 e2 np hp
    have hp' : SqL K H2 p ((rowI 7 (drawG cell 17576)).map V.int) := SqL.of hp
    have hD2 := e2 _ _ hD
    walk_at "st"
    refine for_list (K := K) (a := p) (xs := (rowI 7 (drawG cell 17576)).map V.int) (fun i σ H' => ∃ (v2 v3 v4 : Option V) (nm : List Str), σ = [some (.int cell), some (.ref D), v2, v3, v4] ∧ Same H H' ∧ H' p = some (.lst ((rowI 7 (drawG cell 17576)).map V.int)) ∧ H' D = some (.lst (nm.map V.str)) ∧ nm.Nodup ∧ (∀ s, s ∈ nm → NameOk s) ∧ 2 ≤ nm.length ∧ nm.length ≤ 2 + i)
      ⟨none, none, none, ["ab", "b"], rfl, sD.trans e2, hp, hD2, by decide +kernel, fun s hs => ?n0, Nat.le_refl _, Nat.le_refl _⟩ (fun i σ H' _ ⟨_, _, _, _, _, _, e, _⟩ => SqL.of e) ?_ ?_
    case n0 =>
      rcases List.mem_cons.mp hs with e | e
      · rw [e]; exact ⟨by decide +kernel, by decide +kernel⟩
      · rw [List.mem_singleton.mp e]; exact ⟨by decide +kernel, by decide +kernel⟩
    · rintro i x σ H3 hx ⟨v2, v3, v4, nm, rfl, e3, hp3, hD3, hnd, hok, hl1, hl2⟩
      obtain ⟨z, hz, rfl⟩ := ints_at hx
      have hi := (List.getElem?_eq_some_iff.mp hz).1
      rw [rowI_len] at hi
      rw [rowI_at hi] at hz
      obtain ⟨d0, d1⟩ := drawG_bound (cell := cell) (size := 17576) (by decide) i
      rw [Option.some.inj hz] at d0 d1
      clear hz hx
      have m1 := Int.emod_nonneg z (by decide : (26 : Int) ≠ 0)
      have m2 := Int.emod_lt_of_pos z (by decide : (0 : Int) < 26)
      have m3 := Int.emod_nonneg (z / 26) (by decide : (26 : Int) ≠ 0)
      have m4 := Int.emod_lt_of_pos (z / 26) (by decide : (0 : Int) < 26)
      have m5 := Int.emod_nonneg z (by decide : (3 : Int) ≠ 0)
      have m6 := Int.emod_lt_of_pos z (by decide : (0 : Int) < 3)
      obtain ⟨a, ha, aa⟩ := letter m1 m2
      obtain ⟨b, hb, ab⟩ := letter m3 m4
      obtain ⟨c, hc, ac⟩ := letter (x := z / 676) (by omega) (by omega)
      have lab : (Str.ofString "abcdefghijklmnopqrstuvwxyz").length ≤ sizeLine := len_le rfl
      have l2 : (⟨#[97 + a]⟩ : Str).length + (⟨#[97 + b]⟩ : Str).length ≤ sizeLine := len_le rfl
      have l3 : ((⟨#[97 + a]⟩ : Str) ++ (⟨#[97 + b]⟩ : Str)).length + (⟨#[97 + c]⟩ : Str).length ≤ sizeLine := len_le rfl
      have l4 : ((⟨#[97 + a]⟩ : Str) ++ (⟨#[97 + b]⟩ : Str) ++ (⟨#[97 + c]⟩ : Str)).length ≤ sizeLine := len_le rfl
      have hnew := name3 ha hb hc m5 m6
      have hDl : SqL K H3 D (nm.map V.str) := SqL.of hD3
      walk_at "st"
      refine ⟨flat_strs nm, ?_⟩
      generalize cutS ((⟨#[97 + a]⟩ : Str) ++ (⟨#[97 + b]⟩ : Str) ++ (⟨#[97 + c]⟩ : Str)) none (some (1 + z % 3)) = new at *
      rw [if_pos rfl, inV_strs]
      refine ⟨_, rfl, iteB (fun h => ?_) (fun h => ?_)⟩
      · have hnin : new ∉ nm := ndec_t h
        have hlt : (nm.map V.str).length < sizeLine := small1000 (by rw [List.length_map]; omega)
        have hpD : p ≠ D := fun e => by
          rw [e, hD] at np
          cases np
        walk_at "st"
        refine ⟨_, _, _, nm ++ [new], rfl, TabR.keep e3 nD, by rw [upd_ne hpD]; exact hp3, by rw [upd_same, List.map_append]; rfl, ?_, fun s hs => ?_, by rw [List.length_append]; omega, by rw [List.length_append]; show nm.length + 1 ≤ _; omega⟩
        · rw [List.nodup_append]
          exact ⟨hnd, List.nodup_cons.mpr ⟨fun z => (by cases z), List.nodup_nil⟩, fun u hu w hw e => hnin (by rw [List.mem_singleton] at hw; rw [← hw, ← e]; exact hu)⟩
        · rcases List.mem_append.mp hs with e | e
          · exact hok s e
          · rw [List.mem_singleton.mp e]; exact hnew
      · exact ⟨_, _, _, nm, rfl, e3, hp3, hD3, hnd, hok, hl1, by omega⟩
    · rintro σ H3 ⟨v2, v3, v4, nm, rfl, e3, hp3, hD3, hnd, hok, hl1, hl2⟩
      rw [List.length_map, rowI_len] at hl2
      walk_at "st"
      exact q D H3 nm e3 nD hD3 hnd hok hl1 hl2
/-- the trade of a cell -/
def tradeG (nm : List Str) (cell : Int) : Str × Str × Int × Int :=
  (nm.getD (drawG cell 1000003 0 % nm.length).toNat "", nm.getD ((drawG cell 1000003 0 % nm.length + 1 + drawG cell 1000003 1 % (nm.length - 1)) % nm.length).toNat "",
    1 + drawG cell 1000003 2 % (if drawG cell 1000003 4 % 2 = 0 then 9 else 1000000), drawG cell 1000003 3 % 1000001)
theorem at_strs {nm : List Str} {i : Int} (h0 : 0 ≤ i) (h1 : i < nm.length) : atI (nm.map V.str) i = some (.str (nm.getD i.toNat "")) ∧ nm[i.toNat]? = some (nm.getD i.toNat "") := by
  have hi : i.toNat < nm.length := by omega
  have e : nm[i.toNat]? = some (nm.getD i.toNat "") := by
    rw [List.getD_eq_getElem?_getD, List.getElem?_eq_getElem hi]
    rfl
  refine ⟨?_, e⟩
  rw [show i = ((i.toNat : Nat) : Int) by omega]
  refine at_of (j := i.toNat) rfl ?_
  rw [List.getElem?_map, Int.toNat_natCast, e]
  rfl
def sp_law_trade (K : PySem.W.Frag) : Sp := fun vs H Q _ => ∃ (cell : Int) (l : Addr) (nm : List Str), vs = [.int cell, .ref l] ∧ H l = some (.lst (nm.map V.str)) ∧ nm.Nodup ∧ (∀ s, s ∈ nm → NameOk s) ∧ 2 ≤ nm.length ∧ nm.length ≤ 9 ∧
  (TradeOk (tradeG nm cell) → (tradeG nm cell).1 ∈ nm → (tradeG nm cell).2.1 ∈ nm → ∀ p H', Same H H' → H p = none → H' p = some (.tup (enc4 (tradeG nm cell))) → Q (.ref p) H')
theorem ok_law_trade (T : Txt K mg) : FnOk P w K mg base CX0 2 T.f_law_trade T.d_law_trade ["cell", "names"] (sp_law_trade K) := by
  refine T.F_law_trade.ok sc_law_trade (fun vs H Q E h => ?_) (fun cdv A outer s H vs Q E hr h => ?_)
  · obtain ⟨cell, l, nm, rfl, _⟩ := h
    rfl
  · obtain ⟨cell, l, nm, rfl, hl, hnd, hok, hn0, hn1, q⟩ := h
    have G_law_draws : FnOk P w K mg base CX0 1 T.f_law_draws T.d_law_draws ["cell", "count", "size"] (sp_law_draws K) := ok_law_draws T
    refine ⟨_, (pss_cons (ps_set (i := 2) sc_law_trade.nd rfl (Or.inl rfl) (pe_call G_law_draws hr (by rfl) T.m_law_draws T.F_law_draws.kp T.b_law_draws .nil pass0 (pa_cons (pv 0) (pa_cons pe_int (pa_cons pe_int pa_nil)))))
    (pss_cons (ps_set (i := 3) sc_law_trade.nd rfl (Or.inl rfl) (pe_op op_mod (pe_ix ix_list (pv 2) pe_int (fun _ _ => rfl)) (pe_callB call_len_seq (by rfl) T.z_len PySem.boot_len (pa_cons (pv 1) pa_nil))))
    (pss_cons (ps_set (i := 4) sc_law_trade.nd rfl (Or.inl rfl) (pe_op op_mod (pe_op op_add (pe_op op_add (pv 3) pe_int) (pe_op op_mod (pe_ix ix_list (pv 2) pe_int (fun _ _ => rfl)) (pe_op op_sub (pe_callB call_len_seq (by rfl) T.z_len PySem.boot_len (pa_cons (pv 1) pa_nil)) pe_int))) (pe_callB call_len_seq (by rfl) T.z_len PySem.boot_len (pa_cons (pv 1) pa_nil))))
    (pss_cons (ps_set (i := 5) sc_law_trade.nd rfl (Or.inl rfl) (pe_op op_add pe_int (pe_op op_mod (pe_ix ix_list (pv 2) pe_int (fun _ _ => rfl)) (pe_ix ix_list (pe_lst (pa_cons pe_int (pa_cons pe_int pa_nil))) (pe_op op_mod (pe_ix ix_list (pv 2) pe_int (fun _ _ => rfl)) pe_int) (fun _ _ => rfl)))))
    (pss_one (ps_ret (pe_tup (pa_cons (pe_ix ix_list (pv 1) (pv 3) (fun _ _ => rfl)) (pa_cons (pe_ix ix_list (pv 1) (pv 4) (fun _ _ => rfl)) (pa_cons (pv 5) (pa_cons (pe_op op_mod (pe_ix ix_list (pv 2) pe_int (fun _ _ => rfl)) pe_int) pa_nil))))))))))), ?_⟩
    walk_at "st"
    intro p H1 e1 np hp
    have hp1 : SqL K H1 p ((rowI 5 (drawG cell 1000003)).map V.int) := SqL.of hp
    have hl1 := e1 _ _ hl
    have hl2 : SqL K H1 l (nm.map V.str) := SqL.of hl1
    have a0 := atI_row (g := drawG cell 1000003) (show 0 < 5 by decide)
    have a1 := atI_row (g := drawG cell 1000003) (show 1 < 5 by decide)
    have a2 := atI_row (g := drawG cell 1000003) (show 2 < 5 by decide)
    have a3 := atI_row (g := drawG cell 1000003) (show 3 < 5 by decide)
    have a4 := atI_row (g := drawG cell 1000003) (show 4 < 5 by decide)
    unfold tradeG at q
    generalize drawG cell 1000003 0 = d0 at *
    generalize drawG cell 1000003 1 = d1 at *
    generalize drawG cell 1000003 2 = d2 at *
    generalize drawG cell 1000003 3 = d3 at *
    generalize drawG cell 1000003 4 = d4 at *
    have b1 := Int.emod_nonneg d0 (by omega : (nm.length : Int) ≠ 0)
    have b2 := Int.emod_lt_of_pos d0 (by omega : (0 : Int) < nm.length)
    have b3 := Int.emod_nonneg d1 (by omega : (nm.length : Int) - 1 ≠ 0)
    have b4 := Int.emod_lt_of_pos d1 (by omega : (0 : Int) < (nm.length : Int) - 1)
    have hlm : (((nm.map V.str).length : Nat) : Int) = nm.length := by rw [List.length_map]
    have c1 : (0 : Int) < ((nm.map V.str).length : Nat) := by omega
    have c2 : (0 : Int) < ((nm.map V.str).length : Nat) - 1 := by omega
    have b5 := Int.emod_nonneg d4 (by decide : (2 : Int) ≠ 0)
    have b6 := Int.emod_lt_of_pos d4 (by decide : (0 : Int) < 2)
    have hat : atI [V.int 9, V.int 1000000] (d4 % 2) = some (.int (if d4 % 2 = 0 then 9 else 1000000)) := by
      rcases (by omega : d4 % 2 = 0 ∨ d4 % 2 = 1) with e | e
      · rw [e]; rfl
      · rw [e]; rfl
    generalize hsz : (if d4 % 2 = 0 then (9 : Int) else 1000000) = sz at *
    have hsz0 : 0 < sz := by rw [← hsz]; split <;> decide
    obtain ⟨n1, n2⟩ := at_strs b1 b2
    have b7 := Int.emod_nonneg (d0 % nm.length + 1 + d1 % (nm.length - 1)) (by omega : (nm.length : Int) ≠ 0)
    have b8 := Int.emod_lt_of_pos (d0 % nm.length + 1 + d1 % (nm.length - 1)) (by omega : (0 : Int) < nm.length)
    obtain ⟨n3, n4⟩ := at_strs b7 b8
    have n1' : atI (nm.map V.str) (d0 % ((nm.map V.str).length : Nat)) = some (.str (nm.getD (d0 % nm.length).toNat "")) := by rw [hlm]; exact n1
    have n3' : atI (nm.map V.str) ((d0 % ((nm.map V.str).length : Nat) + 1 + d1 % (((nm.map V.str).length : Nat) - 1)) % ((nm.map V.str).length : Nat)) = some (.str (nm.getD ((d0 % nm.length + 1 + d1 % (nm.length - 1)) % nm.length).toNat "")) := by rw [hlm]; exact n3
    walk_at "st"
    intro L nL
    have sL := same_upd (o := .lst [.int 9, .int 1000000]) nL
    have hL : SqL K (upd H1 L (.lst [.int 9, .int 1000000])) L [.int 9, .int 1000000] := SqL.of upd_same
    have hl3 := sL.seq hl2
    have hp3 := sL.seq hp1
    have e2 := e1.trans sL
    generalize upd H1 L (.lst [.int 9, .int 1000000]) = H2 at *
    walk_at "st"
    intro U nU
    have hne : (d0 % nm.length).toNat ≠ ((d0 % nm.length + 1 + d1 % (nm.length - 1)) % nm.length).toNat := by
      intro e
      have e' : d0 % nm.length = (d0 % nm.length + 1 + d1 % (nm.length - 1)) % nm.length := by omega
      generalize d0 % nm.length = x at *
      generalize d1 % ((nm.length : Int) - 1) = y at *
      generalize (nm.length : Int) = n at *
      by_cases z : x + 1 + y < n
      · rw [Int.emod_eq_of_lt (by omega) z] at e'
        omega
      · have : (x + 1 + y) % n = x + 1 + y - n := by
          rw [← Int.sub_emod_right, Int.emod_eq_of_lt (by omega) (by omega)]
        rw [this] at e'
        omega
    refine q ⟨(hok _ (List.mem_of_getElem? n2)).1, (hok _ (List.mem_of_getElem? n4)).1, fun e => hne ?_, ?_, ?_⟩ (List.mem_of_getElem? n2) (List.mem_of_getElem? n4) U _ (e2.trans (same_upd nU)) (e2.free nU) ?_
    · have z1 := List.getElem?_eq_some_iff.mp n2
      have z2 := List.getElem?_eq_some_iff.mp n4
      exact (List.getElem_inj hnd).mp (z1.2.trans (e.trans z2.2.symm))
    · have := Int.emod_nonneg d2 (by omega : sz ≠ 0)
      show 1 ≤ 1 + d2 % sz
      omega
    · exact Int.emod_nonneg d3 (by decide : (1000001 : Int) ≠ 0)
    · exact upd_same

/-- what a house bought, sold, paid -/
def boughtL (T : List (Str × Str × Int × Int)) (h : Str) : Int := ((T.filter fun x => decide (x.1 = h)).map (·.2.2.1)).sum
def soldL (T : List (Str × Str × Int × Int)) (h : Str) : Int := ((T.filter fun x => decide (x.2.1 = h)).map (·.2.2.1)).sum
def gotL (T : List (Str × Str × Int × Int)) (h : Str) : Int := ((T.filter fun x => decide (x.2.1 = h)).map (·.2.2.2)).sum
def paidT (T : List (Str × Str × Int × Int)) (h : Str) : Int := ((T.filter fun x => decide (x.1 = h)).map (·.2.2.2)).sum
theorem fsum_cons {α : Type} (P : α → Bool) (f : α → Int) (x : α) (T : List α) : (((x :: T).filter P).map f).sum = (if P x = true then f x else 0) + ((T.filter P).map f).sum := by
  by_cases h : P x = true
  · rw [List.filter_cons_of_pos h, if_pos h, List.map_cons, List.sum_cons]
  · rw [List.filter_cons_of_neg h, if_neg h, Int.zero_add]
theorem sums_are (h : Str) : ∀ T : List (Str × Str × Int × Int), (∀ x, x ∈ T → TradeOk x) → boughtL T h - soldL T h = unitsOf T h ∧ gotL T h - paidT T h = centsOf T h ∧ 0 ≤ boughtL T h ∧ 0 ≤ soldL T h ∧ (0 < boughtL T h + soldL T h ↔ touch T h)
  | [], _ => ⟨rfl, rfl, Int.le_refl 0, Int.le_refl 0, ⟨fun z => absurd (show (0 : Int) < 0 from z) (by decide), fun ⟨x, z, _⟩ => (by cases z)⟩⟩
  | x :: T, ok => by
    obtain ⟨h1, h2, h3, h4, h5⟩ := sums_are h T fun y hy => ok y (List.mem_cons_of_mem _ hy)
    have o := ok x List.mem_cons_self
    have hu := o.u
    unfold boughtL soldL gotL paidT at *
    rw [fsum_cons, fsum_cons, fsum_cons, fsum_cons, unitsOf_cons, centsOf_cons, ← h1, ← h2]
    have tc : touch (x :: T) h ↔ x.1 = h ∨ x.2.1 = h ∨ touch T h := by
      constructor
      · rintro ⟨y, hy, e⟩
        rcases List.mem_cons.mp hy with z | z
        · rw [z] at e
          exact e.elim .inl fun e => .inr (.inl e)
        · exact .inr (.inr ⟨y, z, e⟩)
      · rintro (e | e | ⟨y, hy, e⟩)
        · exact ⟨x, List.mem_cons_self, .inl e⟩
        · exact ⟨x, List.mem_cons_self, .inr e⟩
        · exact ⟨y, List.mem_cons_of_mem _ hy, e⟩
    have d1 : (if decide (x.1 = h) = true then x.2.2.1 else 0) = if h = x.1 then x.2.2.1 else 0 := by
      by_cases e : x.1 = h
      · rw [decide_eq_true e, if_pos rfl, if_pos e.symm]
      · rw [decide_eq_false e, if_neg Bool.false_ne_true, if_neg fun z => e z.symm]
    have d2 : (if decide (x.2.1 = h) = true then x.2.2.1 else 0) = if h = x.2.1 then x.2.2.1 else 0 := by
      by_cases e : x.2.1 = h
      · rw [decide_eq_true e, if_pos rfl, if_pos e.symm]
      · rw [decide_eq_false e, if_neg Bool.false_ne_true, if_neg fun z => e z.symm]
    have d3 : (if decide (x.2.1 = h) = true then x.2.2.2 else 0) = if h = x.2.1 then x.2.2.2 else 0 := by
      by_cases e : x.2.1 = h
      · rw [decide_eq_true e, if_pos rfl, if_pos e.symm]
      · rw [decide_eq_false e, if_neg Bool.false_ne_true, if_neg fun z => e z.symm]
    have d4 : (if decide (x.1 = h) = true then x.2.2.2 else 0) = if h = x.1 then x.2.2.2 else 0 := by
      by_cases e : x.1 = h
      · rw [decide_eq_true e, if_pos rfl, if_pos e.symm]
      · rw [decide_eq_false e, if_neg Bool.false_ne_true, if_neg fun z => e z.symm]
    rw [d1, d2, d3, d4, tc, ← h5]
    have s1 : (x.1 = h) ↔ (h = x.1) := ⟨Eq.symm, Eq.symm⟩
    have s2 : (x.2.1 = h) ↔ (h = x.2.1) := ⟨Eq.symm, Eq.symm⟩
    rw [s1, s2]
    generalize ((T.filter fun x => decide (x.1 = h)).map (·.2.2.1)).sum = B at *
    generalize ((T.filter fun x => decide (x.2.1 = h)).map (·.2.2.1)).sum = S at *
    refine ⟨by omega, by omega, by split <;> omega, by split <;> omega, ?_⟩
    by_cases e1 : h = x.1
    · rw [if_pos e1]
      refine ⟨fun _ => .inl e1, fun _ => ?_⟩
      split <;> omega
    · rw [if_neg e1]
      by_cases e2 : h = x.2.1
      · rw [if_pos e2]
        exact ⟨fun _ => .inr (.inl e2), fun _ => by omega⟩
      · rw [if_neg e2]
        exact ⟨fun z => .inr (.inr (by omega)), fun z => by rcases z with z | z | z <;> first | exact absurd z e1 | exact absurd z e2 | omega⟩
theorem filter_at {α : Type} {P : α → Bool} {zs : List α} {i : Nat} {z : α} (h : zs[i]? = some z) (hp : P z = true) : (zs.filter P)[((zs.take i).filter P).length]? = some z := by
  have hi := (List.getElem?_eq_some_iff.mp h).1
  have e : zs = zs.take i ++ z :: zs.drop (i + 1) := by
    have := List.take_append_drop i zs
    rw [List.drop_eq_getElem_cons hi] at this
    rw [show zs[i] = z from Option.some.inj ((List.getElem?_eq_getElem hi).symm.trans h)] at this
    exact this.symm
  rw [show zs.filter P = (zs.take i).filter P ++ z :: (zs.drop (i + 1)).filter P from ?_]
  · rw [List.getElem?_append_right (Nat.le_refl _), Nat.sub_self]
    rfl
  · conv => lhs; rw [e]
    rw [List.filter_append, List.filter_cons_of_pos hp]
def sp_law (K : PySem.W.Frag) : Sp := fun vs H Q _ => ∃ (a : Addr) (ns : List Int), vs = [.ref a] ∧ SqL K H a (ns.map V.int) ∧ ns.length ≤ 63 ∧ ∀ H', Q (.bl true) H'
theorem ok_law {f : Addr} {fd : FuncData} (T : Txt K mg) (F : Fun K "law" "law" s_law f fd) : FnOk P w K mg base CX0 4 f fd ["script"] (sp_law K) := by
  refine F.ok sc_law (fun vs H Q E h => ?_) (fun cdv A outer s H vs Q E hr h => ?_)
  · obtain ⟨a, ns, rfl, _⟩ := h
    rfl
  · obtain ⟨a, ns, rfl, hs, hlen, q⟩ := h
    have G_law_names : FnOk P w K mg base CX0 2 T.f_law_names T.d_law_names ["cell"] (sp_law_names K) := ok_law_names T
    have G_nets : FnOk P w K mg base CX0 3 T.f_nets T.d_nets ["trades"] (sp_nets K) := ok_nets T
    have G_law_cell : FnOk P w K mg base CX0 1 T.f_law_cell T.d_law_cell ["script", "k"] (sp_law_cell K) := ok_law_cell T
    have G_law_trade : FnOk P w K mg base CX0 2 T.f_law_trade T.d_law_trade ["cell", "names"] (sp_law_trade K) := ok_law_trade T
    have G_law_is_integer : FnOk P w K mg base CX0 1 T.f_law_is_integer T.d_law_is_integer ["actual"] (sp_law_is_integer K) := ok_law_is_integer T
    refine ⟨_, (pss_cons (ps_set (i := 1) sc_law.nd rfl (Or.inr rfl) (pe_call G_law_names (hr.mono (by decide)) (by rfl) T.m_law_names T.F_law_names.kp T.b_law_names .nil pass0 (pa_cons (pe_call G_law_cell (hr.mono (by decide)) (by rfl) T.m_law_cell T.F_law_cell.kp T.b_law_cell .nil pass0 (pa_cons (pv 0) (pa_cons pe_int pa_nil))) pa_nil)))
    (pss_cons (ps_set (i := 1) sc_law.nd rfl (Or.inr rfl) (pe_slice sl_list (pv 1) po_none (po_some (pe_op op_add pe_int (pe_op op_mod (pe_call G_law_cell (hr.mono (by decide)) (by rfl) T.m_law_cell T.F_law_cell.kp T.b_law_cell .nil pass0 (pa_cons (pv 0) (pa_cons pe_int pa_nil))) (pe_op op_sub (pe_callB call_len_seq (by rfl) T.z_len PySem.boot_len (pa_cons (pv 1) pa_nil)) pe_int))))))
    (pss_cons (ps_setLc (i := 2) (own := [("cell", 3)]) (g := gName 3) (tt := tYes) rfl sc_law.nd rfl rfl (sw_true rfl rfl rfl (by decide +kernel)) (pi_list (pe_slice sl_list (pv 0) (po_some pe_int) (po_some pe_int))) (blkOk_by (own := [("cell", 3)]) (N := N_law) (sc := defScope s_law) (by decide +kernel)) (fun _ _ _ _ _ => (pg_name (i := 3) sc_law.nd rfl (Or.inl rfl))) (fun _ _ _ _ _ => pts_nil) (fun _ _ _ _ _ => (pe_call G_law_trade (hr.mono (by decide)) (by rfl) T.m_law_trade T.F_law_trade.kp T.b_law_trade .nil pass0 (pa_cons (pv 3) (pa_cons (pv 1) pa_nil)))))
    (pss_cons (ps_set (i := 4) sc_law.nd rfl (Or.inl rfl) (pe_call G_nets hr (by rfl) T.m_nets T.F_nets.kp T.b_nets .nil pass0 (pa_cons (pv 2) pa_nil)))
    (pss_cons (ps_if (PW.pt (pw_or (pt_cmpR (op_neD hr.units) (pv 2) (pe_lc (own := [("cell", 3)]) (g := gName 3) (tt := tYes) rfl sc_law.nd (pi_list (pe_slice sl_list (pv 0) (po_some pe_int) (po_some pe_int))) (blkOk_by (own := [("cell", 3)]) (N := N_law) (sc := defScope s_law) (by decide +kernel)) (fun _ _ _ _ _ => (pg_name (i := 3) sc_law.nd rfl (Or.inl rfl))) (fun _ _ _ _ _ => pts_nil) (fun _ _ _ _ _ => (pe_call G_law_trade (hr.mono (by decide)) (by rfl) T.m_law_trade T.F_law_trade.kp T.b_law_trade .nil pass0 (pa_cons (pv 3) (pa_cons (pv 1) pa_nil))))) (nomark _)) (pw_or1 (pt_not (pt_val (pe_callB call_isi (by rfl) T.z_isinstance (by decide +kernel) (pa_cons (pv 4) (pa_cons (pe_bltn (v := .ty "list") (u := .type "list") (by rfl) T.z_list (by decide +kernel) rfl) pa_nil))))))))
      (pss_one (ps_ret pe_bl))
      pss_nil)
    (pss_cons (ps_set (i := 5) sc_law.nd rfl (Or.inl rfl) pe_int)
    (pss_cons (ps_for PassesOwn.never rfl (pi_list (pe_callB cr_sortedS (by rfl) T.z_sorted (by decide +kernel) (pa_cons (pv 1) pa_nil))) (pg_name (i := 6) sc_law.nd rfl (Or.inr rfl))
      (pss_cons (ps_set (i := 7) sc_law.nd rfl (Or.inl rfl) (pe_callB (cr_sum rfl) (by rfl) T.z_sum (by decide +kernel) (pa_cons (pe_lc (own := [("trade", 8)]) (g := gName 8) rfl sc_law.nd (pi_list (pv 2)) (blkOk_by (own := [("trade", 8)]) (N := N_law) (sc := defScope s_law) (by decide +kernel)) (fun _ _ _ _ _ => (pg_name (i := 8) sc_law.nd rfl (Or.inl rfl))) (fun _ _ _ _ _ => pts_one (pt_cmpR op_eq (pe_ix (show IxR _ (rIxT K) from ix_tup) (pv 8) pe_int (fun _ _ => rfl)) (pv 6) (nomark _))) (fun _ _ _ _ _ => (pe_ix (show IxR _ (rIxT K) from ix_tup) (pv 8) pe_int (fun _ _ => rfl)))) pa_nil)))
      (pss_cons (ps_set (i := 9) sc_law.nd rfl (Or.inl rfl) (pe_callB (cr_sum rfl) (by rfl) T.z_sum (by decide +kernel) (pa_cons (pe_lc (own := [("trade", 8)]) (g := gName 8) rfl sc_law.nd (pi_list (pv 2)) (blkOk_by (own := [("trade", 8)]) (N := N_law) (sc := defScope s_law) (by decide +kernel)) (fun _ _ _ _ _ => (pg_name (i := 8) sc_law.nd rfl (Or.inl rfl))) (fun _ _ _ _ _ => pts_one (pt_cmpR op_eq (pe_ix (show IxR _ (rIxT K) from ix_tup) (pv 8) pe_int (fun _ _ => rfl)) (pv 6) (nomark _))) (fun _ _ _ _ _ => (pe_ix (show IxR _ (rIxT K) from ix_tup) (pv 8) pe_int (fun _ _ => rfl)))) pa_nil)))
      (pss_cons (ps_set (i := 10) sc_law.nd rfl (Or.inl rfl) (pe_callB (cr_sum rfl) (by rfl) T.z_sum (by decide +kernel) (pa_cons (pe_lc (own := [("trade", 8)]) (g := gName 8) rfl sc_law.nd (pi_list (pv 2)) (blkOk_by (own := [("trade", 8)]) (N := N_law) (sc := defScope s_law) (by decide +kernel)) (fun _ _ _ _ _ => (pg_name (i := 8) sc_law.nd rfl (Or.inl rfl))) (fun _ _ _ _ _ => pts_one (pt_cmpR op_eq (pe_ix (show IxR _ (rIxT K) from ix_tup) (pv 8) pe_int (fun _ _ => rfl)) (pv 6) (nomark _))) (fun _ _ _ _ _ => (pe_ix (show IxR _ (rIxT K) from ix_tup) (pv 8) pe_int (fun _ _ => rfl)))) pa_nil)))
      (pss_cons (ps_set (i := 10) sc_law.nd rfl (Or.inl rfl) (pe_op op_sub (pv 10) (pe_callB (cr_sum rfl) (by rfl) T.z_sum (by decide +kernel) (pa_cons (pe_lc (own := [("trade", 8)]) (g := gName 8) rfl sc_law.nd (pi_list (pv 2)) (blkOk_by (own := [("trade", 8)]) (N := N_law) (sc := defScope s_law) (by decide +kernel)) (fun _ _ _ _ _ => (pg_name (i := 8) sc_law.nd rfl (Or.inl rfl))) (fun _ _ _ _ _ => pts_one (pt_cmpR op_eq (pe_ix (show IxR _ (rIxT K) from ix_tup) (pv 8) pe_int (fun _ _ => rfl)) (pv 6) (nomark _))) (fun _ _ _ _ _ => (pe_ix (show IxR _ (rIxT K) from ix_tup) (pv 8) pe_int (fun _ _ => rfl)))) pa_nil))))
      (pss_one (ps_if (pt_cmpR op_gt (pe_op op_add (pv 7) (pv 9)) pe_int (nomark _))
        (pss_cons (ps_if (PW.pt (pw_or (pt_cmpR op_eq (pv 5) (pe_callB call_len_seq (by rfl) T.z_len PySem.boot_len (pa_cons (pv 4) pa_nil)) (nomark _)) (pw_or (pt_not (pt_val (pe_callB call_isi (by rfl) T.z_isinstance (by decide +kernel) (pa_cons (pe_ix ix_list (pv 4) (pv 5) (fun _ _ => rfl)) (pa_cons (pe_bltn (v := .ty "tuple") (u := .type "tuple") (by rfl) T.z_tuple (by decide +kernel) rfl) pa_nil))))) (pw_or1 (pt_cmpR op_ne (pe_callB call_len_seq (by rfl) T.z_len PySem.boot_len (pa_cons (pe_ix ix_list (pv 4) (pv 5) (fun _ _ => rfl)) pa_nil)) pe_int (nomark _))))))
          (pss_one (ps_ret pe_bl))
          pss_nil)
        (pss_cons (ps_if (PW.pt (pw_or (pt_not (pt_val (pe_call G_law_is_integer (hr.mono (by decide)) (by rfl) T.m_law_is_integer T.F_law_is_integer.kp T.b_law_is_integer .nil pass0 (pa_cons (pe_ix ix_tup (pe_ix ix_list (pv 4) (pv 5) (fun _ _ => rfl)) pe_int (fun _ _ => rfl)) pa_nil)))) (pw_or1 (pt_not (pt_val (pe_call G_law_is_integer (hr.mono (by decide)) (by rfl) T.m_law_is_integer T.F_law_is_integer.kp T.b_law_is_integer .nil pass0 (pa_cons (pe_ix ix_tup (pe_ix ix_list (pv 4) (pv 5) (fun _ _ => rfl)) pe_int (fun _ _ => rfl)) pa_nil)))))))
          (pss_one (ps_ret pe_bl))
          pss_nil)
        (pss_cons (ps_if (pt_cmpR (op_neD hr.units) (pe_ix ix_list (pv 4) (pv 5) (fun _ _ => rfl)) (pe_tup (pa_cons (pv 6) (pa_cons (pe_op op_sub (pv 7) (pv 9)) (pa_cons (pv 10) pa_nil)))) (nomark _))
          (pss_one (ps_ret pe_bl))
          pss_nil)
        (pss_one (ps_set (i := 5) sc_law.nd rfl (Or.inl rfl) (pe_op op_add (pv 5) pe_int))))))
        pss_nil)))))))
    (pss_one (ps_ret (pe_cmpR op_eq (pv 5) (pe_callB call_len_seq (by rfl) T.z_len PySem.boot_len (pa_cons (pv 4) pa_nil)) (nomark _))))))))))), ?_⟩
    walk_at "st"
    intro p H1 nm0 e1 np hp hnd0 hok0 hl0 hl1
    have hp1 : SqL K H1 p (nm0.map V.str) := SqL.of hp
    have hs1 := e1.seq hs
    have hlm : (((nm0.map V.str).length : Nat) : Int) = nm0.length := by rw [List.length_map]
    have b1 := Int.emod_nonneg (cellOf ns 1) (by omega : (nm0.length : Int) - 1 ≠ 0)
    have b2 := Int.emod_lt_of_pos (cellOf ns 1) (by omega : (0 : Int) < (nm0.length : Int) - 1)
    have c1 : (0 : Int) < ((nm0.map V.str).length : Nat) - 1 := by omega
    walk_at "st"
    intro M nM
    have sM := same_upd (o := .lst (cutV (nm0.map V.str) none (some (2 + cellOf ns 1 % (((nm0.map V.str).length : Nat) - 1))))) nM
    obtain ⟨nm, hnm, hnd, hok, hn0, hn1⟩ : ∃ nm : List Str, cutV (nm0.map V.str) none (some (2 + cellOf ns 1 % (((nm0.map V.str).length : Nat) - 1))) = nm.map V.str ∧ nm.Nodup ∧ (∀ s, s ∈ nm → NameOk s) ∧ 2 ≤ nm.length ∧ nm.length ≤ 9 := by
      obtain ⟨k, ek⟩ : ∃ k : Nat, 2 + cellOf ns 1 % ((nm0.length : Int) - 1) = (k : Int) := ⟨(2 + cellOf ns 1 % ((nm0.length : Int) - 1)).toNat, by omega⟩
      refine ⟨nm0.take k, ?_, hnd0.sublist (List.take_sublist _ _), fun s hs => hok0 s (List.mem_of_mem_take hs), ?_, ?_⟩
      · rw [hlm, ek]
        unfold cutV
        rw [HT.sIx_none, HT.sIx_nat, List.drop_zero, List.map_take, List.length_map]
        show List.take (min k nm0.length - 0) _ = _
        rw [Nat.sub_zero, Nat.min_eq_left (by omega)]
      · rw [List.length_take]; omega
      · rw [List.length_take]; omega
    dsimp only
    rw [hnm] at sM ⊢
    have hM : upd H1 M (.lst (nm.map V.str)) M = some (.lst (nm.map V.str)) := upd_same
    have e2 := e1.trans sM
    generalize upd H1 M (.lst (nm.map V.str)) = H2 at *
    have hs2 := e2.seq hs
    walk_at "st"
    intro S nS
    have hS : SqL K (upd H2 S (.lst (cutV (ns.map V.int) (some 2) (some 62)))) S ((cutI ns (some 2) (some 62)).map V.int) := SqL.of (by rw [← cutV_ints]; exact upd_same)
    have sS := same_upd (o := .lst (cutV (ns.map V.int) (some 2) (some 62))) nS
    have hM3 := sS _ _ hM
    have e3 := e2.trans sS
    generalize upd H2 S (.lst (cutV (ns.map V.int) (some 2) (some 62))) = H3 at *
    have hcl := cutI_len ns (some 2) (some 62)
    generalize hcs : cutI ns (some 2) (some 62) = cs at *
    walk_at "st"
    intro D nD
    refine lc_list (K := K) (a := S) (xs := cs.map V.int) (fun i H' => ∃ (rs : List Addr), Tups enc4 H' D rs ((cs.take i).map (tradeG nm)) ∧ (∀ x, x ∈ (cs.take i).map (tradeG nm) → TradeOk x ∧ x.1 ∈ nm ∧ x.2.1 ∈ nm) ∧ Same H3 H') ⟨[], .nil upd_same, fun _ h => (by cases h), same_upd nD⟩ (fun i H' _ ⟨_, _, _, e⟩ => e.seq hS) ?_ ?_
    · rintro i x H4 hx ⟨rs, hT, hokT, e4⟩
      obtain ⟨z, hz, rfl⟩ := ints_at hx
      have hi := (List.getElem?_eq_some_iff.mp hz).1
      have hM4 := e4 _ _ hM3
      refine ⟨rfl, ?_⟩
      walk_at "st"
      refine ⟨nm, rfl, hM4, hnd, hok, hn0, hn1, fun ok f1 f2 p H5 e5 np hp => ?_⟩
      refine ⟨_, e5 _ _ hT.lst, small1000 (by rw [List.length_map, hT.len, List.length_map, List.length_take]; omega), rs ++ [p], ?_, fun w hw => ?_, TabR.keep (e4.trans e5) nD⟩
      · rw [take_succ hz, List.map_append]
        exact hT.push e5 np hp
      · rw [take_succ hz, List.map_append] at hw
        rcases List.mem_append.mp hw with hw | hw
        · exact hokT w hw
        · rw [List.mem_singleton.mp hw]
          exact ⟨ok, f1, f2⟩
    · rintro H4 ⟨rs, hT, hokT, e4⟩
      rw [show cs.take (cs.map V.int).length = cs by rw [List.length_map, List.take_length]] at hT hokT
      generalize hTT : cs.map (tradeG nm) = T' at *
      have hTn : T'.length ≤ 63 := by rw [← hTT, List.length_map]; omega
      have hM4 := e4 _ _ hM3
      have ht1 : ∀ s, touch T' s → s ∈ nm := fun s ⟨x, hx, e⟩ => by
        rcases e with e | e
        · rw [← e]; exact (hokT x hx).2.1
        · rw [← e]; exact (hokT x hx).2.2
      have hks : ∀ ks : List Str, ks.Nodup → (∀ s, s ∈ ks → touch T' s) → ks.length < 60 := fun ks n1 n2 => by
        have := nodup_len n1 fun s hs => ht1 s (n2 s hs)
        omega
      walk_at "st"
      refine ⟨rs, T', rfl, hT, fun x hx => (hokT x hx).1, by omega, hks, fun F1 H5 rf ys e5 nF ny so my hF => ?_⟩
      have hs5 := ((e3.trans e4).trans e5).seq hs
      have hM5 := e5 _ _ hM4
      have hT5 := hT.same e5
      walk_at "st"
      intro S2 nS2
      have hS2 : SqL K (upd H5 S2 (.lst (cutV (ns.map V.int) (some 2) (some 62)))) S2 (cs.map V.int) := SqL.of (by rw [← hcs, ← cutV_ints]; exact upd_same)
      have sS2 := same_upd (o := .lst (cutV (ns.map V.int) (some 2) (some 62))) nS2
      have hM6 := sS2 _ _ hM5
      have hT6 := hT5.same sS2
      have hF6 := hF.same sS2
      generalize upd H5 S2 (.lst (cutV (ns.map V.int) (some 2) (some 62))) = H6 at *
      walk_at "st"
      intro D2 nD2
      refine lc_list (K := K) (a := S2) (xs := cs.map V.int) (fun i H' => ∃ (rs : List Addr), Tups enc4 H' D2 rs ((cs.take i).map (tradeG nm)) ∧ Same H6 H') ⟨[], .nil upd_same, same_upd nD2⟩ (fun i H' _ ⟨_, _, e⟩ => e.seq hS2) ?_ ?_
      · rintro i x H7 hx ⟨rs2, hT2, e7⟩
        obtain ⟨z, hz, rfl⟩ := ints_at hx
        have hi := (List.getElem?_eq_some_iff.mp hz).1
        have hM7 := e7 _ _ hM6
        refine ⟨rfl, ?_⟩
        walk_at "st"
        refine ⟨nm, rfl, hM7, hnd, hok, hn0, hn1, fun ok f1 f2 p H8 e8 np hp => ?_⟩
        refine ⟨_, e8 _ _ hT2.lst, small1000 (by rw [List.length_map, hT2.len, List.length_map, List.length_take]; omega), rs2 ++ [p], ?_, TabR.keep (e7.trans e8) nD2⟩
        rw [take_succ hz, List.map_append]
        exact hT2.push e8 np hp
      · rintro H7 ⟨rs2, hT2, e7⟩
        rw [show cs.take (cs.map V.int).length = cs by rw [List.length_map, List.take_length], hTT] at hT2
        have hT7 := hT6.same e7
        have hF7 := hF6.same e7
        have hM7 := e7 _ _ hM6
        have strT : ∀ x, x ∈ T' → PyData.strOk x.1 = true ∧ PyData.strOk x.2.1 = true ∧ True ∧ True := fun x hx => ⟨(hok _ (hokT x hx).2.1).2, (hok _ (hokT x hx).2.2).2, trivial, trivial⟩
        refine neL (a := T') (b := T') layD_4.list (by decide) strT strT (hT7.dp dp4) (hT2.dp dp4) ?_
        refine ⟨_, rfl, iteB (fun h => (ndec_t h rfl).elim) (fun _ => ?_)⟩
        refine ⟨_, rfl, ?_⟩
        refine ⟨_, _, _, _, true, rfl, .ty _, .base (.lst hF7.lst), kit_ty (by decide +kernel), ?_⟩
        refine ⟨_, rfl, iteF ?_⟩
        have hM7' : SqL K H7 M (nm.map V.str) := SqL.of hM7
        have hn64 : nm.length < 64 := by omega
        walk_at "st"
        refine ⟨nm, rfl, hM7', hn64, fun zs Z hzp hzs nZ => ?_⟩
        have hZ : upd H7 Z (.lst (zs.map V.str)) Z = some (.lst (zs.map V.str)) := upd_same
        have sZ := same_upd (o := .lst (zs.map V.str)) nZ
        have hT8 := hT7.same sZ
        have hF8 := hF7.same sZ
        generalize upd H7 Z (.lst (zs.map V.str)) = H8 at *
        have hZ8 : SqL K H8 Z (zs.map V.str) := SqL.of hZ
        have hyz : ys = zs.filter fun s => decide (s ∈ ys) := by
          refine sorted_same (sorted_le so) (List.Pairwise.filter _ (sorted_le hzs)) ny (List.Pairwise.filter _ (hzp.nodup_iff.mpr hnd)) fun s => ?_
          rw [List.mem_filter, decide_eq_true_eq]
          exact ⟨fun h => ⟨hzp.mem_iff.mpr (ht1 s ((my s).mp h)), h⟩, fun h => h.2⟩
        have hrl : rf.length = ys.length := by rw [hF.len, List.length_map]
        walk_at "st"
        refine for_list (K := K) (a := Z) (xs := zs.map V.str) (fun i σ H' => (∃ v6 v7 v9 v10 : Option V, σ = [some (.ref a), some (.ref M), some (.ref D), none, some (.ref F1), some (.int ((((zs.take i).filter fun s => decide (s ∈ ys)).length : Nat) : Int)), v6, v7, none, v9, v10]) ∧ Same H8 H') ⟨⟨none, none, none, none, rfl⟩, Same.refl _⟩ (fun i σ H' _ ⟨_, e⟩ => e.seq hZ8) ?_ ?_
        · rintro i x σ H9 hx ⟨⟨v6, v7, v9, v10, rfl⟩, e9⟩
          rw [List.getElem?_map] at hx
          cases hz : zs[i]? with
          | none => rw [hz] at hx; cases hx
          | some z =>
          rw [hz] at hx
          have hx : V.str z = x := Option.some.inj hx
          subst hx
          have hT9 := hT8.same e9
          have hTl9 : SqL K H9 D (rs.map V.ref) := SqL.of hT9.lst
          obtain ⟨g1, g2, g3, g4, g5⟩ := sums_are z T' fun x hx => (hokT x hx).1
          walk_at "st"
          intro A nA
          refine lc_list (K := K) (a := D) (xs := rs.map V.ref) (fun j H' => H' = upd H9 A (.lst ((((T'.take j).filter fun x => decide (x.1 = z)).map (·.2.2.1)).map V.int))) rfl (fun j H' _ e => by rw [e]; exact (same_upd nA).seq hTl9) ?_ ?_
          · rintro j x H' hx rfl
            obtain ⟨py, y, hpy, hy, rfl, hyr⟩ := (hT9.same (same_upd (o := .lst ((((T'.take j).filter fun x => decide (x.1 = z)).map (·.2.2.1)).map V.int)) nA)).item hx
            have hj := (List.getElem?_eq_some_iff.mp hy).1
            have hyt : SqT K (upd H9 A (.lst ((((T'.take j).filter fun x => decide (x.1 = z)).map (·.2.2.1)).map V.int))) py [.str y.1, .str y.2.1, .int y.2.2.1, .int y.2.2.2] := SqT.of hyr
            refine ⟨rfl, ?_⟩
            walk_at "st"
            refine iteB (fun h => ?_) (fun h => ?_)
            · have h : y.1 = z := V.str.inj (dec_t h)
              walk_at "st"
              refine ⟨small1000 ?_, ?_⟩
              · rw [List.length_map, List.length_map]
                refine Nat.le_trans (List.length_filter_le _ _) ?_
                rw [List.length_take]
                omega
              · rw [upd_upd, take_succ hy, List.filter_append, List.filter_cons_of_pos (by exact decide_eq_true h), List.filter_nil, List.map_append, List.map_append]
                rfl
            · have h : ¬ y.1 = z := fun e => dec_f h (congrArg V.str e)
              show upd _ _ _ = upd _ _ _
              rw [take_succ hy, List.filter_append, List.filter_cons_of_neg (by rw [decide_eq_false h]; exact Bool.false_ne_true), List.filter_nil, List.append_nil]
          · rintro H' rfl
            rw [show T'.take (rs.map V.ref).length = T' by rw [List.length_map, hT9.len, List.take_length]]
            have sA := same_upd (o := .lst (((T'.filter fun x => decide (x.1 = z)).map (·.2.2.1)).map V.int)) nA
            have hA : SqL K (upd H9 A (.lst (((T'.filter fun x => decide (x.1 = z)).map (·.2.2.1)).map V.int))) A (((T'.filter fun x => decide (x.1 = z)).map (·.2.2.1)).map V.int) := SqL.of upd_same
            have e10 := e9.trans sA
            have hT10 := hT9.same sA
            generalize upd H9 A (.lst (((T'.filter fun x => decide (x.1 = z)).map (·.2.2.1)).map V.int)) = H10 at *
            have hTl10 : SqL K H10 D (rs.map V.ref) := SqL.of hT10.lst
            walk_at "st"
            intro B nB
            refine lc_list (K := K) (a := D) (xs := rs.map V.ref) (fun j H' => H' = upd H10 B (.lst ((((T'.take j).filter fun x => decide (x.2.1 = z)).map (·.2.2.1)).map V.int))) rfl (fun j H' _ e => by rw [e]; exact (same_upd nB).seq hTl10) ?_ ?_
            · rintro j x H' hx rfl
              obtain ⟨py, y, hpy, hy, rfl, hyr⟩ := (hT10.same (same_upd (o := .lst ((((T'.take j).filter fun x => decide (x.2.1 = z)).map (·.2.2.1)).map V.int)) nB)).item hx
              have hj := (List.getElem?_eq_some_iff.mp hy).1
              have hyt : SqT K (upd H10 B (.lst ((((T'.take j).filter fun x => decide (x.2.1 = z)).map (·.2.2.1)).map V.int))) py [.str y.1, .str y.2.1, .int y.2.2.1, .int y.2.2.2] := SqT.of hyr
              refine ⟨rfl, ?_⟩
              walk_at "st"
              refine iteB (fun h => ?_) (fun h => ?_)
              · have h : y.2.1 = z := V.str.inj (dec_t h)
                walk_at "st"
                refine ⟨small1000 ?_, ?_⟩
                · rw [List.length_map, List.length_map]
                  refine Nat.le_trans (List.length_filter_le _ _) ?_
                  rw [List.length_take]
                  omega
                · rw [upd_upd, take_succ hy, List.filter_append, List.filter_cons_of_pos (by exact decide_eq_true h), List.filter_nil, List.map_append, List.map_append]
                  rfl
              · have h : ¬ y.2.1 = z := fun e => dec_f h (congrArg V.str e)
                show upd _ _ _ = upd _ _ _
                rw [take_succ hy, List.filter_append, List.filter_cons_of_neg (by rw [decide_eq_false h]; exact Bool.false_ne_true), List.filter_nil, List.append_nil]
            · rintro H' rfl
              rw [show T'.take (rs.map V.ref).length = T' by rw [List.length_map, hT10.len, List.take_length]]
              have sB := same_upd (o := .lst (((T'.filter fun x => decide (x.2.1 = z)).map (·.2.2.1)).map V.int)) nB
              have hB : SqL K (upd H10 B (.lst (((T'.filter fun x => decide (x.2.1 = z)).map (·.2.2.1)).map V.int))) B (((T'.filter fun x => decide (x.2.1 = z)).map (·.2.2.1)).map V.int) := SqL.of upd_same
              have e11 := e10.trans sB
              have hT11 := hT10.same sB
              generalize upd H10 B (.lst (((T'.filter fun x => decide (x.2.1 = z)).map (·.2.2.1)).map V.int)) = H11 at *
              have hTl11 : SqL K H11 D (rs.map V.ref) := SqL.of hT11.lst
              walk_at "st"
              intro E nE
              refine lc_list (K := K) (a := D) (xs := rs.map V.ref) (fun j H' => H' = upd H11 E (.lst ((((T'.take j).filter fun x => decide (x.2.1 = z)).map (·.2.2.2)).map V.int))) rfl (fun j H' _ e => by rw [e]; exact (same_upd nE).seq hTl11) ?_ ?_
              · rintro j x H' hx rfl
                obtain ⟨py, y, hpy, hy, rfl, hyr⟩ := (hT11.same (same_upd (o := .lst ((((T'.take j).filter fun x => decide (x.2.1 = z)).map (·.2.2.2)).map V.int)) nE)).item hx
                have hj := (List.getElem?_eq_some_iff.mp hy).1
                have hyt : SqT K (upd H11 E (.lst ((((T'.take j).filter fun x => decide (x.2.1 = z)).map (·.2.2.2)).map V.int))) py [.str y.1, .str y.2.1, .int y.2.2.1, .int y.2.2.2] := SqT.of hyr
                refine ⟨rfl, ?_⟩
                walk_at "st"
                refine iteB (fun h => ?_) (fun h => ?_)
                · have h : y.2.1 = z := V.str.inj (dec_t h)
                  walk_at "st"
                  refine ⟨small1000 ?_, ?_⟩
                  · rw [List.length_map, List.length_map]
                    refine Nat.le_trans (List.length_filter_le _ _) ?_
                    rw [List.length_take]
                    omega
                  · rw [upd_upd, take_succ hy, List.filter_append, List.filter_cons_of_pos (by exact decide_eq_true h), List.filter_nil, List.map_append, List.map_append]
                    rfl
                · have h : ¬ y.2.1 = z := fun e => dec_f h (congrArg V.str e)
                  show upd _ _ _ = upd _ _ _
                  rw [take_succ hy, List.filter_append, List.filter_cons_of_neg (by rw [decide_eq_false h]; exact Bool.false_ne_true), List.filter_nil, List.append_nil]
              · rintro H' rfl
                rw [show T'.take (rs.map V.ref).length = T' by rw [List.length_map, hT11.len, List.take_length]]
                have sE := same_upd (o := .lst (((T'.filter fun x => decide (x.2.1 = z)).map (·.2.2.2)).map V.int)) nE
                have hE : SqL K (upd H11 E (.lst (((T'.filter fun x => decide (x.2.1 = z)).map (·.2.2.2)).map V.int))) E (((T'.filter fun x => decide (x.2.1 = z)).map (·.2.2.2)).map V.int) := SqL.of upd_same
                have e12 := e11.trans sE
                have hT12 := hT11.same sE
                generalize upd H11 E (.lst (((T'.filter fun x => decide (x.2.1 = z)).map (·.2.2.2)).map V.int)) = H12 at *
                have hTl12 : SqL K H12 D (rs.map V.ref) := SqL.of hT12.lst
                walk_at "st"
                intro G nG
                refine lc_list (K := K) (a := D) (xs := rs.map V.ref) (fun j H' => H' = upd H12 G (.lst ((((T'.take j).filter fun x => decide (x.1 = z)).map (·.2.2.2)).map V.int))) rfl (fun j H' _ e => by rw [e]; exact (same_upd nG).seq hTl12) ?_ ?_
                · rintro j x H' hx rfl
                  obtain ⟨py, y, hpy, hy, rfl, hyr⟩ := (hT12.same (same_upd (o := .lst ((((T'.take j).filter fun x => decide (x.1 = z)).map (·.2.2.2)).map V.int)) nG)).item hx
                  have hj := (List.getElem?_eq_some_iff.mp hy).1
                  have hyt : SqT K (upd H12 G (.lst ((((T'.take j).filter fun x => decide (x.1 = z)).map (·.2.2.2)).map V.int))) py [.str y.1, .str y.2.1, .int y.2.2.1, .int y.2.2.2] := SqT.of hyr
                  refine ⟨rfl, ?_⟩
                  walk_at "st"
                  refine iteB (fun h => ?_) (fun h => ?_)
                  · have h : y.1 = z := V.str.inj (dec_t h)
                    walk_at "st"
                    refine ⟨small1000 ?_, ?_⟩
                    · rw [List.length_map, List.length_map]
                      refine Nat.le_trans (List.length_filter_le _ _) ?_
                      rw [List.length_take]
                      omega
                    · rw [upd_upd, take_succ hy, List.filter_append, List.filter_cons_of_pos (by exact decide_eq_true h), List.filter_nil, List.map_append, List.map_append]
                      rfl
                  · have h : ¬ y.1 = z := fun e => dec_f h (congrArg V.str e)
                    show upd _ _ _ = upd _ _ _
                    rw [take_succ hy, List.filter_append, List.filter_cons_of_neg (by rw [decide_eq_false h]; exact Bool.false_ne_true), List.filter_nil, List.append_nil]
                · rintro H' rfl
                  rw [show T'.take (rs.map V.ref).length = T' by rw [List.length_map, hT12.len, List.take_length]]
                  have sG := same_upd (o := .lst (((T'.filter fun x => decide (x.1 = z)).map (·.2.2.2)).map V.int)) nG
                  have hG : SqL K (upd H12 G (.lst (((T'.filter fun x => decide (x.1 = z)).map (·.2.2.2)).map V.int))) G (((T'.filter fun x => decide (x.1 = z)).map (·.2.2.2)).map V.int) := SqL.of upd_same
                  have e13 := e12.trans sG
                  have hT13 := hT12.same sG
                  generalize upd H12 G (.lst (((T'.filter fun x => decide (x.1 = z)).map (·.2.2.2)).map V.int)) = H13 at *
                  have hTl13 : SqL K H13 D (rs.map V.ref) := SqL.of hT13.lst
                  walk_at "st"
                  have hF13 := hF8.same e13
                  have hFl13 : SqL K H13 F1 (rf.map V.ref) := SqL.of hF13.lst
                  have b1 : ((T'.filter fun x => decide (x.1 = z)).map (·.2.2.1)).sum = boughtL T' z := rfl
                  have b2 : ((T'.filter fun x => decide (x.2.1 = z)).map (·.2.2.1)).sum = soldL T' z := rfl
                  have b3 : ((T'.filter fun x => decide (x.2.1 = z)).map (·.2.2.2)).sum = gotL T' z := rfl
                  have b4 : ((T'.filter fun x => decide (x.1 = z)).map (·.2.2.2)).sum = paidT T' z := rfl
                  simp only [b1, b2, b3, b4]
                  refine iteB (fun h => ?_) (fun h => ?_)
                  · have hzy : z ∈ ys := (my z).mpr (g5.mp (dec_t h))
                    have hk := filter_at (P := fun s => decide (s ∈ ys)) hz (decide_eq_true hzy)
                    rw [← hyz] at hk
                    generalize hkk : ((zs.take i).filter fun s => decide (s ∈ ys)).length = k at hk ⊢
                    have hkl := (List.getElem?_eq_some_iff.mp hk).1
                    obtain ⟨r, r1, r2, r3⟩ := hF13.at (i := k) (x := (z, unitsOf T' z, centsOf T' z)) (by rw [List.getElem?_map, hk]; rfl)
                    have r4 : SqT K H13 r [.str z, .int (unitsOf T' z), .int (centsOf T' z)] := SqT.of r3
                    walk_at "st"
                    refine iteB (fun h => ?_) (fun _ => ?_)
                    · have h := V.int.inj (dec_t h)
                      rw [List.length_map, hrl] at h
                      omega
                    walk_at "st"
                    refine ⟨_, _, true, rfl, .ty _, .base (.tup r3), kit_ty (by decide +kernel), ?_⟩
                    refine ⟨_, rfl, iteF ?_⟩
                    walk_at "st"
                    intro U nU
                    have sU := same_upd (o := .tup [.str z, .int (boughtL T' z - soldL T' z), .int (gotL T' z - paidT T' z)]) nU
                    have hUt : upd H13 U (.tup [.str z, .int (boughtL T' z - soldL T' z), .int (gotL T' z - paidT T' z)]) U = some (.tup (encR (z, unitsOf T' z, centsOf T' z))) := by
                      rw [upd_same, g1, g2]
                      rfl
                    have strz : PyData.strOk z = true := (hok z (ht1 z ((my z).mp hzy))).2
                    refine neL (a := (z, unitsOf T' z, centsOf T' z)) (b := (z, unitsOf T' z, centsOf T' z)) layD_R (by decide) ⟨strz, trivial, trivial⟩ ⟨strz, trivial, trivial⟩ (dpR _ _ (sU _ _ r3)) (dpR _ _ hUt) ?_
                    refine ⟨_, rfl, iteB (fun h => (ndec_t h rfl).elim) (fun _ => ?_)⟩
                    walk_at "st"
                    refine ⟨⟨some (.str z), some (.int (boughtL T' z)), some (.int (soldL T' z)), some (.int (gotL T' z - paidT T' z)), ?_⟩, e13.trans sU⟩
                    rw [take_succ hz, List.filter_append, List.filter_cons_of_pos (by exact decide_eq_true hzy), List.filter_nil, List.length_append, hkk]
                    rfl
                  · have hzy : ¬ z ∈ ys := fun w => dec_f h (g5.mpr ((my z).mp w))
                    refine ⟨⟨some (.str z), some (.int (boughtL T' z)), some (.int (soldL T' z)), some (.int (gotL T' z - paidT T' z)), ?_⟩, e13⟩
                    rw [take_succ hz, List.filter_append, List.filter_cons_of_neg (by rw [decide_eq_false hzy]; exact Bool.false_ne_true), List.filter_nil, List.append_nil]
                    rfl
        · rintro σ H9 ⟨⟨v6, v7, v9, v10, rfl⟩, e9⟩
          rw [show zs.take (zs.map V.str).length = zs by rw [List.length_map, List.take_length], ← hyz]
          have hF9 := hF8.same e9
          have hFl9 : SqL K H9 F1 (rf.map V.ref) := SqL.of hF9.lst
          walk_at "st"
          rw [List.length_map, hrl, decide_eq_true rfl]
          exact q _
end
set_option maxHeartbeats 0 in
theorem all_mk {l : PySem.W.OpenLaw} {w : World} {K : PySem.W.Frag} {h : Heap} {mg : Str → Option Value} {fa f1 f2 f3 f4 f5 f6 f7 f8 f9 : Addr} (X : K.In h) (G : h.Ns mainGlobals mg) (hfa : mg "law" = some (.ref fa))
    {c_BourseError c_InvalidTrade : Addr}
    {od1 an1 od2 an2 od3 an3 od4 an4 od5 an5 od6 an6 od7 an7 od8 an8 od9 an9 : Option Addr} {sl1 sl2 sl3 sl4 sl5 sl6 sl7 sl8 sl9 : Array (Option Value)} {oc1 kV1 dc1 pm1 cd1 ct1 oc2 kV2 dc2 pm2 cd2 ct2 oc3 kV3 dc3 pm3 cd3 ct3 oc4 kV4 dc4 pm4 cd4 ct4 oc5 kV5 dc5 pm5 cd5 ct5 oc6 kV6 dc6 pm6 cd6 ct6 oc7 kV7 dc7 pm7 cd7 ct7 oc8 kV8 dc8 pm8 cd8 ct8 oc9 kV9 dc9 pm9 cd9 ct9 : Value}
    (a1 : PySem.W.nsIn K mainGlobals "is_integral" = some (some (.ref f1)))
    (l1 : K.lookup f1 = some ⟨oc1, od1, .func (PySem.W.fnOf "is_integral" "is_integral" (defArgs s_is_integral) (defBody s_is_integral) (defScope s_is_integral) .none kV1 dc1 pm1 an1 cd1 ct1), sl1⟩) (c1 : PySem.W.codeIn K cd1 "is_integral" = true) (k1 : PySem.W.keepIn K (.ref f1) = true)
    (a2 : PySem.W.nsIn K mainGlobals "nets" = some (some (.ref f2)))
    (l2 : K.lookup f2 = some ⟨oc2, od2, .func (PySem.W.fnOf "nets" "nets" (defArgs s_nets) (defBody s_nets) (defScope s_nets) .none kV2 dc2 pm2 an2 cd2 ct2), sl2⟩) (c2 : PySem.W.codeIn K cd2 "nets" = true) (k2 : PySem.W.keepIn K (.ref f2) = true)
    (a3 : PySem.W.nsIn K mainGlobals "_check_trades" = some (some (.ref f3)))
    (l3 : K.lookup f3 = some ⟨oc3, od3, .func (PySem.W.fnOf "_check_trades" "_check_trades" (defArgs s_check_trades) (defBody s_check_trades) (defScope s_check_trades) .none kV3 dc3 pm3 an3 cd3 ct3), sl3⟩) (c3 : PySem.W.codeIn K cd3 "_check_trades" = true) (k3 : PySem.W.keepIn K (.ref f3) = true)
    (a4 : PySem.W.nsIn K mainGlobals "_law_cell" = some (some (.ref f4)))
    (l4 : K.lookup f4 = some ⟨oc4, od4, .func (PySem.W.fnOf "_law_cell" "_law_cell" (defArgs s_law_cell) (defBody s_law_cell) (defScope s_law_cell) .none kV4 dc4 pm4 an4 cd4 ct4), sl4⟩) (c4 : PySem.W.codeIn K cd4 "_law_cell" = true) (k4 : PySem.W.keepIn K (.ref f4) = true)
    (a5 : PySem.W.nsIn K mainGlobals "_law_draws" = some (some (.ref f5)))
    (l5 : K.lookup f5 = some ⟨oc5, od5, .func (PySem.W.fnOf "_law_draws" "_law_draws" (defArgs s_law_draws) (defBody s_law_draws) (defScope s_law_draws) .none kV5 dc5 pm5 an5 cd5 ct5), sl5⟩) (c5 : PySem.W.codeIn K cd5 "_law_draws" = true) (k5 : PySem.W.keepIn K (.ref f5) = true)
    (a6 : PySem.W.nsIn K mainGlobals "_law_is_integer" = some (some (.ref f6)))
    (l6 : K.lookup f6 = some ⟨oc6, od6, .func (PySem.W.fnOf "_law_is_integer" "_law_is_integer" (defArgs s_law_is_integer) (defBody s_law_is_integer) (defScope s_law_is_integer) .none kV6 dc6 pm6 an6 cd6 ct6), sl6⟩) (c6 : PySem.W.codeIn K cd6 "_law_is_integer" = true) (k6 : PySem.W.keepIn K (.ref f6) = true)
    (a7 : PySem.W.nsIn K mainGlobals "_law_trade" = some (some (.ref f7)))
    (l7 : K.lookup f7 = some ⟨oc7, od7, .func (PySem.W.fnOf "_law_trade" "_law_trade" (defArgs s_law_trade) (defBody s_law_trade) (defScope s_law_trade) .none kV7 dc7 pm7 an7 cd7 ct7), sl7⟩) (c7 : PySem.W.codeIn K cd7 "_law_trade" = true) (k7 : PySem.W.keepIn K (.ref f7) = true)
    (a8 : PySem.W.nsIn K mainGlobals "_law_names" = some (some (.ref f8)))
    (l8 : K.lookup f8 = some ⟨oc8, od8, .func (PySem.W.fnOf "_law_names" "_law_names" (defArgs s_law_names) (defBody s_law_names) (defScope s_law_names) .none kV8 dc8 pm8 an8 cd8 ct8), sl8⟩) (c8 : PySem.W.codeIn K cd8 "_law_names" = true) (k8 : PySem.W.keepIn K (.ref f8) = true)
    (a9 : PySem.W.nsIn K mainGlobals "law" = some (some (.ref f9)))
    (l9 : K.lookup f9 = some ⟨oc9, od9, .func (PySem.W.fnOf "law" "law" (defArgs s_law) (defBody s_law) (defScope s_law) .none kV9 dc9 pm9 an9 cd9 ct9), sl9⟩) (c9 : PySem.W.codeIn K cd9 "law" = true) (k9 : PySem.W.keepIn K (.ref f9) = true)
    (z_abs : PySem.W.nsIn K mainGlobals "abs" = some none)
    (z_bool : PySem.W.nsIn K mainGlobals "bool" = some none)
    (z_int : PySem.W.nsIn K mainGlobals "int" = some none)
    (z_isinstance : PySem.W.nsIn K mainGlobals "isinstance" = some none)
    (z_len : PySem.W.nsIn K mainGlobals "len" = some none)
    (z_list : PySem.W.nsIn K mainGlobals "list" = some none)
    (z_range : PySem.W.nsIn K mainGlobals "range" = some none)
    (z_sorted : PySem.W.nsIn K mainGlobals "sorted" = some none)
    (z_sum : PySem.W.nsIn K mainGlobals "sum" = some none)
    (z_tuple : PySem.W.nsIn K mainGlobals "tuple" = some none)
    (g_BourseError : PySem.W.nsIn K mainGlobals "BourseError" = some (some (.ref c_BourseError)))
    (g_InvalidTrade : PySem.W.nsIn K mainGlobals "InvalidTrade" = some (some (.ref c_InvalidTrade))) :
    ∃ fd : FuncData, (∀ (s : Shared) (v : Value), BindsTo s fd ⟨[v], []⟩ [("script", v)]) ∧ ∀ base : Heap, K.In base → base.Ns mainGlobals mg → FnOk l.prog w K mg base CX0 4 fa fd ["script"] (sp_law K) := by
  have e := hfa.symm.trans (PySem.W.mg_of X G a9)
  cases e
  have F1 := fun_mk (st := s_is_integral) l1 c1 k1
  have b1 := F1.binds (ps := ["value"]) fun _ _ _ _ _ _ us hl => match us, hl with | [_], _ => rfl
  have F2 := fun_mk (st := s_nets) l2 c2 k2
  have b2 := F2.binds (ps := ["trades"]) fun _ _ _ _ _ _ us hl => match us, hl with | [_], _ => rfl
  have F3 := fun_mk (st := s_check_trades) l3 c3 k3
  have b3 := F3.binds (ps := ["trades"]) fun _ _ _ _ _ _ us hl => match us, hl with | [_], _ => rfl
  have F4 := fun_mk (st := s_law_cell) l4 c4 k4
  have b4 := F4.binds (ps := ["script", "k"]) fun _ _ _ _ _ _ us hl => match us, hl with | [_, _], _ => rfl
  have F5 := fun_mk (st := s_law_draws) l5 c5 k5
  have b5 := F5.binds (ps := ["cell", "count", "size"]) fun _ _ _ _ _ _ us hl => match us, hl with | [_, _, _], _ => rfl
  have F6 := fun_mk (st := s_law_is_integer) l6 c6 k6
  have b6 := F6.binds (ps := ["actual"]) fun _ _ _ _ _ _ us hl => match us, hl with | [_], _ => rfl
  have F7 := fun_mk (st := s_law_trade) l7 c7 k7
  have b7 := F7.binds (ps := ["cell", "names"]) fun _ _ _ _ _ _ us hl => match us, hl with | [_, _], _ => rfl
  have F8 := fun_mk (st := s_law_names) l8 c8 k8
  have b8 := F8.binds (ps := ["cell"]) fun _ _ _ _ _ _ us hl => match us, hl with | [_], _ => rfl
  have F9 := fun_mk (st := s_law) l9 c9 k9
  have b9 := F9.binds (ps := ["script"]) fun _ _ _ _ _ _ us hl => match us, hl with | [_], _ => rfl
  have T : Txt K mg := ⟨f1, _, F1, PySem.W.mg_of X G a1, b1, f2, _, F2, PySem.W.mg_of X G a2, b2, f3, _, F3, PySem.W.mg_of X G a3, b3, f4, _, F4, PySem.W.mg_of X G a4, b4, f5, _, F5, PySem.W.mg_of X G a5, b5, f6, _, F6, PySem.W.mg_of X G a6, b6, f7, _, F7, PySem.W.mg_of X G a7, b7, f8, _, F8, PySem.W.mg_of X G a8, b8, c_BourseError, PySem.W.mg_of X G g_BourseError, c_InvalidTrade, PySem.W.mg_of X G g_InvalidTrade, PySem.W.mg_none_of X G z_abs, PySem.W.mg_none_of X G z_bool, PySem.W.mg_none_of X G z_int, PySem.W.mg_none_of X G z_isinstance, PySem.W.mg_none_of X G z_len, PySem.W.mg_none_of X G z_list, PySem.W.mg_none_of X G z_range, PySem.W.mg_none_of X G z_sorted, PySem.W.mg_none_of X G z_sum, PySem.W.mg_none_of X G z_tuple⟩
  exact ⟨PySem.W.fnOf "law" "law" (defArgs s_law) (defBody s_law) (defScope s_law) .none kV9 dc9 pm9 an9 cd9 ct9, fun s v => .of_eq rfl, fun base _ _ => ok_law T F9⟩
end FB
open PySem PySem.W PyProof.Rows
set_option maxRecDepth 100000 in
set_option maxHeartbeats 0 in
theorem PySem.Challenge.cw_fairbourse_k40_nets_of_trades_holds : PySem.Challenge.rw_fairbourse_k40_nets_of_trades.Holds := by
  w_on; o_law; k_head; (case hw => w_witness2)
  k_fill
  refine L2.walk_of (l := PySem.Challenge.rw_fairbourse_k40_nets_of_trades) (n := 63) (k := 4) (x := "script") (CX := fun _ => L2.CX0) (sp := fun w => FB.sp_law _) rfl (by decide) rfl ⟨rfl, by decide, by decide⟩ (fun w h Y => PySem.W.kIn_of Y) ?F (fun _ _ a ns hl _ hS => ⟨a, ns, rfl, hS, hl, fun _ => rfl⟩) (fun _ _ _ _ _ h => h)
  case F =>
    intro w mg fa h KX G hmg
    refine' FB.all_mk KX G hmg ?a1 ?l1 ?c1 ?k1 ?a2 ?l2 ?c2 ?k2 ?a3 ?l3 ?c3 ?k3 ?a4 ?l4 ?c4 ?k4 ?a5 ?l5 ?c5 ?k5 ?a6 ?l6 ?c6 ?k6 ?a7 ?l7 ?c7 ?k7 ?a8 ?l8 ?c8 ?k8 ?a9 ?l9 ?c9 ?k9 ?z_abs ?z_bool ?z_int ?z_isinstance ?z_len ?z_list ?z_range ?z_sorted ?z_sum ?z_tuple ?g_BourseError ?g_InvalidTrade
    (case g_BourseError => k_is)
    (case g_InvalidTrade => k_is)
    (case a1 => k_is)
    (case l1 => k_is)
    (case c1 => k_is)
    (case k1 => k_is)
    (case a2 => k_is)
    (case l2 => k_is)
    (case c2 => k_is)
    (case k2 => k_is)
    (case a3 => k_is)
    (case l3 => k_is)
    (case c3 => k_is)
    (case k3 => k_is)
    (case a4 => k_is)
    (case l4 => k_is)
    (case c4 => k_is)
    (case k4 => k_is)
    (case a5 => k_is)
    (case l5 => k_is)
    (case c5 => k_is)
    (case k5 => k_is)
    (case a6 => k_is)
    (case l6 => k_is)
    (case c6 => k_is)
    (case k6 => k_is)
    (case a7 => k_is)
    (case l7 => k_is)
    (case c7 => k_is)
    (case k7 => k_is)
    (case a8 => k_is)
    (case l8 => k_is)
    (case c8 => k_is)
    (case k8 => k_is)
    (case a9 => k_is)
    (case l9 => k_is)
    (case c9 => k_is)
    (case k9 => k_is)
    (case z_abs => k_is)
    (case z_bool => k_is)
    (case z_int => k_is)
    (case z_isinstance => k_is)
    (case z_len => k_is)
    (case z_list => k_is)
    (case z_range => k_is)
    (case z_sorted => k_is)
    (case z_sum => k_is)
    (case z_tuple => k_is)
#print axioms PySem.Challenge.cw_fairbourse_k40_nets_of_trades_holds
