import PyProof.Rows.All
import Wide.All
import OpenK.AllK
import Wide.FinOn
import HandS.ForMost
import HandS.Defaults
import HandS.IsInst
import HandS.Wide
import HandS.Codes
import HandS.More
import PySem.Challenge.RW_fairbourse_k41_novated_trades
set_option Elab.async false
set_option linter.all false
set_option maxRecDepth 100000
namespace FB
open PySem PySem.Spec PyProof.Rows L2
def topS (i : Nat) : Stmt := PySem.Challenge.pw_fairbourse_k41_novated_trades.main.body.getD i (.Pass ⟨0, 0, 0, 0⟩)
abbrev s_is_integral : Stmt := topS 4
abbrev N_is_integral : List Str := ["value"]
theorem sc_is_integral : FnScope N_is_integral ["value"] (defScope s_is_integral) := ⟨rfl, rfl, rfl, by decide +kernel, rfl, by decide +kernel, by decide +kernel⟩
abbrev s_nets : Stmt := topS 6
abbrev N_nets : List Str := ["trades", "units", "cents", "buyer", "seller", "bought", "paid", "house"]
theorem sc_nets : FnScope N_nets ["trades"] (defScope s_nets) := ⟨rfl, rfl, rfl, by decide +kernel, rfl, by decide +kernel, by decide +kernel⟩
abbrev s_novate : Stmt := topS 7
abbrev N_novate : List Str := ["trades", "center", "novated", "buyer", "seller", "units", "cents"]
theorem sc_novate : FnScope N_novate ["trades", "center"] (defScope s_novate) := ⟨rfl, rfl, rfl, by decide +kernel, rfl, by decide +kernel, by decide +kernel⟩
abbrev s_check_trades : Stmt := topS 8
abbrev N_check_trades : List Str := ["trades", "buyer", "seller", "units", "cents"]
theorem sc_check_trades : FnScope N_check_trades ["trades"] (defScope s_check_trades) := ⟨rfl, rfl, rfl, by decide +kernel, rfl, by decide +kernel, by decide +kernel⟩
abbrev s_law_cell : Stmt := topS 10
abbrev N_law_cell : List Str := ["script", "k"]
theorem sc_law_cell : FnScope N_law_cell ["script", "k"] (defScope s_law_cell) := ⟨rfl, rfl, rfl, by decide +kernel, rfl, by decide +kernel, by decide +kernel⟩
abbrev s_law_draws : Stmt := topS 11
abbrev N_law_draws : List Str := ["cell", "count", "size", "draws", "rest", "k"]
theorem sc_law_draws : FnScope N_law_draws ["cell", "count", "size"] (defScope s_law_draws) := ⟨rfl, rfl, rfl, by decide +kernel, rfl, by decide +kernel, by decide +kernel⟩
abbrev s_law_trade : Stmt := topS 12
abbrev N_law_trade : List Str := ["cell", "draws", "buyer", "seller"]
theorem sc_law_trade : FnScope N_law_trade ["cell"] (defScope s_law_trade) := ⟨rfl, rfl, rfl, by decide +kernel, rfl, by decide +kernel, by decide +kernel⟩
abbrev s_law : Stmt := topS 13
abbrev N_law : List Str := ["script", "center", "trades", "cell", "due", "trade", "actual", "before", "after", "others", "row", "centers"]
theorem sc_law : FnScope N_law ["script"] (defScope s_law) := ⟨rfl, rfl, rfl, by decide +kernel, rfl, by decide +kernel, by decide +kernel⟩
structure Txt (K : PySem.W.Frag) (mg : Str → Option Value) where
  f_is_integral : Addr
  d_is_integral : FuncData
  F_is_integral : Fun K "is_integral" "is_integral" s_is_integral f_is_integral d_is_integral
  m_is_integral : mg "is_integral" = some (.ref f_is_integral)
  b_is_integral : Binds K d_is_integral ["value"] []
  f_nets : Addr
  d_nets : FuncData
  F_nets : Fun K "nets" "nets" s_nets f_nets d_nets
  m_nets : mg "nets" = some (.ref f_nets)
  b_nets : Binds K d_nets ["trades"] []
  f_novate : Addr
  d_novate : FuncData
  F_novate : Fun K "novate" "novate" s_novate f_novate d_novate
  m_novate : mg "novate" = some (.ref f_novate)
  b_novate : Binds K d_novate ["trades", "center"] []
  f_check_trades : Addr
  d_check_trades : FuncData
  F_check_trades : Fun K "_check_trades" "_check_trades" s_check_trades f_check_trades d_check_trades
  m_check_trades : mg "_check_trades" = some (.ref f_check_trades)
  b_check_trades : Binds K d_check_trades ["trades"] []
  f_law_cell : Addr
  d_law_cell : FuncData
  F_law_cell : Fun K "_law_cell" "_law_cell" s_law_cell f_law_cell d_law_cell
  m_law_cell : mg "_law_cell" = some (.ref f_law_cell)
  b_law_cell : Binds K d_law_cell ["script", "k"] []
  f_law_draws : Addr
  d_law_draws : FuncData
  F_law_draws : Fun K "_law_draws" "_law_draws" s_law_draws f_law_draws d_law_draws
  m_law_draws : mg "_law_draws" = some (.ref f_law_draws)
  b_law_draws : Binds K d_law_draws ["cell", "count", "size"] []
  f_law_trade : Addr
  d_law_trade : FuncData
  F_law_trade : Fun K "_law_trade" "_law_trade" s_law_trade f_law_trade d_law_trade
  m_law_trade : mg "_law_trade" = some (.ref f_law_trade)
  b_law_trade : Binds K d_law_trade ["cell"] []
  c_BourseError : Addr
  m_BourseError : mg "BourseError" = some (.ref c_BourseError)
  c_InvalidTrade : Addr
  m_InvalidTrade : mg "InvalidTrade" = some (.ref c_InvalidTrade)
  z_abs : mg "abs" = none
  z_bool : mg "bool" = none
  z_int : mg "int" = none
  z_isinstance : mg "isinstance" = none
  z_len : mg "len" = none
  z_list : mg "list" = none
  z_range : mg "range" = none
  z_sorted : mg "sorted" = none
  z_tuple : mg "tuple" = none
/-! own short words -/
theorem iteD {p A B : Prop} [Decidable p] (h1 : p → A) (h2 : ¬ p → B) : if decide p = true then A else B := by
  by_cases h : p
  · rw [decide_eq_true h, if_pos rfl]; exact h1 h
  · rw [decide_eq_false h, if_neg Bool.false_ne_true]; exact h2 h
theorem iteDN {p A B : Prop} [Decidable p] (h1 : ¬ p → A) (h2 : p → B) : if (!decide p) = true then A else B := by
  by_cases h : p
  · rw [decide_eq_true h]; exact iteF (h2 h)
  · rw [decide_eq_false h]; exact iteT (h1 h)
theorem len_le {n : Nat} (h : Nat.ble n 1000 = true) : n ≤ sizeLine := Nat.le_trans (Nat.le_of_ble_eq_true h) (by decide)
theorem iteB {b : Bool} {A B : Prop} (h1 : b = true → A) (h2 : b = false → B) : if b = true then A else B := by
  cases b with
  | true => exact iteT (h1 rfl)
  | false => exact iteF (h2 rfl)
theorem cmul_l {i j : Int} (h : -(2 ^ 64) < i) (h' : i < 2 ^ 64) : CMul i j := .inl ⟨h, h'⟩
theorem cmul_r {i j : Int} (h : -(2 ^ 64) < j) (h' : j < 2 ^ 64) : CMul i j := .inr ⟨h, h'⟩
theorem dec_t {p : Prop} [Decidable p] (h : decide p = true) : p := of_decide_eq_true h
theorem dec_f {p : Prop} [Decidable p] (h : decide p = false) : ¬ p := of_decide_eq_false h
theorem ndec_t {p : Prop} [Decidable p] (h : (!decide p) = true) : ¬ p := fun q => by rw [decide_eq_true q] at h; cases h
theorem ndec_f {p : Prop} [Decidable p] (h : (!decide p) = false) : p := by
  by_cases q : p
  · exact q
  · rw [decide_eq_false q] at h; cases h
theorem fld_lt {n : Nat} (h : Nat.ble (n + 1) 1000 = true) : n < 1000 := Nat.le_of_ble_eq_true h
def rLen (K : PySem.W.Frag) : List V → Hp → VK → Prop := fun xs H Q => ∃ p ys, xs = [.ref p] ∧ (SqL K H p ys ∨ SqT K H p ys) ∧ Q (.int ys.length) H
def rListOf (K : PySem.W.Frag) : List V → Hp → VK → Prop := fun xs H Q => ∃ p ys, xs = [.ref p] ∧ (SqL K H p ys ∨ SqT K H p ys) ∧ ∀ l, H l = none → Q (.ref l) (upd H l (.lst ys))
def rTupleOf (K : PySem.W.Frag) : List V → Hp → VK → Prop := fun xs H Q => ∃ p ys, xs = [.ref p] ∧ ((SqL K H p ys ∧ ∀ l, H l = none → Q (.ref l) (upd H l (.tup ys))) ∨ (SqT K H p ys ∧ Q (.ref p) H))
theorem len0 : ([] : List V).length ≤ sizeLine := len_le rfl
theorem len1 {a : V} : [a].length ≤ sizeLine := len_le rfl
theorem len2 {a b : V} : [a, b].length ≤ sizeLine := len_le rfl
theorem len3 {a b c : V} : [a, b, c].length ≤ sizeLine := len_le rfl
theorem len4 {a b c d : V} : [a, b, c, d].length ≤ sizeLine := len_le rfl
theorem len5 {a b c d e : V} : [a, b, c, d, e].length ≤ sizeLine := len_le rfl
local macro_rules | `(tactic| walk_at "st") => `(tactic| repeat (first
  | (apply Exists.intro (α := V))
  | (apply Exists.intro (α := Int))
  | (apply Exists.intro (α := Bool))
  | (apply Exists.intro (α := Addr))
  | (apply Exists.intro (α := List V))
  | (apply Exists.intro (α := List Int))
  | (apply Exists.intro (α := List (Str × V)))
  | (apply Exists.intro (α := Str))
  | (apply And.intro; focus (first | omega | (dsimp only; omega) | (simp only [List.length_map, List.length_replicate]; omega) | exact rfl | assumption | exact SqL.of (by assumption) | exact Or.inl (by assumption) | exact Or.inr (by assumption) | exact Or.inr (SqT.of (by assumption)) | exact Or.inl (Or.inl upd_same) | exact Or.inl (Or.inl (Or.inl upd_same)) | (with_reducible exact len0) | (with_reducible exact len1) | (with_reducible exact len2) | (with_reducible exact len3) | (with_reducible exact len4) | (with_reducible exact len5) | exact upd_same | exact ⟨_, Or.inl (Or.inl upd_same)⟩ | exact ⟨_, SqL.of (by assumption)⟩ | exact ⟨_, by assumption⟩ | exact Or.inl ⟨rfl, _, SqL.of (by assumption)⟩ | exact Or.inl ⟨rfl, _, SqL.of upd_same⟩ | exact cmul_l (by omega) (by omega) | exact cmul_r (by omega) (by omega) | exact ⟨by omega, by omega⟩ | (simp only [List.length_map, List.length_replicate]; omega) | exact Or.inl (SqL.of (by assumption)) | exact SqT.of (by assumption) | exact fld_lt rfl))))
/-- the script's cell at j, 0 where there is none -/
def cellOf (ns : List Int) (j : Nat) : Int := ns.getD j 0
theorem atI_ints {ns : List Int} {j : Nat} (h : j < ns.length) : atI (ns.map V.int) (j : Int) = some (.int (cellOf ns j)) := by
  refine at_of (j := j) rfl ?_
  rw [List.getElem?_map, List.getElem?_eq_getElem h]
  unfold cellOf
  rw [List.getD_eq_getElem?_getD, List.getElem?_eq_getElem h]
  rfl
theorem cellOf_out {ns : List Int} {j : Nat} (h : ¬ j < ns.length) : cellOf ns j = 0 := by
  unfold cellOf
  rw [List.getD_eq_getElem?_getD, List.getElem?_eq_none (by omega)]
  rfl
theorem same_upd {H : Hp} {p : Addr} {o : HO} (h : H p = none) : Same H (upd H p o) := fun b x e => by
  rw [upd_ne (ne_of_none e h)]
  exact e
/-- a slice of a list of ints -/
def cutI (ns : List Int) (lo hi : Option Int) : List Int := (ns.drop (HT.sIx ns.length 0 lo)).take (HT.sIx ns.length ns.length hi - HT.sIx ns.length 0 lo)
theorem cutV_ints (ns : List Int) (lo hi : Option Int) : cutV (ns.map V.int) lo hi = (cutI ns lo hi).map V.int := by
  unfold cutV cutI
  rw [List.length_map, List.map_take, List.map_drop]
theorem cutI_len (ns : List Int) (lo hi : Option Int) : (cutI ns lo hi).length ≤ ns.length := by
  unfold cutI
  rw [List.length_take, List.length_drop]
  omega
theorem ints_at {ns : List Int} {i : Nat} {x : V} (h : (ns.map V.int)[i]? = some x) : ∃ z, ns[i]? = some z ∧ x = V.int z := by
  rw [List.getElem?_map] at h
  cases e : ns[i]? with
  | none => rw [e] at h; cases h
  | some z => rw [e] at h; exact ⟨z, rfl, (Option.some.inj h).symm⟩
theorem take_succ {α : Type} {xs : List α} {i : Nat} {x : α} (h : xs[i]? = some x) : xs.take (i + 1) = xs.take i ++ [x] := by
  rw [List.take_add_one, h]
  rfl
theorem sum_le_mul : ∀ (ws : List Int) (b : Int), (∀ w, w ∈ ws → w ≤ b) → ws.sum ≤ (ws.length : Int) * b
  | [], b, _ => by show (0 : Int) ≤ ((0 : Nat) : Int) * b; omega
  | w :: ws, b, h => by
    rw [List.sum_cons, List.length_cons, Int.natCast_add, Int.add_mul]
    have h1 := h w List.mem_cons_self
    have h2 := sum_le_mul ws b fun x hx => h x (List.mem_cons_of_mem _ hx)
    omega
theorem ixN_nat {n j : Nat} (h : j < n) : ixN n (j : Int) = some j := by
  unfold ixN
  rw [if_pos (by omega), if_pos (by omega), Int.toNat_natCast]
theorem call_int_i {X : Cx} : CallR X (.type "int") (fun xs H Q => ∃ i : Int, xs = [.int i] ∧ Q (.int i) H) := by
  intro pins s σ H xs us Q I r h
  obtain ⟨i, e, q⟩ := h
  exact call_int1 pins s σ H xs us Q I r (.inl ⟨i, e, q⟩)
theorem dpAll_ints {K : PySem.W.Frag} {H : Hp} : ∀ xs : List Int, DpAll K H (xs.map V.int) (xs.map PyData.int)
  | [] => .nil
  | x :: xs => .cons (.int x) (dpAll_ints xs)
theorem eqvAll_ints : ∀ xs ys : List Int, PyData.eqvAll (xs.map PyData.int) (ys.map PyData.int) = decide (xs = ys)
  | [], [] => by simp [PyData.eqvAll]
  | [], _ :: _ => by simp [PyData.eqvAll]
  | _ :: _, [] => by simp [PyData.eqvAll]
  | x :: xs, y :: ys => by
    rw [List.map_cons, List.map_cons]
    simp only [PyData.eqvAll, PyData.eqv]
    rw [eqvAll_ints xs ys]
    by_cases h : x = y <;> by_cases h2 : xs = ys <;> simp [h, h2]
theorem lay_ints : ∀ xs : List Int, PyData.canLayAll0 (xs.map PyData.int) = true
  | [] => rfl
  | x :: xs => by
    rw [List.map_cons]
    simp only [PyData.canLayAll0, PyData.canLay0, Bool.true_and]
    exact lay_ints xs
theorem depth_ints : ∀ xs : List Int, PyData.depthAll (xs.map PyData.int) = 0
  | [] => rfl
  | x :: xs => by
    rw [List.map_cons]
    simp only [PyData.depthAll, PyData.depth, depth_ints xs]
    rfl
theorem shaped_ints (xs : List Int) : SeqAt.shaped (.list (xs.map PyData.int)) = true := by
  unfold SeqAt.shaped
  simp only [PyData.canLay0, PyData.depth, lay_ints, depth_ints]
  rfl
theorem eqD_ints {K : PySem.W.Frag} {H : Hp} {a b : Addr} {xs ys : List Int} {Q : VK} (h1 : SqL K H a (xs.map V.int)) (h2 : SqL K H b (ys.map V.int)) (q : Q (.bl (decide (xs = ys))) H) : rEqD K (.ref a) (.ref b) H Q :=
  ⟨_, _, .lst h1 (dpAll_ints xs), .lst h2 (dpAll_ints ys), shaped_ints xs, shaped_ints ys, by rw [show PyData.eqv (.list (xs.map PyData.int)) (.list (ys.map PyData.int)) = decide (xs = ys) by simp only [PyData.eqv, eqvAll_ints]]; exact q⟩
theorem neD_ints {K : PySem.W.Frag} {H : Hp} {a b : Addr} {xs ys : List Int} {Q : VK} (h1 : SqL K H a (xs.map V.int)) (h2 : SqL K H b (ys.map V.int)) (q : Q (.bl (!decide (xs = ys))) H) : rNeD K (.ref a) (.ref b) H Q :=
  ⟨_, _, .lst h1 (dpAll_ints xs), .lst h2 (dpAll_ints ys), shaped_ints xs, shaped_ints ys, by rw [show PyData.eqv (.list (xs.map PyData.int)) (.list (ys.map PyData.int)) = decide (xs = ys) by simp only [PyData.eqv, eqvAll_ints]]; exact q⟩

def at0 (ws : List Int) (i : Nat) : Int := ws.getD i 0
theorem at0_lt {ws : List Int} {i : Nat} (h : i < ws.length) : ws[i]? = some (at0 ws i) := by
  unfold at0
  rw [List.getD_eq_getElem?_getD, List.getElem?_eq_getElem h]
  rfl
theorem atI_n {ws : List Int} {j : Nat} (h : j < ws.length) : atI (ws.map V.int) (j : Int) = some (.int (at0 ws j)) := by
  refine at_of (j := j) rfl ?_
  rw [List.getElem?_map, at0_lt h]
  rfl
theorem at0_of {ws : List Int} {i : Nat} {x : Int} (h : ws[i]? = some x) : at0 ws i = x := by
  unfold at0
  rw [List.getD_eq_getElem?_getD, h]
  rfl
theorem at0_out {ws : List Int} {i : Nat} (h : ws.length ≤ i) : at0 ws i = 0 := by
  unfold at0
  rw [List.getD_eq_getElem?_getD, List.getElem?_eq_none h]
  rfl
theorem at0_ext {xs ys : List Int} (hl : xs.length = ys.length) (h : ∀ i, i < xs.length → at0 xs i = at0 ys i) : xs = ys := by
  refine List.ext_getElem? fun i => ?_
  by_cases hi : i < xs.length
  · rw [at0_lt hi, at0_lt (by omega), h i hi]
  · rw [List.getElem?_eq_none (by omega), List.getElem?_eq_none (by omega)]
theorem at0_set {ps : List Int} {k i : Nat} {x : Int} (hk : k < ps.length) : at0 (ps.set k x) i = if i = k then x else at0 ps i := by
  by_cases h : i = k
  · subst h
    rw [if_pos rfl]
    exact at0_of (List.getElem?_set_self hk)
  · rw [if_neg h]
    unfold at0
    rw [List.getD_eq_getElem?_getD, List.getD_eq_getElem?_getD, List.getElem?_set_ne (fun e => h e.symm)]
theorem at0_nonneg {ws : List Int} (h : ∀ w, w ∈ ws → 0 ≤ w) (i : Nat) : 0 ≤ at0 ws i := by
  by_cases hi : i < ws.length
  · exact h _ (List.mem_of_getElem? (at0_lt hi))
  · rw [at0_out (by omega)]; exact Int.le_refl 0

/-- how items of one kind are told as data; equal data are equal items -/
structure LayD {α : Type} [DecidableEq α] (L : α → PyData) (k : Nat) (G : α → Prop) : Prop where
  lay : ∀ x, G x → (L x).canLay0 = true
  dep : ∀ x, (L x).depth ≤ k
  eqv : ∀ x y, PyData.eqv (L x) (L y) = decide (x = y)
theorem LayD.shaped {α : Type} [DecidableEq α] {L : α → PyData} {k : Nat} {G : α → Prop} (h : LayD L k G) (hk : k ≤ 64) {x : α} (g : G x) : SeqAt.shaped (L x) = true := by
  have h1 := h.lay x g
  have h2 := h.dep x
  unfold SeqAt.shaped
  rw [h1, Bool.true_and]
  exact decide_eq_true (by omega)
theorem layD_int : LayD PyData.int 0 (fun _ => True) := ⟨fun _ _ => rfl, fun _ => Nat.le_refl _, fun x y => by simp only [PyData.eqv]; exact (Bool.beq_eq_decide_eq x y)⟩
theorem layD_str : LayD PyData.str 0 (fun x => PyData.strOk x = true) := ⟨fun _ h => by simp only [PyData.canLay0]; exact h, fun _ => Nat.le_refl _, fun x y => by simp only [PyData.eqv]; exact (Bool.beq_eq_decide_eq x y)⟩
theorem decide_and2 {p q r : Prop} [Decidable p] [Decidable q] [Decidable r] (h : r ↔ p ∧ q) : (decide p && decide q) = decide r := by
  by_cases hp : p <;> by_cases hq : q <;> simp [h, hp, hq]
theorem layD_all {α : Type} [DecidableEq α] {L : α → PyData} {k : Nat} {G : α → Prop} (h : LayD L k G) : (∀ xs : List α, (∀ x, x ∈ xs → G x) → PyData.canLayAll0 (xs.map L) = true) ∧ (∀ xs : List α, PyData.depthAll (xs.map L) ≤ k) ∧ ∀ xs ys : List α, PyData.eqvAll (xs.map L) (ys.map L) = decide (xs = ys) := by
  refine ⟨fun xs => ?_, fun xs => ?_, fun xs => ?_⟩
  · induction xs with
    | nil => exact fun _ => rfl
    | cons x xs ih =>
      intro g
      rw [List.map_cons]
      simp only [PyData.canLayAll0, ih fun y hy => g y (List.mem_cons_of_mem _ hy), h.lay x (g x List.mem_cons_self)]
      rfl
  · induction xs with
    | nil => exact Nat.zero_le _
    | cons x xs ih => rw [List.map_cons]; simp only [PyData.depthAll]; exact Nat.max_le.mpr ⟨h.dep x, ih⟩
  · induction xs with
    | nil =>
      intro ys
      cases ys with
      | nil => rfl
      | cons y ys => simp [PyData.eqvAll]
    | cons x xs ih =>
      intro ys
      cases ys with
      | nil => simp [PyData.eqvAll]
      | cons y ys =>
        rw [List.map_cons, List.map_cons]
        simp only [PyData.eqvAll]
        rw [ih ys, h.eqv x y]
        exact decide_and2 (by rw [List.cons.injEq])
theorem LayD.list {α : Type} [DecidableEq α] {L : α → PyData} {k : Nat} {G : α → Prop} (h : LayD L k G) : LayD (fun xs : List α => PyData.list (xs.map L)) (k + 1) (fun xs => ∀ x, x ∈ xs → G x) := by
  obtain ⟨h1, h2, h3⟩ := layD_all h
  refine ⟨fun xs g => ?_, fun xs => ?_, fun xs ys => ?_⟩
  · simp only [PyData.canLay0]; exact h1 xs g
  · simp only [PyData.depth]; exact Nat.succ_le_succ (h2 xs)
  · simp only [PyData.eqv]; exact h3 xs ys
theorem LayD.tup2 {α β : Type} [DecidableEq α] [DecidableEq β] {L : α → PyData} {M : β → PyData} {k : Nat} {G : α → Prop} {G2 : β → Prop} (h : LayD L k G) (g : LayD M k G2) : LayD (fun x : α × β => PyData.tuple [L x.1, M x.2]) (k + 1) (fun x => G x.1 ∧ G2 x.2) := by
  refine ⟨fun x a => ?_, fun x => ?_, fun x y => ?_⟩
  · simp only [PyData.canLay0, PyData.canLayAll0, h.lay _ a.1, g.lay _ a.2, Bool.and_true]
  · simp only [PyData.depth, PyData.depthAll]
    have := h.dep x.1
    have := g.dep x.2
    omega
  · simp only [PyData.eqv, PyData.eqvAll, h.eqv, g.eqv, Bool.and_true]
    exact decide_and2 (by rw [Prod.ext_iff])
theorem LayD.tup3 {α β γ : Type} [DecidableEq α] [DecidableEq β] [DecidableEq γ] {L : α → PyData} {M : β → PyData} {N : γ → PyData} {k : Nat} {G : α → Prop} {G2 : β → Prop} {G3 : γ → Prop} (h : LayD L k G) (g : LayD M k G2) (e : LayD N k G3) : LayD (fun x : α × β × γ => PyData.tuple [L x.1, M x.2.1, N x.2.2]) (k + 1) (fun x => G x.1 ∧ G2 x.2.1 ∧ G3 x.2.2) := by
  refine ⟨fun x a => ?_, fun x => ?_, fun x y => ?_⟩
  · simp only [PyData.canLay0, PyData.canLayAll0, h.lay _ a.1, g.lay _ a.2.1, e.lay _ a.2.2, Bool.and_true]
  · simp only [PyData.depth, PyData.depthAll]
    have := h.dep x.1
    have := g.dep x.2.1
    have := e.dep x.2.2
    omega
  · simp only [PyData.eqv, PyData.eqvAll, h.eqv, g.eqv, e.eqv, Bool.and_true]
    rw [decide_and2 (r := x.2 = y.2) (by rw [Prod.ext_iff])]
    exact decide_and2 (by rw [Prod.ext_iff])
theorem LayD.tup4 {α β γ δ : Type} [DecidableEq α] [DecidableEq β] [DecidableEq γ] [DecidableEq δ] {L : α → PyData} {M : β → PyData} {N : γ → PyData} {O : δ → PyData} {k : Nat} {G : α → Prop} {G2 : β → Prop} {G3 : γ → Prop} {G4 : δ → Prop} (h : LayD L k G) (g : LayD M k G2) (e : LayD N k G3) (d : LayD O k G4) : LayD (fun x : α × β × γ × δ => PyData.tuple [L x.1, M x.2.1, N x.2.2.1, O x.2.2.2]) (k + 1) (fun x => G x.1 ∧ G2 x.2.1 ∧ G3 x.2.2.1 ∧ G4 x.2.2.2) := by
  refine ⟨fun x a => ?_, fun x => ?_, fun x y => ?_⟩
  · simp only [PyData.canLay0, PyData.canLayAll0, h.lay _ a.1, g.lay _ a.2.1, e.lay _ a.2.2.1, d.lay _ a.2.2.2, Bool.and_true]
  · simp only [PyData.depth, PyData.depthAll]
    have := h.dep x.1
    have := g.dep x.2.1
    have := e.dep x.2.2.1
    have := d.dep x.2.2.2
    omega
  · simp only [PyData.eqv, PyData.eqvAll, h.eqv, g.eqv, e.eqv, d.eqv, Bool.and_true]
    rw [decide_and2 (r := x.2.2 = y.2.2) (by rw [Prod.ext_iff]), decide_and2 (r := x.2 = y.2) (by rw [Prod.ext_iff])]
    exact decide_and2 (by rw [Prod.ext_iff])
theorem eqL {α : Type} [DecidableEq α] {L : α → PyData} {k : Nat} {G : α → Prop} (h : LayD L k G) (hk : k ≤ 64) {K : PySem.W.Frag} {H : Hp} {x y : V} {a b : α} {Q : VK} (ga : G a) (gb : G b) (h1 : Dp K H x (L a)) (h2 : Dp K H y (L b)) (q : Q (.bl (decide (a = b))) H) : rEqD K x y H Q :=
  ⟨_, _, h1, h2, h.shaped hk ga, h.shaped hk gb, by rw [h.eqv]; exact q⟩
theorem neL {α : Type} [DecidableEq α] {L : α → PyData} {k : Nat} {G : α → Prop} (h : LayD L k G) (hk : k ≤ 64) {K : PySem.W.Frag} {H : Hp} {x y : V} {a b : α} {Q : VK} (ga : G a) (gb : G b) (h1 : Dp K H x (L a)) (h2 : Dp K H y (L b)) (q : Q (.bl (!decide (a = b))) H) : rNeD K x y H Q :=
  ⟨_, _, h1, h2, h.shaped hk ga, h.shaped hk gb, by rw [h.eqv]; exact q⟩
theorem dpAll_refs {α : Type} {L : α → PyData} {K : PySem.W.Frag} {H : Hp} : ∀ {ps : List Addr} {xs : List α}, ps.length = xs.length → (∀ (i : Nat) (p : Addr) (x : α), ps[i]? = some p → xs[i]? = some x → Dp K H (.ref p) (L x)) → DpAll K H (ps.map V.ref) (xs.map L)
  | [], [], _, _ => .nil
  | [], _ :: _, h, _ => by cases h
  | _ :: _, [], h, _ => by cases h
  | p :: ps, x :: xs, h, e => .cons (e 0 p x rfl rfl) (dpAll_refs (Nat.succ.inj h) fun i p' x' h1 h2 => e (i + 1) p' x' h1 h2)

/-- the first n values of g -/
def rowI (n : Nat) (g : Nat → Int) : List Int := (List.range n).map g
theorem rowI_len (n : Nat) (g : Nat → Int) : (rowI n g).length = n := by
  unfold rowI
  rw [List.length_map, List.length_range]
theorem rowI_at {n : Nat} {g : Nat → Int} {i : Nat} (h : i < n) : (rowI n g)[i]? = some (g i) := by
  unfold rowI
  rw [List.getElem?_map, List.getElem?_range h]
  rfl
theorem atI_row {n : Nat} {g : Nat → Int} {i : Nat} (h : i < n) : atI ((rowI n g).map V.int) (i : Int) = some (.int (g i)) := by
  refine at_of (j := i) rfl ?_
  rw [List.getElem?_map, rowI_at h]
  rfl
theorem rowI_succ (n : Nat) (g : Nat → Int) : rowI (n + 1) g = rowI n g ++ [g n] := by
  unfold rowI
  rw [List.range_succ, List.map_append]
  rfl
theorem rowI_eq {n : Nat} {f g : Nat → Int} : rowI n f = rowI n g ↔ ∀ i, i < n → f i = g i := by
  unfold rowI
  rw [List.map_inj_left]
  exact ⟨fun h i hi => h i (List.mem_range.mpr hi), fun h i hi => h i (List.mem_range.mp hi)⟩
theorem rowI_of (ws : List Int) : rowI ws.length (at0 ws) = ws := by
  refine List.ext_getElem? fun i => ?_
  by_cases h : i < ws.length
  · rw [rowI_at h, at0_lt h]
  · rw [List.getElem?_eq_none (by rw [rowI_len]; omega), List.getElem?_eq_none (by omega)]
theorem rowI_mem {n : Nat} {g : Nat → Int} {x : Int} : x ∈ rowI n g ↔ ∃ i, i < n ∧ g i = x := by
  unfold rowI
  rw [List.mem_map]
  exact ⟨fun ⟨i, h, e⟩ => ⟨i, List.mem_range.mp h, e⟩, fun ⟨i, h, e⟩ => ⟨i, List.mem_range.mpr h, e⟩⟩
/-- the sum of the first n values of g -/
def sumI (n : Nat) (g : Nat → Int) : Int := (rowI n g).sum
theorem sumI_succ (n : Nat) (g : Nat → Int) : sumI (n + 1) g = sumI n g + g n := by
  unfold sumI
  rw [rowI_succ, List.sum_append, List.sum_cons, List.sum_nil]
  omega
theorem sumI_congr {n : Nat} {f g : Nat → Int} (h : ∀ i, i < n → f i = g i) : sumI n f = sumI n g := by
  unfold sumI
  rw [rowI_eq.mpr h]
theorem sumI_sub : ∀ (n : Nat) (f g : Nat → Int), sumI n (fun i => f i - g i) = sumI n f - sumI n g
  | 0, _, _ => rfl
  | n + 1, f, g => by rw [sumI_succ, sumI_succ, sumI_succ, sumI_sub n f g]; omega
theorem sumI_bound {n : Nat} {g : Nat → Int} {m : Int} (h : ∀ i, i < n → 0 ≤ g i ∧ g i ≤ m) : 0 ≤ sumI n g ∧ sumI n g ≤ n * m := by
  induction n with
  | zero => exact ⟨Int.le_refl 0, by show (0 : Int) ≤ ((0 : Nat) : Int) * m; omega⟩
  | succ n ih =>
    have h1 := ih fun i hi => h i (by omega)
    have h2 := h n (by omega)
    rw [sumI_succ]
    have e : ((n + 1 : Nat) : Int) * m = n * m + m := by rw [Int.natCast_add, Int.add_mul]; omega
    omega
/-- a square table of numbers, its rows at ps -/
structure Tab (H : Hp) (t : Addr) (ps : List Addr) (n : Nat) (f : Nat → Nat → Int) : Prop where
  lst : H t = some (.lst (ps.map V.ref))
  len : ps.length = n
  row : ∀ i p, ps[i]? = some p → H p = some (.lst ((rowI n (f i)).map V.int))
  nod : ps.Nodup
  out : t ∉ ps
theorem Tab.same {H H' : Hp} {t : Addr} {ps : List Addr} {n : Nat} {f : Nat → Nat → Int} (h : Tab H t ps n f) (e : Same H H') : Tab H' t ps n f :=
  ⟨e _ _ h.lst, h.len, fun i p hp => e _ _ (h.row i p hp), h.nod, h.out⟩
def tabL (n : Nat) (f : Nat → Nat → Int) : List (List Int) := (List.range n).map fun i => rowI n (f i)
theorem tabL_at {n : Nat} {f : Nat → Nat → Int} {i : Nat} (h : i < n) : (tabL n f)[i]? = some (rowI n (f i)) := by
  unfold tabL
  rw [List.getElem?_map, List.getElem?_range h]
  rfl
theorem tabL_eq {n : Nat} {f g : Nat → Nat → Int} : tabL n f = tabL n g ↔ ∀ i, i < n → ∀ j, j < n → f i j = g i j := by
  unfold tabL
  rw [List.map_inj_left]
  exact ⟨fun h i hi => rowI_eq.mp (h i (List.mem_range.mpr hi)), fun h i hi => rowI_eq.mpr (h i (List.mem_range.mp hi))⟩
theorem layD_tab : LayD (fun xs : List (List Int) => PyData.list (xs.map fun ys => PyData.list (ys.map PyData.int))) 2 (fun xs => ∀ x, x ∈ xs → ∀ y, y ∈ x → True) := layD_int.list.list
theorem Tab.dp {K : PySem.W.Frag} {H : Hp} {t : Addr} {ps : List Addr} {n : Nat} {f : Nat → Nat → Int} (h : Tab H t ps n f) : Dp K H (.ref t) (PyData.list ((tabL n f).map fun ys => PyData.list (ys.map PyData.int))) := by
  refine .lst (SqL.of h.lst) (dpAll_refs ?_ fun i p x h1 h2 => ?_)
  · rw [h.len]
    unfold tabL
    rw [List.length_map, List.length_range]
  · have hi := (List.getElem?_eq_some_iff.mp h1).1
    rw [h.len] at hi
    rw [tabL_at hi] at h2
    cases h2
    exact .lst (SqL.of (h.row i p h1)) (dpAll_ints _)
theorem refs_at {ps : List Addr} {i : Nat} {x : V} (h : (ps.map V.ref)[i]? = some x) : ∃ p, ps[i]? = some p ∧ x = V.ref p := by
  rw [List.getElem?_map] at h
  cases e : ps[i]? with
  | none => rw [e] at h; cases h
  | some z => rw [e] at h; exact ⟨z, rfl, (Option.some.inj h).symm⟩
theorem Tab.at {H : Hp} {t : Addr} {ps : List Addr} {n : Nat} {f : Nat → Nat → Int} (h : Tab H t ps n f) {i : Nat} (hi : i < n) : ∃ p, ps[i]? = some p ∧ atI (ps.map V.ref) (i : Int) = some (.ref p) ∧ H p = some (.lst ((rowI n (f i)).map V.int)) := by
  have hl : i < ps.length := by rw [h.len]; exact hi
  refine ⟨ps[i], List.getElem?_eq_getElem hl, at_of (j := i) rfl ?_, h.row i _ (List.getElem?_eq_getElem hl)⟩
  rw [List.getElem?_map, List.getElem?_eq_getElem hl]
  rfl

/-- a table that grows: m rows of n numbers -/
structure TabR (H : Hp) (t : Addr) (ps : List Addr) (m n : Nat) (f : Nat → Nat → Int) : Prop where
  lst : H t = some (.lst (ps.map V.ref))
  len : ps.length = m
  row : ∀ i p, ps[i]? = some p → H p = some (.lst ((rowI n (f i)).map V.int))
  nod : ps.Nodup
  out : t ∉ ps
theorem TabR.nil {H : Hp} {t : Addr} (n : Nat) (f : Nat → Nat → Int) (h : H t = some (.lst [])) : TabR H t [] 0 n f :=
  ⟨h, rfl, fun _ _ e => (by rw [List.getElem?_nil] at e; cases e), List.nodup_nil, fun h => (by cases h)⟩
theorem TabR.congr {H : Hp} {t : Addr} {ps : List Addr} {m n : Nat} {f g : Nat → Nat → Int} (h : TabR H t ps m n f) (e : ∀ i, i < m → ∀ j, j < n → f i j = g i j) : TabR H t ps m n g :=
  ⟨h.lst, h.len, fun i p hp => by
    have hi := (List.getElem?_eq_some_iff.mp hp).1
    rw [h.row i p hp, rowI_eq.mpr (e i (by rw [← h.len]; exact hi))], h.nod, h.out⟩
theorem TabR.push {H H' : Hp} {t p : Addr} {ps : List Addr} {m n : Nat} {f : Nat → Nat → Int} (h : TabR H t ps m n f) (e : Same H H') (np : H p = none) (hp : H' p = some (.lst ((rowI n (f m)).map V.int))) : TabR (upd H' t (.lst (ps.map V.ref ++ [V.ref p]))) t (ps ++ [p]) (m + 1) n f := by
  have hmem : ∀ q, q ∈ ps → ∃ o, H q = some o := fun q hq => by
    obtain ⟨i, hi⟩ := List.mem_iff_getElem?.mp hq
    exact ⟨_, h.row i q hi⟩
  have hpt : p ≠ t := fun z => by rw [z, h.lst] at np; cases np
  have hnp : p ∉ ps := fun z => by
    obtain ⟨o, ho⟩ := hmem p z
    rw [np] at ho
    cases ho
  refine ⟨?_, ?_, fun i q hq => ?_, ?_, ?_⟩
  · rw [upd_same, List.map_append]
    rfl
  · rw [List.length_append, h.len]
    rfl
  · by_cases hi : i < ps.length
    · rw [List.getElem?_append_left hi] at hq
      have hm := List.mem_of_getElem? hq
      rw [upd_ne (fun z => h.out (by rw [← z]; exact hm))]
      exact e _ _ (h.row i q hq)
    · rw [List.getElem?_append_right (by omega)] at hq
      have hi2 := (List.getElem?_eq_some_iff.mp hq).1
      have : i - ps.length = 0 := by
        rw [List.length_cons, List.length_nil] at hi2
        omega
      rw [this] at hq
      have hqp : p = q := Option.some.inj hq
      subst hqp
      rw [upd_ne hpt, hp]
      have : i = m := by have := h.len; omega
      rw [this]
  · rw [List.nodup_append]
    refine ⟨h.nod, List.nodup_cons.mpr ⟨fun z => (by cases z), List.nodup_nil⟩, fun a ha b hb z => ?_⟩
    rw [List.mem_singleton] at hb
    rw [hb] at z
    rw [z] at ha
    exact hnp ha
  · intro z
    rcases List.mem_append.mp z with z | z
    · exact h.out z
    · rw [List.mem_singleton] at z
      exact hpt z.symm
theorem TabR.tab {H : Hp} {t : Addr} {ps : List Addr} {n : Nat} {f : Nat → Nat → Int} (h : TabR H t ps n n f) : Tab H t ps n f := ⟨h.lst, h.len, h.row, h.nod, h.out⟩
theorem TabR.keep {H H0 : Hp} {t : Addr} {xs : List V} (s : Same H0 H) (nt : H0 t = none) : Same H0 (upd H t (.lst xs)) := fun b o e => by
  rw [upd_ne (ne_of_none e nt)]
  exact s b o e
/-- debts: one to thirteen houses, nobody owes itself -/
structure Debts (n : Nat) (f : Nat → Nat → Int) (m : Int) : Prop where
  n0 : 1 ≤ n
  n1 : n ≤ 13
  b : ∀ i, i < n → ∀ j, j < n → 0 ≤ f i j ∧ f i j ≤ m
  d : ∀ i, i < n → f i i = 0
theorem Debts.mono {n : Nat} {f : Nat → Nat → Int} {m k : Int} (h : Debts n f m) (e : m ≤ k) : Debts n f k := ⟨h.n0, h.n1, fun i hi j hj => ⟨(h.b i hi j hj).1, Int.le_trans (h.b i hi j hj).2 e⟩, h.d⟩

/-- a list of tuples: the tuple of each item -/
structure Tups {α : Type} (enc : α → List V) (H : Hp) (l : Addr) (ps : List Addr) (xs : List α) : Prop where
  lst : H l = some (.lst (ps.map V.ref))
  len : ps.length = xs.length
  row : ∀ (i : Nat) (p : Addr) (x : α), ps[i]? = some p → xs[i]? = some x → H p = some (.tup (enc x))
theorem Tups.nil {α : Type} {enc : α → List V} {H : Hp} {l : Addr} (h : H l = some (.lst [])) : Tups enc H l [] ([] : List α) :=
  ⟨h, rfl, fun _ _ _ e => (by rw [List.getElem?_nil] at e; cases e)⟩
theorem Tups.same {α : Type} {enc : α → List V} {H H' : Hp} {l : Addr} {ps : List Addr} {xs : List α} (h : Tups enc H l ps xs) (e : Same H H') : Tups enc H' l ps xs :=
  ⟨e _ _ h.lst, h.len, fun i p x a b => e _ _ (h.row i p x a b)⟩
theorem Tups.at {α : Type} {enc : α → List V} {H : Hp} {l : Addr} {ps : List Addr} {xs : List α} (h : Tups enc H l ps xs) {i : Nat} {x : α} (e : xs[i]? = some x) : ∃ p, ps[i]? = some p ∧ atI (ps.map V.ref) (i : Int) = some (.ref p) ∧ H p = some (.tup (enc x)) := by
  have hi := (List.getElem?_eq_some_iff.mp e).1
  have hl : i < ps.length := by rw [h.len]; exact hi
  refine ⟨ps[i], List.getElem?_eq_getElem hl, at_of (j := i) rfl ?_, h.row i _ x (List.getElem?_eq_getElem hl) e⟩
  rw [List.getElem?_map, List.getElem?_eq_getElem hl]
  rfl
theorem Tups.item {α : Type} {enc : α → List V} {H : Hp} {l : Addr} {ps : List Addr} {xs : List α} (h : Tups enc H l ps xs) {i : Nat} {v : V} (e : (ps.map V.ref)[i]? = some v) : ∃ p x, ps[i]? = some p ∧ xs[i]? = some x ∧ v = .ref p ∧ H p = some (.tup (enc x)) := by
  obtain ⟨p, hp, rfl⟩ := refs_at e
  have hi := (List.getElem?_eq_some_iff.mp hp).1
  rw [h.len] at hi
  exact ⟨p, xs[i], hp, List.getElem?_eq_getElem hi, rfl, h.row i p _ hp (List.getElem?_eq_getElem hi)⟩
theorem Tups.push {α : Type} {enc : α → List V} {H H' : Hp} {l p : Addr} {ps : List Addr} {xs : List α} {x : α} (h : Tups enc H l ps xs) (e : Same H H') (np : H p = none) (hp : H' p = some (.tup (enc x))) : Tups enc (upd H' l (.lst (ps.map V.ref ++ [V.ref p]))) l (ps ++ [p]) (xs ++ [x]) := by
  have hpl : p ≠ l := fun z => by rw [z, h.lst] at np; cases np
  refine ⟨?_, ?_, fun i q y hq hy => ?_⟩
  · rw [upd_same, List.map_append]
    rfl
  · rw [List.length_append, List.length_append, h.len]
    rfl
  · by_cases hi : i < ps.length
    · rw [List.getElem?_append_left hi] at hq
      rw [List.getElem?_append_left (by rw [← h.len]; exact hi)] at hy
      have hq2 := h.row i q y hq hy
      rw [upd_ne (fun z => by rw [z, h.lst] at hq2; cases hq2)]
      exact e _ _ hq2
    · rw [List.getElem?_append_right (by omega)] at hq
      rw [List.getElem?_append_right (by have := h.len; omega)] at hy
      have h1 := (List.getElem?_eq_some_iff.mp hq).1
      rw [List.length_cons, List.length_nil] at h1
      have e0 : i - ps.length = 0 := by omega
      have e1 : i - xs.length = 0 := by have := h.len; omega
      rw [e0] at hq
      rw [e1] at hy
      have z1 : p = q := Option.some.inj hq
      have z2 : x = y := Option.some.inj hy
      rw [← z1, ← z2, upd_ne hpl]
      exact hp
theorem Tups.dp {α : Type} {enc : α → List V} {L : α → PyData} {K : PySem.W.Frag} {H : Hp} {l : Addr} {ps : List Addr} {xs : List α} (h : Tups enc H l ps xs) (he : ∀ x (p : Addr), H p = some (.tup (enc x)) → Dp K H (.ref p) (L x)) : Dp K H (.ref l) (PyData.list (xs.map L)) :=
  .lst (SqL.of h.lst) (dpAll_refs h.len fun i p x h1 h2 => he x p (h.row i p x h1 h2))
def enc2 (x : Int × Int) : List V := [.int x.1, .int x.2]
def enc3 (x : Int × Int × Int) : List V := [.int x.1, .int x.2.1, .int x.2.2]
def lay3 (x : Int × Int × Int) : PyData := .tuple [.int x.1, .int x.2.1, .int x.2.2]
theorem layD_3 : LayD lay3 1 (fun x => True ∧ True ∧ True) := layD_int.tup3 layD_int layD_int
theorem dp3 {K : PySem.W.Frag} {H : Hp} (x : Int × Int × Int) (p : Addr) (h : H p = some (.tup (enc3 x))) : Dp K H (.ref p) (lay3 x) :=
  .tup (SqT.of h) (.cons (.int _) (.cons (.int _) (.cons (.int _) .nil)))
theorem Tups.push2 {α : Type} {enc : α → List V} {H : Hp} {l p : Addr} {ps : List Addr} {xs : List α} {x : α} (h : Tups enc H l ps xs) (hp : H p = some (.tup (enc x))) : Tups enc (upd H l (.lst (ps.map V.ref ++ [V.ref p]))) l (ps ++ [p]) (xs ++ [x]) := by
  have hpl : p ≠ l := fun z => by rw [z, h.lst] at hp; cases hp
  refine ⟨?_, ?_, fun i q y hq hy => ?_⟩
  · rw [upd_same, List.map_append]
    rfl
  · rw [List.length_append, List.length_append, h.len]
    rfl
  · by_cases hi : i < ps.length
    · rw [List.getElem?_append_left hi] at hq
      rw [List.getElem?_append_left (by rw [← h.len]; exact hi)] at hy
      have hq2 := h.row i q y hq hy
      rw [upd_ne (fun z => by rw [z, h.lst] at hq2; cases hq2)]
      exact hq2
    · rw [List.getElem?_append_right (by omega)] at hq
      rw [List.getElem?_append_right (by have := h.len; omega)] at hy
      have h1 := (List.getElem?_eq_some_iff.mp hq).1
      rw [List.length_cons, List.length_nil] at h1
      have e0 : i - ps.length = 0 := by omega
      have e1 : i - xs.length = 0 := by have := h.len; omega
      rw [e0] at hq
      rw [e1] at hy
      have z1 : p = q := Option.some.inj hq
      have z2 : x = y := Option.some.inj hy
      rw [← z1, ← z2, upd_ne hpl]
      exact hp
theorem Tups.copy {α : Type} {enc : α → List V} {H H' : Hp} {l l2 : Addr} {ps : List Addr} {xs : List α} (h : Tups enc H l ps xs) (e : Same H H') (h2 : H' l2 = some (.lst (ps.map V.ref))) : Tups enc H' l2 ps xs :=
  ⟨h2, h.len, fun i p x a b => e _ _ (h.row i p x a b)⟩

/-! a dict from texts to whole numbers -/
def encD (d : List (Str × Int)) : List (Key × V) := d.map fun x => (Sum.inr x.1, V.int x.2)
def getS (d : List (Str × Int)) (s : Str) : Option Int := (d.find? fun x => decide (x.1 = s)).map (·.2)
def keysS (d : List (Str × Int)) : List Str := d.map (·.1)
def putS (d : List (Str × Int)) (s : Str) (v : Int) : List (Str × Int) := if s ∈ keysS d then d.map (fun x => if x.1 = s then (x.1, v) else x) else d ++ [(s, v)]
def gD (d : List (Str × Int)) (s : Str) : Int := (getS d s).getD 0
theorem inr_eq {a b : Str} : ((Sum.inr a : Key) = Sum.inr b) ↔ a = b := ⟨fun h => Sum.inr.inj h, fun h => by rw [h]⟩
theorem valV_enc (s : Str) : ∀ d : List (Str × Int), valV (encD d) (Sum.inr s) = (getS d s).map V.int
  | [] => rfl
  | x :: d => by
    unfold encD getS
    rw [List.map_cons, List.find?_cons]
    by_cases h : x.1 = s
    · rw [valV_pos (by rw [h]), decide_eq_true h]; rfl
    · rw [valV_neg (fun z => h (Sum.inr.inj z)), decide_eq_false h]
      exact valV_enc s d
theorem any_enc (s : Str) : ∀ d : List (Str × Int), ((encD d).any fun kv => decide (kv.1 = Sum.inr s)) = decide (s ∈ keysS d)
  | [] => rfl
  | x :: d => by
    have ih := any_enc s d
    unfold encD at ih ⊢
    rw [List.map_cons, List.any_cons, ih]
    unfold keysS
    rw [List.map_cons]
    by_cases h : x.1 = s
    · have hm : s ∈ x.1 :: List.map (fun x => x.1) d := by rw [← h]; exact List.mem_cons_self
      rw [decide_eq_true (show ((Sum.inr x.1 : Key) = Sum.inr s) by rw [h]), decide_eq_true hm]; rfl
    · rw [decide_eq_false (fun z => h (Sum.inr.inj z)), Bool.false_or]
      exact decide_eq_decide.mpr ⟨fun z => List.mem_cons_of_mem _ z, fun z => (List.mem_cons.mp z).resolve_left fun e => h e.symm⟩
theorem putK_enc (d : List (Str × Int)) (s : Str) (v : Int) : putK (encD d) (Sum.inr s) (V.int v) = encD (putS d s v) := by
  unfold putK putS
  rw [any_enc]
  by_cases h : s ∈ keysS d
  · rw [if_pos (decide_eq_true h), if_pos h]
    unfold encD
    rw [List.map_map, List.map_map]
    refine List.map_congr_left fun x _ => ?_
    show (if (Sum.inr x.1 : Key) = Sum.inr s then ((Sum.inr x.1 : Key), V.int v) else (Sum.inr x.1, V.int x.2)) = _
    by_cases z : x.1 = s
    · rw [if_pos (by rw [z])]
      show _ = ((Sum.inr (if x.1 = s then (x.1, v) else x).1 : Key), V.int (if x.1 = s then (x.1, v) else x).2)
      rw [if_pos z]
    · rw [if_neg (fun e => z (Sum.inr.inj e))]
      show _ = ((Sum.inr (if x.1 = s then (x.1, v) else x).1 : Key), V.int (if x.1 = s then (x.1, v) else x).2)
      rw [if_neg z]
  · rw [if_neg (by rw [decide_eq_false h]; exact Bool.false_ne_true), if_neg h]
    unfold encD
    rw [List.map_append]
    rfl
def addK (ks : List Str) (s : Str) : List Str := if s ∈ ks then ks else ks ++ [s]
theorem keys_put (d : List (Str × Int)) (s : Str) (v : Int) : keysS (putS d s v) = addK (keysS d) s := by
  unfold putS addK
  by_cases h : s ∈ keysS d
  · rw [if_pos h, if_pos h]
    unfold keysS
    rw [List.map_map]
    refine List.map_congr_left fun x _ => ?_
    show (if x.1 = s then (x.1, v) else x).1 = x.1
    split <;> rfl
  · rw [if_neg h, if_neg h]
    unfold keysS
    rw [List.map_append]
    rfl
theorem get_mem (s : Str) : ∀ d : List (Str × Int), (getS d s).isSome = decide (s ∈ keysS d)
  | [] => rfl
  | x :: d => by
    have ih := get_mem s d
    unfold getS keysS at ih ⊢
    rw [List.find?_cons, List.map_cons]
    by_cases h : x.1 = s
    · rw [decide_eq_true h, decide_eq_true (by rw [h]; exact List.mem_cons_self)]; rfl
    · rw [decide_eq_false h]
      refine ih.trans (decide_eq_decide.mpr ⟨fun z => List.mem_cons_of_mem _ z, fun z => (List.mem_cons.mp z).resolve_left fun e => h e.symm⟩)
theorem get_some {d : List (Str × Int)} {s : Str} (h : s ∈ keysS d) : getS d s = some (gD d s) := by
  have e := get_mem s d
  rw [decide_eq_true h] at e
  unfold gD
  cases w : getS d s with
  | none => rw [w] at e; cases e
  | some x => rfl
theorem get_map (s t : Str) (v : Int) : ∀ d : List (Str × Int), getS (d.map fun x => if x.1 = s then (x.1, v) else x) t = (getS d t).map fun w => if t = s then v else w
  | [] => rfl
  | x :: d => by
    have ih := get_map s t v d
    unfold getS at ih ⊢
    rw [List.map_cons, List.find?_cons, List.find?_cons]
    have e1 : (if x.1 = s then (x.1, v) else x).1 = x.1 := by split <;> rfl
    rw [e1]
    by_cases h : x.1 = t
    · rw [decide_eq_true h]
      show some (if x.1 = s then (x.1, v) else x).2 = some (if t = s then v else x.2)
      by_cases z : x.1 = s
      · rw [if_pos z, if_pos (h.symm.trans z)]
      · rw [if_neg z, if_neg fun e => z (h.trans e)]
    · rw [decide_eq_false h]
      exact ih
theorem gD_put (d : List (Str × Int)) (s t : Str) (v : Int) : gD (putS d s v) t = if t = s then v else gD d t := by
  unfold gD putS
  by_cases h : s ∈ keysS d
  · rw [if_pos h, get_map]
    by_cases z : t = s
    · have := get_some h
      rw [z, this, if_pos rfl]
      show (if s = s then v else gD d s) = v
      rw [if_pos rfl]
    · rw [if_neg z]
      cases getS d t with
      | none => rfl
      | some w => show (if t = s then v else w) = w; rw [if_neg z]
  · rw [if_neg h]
    unfold getS
    rw [List.find?_append]
    by_cases z : t = s
    · have e := get_mem s d
      rw [decide_eq_false h] at e
      unfold getS at e
      rw [z, if_pos rfl]
      cases w : d.find? fun x => decide (x.1 = s) with
      | none => rw [Option.none_or, List.find?_cons, decide_eq_true rfl]; rfl
      | some x => rw [w] at e; cases e
    · rw [if_neg z]
      have : List.find? (fun x : Str × Int => decide (x.1 = t)) [(s, v)] = none := by
        rw [List.find?_cons, decide_eq_false fun e : s = t => z e.symm]
        rfl
      rw [this, Option.or_none]
theorem dget_go {H : Hp} {a : Addr} {s : Str} {d : List (Str × Int)} {R : Option V → Prop} (h : H a = some (.dK (encD d))) (q : R ((getS d s).map V.int)) : ∃ o, DGet H a (.str s) o ∧ R o := by
  refine ⟨_, ?_, q⟩
  have := DGet.k (k := Sum.inr s) h
  rw [valV_enc] at this
  exact this
theorem dget_at {H : Hp} {a : Addr} {s : Str} {d : List (Str × Int)} (h : H a = some (.dK (encD d))) (k : s ∈ keysS d) : DGet H a (.str s) (some (.int (gD d s))) := by
  have := DGet.k (k := Sum.inr s) h
  rw [valV_enc, get_some k] at this
  exact this
theorem dput_go {H : Hp} {a : Addr} {s : Str} {v : Int} {d : List (Str × Int)} {R : Hp → Prop} (h : H a = some (.dK (encD d))) (hl : d.length ≤ 1000) (q : R (upd H a (.dK (encD (putS d s v))))) : ∃ H', V.ref a = V.ref a ∧ DPut H a (.str s) (.int v) H' ∧ R H' := by
  refine ⟨_, rfl, ?_, q⟩
  rw [← putK_enc]
  refine DPut.k (k := Sum.inr s) h ?_
  unfold encD
  rw [List.length_map]
  exact small1000 (by omega)
theorem getD_int (d : List (Str × Int)) (s : Str) : ((getS d s).map V.int).getD (.int 0) = .int (gD d s) := by
  unfold gD
  cases getS d s <;> rfl
theorem isD_enc {H : Hp} {a : Addr} {d : List (Str × Int)} (h : H a = some (.dK (encD d))) : IsD H a := .inl ⟨_, .inl h⟩
theorem addK_mem {ks : List Str} {s t : Str} : t ∈ addK ks s ↔ t ∈ ks ∨ t = s := by
  unfold addK
  split
  · exact ⟨.inl, fun h => h.elim id fun e => by rw [e]; assumption⟩
  · rw [List.mem_append, List.mem_singleton]
theorem addK_nodup {ks : List Str} {s : Str} (h : ks.Nodup) : (addK ks s).Nodup := by
  unfold addK
  split
  · exact h
  · rename_i n
    rw [List.nodup_append]
    exact ⟨h, List.nodup_cons.mpr ⟨fun z => (by cases z), List.nodup_nil⟩, fun a ha b hb e => n (by rw [List.mem_singleton] at hb; rw [← hb, ← e]; exact ha)⟩
theorem addK_len (ks : List Str) (s : Str) : (addK ks s).length ≤ ks.length + 1 := by
  unfold addK
  split
  · omega
  · rw [List.length_append]; exact Nat.le_refl _
/-- two ascending lists with the same texts, none twice, are equal -/
theorem rising_le : ∀ {xs : List Str} {p : Str}, risingS p xs = true → (p :: xs).Pairwise fun a b => a.cps.toList ≤ b.cps.toList
  | [], p, _ => List.pairwise_singleton _ _
  | x :: xs, p, h => by
    have h' : (!ltCps x.cps.toList p.cps.toList && risingS x xs) = true := h
    rw [Bool.and_eq_true] at h'
    have h1 : p.cps.toList ≤ x.cps.toList := by
      have := h'.1
      rw [ltCps_eq] at this
      exact ndec_t this
    have ih := rising_le h'.2
    refine List.pairwise_cons.mpr ⟨fun y hy => ?_, ih⟩
    rcases List.mem_cons.mp hy with e | e
    · rw [e]; exact h1
    · exact List.le_trans h1 ((List.pairwise_cons.mp ih).1 y e)
theorem sorted_le {xs : List Str} (h : sortedS xs = true) : xs.Pairwise fun a b => a.cps.toList ≤ b.cps.toList := by
  cases xs with
  | nil => exact .nil
  | cons x xs => exact rising_le h
theorem sorted_same : ∀ {xs ys : List Str}, xs.Pairwise (fun a b => a.cps.toList ≤ b.cps.toList) → ys.Pairwise (fun a b => a.cps.toList ≤ b.cps.toList) → xs.Nodup → ys.Nodup → (∀ s, s ∈ xs ↔ s ∈ ys) → xs = ys
  | [], [], _, _, _, _, _ => rfl
  | [], y :: ys, _, _, _, _, h => absurd ((h y).mpr List.mem_cons_self) (fun z => by cases z)
  | x :: xs, [], _, _, _, _, h => absurd ((h x).mp List.mem_cons_self) (fun z => by cases z)
  | x :: xs, y :: ys, h1, h2, n1, n2, h => by
    have a := List.pairwise_cons.mp h1
    have b := List.pairwise_cons.mp h2
    have c := List.nodup_cons.mp n1
    have d := List.nodup_cons.mp n2
    have e : x = y := by
      rcases List.mem_cons.mp ((h x).mp List.mem_cons_self) with e | e
      · exact e
      · rcases List.mem_cons.mp ((h y).mpr List.mem_cons_self) with f | f
        · exact f.symm
        · have z := List.le_antisymm (a.1 y f) (b.1 x e)
          cases x
          cases y
          exact congrArg _ (Array.toList_inj.mp z)
    subst e
    rw [sorted_same a.2 b.2 c.2 d.2 fun s => ?_]
    constructor
    · intro hs
      rcases List.mem_cons.mp ((h s).mp (List.mem_cons_of_mem _ hs)) with e | e
      · rw [e] at hs; exact absurd hs c.1
      · exact e
    · intro hs
      rcases List.mem_cons.mp ((h s).mpr (List.mem_cons_of_mem _ hs)) with e | e
      · rw [e] at hs; exact absurd hs d.1
      · exact e
theorem keys_enc (d : List (Str × Int)) : (encD d).map (·.1) = (keysS d).map Sum.inr := by
  unfold encD keysS
  rw [List.map_map, List.map_map]
  rfl

section
variable {P : Program} {w : World} {K : PySem.W.Frag} {mg : Str → Option Value} {base : Heap}
def sp_law_cell (K : PySem.W.Frag) : Sp := fun vs H Q _ => ∃ (a : Addr) (ns : List Int) (j : Nat), vs = [.ref a, .int j] ∧ SqL K H a (ns.map V.int) ∧ Q (.int (cellOf ns j)) H
theorem ok_law_cell (T : Txt K mg) : FnOk P w K mg base CX0 1 T.f_law_cell T.d_law_cell ["script", "k"] (sp_law_cell K) := by
  refine T.F_law_cell.ok sc_law_cell (fun vs H Q E h => ?_) (fun cdv A outer s H vs Q E hr h => ?_)
  · obtain ⟨a, ns, j, rfl, _⟩ := h
    rfl
  · obtain ⟨a, ns, j, rfl, hs, q⟩ := h
    refine ⟨_, (pss_cons (ps_if (pt_cmpR op_lt (pv 1) (pe_callB call_len_seq (by rfl) T.z_len PySem.boot_len (pa_cons (pv 0) pa_nil)) (nomark _))
      (pss_one (ps_ret (pe_ix ix_list (pv 0) (pv 1) (fun _ _ => rfl))))
      pss_nil)
    (pss_one (ps_ret pe_int))), ?_⟩
    walk_at "st"
    refine iteD (fun h => ?_) (fun h => ?_)
    · have hj : j < ns.length := by rw [List.length_map] at h; omega
      walk_at "st"
      exact ⟨atI_ints hj, q⟩
    · have hj : ¬ j < ns.length := by rw [List.length_map] at h; omega
      rw [cellOf_out hj] at q
      exact q

/-- what the draws are: only their number and their bounds matter -/
def sp_law_draws (K : PySem.W.Frag) : Sp := fun vs H Q _ => ∃ (cell : Int) (n : Nat) (size : Int), vs = [.int cell, .int (n : Int), .int size] ∧ n ≤ 1000 ∧ 0 < size ∧ size < 1073741824 ∧
  ∀ p H' (ds : List Int), Same H H' → H p = none → H' p = some (.lst (ds.map V.int)) → ds.length = n → (∀ d, d ∈ ds → 0 ≤ d ∧ d < size) → Q (.ref p) H'
theorem ok_law_draws (T : Txt K mg) : FnOk P w K mg base CX0 1 T.f_law_draws T.d_law_draws ["cell", "count", "size"] (sp_law_draws K) := by
  refine T.F_law_draws.ok sc_law_draws (fun vs H Q E h => ?_) (fun cdv A outer s H vs Q E hr h => ?_)
  · obtain ⟨cell, n, size, rfl, _⟩ := h
    rfl
  · obtain ⟨cell, n, size, rfl, hn, h0, h1, q⟩ := h
    refine ⟨_, (pss_cons (ps_set (i := 3) sc_law_draws.nd rfl (Or.inl rfl) (pe_lst pa_nil))
    (pss_cons (ps_set (i := 4) sc_law_draws.nd rfl (Or.inl rfl) (pe_callB call_abs (by rfl) T.z_abs (by decide +kernel) (pa_cons (pv 0) pa_nil)))
    (pss_cons (ps_if (pt_cmpR op_ge (pv 4) pe_int (nomark _))
      (pss_cons (ps_for PassesOwn.never rfl (pi_range1 (by rfl) T.z_range (pa_cons (pv 1) pa_nil)) (pg_name (i := 5) sc_law_draws.nd rfl (Or.inl rfl))
        (pss_cons (ps_expr (pe_bm PySem.F.plainAttrs_list PySem.F.slot_list_append PySem.F.type_list_append mt_append (pv 3) (pa_cons (pe_op op_mod (pe_callTy call_int_i (by rfl) T.z_int (by decide +kernel) (pa_cons (pv 4) pa_nil)) (pv 2)) pa_nil)))
        (pss_one (ps_set (i := 4) sc_law_draws.nd rfl (Or.inl rfl) (pe_op op_fdiv (pv 4) (pv 2))))))
      (pss_one (ps_ret (pv 3))))
      pss_nil)
    (pss_cons (ps_for PassesOwn.never rfl (pi_range1 (by rfl) T.z_range (pa_cons (pv 1) pa_nil)) (pg_name (i := 5) sc_law_draws.nd rfl (Or.inl rfl))
      (pss_cons (ps_set (i := 4) sc_law_draws.nd rfl (Or.inl rfl) (pe_op op_mod (pe_callTy call_int_i (by rfl) T.z_int (by decide +kernel) (pa_cons (pe_op op_add (pe_op op_add (pe_op op_mul (pv 4) pe_int) (pe_op op_mul (pv 5) pe_int)) pe_int) pa_nil)) pe_int))
      (pss_one (ps_expr (pe_bm PySem.F.plainAttrs_list PySem.F.slot_list_append PySem.F.type_list_append mt_append (pv 3) (pa_cons (pe_op op_mod (pe_op op_mod (pe_callTy call_int_i (by rfl) T.z_int (by decide +kernel) (pa_cons (pe_op op_add (pe_op op_mul (pv 4) pe_int) (pv 5)) pa_nil)) pe_int) (pv 2)) pa_nil))))))
    (pss_one (ps_ret (pv 3))))))), ?_⟩
    walk_at "st"
    intro D nD
    walk_at "st"
    generalize hrest : (if cell < 0 then -cell else cell) = rest
    have hrest0 : 0 ≤ rest := by rw [← hrest]; split <;> omega
    have eD : (upd H D (.lst [])) D = some (.lst (([] : List Int).map V.int)) := upd_same
    have s1 : Same H (upd H D (.lst [])) := same_upd nD
    generalize upd H D (.lst []) = H1 at eD s1
    refine iteB (fun h => ?_) (fun h => ?_)
    · walk_at "st"
      refine for_range (lo := 0) (n := ((n : Int)).toNat) (fun i σ H' => ∃ (v5 : Option V) (r : Int) (ds : List Int), σ = [some (.int cell), some (.int (n : Int)), some (.int size), some (.ref D), some (.int r), v5] ∧ 0 ≤ r ∧ H' D = some (.lst (ds.map V.int)) ∧ ds.length = i ∧ (∀ d, d ∈ ds → 0 ≤ d ∧ d < size) ∧ Same H H')
        ⟨none, rest, [], rfl, hrest0, eD, rfl, (fun _ hd => by cases hd), s1⟩ ?_ ?_
      · rintro i σ H' hi ⟨v5, r, ds, rfl, hr0, hD, hl, hb, e⟩
        have hlt : (ds.map V.int).length < sizeLine := small1000 (by rw [List.length_map]; omega)
        walk_at "st"
        refine ⟨some (.int (0 + (i : Int))), r / size, ds ++ [r % size], rfl, ?_, ?_, ?_, ?_, fun b o z => ?_⟩
        · exact Int.ediv_nonneg hr0 (by omega)
        · rw [upd_same, List.map_append]
          rfl
        · rw [List.length_append, hl]
          rfl
        · intro d hd
          rcases List.mem_append.mp hd with hd | hd
          · exact hb d hd
          · rw [List.mem_singleton.mp hd]
            exact ⟨Int.emod_nonneg _ (by omega), Int.emod_lt_of_pos _ h0⟩
        · rw [upd_ne (ne_of_none z nD)]
          exact e b o z
      · rintro σ H' ⟨v5, r, ds, rfl, hr0, hD, hl, hb, e⟩
        walk_at "st"
        exact q D H' ds e nD hD (by omega) hb
    · walk_at "st"
      refine for_range (lo := 0) (n := ((n : Int)).toNat) (fun i σ H' => ∃ (v5 : Option V) (r : Int) (ds : List Int), σ = [some (.int cell), some (.int (n : Int)), some (.int size), some (.ref D), some (.int r), v5] ∧ 0 ≤ r ∧ H' D = some (.lst (ds.map V.int)) ∧ ds.length = i ∧ (∀ d, d ∈ ds → 0 ≤ d ∧ d < size) ∧ Same H H')
        ⟨none, rest, [], rfl, hrest0, eD, rfl, (fun _ hd => by cases hd), s1⟩ ?_ ?_
      · rintro i σ H' hi ⟨v5, r, ds, rfl, hr0, hD, hl, hb, e⟩
        have hlt : (ds.map V.int).length < sizeLine := small1000 (by rw [List.length_map]; omega)
        walk_at "st"
        refine ⟨some (.int (0 + (i : Int))), (r * 48271 + (0 + (i : Int)) * 69621 + 11) % 2147483647, ds ++ [((r * 48271 + (0 + (i : Int)) * 69621 + 11) % 2147483647 * 16807 + (0 + (i : Int))) % 2147483629 % size], rfl, ?_, ?_, ?_, ?_, fun b o z => ?_⟩
        · exact Int.emod_nonneg _ (by decide)
        · rw [upd_same, List.map_append]
          rfl
        · rw [List.length_append, hl]
          rfl
        · intro d hd
          rcases List.mem_append.mp hd with hd | hd
          · exact hb d hd
          · rw [List.mem_singleton.mp hd]
            exact ⟨Int.emod_nonneg _ (by omega), Int.emod_lt_of_pos _ h0⟩
        · rw [upd_ne (ne_of_none z nD)]
          exact e b o z
      · rintro σ H' ⟨v5, r, ds, rfl, hr0, hD, hl, hb, e⟩
        walk_at "st"
        exact q D H' ds e nD hD (by omega) hb

def enc4 (x : Str × Str × Int × Int) : List V := [.str x.1, .str x.2.1, .int x.2.2.1, .int x.2.2.2]
def lay4 (x : Str × Str × Int × Int) : PyData := .tuple [.str x.1, .str x.2.1, .int x.2.2.1, .int x.2.2.2]
theorem layD_4 : LayD lay4 1 (fun x => PyData.strOk x.1 = true ∧ PyData.strOk x.2.1 = true ∧ True ∧ True) := layD_str.tup4 layD_str layD_int layD_int
theorem dp4 {K : PySem.W.Frag} {H : Hp} (x : Str × Str × Int × Int) (p : Addr) (h : H p = some (.tup (enc4 x))) : Dp K H (.ref p) (lay4 x) :=
  .tup (SqT.of h) (.cons (.str _) (.cons (.str _) (.cons (.int _) (.cons (.int _) .nil))))
def encR (x : Str × Int × Int) : List V := [.str x.1, .int x.2.1, .int x.2.2]
def layR (x : Str × Int × Int) : PyData := .tuple [.str x.1, .int x.2.1, .int x.2.2]
theorem layD_R : LayD layR 1 (fun x => PyData.strOk x.1 = true ∧ True ∧ True) := layD_str.tup3 layD_int layD_int
theorem dpR {K : PySem.W.Frag} {H : Hp} (x : Str × Int × Int) (p : Addr) (h : H p = some (.tup (encR x))) : Dp K H (.ref p) (layR x) :=
  .tup (SqT.of h) (.cons (.str _) (.cons (.int _) (.cons (.int _) .nil)))
structure TradeOk (x : Str × Str × Int × Int) : Prop where
  b : x.1 ≠ ""
  s : x.2.1 ≠ ""
  ne : x.1 ≠ x.2.1
  u : 1 ≤ x.2.2.1
  c : 0 ≤ x.2.2.2
def touch (T : List (Str × Str × Int × Int)) (h : Str) : Prop := ∃ x, x ∈ T ∧ (x.1 = h ∨ x.2.1 = h)
def unitsOf (T : List (Str × Str × Int × Int)) (h : Str) : Int := (T.map fun x => (if h = x.1 then x.2.2.1 else 0) - (if h = x.2.1 then x.2.2.1 else 0)).sum
def centsOf (T : List (Str × Str × Int × Int)) (h : Str) : Int := (T.map fun x => (if h = x.2.1 then x.2.2.2 else 0) - (if h = x.1 then x.2.2.2 else 0)).sum
theorem inV2_no {x a b : Str} (h1 : a ≠ x) (h2 : b ≠ x) : inV (.str x) [.str a, .str b] = false := by
  unfold inV
  rw [List.any_cons, List.any_cons, List.any_nil]
  have e : ∀ y : Str, y ≠ x → eqV (.str y) (.str x) = false := fun y hy => by
    unfold eqV
    exact beq_eq_false_iff_ne.mpr hy
  rw [e a h1, e b h2]
  rfl
def sp_is_integral (K : PySem.W.Frag) : Sp := fun vs H Q _ => ∃ x : Int, vs = [.int x] ∧ Q (.bl true) H
theorem ok_is_integral (T : Txt K mg) : FnOk P w K mg base CX0 1 T.f_is_integral T.d_is_integral ["value"] (sp_is_integral K) := by
  refine T.F_is_integral.ok sc_is_integral (fun vs H Q E h => ?_) (fun cdv A outer s H vs Q E hr h => ?_)
  · obtain ⟨x, rfl, _⟩ := h
    rfl
  · obtain ⟨x, rfl, q⟩ := h
    refine ⟨_, (pss_one (ps_ret (pe_and (pe_callB call_isi (by rfl) T.z_isinstance (by decide +kernel) (pa_cons (pv 0) (pa_cons (pe_bltn (v := .ty "int") (u := .type "int") (by rfl) T.z_int (by decide +kernel) rfl) pa_nil))) (pe_one (pe_not (pe_callB call_isi (by rfl) T.z_isinstance (by decide +kernel) (pa_cons (pv 0) (pa_cons (pe_bltn (v := .ty "bool") (u := .type "bool") (by rfl) T.z_bool (by decide +kernel) rfl) pa_nil)))))))), ?_⟩
    refine ⟨_, rfl, ?_⟩
    refine ⟨_, _, _, _, true, rfl, .ty _, .base (.int _), kit_ty (by decide +kernel), ?_⟩
    refine ⟨true, rfl, iteT ?_⟩
    refine ⟨_, rfl, ?_⟩
    refine ⟨_, _, _, _, false, rfl, .ty _, .base (.int _), kit_ty (by decide +kernel), ?_⟩
    refine ⟨false, rfl, ?_⟩
    exact q
def sp_check_trades (K : PySem.W.Frag) : Sp := fun vs H Q _ => ∃ (l : Addr) (rs : List Addr) (T : List (Str × Str × Int × Int)), vs = [.ref l] ∧ Tups enc4 H l rs T ∧ (∀ x, x ∈ T → TradeOk x) ∧ ∀ H', Same H H' → Q .non H'
theorem ok_check_trades (T : Txt K mg) : FnOk P w K mg base CX0 2 T.f_check_trades T.d_check_trades ["trades"] (sp_check_trades K) := by
  refine T.F_check_trades.ok sc_check_trades (fun vs H Q E h => ?_) (fun cdv A outer s H vs Q E hr h => ?_)
  · obtain ⟨l, rs, T, rfl, _⟩ := h
    rfl
  · obtain ⟨l, rs, T', rfl, hT, hok, q⟩ := h
    have G_is_integral : FnOk P w K mg base CX0 1 T.f_is_integral T.d_is_integral ["value"] (sp_is_integral K) := ok_is_integral T
    have hs : SqL K H l (rs.map V.ref) := SqL.of hT.lst
    refine ⟨_, (pss_one (ps_for PassesOwn.never rfl (pi_list (pv 0)) (pg_tup rfl (pgs_cons (pg_name (i := 1) sc_check_trades.nd rfl (Or.inl rfl)) (pgs_cons (pg_name (i := 2) sc_check_trades.nd rfl (Or.inl rfl)) (pgs_cons (pg_name (i := 3) sc_check_trades.nd rfl (Or.inl rfl)) (pgs_cons (pg_name (i := 4) sc_check_trades.nd rfl (Or.inl rfl)) pgs_nil)))))
      (pss_cons (ps_if (PW.pt (pw_or (pt_cmpR op_in_seq pe_str (pe_tup (pa_cons (pv 1) (pa_cons (pv 2) pa_nil))) rfl) (pw_or1 (pt_cmpR op_eq (pv 1) (pv 2) (nomark _)))))
        (pss_one ps_never)
        pss_nil)
      (pss_cons (ps_if (PW.pt (pw_or (pt_not (pt_val (pe_call G_is_integral hr (by rfl) T.m_is_integral T.F_is_integral.kp T.b_is_integral .nil pass0 (pa_cons (pv 3) pa_nil)))) (pw_or1 (pt_cmpR op_lt (pv 3) pe_int (nomark _)))))
        (pss_one ps_never)
        pss_nil)
      (pss_one (ps_if (PW.pt (pw_or (pt_not (pt_val (pe_call G_is_integral hr (by rfl) T.m_is_integral T.F_is_integral.kp T.b_is_integral .nil pass0 (pa_cons (pv 4) pa_nil)))) (pw_or1 (pt_cmpR op_lt (pv 4) pe_int (nomark _)))))
        (pss_one ps_never)
        pss_nil)))))), ?_⟩
    walk_at "st"
    refine for_list (K := K) (a := l) (xs := rs.map V.ref) (fun i σ H' => (∃ v1 v2 v3 v4 : Option V, σ = [some (.ref l), v1, v2, v3, v4]) ∧ Same H H') ⟨⟨none, none, none, none, rfl⟩, Same.refl _⟩ (fun i σ H' _ ⟨_, e⟩ => e.seq hs) ?_ ?_
    · rintro i x σ H' hx ⟨⟨v1, v2, v3, v4, rfl⟩, e⟩
      obtain ⟨p, y, hp, hy, rfl, hyr⟩ := (hT.same e).item hx
      have ok := hok y (List.mem_of_getElem? hy)
      have hyt : SqT K H' p [.str y.1, .str y.2.1, .int y.2.2.1, .int y.2.2.2] := SqT.of hyr
      walk_at "st"
      intro U nU
      refine ⟨U, _, rfl, .inr (SqT.of upd_same), rfl, rfl, ?_⟩
      rw [if_neg Bool.false_ne_true, inV2_no ok.b ok.s]
      have e2 := e.trans (same_upd (o := .tup [.str y.1, .str y.2.1]) nU)
      generalize upd H' U (.tup [.str y.1, .str y.2.1]) = H2 at *
      have ku := ok.u
      have kc := ok.c
      walk_at "st"
      refine iteB (fun h => (ok.ne (V.str.inj (dec_t h))).elim) (fun _ => ?_)
      walk_at "st"
      refine iteB (fun h => absurd (dec_t h) (by omega)) (fun _ => ?_)
      walk_at "st"
      refine iteB (fun h => absurd (dec_t h) (by omega)) (fun _ => ?_)
      exact ⟨⟨_, _, _, _, rfl⟩, e2⟩
    · rintro σ H' ⟨⟨v1, v2, v3, v4, rfl⟩, e⟩
      exact q _ e
/-- each trade as two, with a center between -/
def novL (c : Str) (T : List (Str × Str × Int × Int)) : List (Str × Str × Int × Int) := T.flatMap fun x => [(x.1, c, x.2.2.1, x.2.2.2), (c, x.2.1, x.2.2.1, x.2.2.2)]
theorem novL_snoc (c : Str) (T : List (Str × Str × Int × Int)) (x : Str × Str × Int × Int) : novL c (T ++ [x]) = novL c T ++ [(x.1, c, x.2.2.1, x.2.2.2)] ++ [(c, x.2.1, x.2.2.1, x.2.2.2)] := by
  unfold novL
  rw [List.flatMap_append, List.append_assoc]
  rfl
theorem novL_len (c : Str) : ∀ T : List (Str × Str × Int × Int), (novL c T).length = 2 * T.length
  | [] => rfl
  | x :: T => by
    show (_ ++ novL c T).length = _
    rw [List.length_append, novL_len c T]
    show 2 + 2 * T.length = 2 * (T.length + 1)
    omega
theorem unitsOf_snoc (T : List (Str × Str × Int × Int)) (x : Str × Str × Int × Int) (h : Str) : unitsOf (T ++ [x]) h = unitsOf T h + ((if h = x.1 then x.2.2.1 else 0) - (if h = x.2.1 then x.2.2.1 else 0)) := by
  unfold unitsOf
  rw [List.map_append, List.sum_append, List.map_cons, List.map_nil, List.sum_cons, List.sum_nil]
  omega
theorem centsOf_snoc (T : List (Str × Str × Int × Int)) (x : Str × Str × Int × Int) (h : Str) : centsOf (T ++ [x]) h = centsOf T h + ((if h = x.2.1 then x.2.2.2 else 0) - (if h = x.1 then x.2.2.2 else 0)) := by
  unfold centsOf
  rw [List.map_append, List.sum_append, List.map_cons, List.map_nil, List.sum_cons, List.sum_nil]
  omega
theorem touch_snoc (T : List (Str × Str × Int × Int)) (x : Str × Str × Int × Int) (h : Str) : touch (T ++ [x]) h ↔ touch T h ∨ h = x.1 ∨ h = x.2.1 := by
  unfold touch
  constructor
  · rintro ⟨y, hy, e⟩
    rcases List.mem_append.mp hy with z | z
    · exact .inl ⟨y, z, e⟩
    · rw [List.mem_singleton] at z
      rw [z] at e
      exact .inr (e.imp Eq.symm Eq.symm)
  · rintro (⟨y, hy, e⟩ | e)
    · exact ⟨y, List.mem_append_left _ hy, e⟩
    · exact ⟨x, List.mem_append_right _ (List.mem_singleton.mpr rfl), e.imp Eq.symm Eq.symm⟩
theorem touch_take {T : List (Str × Str × Int × Int)} {i : Nat} {h : Str} (t : touch (T.take i) h) : touch T h := by
  obtain ⟨x, hx, e⟩ := t
  exact ⟨x, List.mem_of_mem_take hx, e⟩
def sp_novate (K : PySem.W.Frag) : Sp := fun vs H Q _ => ∃ (l : Addr) (rs : List Addr) (T : List (Str × Str × Int × Int)) (c : Str), vs = [.ref l, .str c] ∧ Tups enc4 H l rs T ∧ (∀ x, x ∈ T → TradeOk x ∧ x.1 ≠ c ∧ x.2.1 ≠ c) ∧ T.length ≤ 200 ∧
  ∀ p H' rs2, Same H H' → H p = none → Tups enc4 H' p rs2 (novL c T) → Q (.ref p) H'
theorem ok_novate (T : Txt K mg) : FnOk P w K mg base CX0 3 T.f_novate T.d_novate ["trades", "center"] (sp_novate K) := by
  refine T.F_novate.ok sc_novate (fun vs H Q E h => ?_) (fun cdv A outer s H vs Q E hr h => ?_)
  · obtain ⟨l, rs, T, c, rfl, _⟩ := h
    rfl
  · obtain ⟨l, rs, T', c, rfl, hT, hok, hlen, q⟩ := h
    have G_check_trades : FnOk P w K mg base CX0 2 T.f_check_trades T.d_check_trades ["trades"] (sp_check_trades K) := ok_check_trades T
    have hs : SqL K H l (rs.map V.ref) := SqL.of hT.lst
    refine ⟨_, (pss_cons (ps_expr (pe_call G_check_trades hr (by rfl) T.m_check_trades T.F_check_trades.kp T.b_check_trades .nil pass0 (pa_cons (pv 0) pa_nil)))
    (pss_cons (ps_set (i := 2) sc_novate.nd rfl (Or.inl rfl) (pe_lst pa_nil))
    (pss_cons (ps_for PassesOwn.never rfl (pi_list (pv 0)) (pg_tup rfl (pgs_cons (pg_name (i := 3) sc_novate.nd rfl (Or.inl rfl)) (pgs_cons (pg_name (i := 4) sc_novate.nd rfl (Or.inl rfl)) (pgs_cons (pg_name (i := 5) sc_novate.nd rfl (Or.inl rfl)) (pgs_cons (pg_name (i := 6) sc_novate.nd rfl (Or.inl rfl)) pgs_nil)))))
      (pss_cons (ps_if (pt_cmpR op_in_seq (pv 1) (pe_tup (pa_cons (pv 3) (pa_cons (pv 4) pa_nil))) rfl)
        (pss_one ps_never)
        pss_nil)
      (pss_cons (ps_expr (pe_bm PySem.F.plainAttrs_list PySem.F.slot_list_append PySem.F.type_list_append mt_append (pv 2) (pa_cons (pe_tup (pa_cons (pv 3) (pa_cons (pv 1) (pa_cons (pv 5) (pa_cons (pv 6) pa_nil))))) pa_nil)))
      (pss_one (ps_expr (pe_bm PySem.F.plainAttrs_list PySem.F.slot_list_append PySem.F.type_list_append mt_append (pv 2) (pa_cons (pe_tup (pa_cons (pv 1) (pa_cons (pv 4) (pa_cons (pv 5) (pa_cons (pv 6) pa_nil))))) pa_nil)))))))
    (pss_one (ps_ret (pv 2)))))), ?_⟩
    walk_at "st"
    refine ⟨rs, T', rfl, hT, fun x hx => (hok x hx).1, fun H1 e1 => ?_⟩
    have hs1 := e1.seq hs
    walk_at "st"
    intro D nD
    have sD := e1.trans (same_upd (o := .lst []) nD)
    have hs2 := sD.seq hs
    have nD0 : H D = none := e1.free nD
    walk_at "st"
    refine for_list (K := K) (a := l) (xs := rs.map V.ref) (fun i σ H' => ∃ (v3 v4 v5 v6 : Option V) (rs2 : List Addr), σ = [some (.ref l), some (.str c), some (.ref D), v3, v4, v5, v6] ∧ Same H H' ∧ Tups enc4 H' D rs2 (novL c (T'.take i))) ⟨none, none, none, none, [], rfl, sD, .nil upd_same⟩ (fun i σ H' _ ⟨_, _, _, _, _, _, e, _⟩ => e.seq hs) ?_ ?_
    · rintro i x σ H' hx ⟨v3, v4, v5, v6, rs2, rfl, e, hD⟩
      obtain ⟨p, y, hp, hy, rfl, hyr⟩ := (hT.same e).item hx
      obtain ⟨ok, nb, ns⟩ := hok y (List.mem_of_getElem? hy)
      have hi := (List.getElem?_eq_some_iff.mp hy).1
      have hyt : SqT K H' p [.str y.1, .str y.2.1, .int y.2.2.1, .int y.2.2.2] := SqT.of hyr
      have hrl : rs2.length ≤ 2 * T'.length := by
        rw [hD.len, novL_len, List.length_take]
        omega
      walk_at "st"
      intro U nU
      refine ⟨U, _, rfl, .inr (SqT.of upd_same), rfl, rfl, ?_⟩
      rw [if_neg Bool.false_ne_true, inV2_no nb ns]
      have sU := same_upd (o := .tup [.str y.1, .str y.2.1]) nU
      have hD2 := hD.same sU
      have e2 := e.trans sU
      generalize upd H' U (.tup [.str y.1, .str y.2.1]) = H2 at *
      have hDl := hD2.lst
      walk_at "st"
      intro A nA
      have sA := same_upd (o := .tup [.str y.1, .str c, .int y.2.2.1, .int y.2.2.2]) nA
      have hDA := hD2.push (x := (y.1, c, y.2.2.1, y.2.2.2)) sA nA upd_same
      have eA : Same H (upd (upd H2 A (.tup [.str y.1, .str c, .int y.2.2.1, .int y.2.2.2])) D (.lst (rs2.map V.ref ++ [.ref A]))) := TabR.keep (e2.trans sA) nD0
      have hDl2 := sA _ _ hDl
      have hlt1 : (rs2.map V.ref).length < sizeLine := small1000 (by rw [List.length_map]; omega)
      walk_at "st"
      generalize upd (upd H2 A (.tup [.str y.1, .str c, .int y.2.2.1, .int y.2.2.2])) D (.lst (rs2.map V.ref ++ [.ref A])) = H3 at *
      intro B nB
      have sB := same_upd (o := .tup [.str c, .str y.2.1, .int y.2.2.1, .int y.2.2.2]) nB
      have hDB := hDA.push (x := (c, y.2.1, y.2.2.1, y.2.2.2)) sB nB upd_same
      have hDl3 := sB _ _ hDA.lst
      have hlt2 : ((rs2 ++ [A]).map V.ref).length < sizeLine := small1000 (by rw [List.length_map, List.length_append]; show rs2.length + 1 ≤ 1000; omega)
      walk_at "st"
      refine ⟨_, _, _, _, rs2 ++ [A] ++ [B], rfl, TabR.keep (eA.trans sB) nD0, ?_⟩
      rw [take_succ hy, novL_snoc]
      exact hDB
    · rintro σ H' ⟨v3, v4, v5, v6, rs2, rfl, e, hD⟩
      rw [show T'.take (rs.map V.ref).length = T' by rw [List.length_map, hT.len, List.take_length]] at hD
      walk_at "st"
      exact q D H' rs2 e nD0 hD
def sp_nets (K : PySem.W.Frag) : Sp := fun vs H Q _ => ∃ (l : Addr) (rs : List Addr) (T : List (Str × Str × Int × Int)), vs = [.ref l] ∧ Tups enc4 H l rs T ∧ (∀ x, x ∈ T → TradeOk x) ∧ T.length ≤ 200 ∧
  (∀ ks : List Str, ks.Nodup → (∀ s, s ∈ ks → touch T s) → ks.length < 60) ∧
  ∀ p H' rs2 ys, Same H H' → H p = none → ys.Nodup → sortedS ys = true → (∀ s, s ∈ ys ↔ touch T s) → Tups encR H' p rs2 (ys.map fun y => (y, unitsOf T y, centsOf T y)) → Q (.ref p) H'
theorem ok_nets (T : Txt K mg) : FnOk P w K mg base CX0 3 T.f_nets T.d_nets ["trades"] (sp_nets K) := by
  refine T.F_nets.ok sc_nets (fun vs H Q E h => ?_) (fun cdv A outer s H vs Q E hr h => ?_)
  · obtain ⟨l, rs, T, rfl, _⟩ := h
    rfl
  · obtain ⟨l, rs, T', rfl, hT, hok, hlen, hks, q⟩ := h
    have G_check_trades : FnOk P w K mg base CX0 2 T.f_check_trades T.d_check_trades ["trades"] (sp_check_trades K) := ok_check_trades T
    have hs : SqL K H l (rs.map V.ref) := SqL.of hT.lst
    refine ⟨_, (pss_cons (ps_expr (pe_call G_check_trades hr (by rfl) T.m_check_trades T.F_check_trades.kp T.b_check_trades .nil pass0 (pa_cons (pv 0) pa_nil)))
    (pss_cons (ps_set (i := 1) sc_nets.nd rfl (Or.inr rfl) pe_dnewK)
    (pss_cons (ps_set (i := 2) sc_nets.nd rfl (Or.inr rfl) pe_dnewK)
    (pss_cons (ps_for PassesOwn.never rfl (pi_list (pv 0)) (pg_tup rfl (pgs_cons (pg_name (i := 3) sc_nets.nd rfl (Or.inl rfl)) (pgs_cons (pg_name (i := 4) sc_nets.nd rfl (Or.inl rfl)) (pgs_cons (pg_name (i := 5) sc_nets.nd rfl (Or.inl rfl)) (pgs_cons (pg_name (i := 6) sc_nets.nd rfl (Or.inl rfl)) pgs_nil)))))
      (pss_cons (ps_dput (hu_of hr) (pv 1) (pv 3) (pe_op op_add (pe_dget2 (hu_of hr) (pv 1) (pv 3) pe_int ⟨rfl, rfl, rfl, rfl⟩) (pv 5)) rfl)
      (pss_cons (ps_dput (hu_of hr) (pv 1) (pv 4) (pe_op op_sub (pe_dget2 (hu_of hr) (pv 1) (pv 4) pe_int ⟨rfl, rfl, rfl, rfl⟩) (pv 5)) rfl)
      (pss_cons (ps_dput (hu_of hr) (pv 2) (pv 3) (pe_op op_sub (pe_dget2 (hu_of hr) (pv 2) (pv 3) pe_int ⟨rfl, rfl, rfl, rfl⟩) (pv 6)) rfl)
      (pss_one (ps_dput (hu_of hr) (pv 2) (pv 4) (pe_op op_add (pe_dget2 (hu_of hr) (pv 2) (pv 4) pe_int ⟨rfl, rfl, rfl, rfl⟩) (pv 6)) rfl))))))
    (pss_one (ps_ret (pe_lc (own := [("house", 7)]) (g := gName 7) (tt := tYes) rfl sc_nets.nd (pi_list (pe_callB (call_sortedD rfl) (by rfl) T.z_sorted (by decide +kernel) (pa_cons (pv 1) pa_nil))) (blkOk_by (own := [("house", 7)]) (N := N_nets) (sc := defScope s_nets) (by decide +kernel)) (fun _ _ _ _ _ => (pg_name (i := 7) sc_nets.nd rfl (Or.inl rfl))) (fun _ _ _ _ _ => pts_nil) (fun _ _ _ _ _ => (pe_tup (pa_cons (pv 7) (pa_cons (pe_dget (hu_of hr) (pv 1) (pv 7) (fun _ _ => rfl)) (pa_cons (pe_dget (hu_of hr) (pv 2) (pv 7) (fun _ _ => rfl)) pa_nil)))))))))))), ?_⟩
    walk_at "st"
    refine ⟨rs, T', rfl, hT, hok, fun H1 e1 => ?_⟩
    have hs1 := e1.seq hs
    walk_at "st"
    intro U nU
    walk_at "st"
    intro C nC
    have hUC : U ≠ C := fun z => by rw [z, upd_same] at nC; cases nC
    have eU0 : upd (upd H1 U (.dK [])) C (.dK []) U = some (.dK (encD [])) := by
      rw [upd_ne hUC]
      exact upd_same
    have eC0 : upd (upd H1 U (.dK [])) C (.dK []) C = some (.dK (encD [])) := upd_same
    have sU := same_upd (o := .dK []) nU
    have s2 := e1.trans (sU.trans (same_upd (o := .dK []) nC))
    have nU0 : H U = none := e1.free nU
    have nC0 : H C = none := (e1.trans sU).free nC
    generalize upd (upd H1 U (.dK [])) C (.dK []) = H2 at *
    have hs2 := s2.seq hs
    walk_at "st"
    refine for_list (K := K) (a := l) (xs := rs.map V.ref) (fun i σ H' => ∃ (v3 v4 v5 v6 : Option V) (dU dC : List (Str × Int)), σ = [some (.ref l), some (.ref U), some (.ref C), v3, v4, v5, v6, none] ∧ Same H H' ∧ H' U = some (.dK (encD dU)) ∧ H' C = some (.dK (encD dC)) ∧ keysS dU = keysS dC ∧ (keysS dU).Nodup ∧ (∀ s, s ∈ keysS dU ↔ touch (T'.take i) s) ∧ (∀ h, gD dU h = unitsOf (T'.take i) h) ∧ ∀ h, gD dC h = centsOf (T'.take i) h)
      ⟨none, none, none, none, [], [], rfl, s2, eU0, eC0, rfl, List.nodup_nil, fun s => ⟨fun z => (by cases z), fun ⟨x, z, _⟩ => (by cases z)⟩, fun h => rfl, fun h => rfl⟩ (fun i σ H' _ ⟨_, _, _, _, _, _, _, e, _⟩ => e.seq hs) ?_ ?_
    · rintro i x σ H3 hx ⟨v3, v4, v5, v6, dU, dC, rfl, e3, hU, hC, hkk, hnd, hto, hgu, hgc⟩
      obtain ⟨p, y, hp, hy, rfl, hyr⟩ := (hT.same e3).item hx
      have hyt : SqT K H3 p [.str y.1, .str y.2.1, .int y.2.2.1, .int y.2.2.2] := SqT.of hyr
      have hkl := hks _ hnd fun s hs => touch_take ((hto s).mp hs)
      have lU : dU.length < 60 := by unfold keysS at hkl; rw [List.length_map] at hkl; exact hkl
      have lC : dC.length < 60 := by rw [hkk] at hkl; unfold keysS at hkl; rw [List.length_map] at hkl; exact hkl
      have plen : ∀ (d : List (Str × Int)) (s : Str) (v : Int), (putS d s v).length ≤ d.length + 1 := fun d s v => by
        have := addK_len (keysS d) s
        rw [← keys_put d s v] at this
        unfold keysS at this
        rw [List.length_map, List.length_map] at this
        exact this
      have i1 := isD_enc hU
      walk_at "st"
      refine dget_go hU ?_
      rw [getD_int]
      walk_at "st"
      refine dput_go hU (by omega) ?_
      generalize hv1 : gD dU y.1 + y.2.2.1 = x1
      have hU1 : upd H3 U (.dK (encD (putS dU y.1 x1))) U = some (.dK (encD (putS dU y.1 x1))) := upd_same
      have hC1 : upd H3 U (.dK (encD (putS dU y.1 x1))) C = some (.dK (encD dC)) := by rw [upd_ne hUC.symm]; exact hC
      have e4 : Same H (upd H3 U (.dK (encD (putS dU y.1 x1)))) := fun b o z => by rw [upd_ne (ne_of_none z nU0)]; exact e3 b o z
      have l1 := plen dU y.1 x1
      generalize upd H3 U (.dK (encD (putS dU y.1 x1))) = H4 at *
      have i2 := isD_enc hU1
      walk_at "st"
      refine dget_go hU1 ?_
      rw [getD_int]
      walk_at "st"
      refine dput_go hU1 (by omega) ?_
      generalize hv2 : gD (putS dU y.1 x1) y.2.1 - y.2.2.1 = x2
      have hU2 : upd H4 U (.dK (encD (putS (putS dU y.1 x1) y.2.1 x2))) U = some (.dK (encD (putS (putS dU y.1 x1) y.2.1 x2))) := upd_same
      have hC2 : upd H4 U (.dK (encD (putS (putS dU y.1 x1) y.2.1 x2))) C = some (.dK (encD dC)) := by rw [upd_ne hUC.symm]; exact hC1
      have e5 : Same H (upd H4 U (.dK (encD (putS (putS dU y.1 x1) y.2.1 x2)))) := fun b o z => by rw [upd_ne (ne_of_none z nU0)]; exact e4 b o z
      generalize upd H4 U (.dK (encD (putS (putS dU y.1 x1) y.2.1 x2))) = H5 at *
      have i3 := isD_enc hC2
      walk_at "st"
      refine dget_go hC2 ?_
      rw [getD_int]
      walk_at "st"
      refine dput_go hC2 (by omega) ?_
      generalize hv3 : gD dC y.1 - y.2.2.2 = x3
      have hC3 : upd H5 C (.dK (encD (putS dC y.1 x3))) C = some (.dK (encD (putS dC y.1 x3))) := upd_same
      have hU3 : upd H5 C (.dK (encD (putS dC y.1 x3))) U = some (.dK (encD (putS (putS dU y.1 x1) y.2.1 x2))) := by rw [upd_ne hUC]; exact hU2
      have e6 : Same H (upd H5 C (.dK (encD (putS dC y.1 x3)))) := fun b o z => by rw [upd_ne (ne_of_none z nC0)]; exact e5 b o z
      have l3 := plen dC y.1 x3
      generalize upd H5 C (.dK (encD (putS dC y.1 x3))) = H6 at *
      have i4 := isD_enc hC3
      walk_at "st"
      refine dget_go hC3 ?_
      rw [getD_int]
      walk_at "st"
      refine dput_go hC3 (by omega) ?_
      generalize hv4 : gD (putS dC y.1 x3) y.2.1 + y.2.2.2 = x4
      refine ⟨_, _, _, _, putS (putS dU y.1 x1) y.2.1 x2, putS (putS dC y.1 x3) y.2.1 x4, rfl, fun b o z => by rw [upd_ne (ne_of_none z nC0)]; exact e6 b o z, by rw [upd_ne hUC]; exact hU3, upd_same, ?_, ?_, fun s => ?_, fun h => ?_, fun h => ?_⟩
      · rw [keys_put, keys_put, keys_put, keys_put, hkk]
      · rw [keys_put, keys_put]
        exact addK_nodup (addK_nodup hnd)
      · rw [keys_put, keys_put, addK_mem, addK_mem, take_succ hy, touch_snoc, hto s, or_assoc]
      · rw [take_succ hy, unitsOf_snoc, ← hgu h, gD_put, ← hv2, gD_put, gD_put, ← hv1]
        by_cases a : h = y.2.1
        · rw [if_pos a, a]
          by_cases b : y.2.1 = y.1
          · rw [if_pos b, if_pos b, if_pos rfl, b]
            omega
          · rw [if_neg b, if_neg b, if_pos rfl]
            omega
        · rw [if_neg a, if_neg a]
          by_cases b : h = y.1
          · rw [if_pos b, if_pos b, b]
            omega
          · rw [if_neg b, if_neg b]
            omega
      · rw [take_succ hy, centsOf_snoc, ← hgc h, gD_put, ← hv4, gD_put, gD_put, ← hv3]
        by_cases a : h = y.2.1
        · rw [if_pos a, if_pos a, a]
          by_cases b : y.2.1 = y.1
          · rw [if_pos b, if_pos b, b]
            omega
          · rw [if_neg b, if_neg b]
            omega
        · rw [if_neg a, if_neg a]
          by_cases b : h = y.1
          · rw [if_pos b, if_pos b, b]
            omega
          · rw [if_neg b, if_neg b]
            omega
    · rintro σ H3 ⟨v3, v4, v5, v6, dU, dC, rfl, e3, hU, hC, hkk, hnd, hto, hgu, hgc⟩
      rw [show T'.take (rs.map V.ref).length = T' by rw [List.length_map, hT.len, List.take_length]] at hto hgu hgc
      have hkl := hks _ hnd fun s hs => (hto s).mp hs
      have i1 := isD_enc hU
      walk_at "st"
      refine ⟨encD dU, keysS dU, rfl, .inl hU, keys_enc dU, by omega, fun ys p hpe hso np => ?_⟩
      have hyn : ys.Nodup := hpe.nodup_iff.mpr hnd
      have hym : ∀ s, s ∈ ys ↔ touch T' s := fun s => hpe.mem_iff.trans (hto s)
      have sp := same_upd (o := .lst (ys.map V.str)) np
      have hp : upd H3 p (.lst (ys.map V.str)) p = some (.lst (ys.map V.str)) := upd_same
      have hU4 := sp _ _ hU
      have hC4 := sp _ _ hC
      have e4 := e3.trans sp
      have hyl : ys.length < 60 := by rw [hpe.length_eq]; exact hkl
      generalize upd H3 p (.lst (ys.map V.str)) = H4 at *
      have hp' : SqL K H4 p (ys.map V.str) := SqL.of hp
      walk_at "st"
      intro D nD
      refine lc_list (K := K) (a := p) (xs := ys.map V.str) (fun i H' => ∃ rs2, Tups encR H' D rs2 ((ys.take i).map fun y => (y, unitsOf T' y, centsOf T' y)) ∧ Same H4 H') ⟨[], .nil upd_same, same_upd nD⟩ (fun i H' _ ⟨_, _, e⟩ => e.seq hp') ?_ ?_
      · rintro i x H5 hx ⟨rs2, hD, e5⟩
        rw [List.getElem?_map] at hx
        cases hy : ys[i]? with
        | none => rw [hy] at hx; cases hx
        | some y =>
          rw [hy] at hx
          have hx : V.str y = x := Option.some.inj hx
          subst hx
          have hm := List.mem_of_getElem? hy
          have hkU : y ∈ keysS dU := hpe.mem_iff.mp hm
          have gU := dget_at (e5 _ _ hU4) hkU
          have gC := dget_at (e5 _ _ hC4) (by rw [← hkk]; exact hkU)
          rw [hgu] at gU
          rw [hgc] at gC
          refine ⟨rfl, ?_⟩
          walk_at "st"
          intro A nA
          have sA := same_upd (o := .tup [.str y, .int (unitsOf T' y), .int (centsOf T' y)]) nA
          have hDA := hD.push (x := (y, unitsOf T' y, centsOf T' y)) sA nA upd_same
          refine ⟨_, sA _ _ hD.lst, small1000 ?_, rs2 ++ [A], ?_, TabR.keep (e5.trans sA) nD⟩
          · rw [List.length_map, hD.len, List.length_map, List.length_take]
            omega
          · rw [take_succ hy, List.map_append]
            exact hDA
      · rintro H5 ⟨rs2, hD, e5⟩
        rw [show ys.take (ys.map V.str).length = ys by rw [List.length_map, List.take_length]] at hD
        exact q D H5 rs2 ys (e4.trans e5) (e4.free nD) hyn hso hym hD

theorem unitsOf_cons (T : List (Str × Str × Int × Int)) (x : Str × Str × Int × Int) (h : Str) : unitsOf (x :: T) h = ((if h = x.1 then x.2.2.1 else 0) - (if h = x.2.1 then x.2.2.1 else 0)) + unitsOf T h := by
  unfold unitsOf
  rw [List.map_cons, List.sum_cons]
theorem centsOf_cons (T : List (Str × Str × Int × Int)) (x : Str × Str × Int × Int) (h : Str) : centsOf (x :: T) h = ((if h = x.2.1 then x.2.2.2 else 0) - (if h = x.1 then x.2.2.2 else 0)) + centsOf T h := by
  unfold centsOf
  rw [List.map_cons, List.sum_cons]
theorem units_nov (c : Str) (h : Str) : ∀ T : List (Str × Str × Int × Int), unitsOf (novL c T) h = unitsOf T h
  | [] => rfl
  | x :: T => by
    show unitsOf ((x.1, c, x.2.2.1, x.2.2.2) :: (c, x.2.1, x.2.2.1, x.2.2.2) :: novL c T) h = _
    rw [unitsOf_cons, unitsOf_cons, unitsOf_cons, units_nov c h T]
    dsimp only
    omega
theorem cents_nov (c : Str) (h : Str) : ∀ T : List (Str × Str × Int × Int), centsOf (novL c T) h = centsOf T h
  | [] => rfl
  | x :: T => by
    show centsOf ((x.1, c, x.2.2.1, x.2.2.2) :: (c, x.2.1, x.2.2.1, x.2.2.2) :: novL c T) h = _
    rw [centsOf_cons, centsOf_cons, centsOf_cons, cents_nov c h T]
    dsimp only
    omega
theorem units_out {h : Str} : ∀ {T : List (Str × Str × Int × Int)}, ¬ touch T h → unitsOf T h = 0 ∧ centsOf T h = 0
  | [], _ => ⟨rfl, rfl⟩
  | x :: T, n => by
    have ih := units_out (T := T) fun ⟨y, hy, e⟩ => n ⟨y, List.mem_cons_of_mem _ hy, e⟩
    rw [unitsOf_cons, centsOf_cons, ih.1, ih.2, if_neg (fun e => n ⟨x, List.mem_cons_self, .inl e.symm⟩), if_neg (fun e => n ⟨x, List.mem_cons_self, .inr e.symm⟩), if_neg (fun e => n ⟨x, List.mem_cons_self, .inr e.symm⟩), if_neg (fun e => n ⟨x, List.mem_cons_self, .inl e.symm⟩)]
    exact ⟨rfl, rfl⟩
theorem mem_nov {c : Str} {T : List (Str × Str × Int × Int)} {y : Str × Str × Int × Int} (h : y ∈ novL c T) : ∃ x, x ∈ T ∧ (y = (x.1, c, x.2.2.1, x.2.2.2) ∨ y = (c, x.2.1, x.2.2.1, x.2.2.2)) := by
  unfold novL at h
  obtain ⟨x, hx, hy⟩ := List.mem_flatMap.mp h
  refine ⟨x, hx, ?_⟩
  rcases List.mem_cons.mp hy with e | e
  · exact .inl e
  · exact .inr (List.mem_singleton.mp e)
theorem touch_nov {c s : Str} {T : List (Str × Str × Int × Int)} : touch (novL c T) s ↔ touch T s ∨ (s = c ∧ T ≠ []) := by
  constructor
  · rintro ⟨y, hy, e⟩
    obtain ⟨x, hx, z | z⟩ := mem_nov hy
    · rw [z] at e
      rcases e with e | e
      · exact .inl ⟨x, hx, .inl e⟩
      · exact .inr ⟨e.symm, fun w => by rw [w] at hx; cases hx⟩
    · rw [z] at e
      rcases e with e | e
      · exact .inr ⟨e.symm, fun w => by rw [w] at hx; cases hx⟩
      · exact .inl ⟨x, hx, .inr e⟩
  · have key : ∀ x, x ∈ T → (x.1, c, x.2.2.1, x.2.2.2) ∈ novL c T ∧ (c, x.2.1, x.2.2.1, x.2.2.2) ∈ novL c T := fun x hx => by
      unfold novL
      exact ⟨List.mem_flatMap.mpr ⟨x, hx, List.mem_cons_self⟩, List.mem_flatMap.mpr ⟨x, hx, List.mem_cons_of_mem _ List.mem_cons_self⟩⟩
    rintro (⟨x, hx, e⟩ | ⟨e, hT⟩)
    · rcases e with e | e
      · exact ⟨_, (key x hx).1, .inl e⟩
      · exact ⟨_, (key x hx).2, .inr e⟩
    · cases T with
      | nil => exact absurd rfl hT
      | cons x T => exact ⟨_, (key x List.mem_cons_self).1, .inr e.symm⟩
theorem nodup_len {α : Type} [DecidableEq α] : ∀ {xs ys : List α}, xs.Nodup → (∀ x, x ∈ xs → x ∈ ys) → xs.length ≤ ys.length
  | [], _, _, _ => Nat.zero_le _
  | x :: xs, ys, h, k => by
    have h' := List.nodup_cons.mp h
    have ih := nodup_len (ys := ys.erase x) h'.2 fun y hy => (List.mem_erase_of_ne fun e => h'.1 (by rw [← e]; exact hy)).mpr (k y (List.mem_cons_of_mem _ hy))
    have hm := k x List.mem_cons_self
    rw [List.length_erase_of_mem hm] at ih
    have := List.length_pos_of_mem hm
    rw [List.length_cons]
    omega
theorem filter_one {α : Type} [DecidableEq α] {c : α} : ∀ {xs : List α}, xs.Nodup → c ∈ xs → xs.filter (fun x => decide (x = c)) = [c]
  | [], _, h => by cases h
  | x :: xs, h, k => by
    have h' := List.nodup_cons.mp h
    by_cases e : x = c
    · rw [List.filter_cons_of_pos (by exact decide_eq_true e), e, List.filter_eq_nil_iff.mpr fun y hy => ?_]
      intro z
      exact h'.1 (by rw [e, ← of_decide_eq_true z]; exact hy)
    · rw [List.filter_cons_of_neg (by rw [decide_eq_false e]; exact Bool.false_ne_true)]
      exact filter_one h'.2 ((List.mem_cons.mp k).resolve_left fun z => e z.symm)

def four : List Str := ["a", "b", "c", "d"]
def nm1 (i : Nat) : Str := ⟨#[97 + i]⟩
theorem nm1_ne {i j : Nat} (h : i ≠ j) : nm1 i ≠ nm1 j := fun e => h (by
  have := congrArg (fun s : Str => s.cps.toList) e
  have h2 : [97 + i] = [97 + j] := this
  have := List.head_eq_of_cons_eq h2
  omega)
theorem nm1_four {i : Nat} (h : i < 4) : nm1 i ∈ four ∧ nm1 i ≠ "" := by
  match i, h with
  | 0, _ => decide +kernel
  | 1, _ => decide +kernel
  | 2, _ => decide +kernel
  | 3, _ => decide +kernel
theorem at_abcd {i : Nat} (h : i < 4) : atI (Str.ofString "abcd").cps.toList (i : Int) = some (97 + i) := by
  match i, h with
  | 0, _ => rfl
  | 1, _ => rfl
  | 2, _ => rfl
  | 3, _ => rfl
def sp_law_trade (K : PySem.W.Frag) : Sp := fun vs H Q _ => ∃ cell : Int, vs = [.int cell] ∧ ∀ p H' x, Same H H' → H p = none → H' p = some (.tup (enc4 x)) → TradeOk x → x.1 ∈ four → x.2.1 ∈ four → Q (.ref p) H'
theorem ok_law_trade (T : Txt K mg) : FnOk P w K mg base CX0 2 T.f_law_trade T.d_law_trade ["cell"] (sp_law_trade K) := by
  refine T.F_law_trade.ok sc_law_trade (fun vs H Q E h => ?_) (fun cdv A outer s H vs Q E hr h => ?_)
  · obtain ⟨cell, rfl, _⟩ := h
    rfl
  · obtain ⟨cell, rfl, q⟩ := h
    have G_law_draws : FnOk P w K mg base CX0 1 T.f_law_draws T.d_law_draws ["cell", "count", "size"] (sp_law_draws K) := ok_law_draws T
    refine ⟨_, (pss_cons (ps_set (i := 1) sc_law_trade.nd rfl (Or.inl rfl) (pe_call G_law_draws hr (by rfl) T.m_law_draws T.F_law_draws.kp T.b_law_draws .nil pass0 (pa_cons (pv 0) (pa_cons pe_int (pa_cons pe_int pa_nil)))))
    (pss_cons (ps_set (i := 2) sc_law_trade.nd rfl (Or.inl rfl) (pe_op op_mod (pe_ix ix_list (pv 1) pe_int (fun _ _ => rfl)) pe_int))
    (pss_cons (ps_set (i := 3) sc_law_trade.nd rfl (Or.inl rfl) (pe_op op_mod (pe_op op_add (pe_op op_add (pv 2) pe_int) (pe_op op_mod (pe_ix ix_list (pv 1) pe_int (fun _ _ => rfl)) pe_int)) pe_int))
    (pss_one (ps_ret (pe_tup (pa_cons (pe_ix ix_str pe_str (pv 2) (fun _ _ => rfl)) (pa_cons (pe_ix ix_str pe_str (pv 3) (fun _ _ => rfl)) (pa_cons (pe_op op_add pe_int (pe_op op_mod (pe_ix ix_list (pv 1) pe_int (fun _ _ => rfl)) pe_int)) (pa_cons (pe_op op_mod (pe_ix ix_list (pv 1) pe_int (fun _ _ => rfl)) pe_int) pa_nil)))))))))), ?_⟩
    walk_at "st"
    intro p H1 ds e1 np hp hdl hdb
    have hdl : ds.length = 4 := hdl
    have hp1 : SqL K H1 p (ds.map V.int) := SqL.of hp
    have a0 := atI_n (ws := ds) (j := 0) (by omega)
    have a1 := atI_n (ws := ds) (j := 1) (by omega)
    have a2 := atI_n (ws := ds) (j := 2) (by omega)
    have a3 := atI_n (ws := ds) (j := 3) (by omega)
    have b1 := Int.emod_nonneg (at0 ds 0) (by decide : (4 : Int) ≠ 0)
    have b2 := Int.emod_lt_of_pos (at0 ds 0) (by decide : (0 : Int) < 4)
    have b3 := Int.emod_nonneg (at0 ds 1) (by decide : (3 : Int) ≠ 0)
    have b4 := Int.emod_lt_of_pos (at0 ds 1) (by decide : (0 : Int) < 3)
    have b5 := Int.emod_nonneg (at0 ds 2) (by decide : (9 : Int) ≠ 0)
    have b6 := Int.emod_nonneg (at0 ds 3) (by decide : (100 : Int) ≠ 0)
    have labcd : (Str.ofString "abcd").length ≤ sizeLine := len_le rfl
    have b7 := Int.emod_nonneg (at0 ds 0 % 4 + 1 + at0 ds 1 % 3) (by decide : (4 : Int) ≠ 0)
    have b8 := Int.emod_lt_of_pos (at0 ds 0 % 4 + 1 + at0 ds 1 % 3) (by decide : (0 : Int) < 4)
    obtain ⟨i, ei⟩ : ∃ i : Nat, at0 ds 0 % 4 = (i : Int) := ⟨(at0 ds 0 % 4).toNat, by omega⟩
    obtain ⟨j, ej⟩ : ∃ j : Nat, (at0 ds 0 % 4 + 1 + at0 ds 1 % 3) % 4 = (j : Int) := ⟨((at0 ds 0 % 4 + 1 + at0 ds 1 % 3) % 4).toNat, by omega⟩
    have hi : i < 4 := by omega
    have hj : j < 4 := by omega
    have hij : i ≠ j := by omega
    have c1 := at_abcd hi
    have c2 := at_abcd hj
    rw [← ei] at c1
    rw [← ej] at c2
    walk_at "st"
    intro p2 np2
    refine q p2 _ (nm1 i, nm1 j, 1 + at0 ds 2 % 9, at0 ds 3 % 100) (e1.trans (same_upd np2)) (e1.free np2) upd_same ⟨(nm1_four hi).2, (nm1_four hj).2, nm1_ne hij, ?_, b6⟩ (nm1_four hi).1 (nm1_four hj).1
    show 1 ≤ 1 + at0 ds 2 % 9
    omega

def cents4 : List Str := ["house", "A", "bc", "zz"]
theorem cent_at {i : Nat} (h : i < 4) : ∃ c, c ∈ cents4 ∧ atI [V.str "house", V.str "A", V.str "bc", V.str "zz"] (i : Int) = some (.str c) := by
  match i, h with
  | 0, _ => exact ⟨"house", by decide +kernel, rfl⟩
  | 1, _ => exact ⟨"A", by decide +kernel, rfl⟩
  | 2, _ => exact ⟨"bc", by decide +kernel, rfl⟩
  | 3, _ => exact ⟨"zz", by decide +kernel, rfl⟩
theorem cent_out : ∀ c, c ∈ cents4 → c ∉ four ∧ c ≠ "" := by decide +kernel
theorem name_ok : ∀ c, c ∈ four ++ cents4 → PyData.strOk c = true := by decide +kernel
def sp_law (K : PySem.W.Frag) : Sp := fun vs H Q _ => ∃ (a : Addr) (ns : List Int), vs = [.ref a] ∧ SqL K H a (ns.map V.int) ∧ ns.length ≤ 63 ∧ ∀ H', Q (.bl true) H'
theorem ok_law {f : Addr} {fd : FuncData} (T : Txt K mg) (F : Fun K "law" "law" s_law f fd) : FnOk P w K mg base CX0 4 f fd ["script"] (sp_law K) := by
  refine F.ok sc_law (fun vs H Q E h => ?_) (fun cdv A outer s H vs Q E hr h => ?_)
  · obtain ⟨a, ns, rfl, _⟩ := h
    rfl
  · obtain ⟨a, ns, rfl, hs, hlen, q⟩ := h
    have G_novate : FnOk P w K mg base CX0 3 T.f_novate T.d_novate ["trades", "center"] (sp_novate K) := ok_novate T
    have G_nets : FnOk P w K mg base CX0 3 T.f_nets T.d_nets ["trades"] (sp_nets K) := ok_nets T
    have G_law_trade : FnOk P w K mg base CX0 2 T.f_law_trade T.d_law_trade ["cell"] (sp_law_trade K) := ok_law_trade T
    have G_law_cell : FnOk P w K mg base CX0 1 T.f_law_cell T.d_law_cell ["script", "k"] (sp_law_cell K) := ok_law_cell T
    refine ⟨_, (pss_cons (ps_set (i := 1) sc_law.nd rfl (Or.inr rfl) (pe_ix ix_list (pe_lst (pa_cons pe_str (pa_cons pe_str (pa_cons pe_str (pa_cons pe_str pa_nil))))) (pe_op op_mod (pe_call G_law_cell (hr.mono (by decide)) (by rfl) T.m_law_cell T.F_law_cell.kp T.b_law_cell .nil pass0 (pa_cons (pv 0) (pa_cons pe_int pa_nil))) pe_int) (fun _ _ => rfl)))
    (pss_cons (ps_setLc (i := 2) (own := [("cell", 3)]) (g := gName 3) (tt := tYes) rfl sc_law.nd rfl rfl (sw_true rfl rfl rfl (by decide +kernel)) (pi_list (pe_slice sl_list (pv 0) (po_some pe_int) (po_some pe_int))) (blkOk_by (own := [("cell", 3)]) (N := N_law) (sc := defScope s_law) (by decide +kernel)) (fun _ _ _ _ _ => (pg_name (i := 3) sc_law.nd rfl (Or.inl rfl))) (fun _ _ _ _ _ => pts_nil) (fun _ _ _ _ _ => (pe_call G_law_trade (hr.mono (by decide)) (by rfl) T.m_law_trade T.F_law_trade.kp T.b_law_trade .nil pass0 (pa_cons (pv 3) pa_nil))))
    (pss_cons (ps_set (i := 4) sc_law.nd rfl (Or.inl rfl) (pe_lst pa_nil))
    (pss_cons (ps_for PassesOwn.never rfl (pi_list (pv 2)) (pg_name (i := 5) sc_law.nd rfl (Or.inl rfl))
      (pss_cons (ps_expr (pe_bm PySem.F.plainAttrs_list PySem.F.slot_list_append PySem.F.type_list_append mt_append (pv 4) (pa_cons (pe_tup (pa_cons (pe_ix ix_tup (pv 5) pe_int (fun _ _ => rfl)) (pa_cons (pv 1) (pa_cons (pe_ix ix_tup (pv 5) pe_int (fun _ _ => rfl)) (pa_cons (pe_ix ix_tup (pv 5) pe_int (fun _ _ => rfl)) pa_nil))))) pa_nil)))
      (pss_one (ps_expr (pe_bm PySem.F.plainAttrs_list PySem.F.slot_list_append PySem.F.type_list_append mt_append (pv 4) (pa_cons (pe_tup (pa_cons (pv 1) (pa_cons (pe_ix ix_tup (pv 5) pe_int (fun _ _ => rfl)) (pa_cons (pe_ix ix_tup (pv 5) pe_int (fun _ _ => rfl)) (pa_cons (pe_ix ix_tup (pv 5) pe_int (fun _ _ => rfl)) pa_nil))))) pa_nil))))))
    (pss_cons (ps_set (i := 6) sc_law.nd rfl (Or.inl rfl) (pe_call G_novate hr (by rfl) T.m_novate T.F_novate.kp T.b_novate .nil pass0 (pa_cons (pe_callTy call_list_of (by rfl) T.z_list (by decide +kernel) (pa_cons (pv 2) pa_nil)) (pa_cons (pv 1) pa_nil))))
    (pss_cons (ps_if (PW.pt (pw_or (pt_not (pt_val (pe_callB call_isi (by rfl) T.z_isinstance (by decide +kernel) (pa_cons (pv 6) (pa_cons (pe_bltn (v := .ty "list") (u := .type "list") (by rfl) T.z_list (by decide +kernel) rfl) pa_nil))))) (pw_or1 (pt_cmpR (op_neD hr.units) (pv 6) (pv 4) (nomark _)))))
      (pss_one (ps_ret pe_bl))
      pss_nil)
    (pss_cons (ps_for PassesOwn.never rfl (pi_list (pv 6)) (pg_name (i := 5) sc_law.nd rfl (Or.inl rfl))
      (pss_one (ps_if (PW.pt (pw_or (pt_not (pt_val (pe_callB call_isi (by rfl) T.z_isinstance (by decide +kernel) (pa_cons (pv 5) (pa_cons (pe_bltn (v := .ty "tuple") (u := .type "tuple") (by rfl) T.z_tuple (by decide +kernel) rfl) pa_nil))))) (pw_or (pt_val (pe_callB call_isi (by rfl) T.z_isinstance (by decide +kernel) (pa_cons (pe_ix ix_tup (pv 5) pe_int (fun _ _ => rfl)) (pa_cons (pe_bltn (v := .ty "bool") (u := .type "bool") (by rfl) T.z_bool (by decide +kernel) rfl) pa_nil)))) (pw_or1 (pt_val (pe_callB call_isi (by rfl) T.z_isinstance (by decide +kernel) (pa_cons (pe_ix ix_tup (pv 5) pe_int (fun _ _ => rfl)) (pa_cons (pe_bltn (v := .ty "bool") (u := .type "bool") (by rfl) T.z_bool (by decide +kernel) rfl) pa_nil))))))))
        (pss_one (ps_ret pe_bl))
        pss_nil)))
    (pss_cons (ps_set (i := 7) sc_law.nd rfl (Or.inl rfl) (pe_call G_nets hr (by rfl) T.m_nets T.F_nets.kp T.b_nets .nil pass0 (pa_cons (pe_callTy call_list_of (by rfl) T.z_list (by decide +kernel) (pa_cons (pv 2) pa_nil)) pa_nil)))
    (pss_cons (ps_set (i := 8) sc_law.nd rfl (Or.inl rfl) (pe_call G_nets hr (by rfl) T.m_nets T.F_nets.kp T.b_nets .nil pass0 (pa_cons (pe_callTy call_list_of (by rfl) T.z_list (by decide +kernel) (pa_cons (pv 6) pa_nil)) pa_nil)))
    (pss_cons (ps_if (PW.pt (pw_or (pt_not (pt_val (pe_callB call_isi (by rfl) T.z_isinstance (by decide +kernel) (pa_cons (pv 7) (pa_cons (pe_bltn (v := .ty "list") (u := .type "list") (by rfl) T.z_list (by decide +kernel) rfl) pa_nil))))) (pw_or1 (pt_not (pt_val (pe_callB call_isi (by rfl) T.z_isinstance (by decide +kernel) (pa_cons (pv 8) (pa_cons (pe_bltn (v := .ty "list") (u := .type "list") (by rfl) T.z_list (by decide +kernel) rfl) pa_nil))))))))
      (pss_one (ps_ret pe_bl))
      pss_nil)
    (pss_cons (ps_setLc (i := 9) (own := [("row", 10)]) (g := gName 10) rfl sc_law.nd rfl rfl (sw_true rfl rfl rfl (by decide +kernel)) (pi_list (pv 8)) (blkOk_by (own := [("row", 10)]) (N := N_law) (sc := defScope s_law) (by decide +kernel)) (fun _ _ _ _ _ => (pg_name (i := 10) sc_law.nd rfl (Or.inl rfl))) (fun _ _ _ _ _ => pts_one (pt_cmpR op_ne (pe_ix (show IxR _ (rIxT K) from ix_tup) (pv 10) pe_int (fun _ _ => rfl)) (pv 1) (nomark _))) (fun _ _ _ _ _ => (pv 10)))
    (pss_cons (ps_setLc (i := 11) (own := [("row", 10)]) (g := gName 10) rfl sc_law.nd rfl rfl (sw_true rfl rfl rfl (by decide +kernel)) (pi_list (pv 8)) (blkOk_by (own := [("row", 10)]) (N := N_law) (sc := defScope s_law) (by decide +kernel)) (fun _ _ _ _ _ => (pg_name (i := 10) sc_law.nd rfl (Or.inl rfl))) (fun _ _ _ _ _ => pts_one (pt_cmpR op_eq (pe_ix (show IxR _ (rIxT K) from ix_tup) (pv 10) pe_int (fun _ _ => rfl)) (pv 1) (nomark _))) (fun _ _ _ _ _ => (pv 10)))
    (pss_cons (ps_if (PW.pt (pw_and (pt_cmpR (op_neD hr.units) (pv 2) (pe_lst pa_nil) (nomark _)) (pw_and1 (pt_cmpR (op_neD hr.units) (pv 11) (pe_lst (pa_cons (pe_tup (pa_cons (pv 1) (pa_cons pe_int (pa_cons pe_int pa_nil)))) pa_nil)) (nomark _)))))
      (pss_one (ps_ret pe_bl))
      pss_nil)
    (pss_one (ps_ret (pe_cmpR (op_eqD hr.units) (pv 9) (pv 7) (nomark _))))))))))))))))), ?_⟩
    have b1 := Int.emod_nonneg (cellOf ns 0) (by decide : (4 : Int) ≠ 0)
    have b2 := Int.emod_lt_of_pos (cellOf ns 0) (by decide : (0 : Int) < 4)
    obtain ⟨i, ei⟩ : ∃ i : Nat, cellOf ns 0 % 4 = (i : Int) := ⟨(cellOf ns 0 % 4).toNat, by omega⟩
    obtain ⟨c, hc4, hcat⟩ := cent_at (i := i) (by omega)
    rw [← ei] at hcat
    obtain ⟨hcf, hce⟩ := cent_out c hc4
    walk_at "st"
    intro C nC
    have sC := same_upd (o := .lst [.str "house", .str "A", .str "bc", .str "zz"]) nC
    have hsC := sC.seq hs
    walk_at "st"
    intro S nS
    have sS := same_upd (o := .lst (cutV (ns.map V.int) (some 1) (some 61))) nS
    have hS : SqL K (upd (upd H C (.lst [.str "house", .str "A", .str "bc", .str "zz"])) S (.lst (cutV (ns.map V.int) (some 1) (some 61)))) S ((cutI ns (some 1) (some 61)).map V.int) := SqL.of (by rw [← cutV_ints]; exact upd_same)
    have hcl := cutI_len ns (some 1) (some 61)
    have e1 := sC.trans sS
    generalize upd (upd H C (.lst [.str "house", .str "A", .str "bc", .str "zz"])) S (.lst (cutV (ns.map V.int) (some 1) (some 61))) = H1 at *
    generalize cutI ns (some 1) (some 61) = cs at *
    walk_at "st"
    intro D nD
    refine lc_list (K := K) (a := S) (xs := cs.map V.int) (fun i H' => ∃ (rs : List Addr) (T : List (Str × Str × Int × Int)), Tups enc4 H' D rs T ∧ T.length = i ∧ (∀ x, x ∈ T → TradeOk x ∧ x.1 ∈ four ∧ x.2.1 ∈ four) ∧ Same H1 H') ⟨[], [], .nil upd_same, rfl, fun _ h => (by cases h), same_upd nD⟩ (fun i H' _ ⟨_, _, _, _, _, e⟩ => e.seq hS) ?_ ?_
    · rintro i x H2 hx ⟨rs, T', hT, hTl, hok, e2⟩
      obtain ⟨z, hz, rfl⟩ := ints_at hx
      have hi := (List.getElem?_eq_some_iff.mp hz).1
      refine ⟨rfl, ?_⟩
      walk_at "st"
      intro p H3 y e3 np hp ok f1 f2
      refine ⟨_, e3 _ _ hT.lst, small1000 (by rw [List.length_map, hT.len]; omega), rs ++ [p], T' ++ [y], hT.push e3 np hp, by rw [List.length_append, hTl]; rfl, fun w hw => ?_, TabR.keep (e2.trans e3) nD⟩
      rcases List.mem_append.mp hw with hw | hw
      · exact hok w hw
      · rw [List.mem_singleton.mp hw]
        exact ⟨ok, f1, f2⟩
    · rintro H2 ⟨rs, T', hT, hTl, hok, e2⟩
      rw [List.length_map] at hTl
      have hTn : T'.length ≤ 63 := by omega
      walk_at "st"
      intro E nE
      have sE := same_upd (o := .lst []) nE
      have hT3 := hT.same sE
      have hE3 : upd H2 E (.lst []) E = some (.lst []) := upd_same
      generalize upd H2 E (.lst []) = H3 at *
      have hTl3 : SqL K H3 D (rs.map V.ref) := SqL.of hT3.lst
      walk_at "st"
      refine for_list (K := K) (a := D) (xs := rs.map V.ref) (fun i σ H' => ∃ (v5 : Option V) (rs2 : List Addr), σ = [some (.ref a), some (.str c), some (.ref D), none, some (.ref E), v5, none, none, none, none, none, none] ∧ Same H2 H' ∧ Tups enc4 H' E rs2 (novL c (T'.take i))) ⟨none, [], rfl, sE, .nil hE3⟩ (fun i σ H' _ ⟨_, _, _, e, _⟩ => SqL.of (e _ _ hT.lst)) ?_ ?_
      · rintro i x σ H4 hx ⟨v5, rs2, rfl, e4, hD⟩
        obtain ⟨p, y, hp, hy, rfl, hyr⟩ := (hT.same e4).item hx
        have hyt : SqT K H4 p [.str y.1, .str y.2.1, .int y.2.2.1, .int y.2.2.2] := SqT.of hyr
        have hi := (List.getElem?_eq_some_iff.mp hy).1
        have hrl : rs2.length ≤ 2 * T'.length := by
          rw [hD.len, novL_len, List.length_take]
          omega
        have hDl := hD.lst
        walk_at "st"
        intro A nA
        have sA := same_upd (o := .tup [.str y.1, .str c, .int y.2.2.1, .int y.2.2.2]) nA
        have hDA := hD.push (x := (y.1, c, y.2.2.1, y.2.2.2)) sA nA upd_same
        have eA : Same H2 (upd (upd H4 A (.tup [.str y.1, .str c, .int y.2.2.1, .int y.2.2.2])) E (.lst (rs2.map V.ref ++ [.ref A]))) := TabR.keep (e4.trans sA) nE
        have hDl2 := sA _ _ hDl
        have hlt1 : (rs2.map V.ref).length < sizeLine := small1000 (by rw [List.length_map]; omega)
        have hyA : SqT K (upd (upd H4 A (.tup [.str y.1, .str c, .int y.2.2.1, .int y.2.2.2])) E (.lst (rs2.map V.ref ++ [.ref A]))) p [.str y.1, .str y.2.1, .int y.2.2.1, .int y.2.2.2] := SqT.of (eA _ _ (hT.row i p y hp hy))
        walk_at "st"
        generalize upd (upd H4 A (.tup [.str y.1, .str c, .int y.2.2.1, .int y.2.2.2])) E (.lst (rs2.map V.ref ++ [.ref A])) = H5 at *
        intro B nB
        have sB := same_upd (o := .tup [.str c, .str y.2.1, .int y.2.2.1, .int y.2.2.2]) nB
        have hDB := hDA.push (x := (c, y.2.1, y.2.2.1, y.2.2.2)) sB nB upd_same
        have hDl3 := sB _ _ hDA.lst
        have hlt2 : ((rs2 ++ [A]).map V.ref).length < sizeLine := small1000 (by rw [List.length_map, List.length_append]; show rs2.length + 1 ≤ 1000; omega)
        walk_at "st"
        refine ⟨_, rs2 ++ [A] ++ [B], rfl, TabR.keep (eA.trans sB) nE, ?_⟩
        rw [take_succ hy, novL_snoc]
        exact hDB
      · rintro σ H4 ⟨v5, rs2, rfl, e4, hE⟩
        rw [show T'.take (rs.map V.ref).length = T' by rw [List.length_map, hT.len, List.take_length]] at hE
        have hT4 := hT.same e4
        have hTl4 : SqL K H4 D (rs.map V.ref) := SqL.of hT4.lst
        walk_at "st"
        intro l nl
        have sl := same_upd (o := .lst (rs.map V.ref)) nl
        have hTc := hT4.copy sl (upd_same (a := l))
        have hT5 := hT4.same sl
        have hE5 := hE.same sl
        generalize upd H4 l (.lst (rs.map V.ref)) = H5 at *
        have hcn : ∀ s, s ∈ four → s ≠ c := fun s hs e => hcf (by rw [← e]; exact hs)
        walk_at "st"
        refine ⟨rs, T', c, rfl, hTc, fun x hx => ⟨(hok x hx).1, hcn _ (hok x hx).2.1, hcn _ (hok x hx).2.2⟩, by omega, fun N H6 rs3 e6 nN hN => ?_⟩
        have hT6 := hT5.same e6
        have hE6 := hE5.same e6
        have hN6 : SqL K H6 N (rs3.map V.ref) := SqL.of hN.lst
        have hokN : ∀ x, x ∈ novL c T' → TradeOk x := fun x hx => by
          obtain ⟨y, hy, z | z⟩ := mem_nov hx
          · obtain ⟨o, g1, g2⟩ := hok y hy
            rw [z]
            exact ⟨o.b, hce, hcn _ g1, o.u, o.c⟩
          · obtain ⟨o, g1, g2⟩ := hok y hy
            rw [z]
            exact ⟨hce, o.s, (hcn _ g2).symm, o.u, o.c⟩
        have hstr : ∀ x, x ∈ novL c T' → PyData.strOk x.1 = true ∧ PyData.strOk x.2.1 = true ∧ True ∧ True := fun x hx => by
          have c1 := name_ok c (List.mem_append_right _ hc4)
          obtain ⟨y, hy, z | z⟩ := mem_nov hx
          · rw [z]
            exact ⟨name_ok _ (List.mem_append_left _ (hok y hy).2.1), c1, trivial, trivial⟩
          · rw [z]
            exact ⟨c1, name_ok _ (List.mem_append_left _ (hok y hy).2.2), trivial, trivial⟩
        refine ⟨_, rfl, ?_⟩
        refine ⟨_, _, _, _, true, rfl, .ty _, .base (.lst hN.lst), kit_ty (by decide +kernel), ?_⟩
        refine ⟨_, rfl, iteF ?_⟩
        walk_at "st"
        refine neL layD_4.list (by decide) hstr hstr (hN.dp dp4) (hE6.dp dp4) ?_
        refine ⟨_, rfl, iteB (fun h => (ndec_t h rfl).elim) (fun _ => ?_)⟩
        walk_at "st"
        refine for_list (K := K) (a := N) (xs := rs3.map V.ref) (fun i σ H' => (∃ v5 : Option V, σ = [some (.ref a), some (.str c), some (.ref D), none, some (.ref E), v5, some (.ref N), none, none, none, none, none]) ∧ H' = H6) ⟨⟨_, rfl⟩, rfl⟩ (fun i σ H' _ ⟨_, e⟩ => by rw [e]; exact hN6) ?_ ?_
        · rintro i x σ H7 hx ⟨⟨v5, rfl⟩, rfl⟩
          obtain ⟨p, y, hp, hy, rfl, hyr⟩ := hN.item hx
          have hyt : SqT K H7 p [.str y.1, .str y.2.1, .int y.2.2.1, .int y.2.2.2] := SqT.of hyr
          refine ⟨_, rfl, ?_⟩
          refine ⟨_, _, _, _, true, rfl, .ty _, .base (.tup hyr), kit_ty (by decide +kernel), ?_⟩
          refine ⟨_, rfl, iteF ?_⟩
          walk_at "st"
          refine ⟨_, _, false, rfl, .ty _, .base (.int _), kit_ty (by decide +kernel), ?_⟩
          walk_at "st"
          refine ⟨_, _, false, rfl, .ty _, .base (.int _), kit_ty (by decide +kernel), ?_⟩
          refine ⟨_, rfl, iteF ?_⟩
          exact ⟨⟨_, rfl⟩, rfl⟩
        · rintro σ H7 ⟨⟨v5, rfl⟩, rfl⟩
          have hTl6 : SqL K H7 D (rs.map V.ref) := SqL.of hT6.lst
          walk_at "st"
          intro l1 nl1
          have s7 := same_upd (o := .lst (rs.map V.ref)) nl1
          have hTc7 := hT6.copy s7 (upd_same (a := l1))
          have hT7 := hT6.same s7
          have hN7 := hN.same s7
          generalize upd H7 l1 (.lst (rs.map V.ref)) = H8 at *
          have hks : ∀ (T2 : List (Str × Str × Int × Int)), (∀ s, touch T2 s → s ∈ four ++ cents4) → ∀ ks : List Str, ks.Nodup → (∀ s, s ∈ ks → touch T2 s) → ks.length < 60 := fun T2 h ks n1 n2 => by
            have := nodup_len n1 fun s hs => h s (n2 s hs)
            have e : (four ++ cents4).length = 8 := rfl
            omega
          have ht1 : ∀ s, touch T' s → s ∈ four ++ cents4 := fun s ⟨x, hx, e⟩ => by
            rcases e with e | e
            · rw [← e]; exact List.mem_append_left _ (hok x hx).2.1
            · rw [← e]; exact List.mem_append_left _ (hok x hx).2.2
          have ht2 : ∀ s, touch (novL c T') s → s ∈ four ++ cents4 := fun s hs => by
            rcases touch_nov.mp hs with e | e
            · exact ht1 s e
            · rw [e.1]; exact List.mem_append_right _ hc4
          have hct : ¬ touch T' c := fun ⟨x, hx, e⟩ => by
            rcases e with e | e
            · exact hcn _ (hok x hx).2.1 e
            · exact hcn _ (hok x hx).2.2 e
          walk_at "st"
          refine ⟨rs, T', rfl, hTc7, fun x hx => (hok x hx).1, by omega, hks T' ht1, fun F1 H9 rf1 ys1 e9 nF1 n1 so1 m1 hF1 => ?_⟩
          have hT9 := hT7.same e9
          have hN9 := hN7.same e9
          have hNl9 : SqL K H9 N (rs3.map V.ref) := SqL.of hN9.lst
          walk_at "st"
          intro l2 nl2
          have s10 := same_upd (o := .lst (rs3.map V.ref)) nl2
          have hNc := hN9.copy s10 (upd_same (a := l2))
          have hT10 := hT9.same s10
          have hF10 := hF1.same s10
          generalize upd H9 l2 (.lst (rs3.map V.ref)) = H10 at *
          walk_at "st"
          refine ⟨rs3, novL c T', rfl, hNc, hokN, by rw [novL_len]; omega, hks _ ht2, fun F2 H11 rf2 ys2 e11 nF2 n2 so2 m2 hF2 => ?_⟩
          have hT11 := hT10.same e11
          have hF11 := hF10.same e11
          refine ⟨_, rfl, ?_⟩
          refine ⟨_, _, _, _, true, rfl, .ty _, .base (.lst hF11.lst), kit_ty (by decide +kernel), ?_⟩
          refine ⟨_, rfl, iteF ?_⟩
          refine ⟨_, rfl, ?_⟩
          refine ⟨_, _, _, _, true, rfl, .ty _, .base (.lst hF2.lst), kit_ty (by decide +kernel), ?_⟩
          refine ⟨_, rfl, iteF ?_⟩
          have hF2l : SqL K H11 F2 (rf2.map V.ref) := SqL.of hF2.lst
          have hyl : ys2.length < 60 := hks _ ht2 ys2 n2 fun s hs => (m2 s).mp hs
          walk_at "st"
          intro A nA
          refine lc_list (K := K) (a := F2) (xs := rf2.map V.ref) (fun i H' => ∃ rs', Tups encR H' A rs' (((ys2.take i).filter fun y => decide (y ≠ c)).map fun y => (y, unitsOf (novL c T') y, centsOf (novL c T') y)) ∧ Same H11 H') ⟨[], .nil upd_same, same_upd nA⟩ (fun i H' _ ⟨_, _, e⟩ => e.seq hF2l) ?_ ?_
          · rintro i x H' hx ⟨rs', hX, e'⟩
            obtain ⟨p, y, hp, hy, rfl, hyr⟩ := (hF2.same e').item hx
            rw [List.getElem?_map] at hy
            cases hyy : ys2[i]? with
            | none => rw [hyy] at hy; cases hy
            | some z =>
              rw [hyy] at hy
              have hy : (z, unitsOf (novL c T') z, centsOf (novL c T') z) = y := Option.some.inj hy
              subst hy
              have hyt : SqT K H' p [.str z, .int (unitsOf (novL c T') z), .int (centsOf (novL c T') z)] := SqT.of hyr
              have hlt : (rs'.map V.ref).length < sizeLine := small1000 (by
                rw [List.length_map, hX.len, List.length_map]
                refine Nat.le_trans (List.length_filter_le _ _) ?_
                rw [List.length_take]
                omega)
              refine ⟨rfl, ?_⟩
              walk_at "st"
              refine iteB (fun h => ?_) (fun h => ?_)
              · have h : z ≠ c := fun w => ndec_t h (congrArg V.str w)
                refine ⟨_, rfl, _, hX.lst, hlt, rs' ++ [p], ?_, TabR.keep e' nA⟩
                rw [take_succ hyy, List.filter_append, List.filter_cons_of_pos (by exact decide_eq_true h), List.filter_nil, List.map_append]
                exact hX.push2 hyr
              · have h : ¬ z ≠ c := fun w => w (V.str.inj (ndec_f h))
                refine ⟨rs', ?_, e'⟩
                rw [take_succ hyy, List.filter_append, List.filter_cons_of_neg (by rw [decide_eq_false h]; exact Bool.false_ne_true), List.filter_nil, List.append_nil]
                exact hX
          · rintro H12 ⟨ra, hA, e12⟩
            rw [show ys2.take (rf2.map V.ref).length = ys2 by rw [List.length_map, hF2.len, List.length_map, List.take_length]] at hA
            have hT12 := hT11.same e12
            have hF12 := hF11.same e12
            have hF2' := hF2.same e12
            have hF2l' : SqL K H12 F2 (rf2.map V.ref) := SqL.of hF2'.lst
            walk_at "st"
            intro B nB
            refine lc_list (K := K) (a := F2) (xs := rf2.map V.ref) (fun i H' => ∃ rs', Tups encR H' B rs' (((ys2.take i).filter fun y => decide (y = c)).map fun y => (y, unitsOf (novL c T') y, centsOf (novL c T') y)) ∧ Same H12 H') ⟨[], .nil upd_same, same_upd nB⟩ (fun i H' _ ⟨_, _, e⟩ => e.seq hF2l') ?_ ?_
            · rintro i x H' hx ⟨rs', hX, e'⟩
              obtain ⟨p, y, hp, hy, rfl, hyr⟩ := (hF2'.same e').item hx
              rw [List.getElem?_map] at hy
              cases hyy : ys2[i]? with
              | none => rw [hyy] at hy; cases hy
              | some z =>
                rw [hyy] at hy
                have hy : (z, unitsOf (novL c T') z, centsOf (novL c T') z) = y := Option.some.inj hy
                subst hy
                have hyt : SqT K H' p [.str z, .int (unitsOf (novL c T') z), .int (centsOf (novL c T') z)] := SqT.of hyr
                have hlt : (rs'.map V.ref).length < sizeLine := small1000 (by
                  rw [List.length_map, hX.len, List.length_map]
                  refine Nat.le_trans (List.length_filter_le _ _) ?_
                  rw [List.length_take]
                  omega)
                refine ⟨rfl, ?_⟩
                walk_at "st"
                refine iteB (fun h => ?_) (fun h => ?_)
                · have h : z = c := V.str.inj (dec_t h)
                  refine ⟨_, rfl, _, hX.lst, hlt, rs' ++ [p], ?_, TabR.keep e' nB⟩
                  rw [take_succ hyy, List.filter_append, List.filter_cons_of_pos (by exact decide_eq_true h), List.filter_nil, List.map_append]
                  exact hX.push2 hyr
                · have h : ¬ z = c := fun w => dec_f h (congrArg V.str w)
                  refine ⟨rs', ?_, e'⟩
                  rw [take_succ hyy, List.filter_append, List.filter_cons_of_neg (by rw [decide_eq_false h]; exact Bool.false_ne_true), List.filter_nil, List.append_nil]
                  exact hX
            · rintro H13 ⟨rb, hB, e13⟩
              rw [show ys2.take (rf2.map V.ref).length = ys2 by rw [List.length_map, hF2.len, List.length_map, List.take_length]] at hB
              have hT13 := hT12.same e13
              have hF13 := hF12.same e13
              have hA13 := hA.same e13
              have hlists : ((ys2.filter fun y => decide (y ≠ c)).map fun y => (y, unitsOf (novL c T') y, centsOf (novL c T') y)) = ys1.map fun y => (y, unitsOf T' y, centsOf T' y) := by
                have e : ys2.filter (fun y => decide (y ≠ c)) = ys1 := by
                  refine sorted_same (List.Pairwise.filter _ (sorted_le so2)) (sorted_le so1) (List.Pairwise.filter _ n2) n1 fun s => ?_
                  rw [List.mem_filter, m2 s, m1 s, touch_nov, decide_eq_true_eq]
                  constructor
                  · rintro ⟨h | h, h2⟩
                    · exact h
                    · exact absurd h.1 h2
                  · intro h
                    exact ⟨.inl h, fun e => hct (by rw [← e]; exact h)⟩
                rw [e]
                refine List.map_congr_left fun y _ => ?_
                rw [units_nov, cents_nov]
              have hsR : ∀ (T2 : List (Str × Str × Int × Int)) (ys : List Str) (f : Str → Int) (g : Str → Int), (∀ s, s ∈ ys → s ∈ four ++ cents4) → ∀ x, x ∈ (ys.map fun y => (y, f y, g y)) → PyData.strOk x.1 = true ∧ True ∧ True := fun T2 ys f g h x hx => by
                obtain ⟨y, hy, e⟩ := List.mem_map.mp hx
                rw [← e]
                exact ⟨name_ok y (h y hy), trivial, trivial⟩
              have g1 := hsR T' ys1 (unitsOf T') (centsOf T') fun s hs => ht1 s ((m1 s).mp hs)
              have g2 := hsR T' (ys2.filter fun y => decide (y = c)) (unitsOf (novL c T')) (centsOf (novL c T')) fun s hs => ht2 s ((m2 s).mp (List.mem_filter.mp hs).1)
              have strT : ∀ x, x ∈ T' → PyData.strOk x.1 = true ∧ PyData.strOk x.2.1 = true ∧ True ∧ True := fun x hx => ⟨name_ok _ (List.mem_append_left _ (hok x hx).2.1), name_ok _ (List.mem_append_left _ (hok x hx).2.2), trivial, trivial⟩
              rw [hlists] at hA13
              walk_at "st"
              intro Z nZ
              have sZ := same_upd (o := .lst []) nZ
              refine neL (a := T') (b := []) layD_4.list (by decide) strT (fun _ h => by cases h) ((hT13.same sZ).dp dp4) (.lst (SqL.of upd_same) .nil) ?_
              have hF14 := hF13.same sZ
              have hA14 := hA13.same sZ
              have hB14 := hB.same sZ
              generalize upd H13 Z (.lst []) = H14 at *
              refine ⟨_, rfl, iteB (fun h => ?_) (fun h => ?_)⟩
              · have hTne : T' ≠ [] := ndec_t h
                have hc2 : c ∈ ys2 := (m2 c).mpr (touch_nov.mpr (.inr ⟨rfl, hTne⟩))
                have hone : ((ys2.filter fun y => decide (y = c)).map fun y => (y, unitsOf (novL c T') y, centsOf (novL c T') y)) = [(c, 0, 0)] := by
                  rw [filter_one n2 hc2, List.map_cons, List.map_nil, units_nov, cents_nov, (units_out hct).1, (units_out hct).2]
                rw [hone] at hB14 g2
                walk_at "st"
                intro U nU
                have sU := same_upd (o := .tup [.str c, .int 0, .int 0]) nU
                have hUt : upd H14 U (.tup [.str c, .int 0, .int 0]) U = some (.tup (encR (c, 0, 0))) := upd_same
                have hF15 := hF14.same sU
                have hA15 := hA14.same sU
                have hB15 := hB14.same sU
                generalize upd H14 U (.tup [.str c, .int 0, .int 0]) = H15 at *
                walk_at "st"
                intro W nW
                have sW := same_upd (o := .lst [.ref U]) nW
                refine neL (a := [(c, 0, 0)]) (b := [(c, 0, 0)]) layD_R.list (by decide) g2 g2 ((hB15.same sW).dp dpR) (.lst (SqL.of upd_same) (.cons (dpR (c, 0, 0) U (sW _ _ hUt)) .nil)) ?_
                refine ⟨_, rfl, iteB (fun h => (ndec_t h rfl).elim) (fun _ => ?_)⟩
                walk_at "st"
                refine eqL layD_R.list (by decide) g1 g1 ((hA15.same sW).dp dpR) ((hF15.same sW).dp dpR) ?_
                rw [decide_eq_true rfl]
                exact q _
              · walk_at "st"
                refine eqL layD_R.list (by decide) g1 g1 (hA14.dp dpR) (hF14.dp dpR) ?_
                rw [decide_eq_true rfl]
                exact q _
end
set_option maxHeartbeats 0 in
theorem all_mk {l : PySem.W.OpenLaw} {w : World} {K : PySem.W.Frag} {h : Heap} {mg : Str → Option Value} {fa f1 f2 f3 f4 f5 f6 f7 f8 : Addr} (X : K.In h) (G : h.Ns mainGlobals mg) (hfa : mg "law" = some (.ref fa))
    {c_BourseError c_InvalidTrade : Addr}
    {od1 an1 od2 an2 od3 an3 od4 an4 od5 an5 od6 an6 od7 an7 od8 an8 : Option Addr} {sl1 sl2 sl3 sl4 sl5 sl6 sl7 sl8 : Array (Option Value)} {oc1 kV1 dc1 pm1 cd1 ct1 oc2 kV2 dc2 pm2 cd2 ct2 oc3 kV3 dc3 pm3 cd3 ct3 oc4 kV4 dc4 pm4 cd4 ct4 oc5 kV5 dc5 pm5 cd5 ct5 oc6 kV6 dc6 pm6 cd6 ct6 oc7 kV7 dc7 pm7 cd7 ct7 oc8 kV8 dc8 pm8 cd8 ct8 : Value}
    (a1 : PySem.W.nsIn K mainGlobals "is_integral" = some (some (.ref f1)))
    (l1 : K.lookup f1 = some ⟨oc1, od1, .func (PySem.W.fnOf "is_integral" "is_integral" (defArgs s_is_integral) (defBody s_is_integral) (defScope s_is_integral) .none kV1 dc1 pm1 an1 cd1 ct1), sl1⟩) (c1 : PySem.W.codeIn K cd1 "is_integral" = true) (k1 : PySem.W.keepIn K (.ref f1) = true)
    (a2 : PySem.W.nsIn K mainGlobals "nets" = some (some (.ref f2)))
    (l2 : K.lookup f2 = some ⟨oc2, od2, .func (PySem.W.fnOf "nets" "nets" (defArgs s_nets) (defBody s_nets) (defScope s_nets) .none kV2 dc2 pm2 an2 cd2 ct2), sl2⟩) (c2 : PySem.W.codeIn K cd2 "nets" = true) (k2 : PySem.W.keepIn K (.ref f2) = true)
    (a3 : PySem.W.nsIn K mainGlobals "novate" = some (some (.ref f3)))
    (l3 : K.lookup f3 = some ⟨oc3, od3, .func (PySem.W.fnOf "novate" "novate" (defArgs s_novate) (defBody s_novate) (defScope s_novate) .none kV3 dc3 pm3 an3 cd3 ct3), sl3⟩) (c3 : PySem.W.codeIn K cd3 "novate" = true) (k3 : PySem.W.keepIn K (.ref f3) = true)
    (a4 : PySem.W.nsIn K mainGlobals "_check_trades" = some (some (.ref f4)))
    (l4 : K.lookup f4 = some ⟨oc4, od4, .func (PySem.W.fnOf "_check_trades" "_check_trades" (defArgs s_check_trades) (defBody s_check_trades) (defScope s_check_trades) .none kV4 dc4 pm4 an4 cd4 ct4), sl4⟩) (c4 : PySem.W.codeIn K cd4 "_check_trades" = true) (k4 : PySem.W.keepIn K (.ref f4) = true)
    (a5 : PySem.W.nsIn K mainGlobals "_law_cell" = some (some (.ref f5)))
    (l5 : K.lookup f5 = some ⟨oc5, od5, .func (PySem.W.fnOf "_law_cell" "_law_cell" (defArgs s_law_cell) (defBody s_law_cell) (defScope s_law_cell) .none kV5 dc5 pm5 an5 cd5 ct5), sl5⟩) (c5 : PySem.W.codeIn K cd5 "_law_cell" = true) (k5 : PySem.W.keepIn K (.ref f5) = true)
    (a6 : PySem.W.nsIn K mainGlobals "_law_draws" = some (some (.ref f6)))
    (l6 : K.lookup f6 = some ⟨oc6, od6, .func (PySem.W.fnOf "_law_draws" "_law_draws" (defArgs s_law_draws) (defBody s_law_draws) (defScope s_law_draws) .none kV6 dc6 pm6 an6 cd6 ct6), sl6⟩) (c6 : PySem.W.codeIn K cd6 "_law_draws" = true) (k6 : PySem.W.keepIn K (.ref f6) = true)
    (a7 : PySem.W.nsIn K mainGlobals "_law_trade" = some (some (.ref f7)))
    (l7 : K.lookup f7 = some ⟨oc7, od7, .func (PySem.W.fnOf "_law_trade" "_law_trade" (defArgs s_law_trade) (defBody s_law_trade) (defScope s_law_trade) .none kV7 dc7 pm7 an7 cd7 ct7), sl7⟩) (c7 : PySem.W.codeIn K cd7 "_law_trade" = true) (k7 : PySem.W.keepIn K (.ref f7) = true)
    (a8 : PySem.W.nsIn K mainGlobals "law" = some (some (.ref f8)))
    (l8 : K.lookup f8 = some ⟨oc8, od8, .func (PySem.W.fnOf "law" "law" (defArgs s_law) (defBody s_law) (defScope s_law) .none kV8 dc8 pm8 an8 cd8 ct8), sl8⟩) (c8 : PySem.W.codeIn K cd8 "law" = true) (k8 : PySem.W.keepIn K (.ref f8) = true)
    (z_abs : PySem.W.nsIn K mainGlobals "abs" = some none)
    (z_bool : PySem.W.nsIn K mainGlobals "bool" = some none)
    (z_int : PySem.W.nsIn K mainGlobals "int" = some none)
    (z_isinstance : PySem.W.nsIn K mainGlobals "isinstance" = some none)
    (z_len : PySem.W.nsIn K mainGlobals "len" = some none)
    (z_list : PySem.W.nsIn K mainGlobals "list" = some none)
    (z_range : PySem.W.nsIn K mainGlobals "range" = some none)
    (z_sorted : PySem.W.nsIn K mainGlobals "sorted" = some none)
    (z_tuple : PySem.W.nsIn K mainGlobals "tuple" = some none)
    (g_BourseError : PySem.W.nsIn K mainGlobals "BourseError" = some (some (.ref c_BourseError)))
    (g_InvalidTrade : PySem.W.nsIn K mainGlobals "InvalidTrade" = some (some (.ref c_InvalidTrade))) :
    ∃ fd : FuncData, (∀ (s : Shared) (v : Value), BindsTo s fd ⟨[v], []⟩ [("script", v)]) ∧ ∀ base : Heap, K.In base → base.Ns mainGlobals mg → FnOk l.prog w K mg base CX0 4 fa fd ["script"] (sp_law K) := by
  have e := hfa.symm.trans (PySem.W.mg_of X G a8)
  cases e
  have F1 := fun_mk (st := s_is_integral) l1 c1 k1
  have b1 := F1.binds (ps := ["value"]) fun _ _ _ _ _ _ us hl => match us, hl with | [_], _ => rfl
  have F2 := fun_mk (st := s_nets) l2 c2 k2
  have b2 := F2.binds (ps := ["trades"]) fun _ _ _ _ _ _ us hl => match us, hl with | [_], _ => rfl
  have F3 := fun_mk (st := s_novate) l3 c3 k3
  have b3 := F3.binds (ps := ["trades", "center"]) fun _ _ _ _ _ _ us hl => match us, hl with | [_, _], _ => rfl
  have F4 := fun_mk (st := s_check_trades) l4 c4 k4
  have b4 := F4.binds (ps := ["trades"]) fun _ _ _ _ _ _ us hl => match us, hl with | [_], _ => rfl
  have F5 := fun_mk (st := s_law_cell) l5 c5 k5
  have b5 := F5.binds (ps := ["script", "k"]) fun _ _ _ _ _ _ us hl => match us, hl with | [_, _], _ => rfl
  have F6 := fun_mk (st := s_law_draws) l6 c6 k6
  have b6 := F6.binds (ps := ["cell", "count", "size"]) fun _ _ _ _ _ _ us hl => match us, hl with | [_, _, _], _ => rfl
  have F7 := fun_mk (st := s_law_trade) l7 c7 k7
  have b7 := F7.binds (ps := ["cell"]) fun _ _ _ _ _ _ us hl => match us, hl with | [_], _ => rfl
  have F8 := fun_mk (st := s_law) l8 c8 k8
  have b8 := F8.binds (ps := ["script"]) fun _ _ _ _ _ _ us hl => match us, hl with | [_], _ => rfl
  have T : Txt K mg := ⟨f1, _, F1, PySem.W.mg_of X G a1, b1, f2, _, F2, PySem.W.mg_of X G a2, b2, f3, _, F3, PySem.W.mg_of X G a3, b3, f4, _, F4, PySem.W.mg_of X G a4, b4, f5, _, F5, PySem.W.mg_of X G a5, b5, f6, _, F6, PySem.W.mg_of X G a6, b6, f7, _, F7, PySem.W.mg_of X G a7, b7, c_BourseError, PySem.W.mg_of X G g_BourseError, c_InvalidTrade, PySem.W.mg_of X G g_InvalidTrade, PySem.W.mg_none_of X G z_abs, PySem.W.mg_none_of X G z_bool, PySem.W.mg_none_of X G z_int, PySem.W.mg_none_of X G z_isinstance, PySem.W.mg_none_of X G z_len, PySem.W.mg_none_of X G z_list, PySem.W.mg_none_of X G z_range, PySem.W.mg_none_of X G z_sorted, PySem.W.mg_none_of X G z_tuple⟩
  exact ⟨PySem.W.fnOf "law" "law" (defArgs s_law) (defBody s_law) (defScope s_law) .none kV8 dc8 pm8 an8 cd8 ct8, fun s v => .of_eq rfl, fun base _ _ => ok_law T F8⟩
end FB
open PySem PySem.W PyProof.Rows
set_option maxRecDepth 100000 in
set_option maxHeartbeats 0 in
theorem PySem.Challenge.cw_fairbourse_k41_novated_trades_holds : PySem.Challenge.rw_fairbourse_k41_novated_trades.Holds := by
  w_on; o_law; k_head; (case hw => w_witness2)
  k_fill
  refine L2.walk_of (l := PySem.Challenge.rw_fairbourse_k41_novated_trades) (n := 63) (k := 4) (x := "script") (CX := fun _ => L2.CX0) (sp := fun w => FB.sp_law _) rfl (by decide) rfl ⟨rfl, by decide, by decide⟩ (fun w h Y => PySem.W.kIn_of Y) ?F (fun _ _ a ns hl _ hS => ⟨a, ns, rfl, hS, hl, fun _ => rfl⟩) (fun _ _ _ _ _ h => h)
  case F =>
    intro w mg fa h KX G hmg
    refine' FB.all_mk KX G hmg ?a1 ?l1 ?c1 ?k1 ?a2 ?l2 ?c2 ?k2 ?a3 ?l3 ?c3 ?k3 ?a4 ?l4 ?c4 ?k4 ?a5 ?l5 ?c5 ?k5 ?a6 ?l6 ?c6 ?k6 ?a7 ?l7 ?c7 ?k7 ?a8 ?l8 ?c8 ?k8 ?z_abs ?z_bool ?z_int ?z_isinstance ?z_len ?z_list ?z_range ?z_sorted ?z_tuple ?g_BourseError ?g_InvalidTrade
    (case g_BourseError => k_is)
    (case g_InvalidTrade => k_is)
    (case a1 => k_is)
    (case l1 => k_is)
    (case c1 => k_is)
    (case k1 => k_is)
    (case a2 => k_is)
    (case l2 => k_is)
    (case c2 => k_is)
    (case k2 => k_is)
    (case a3 => k_is)
    (case l3 => k_is)
    (case c3 => k_is)
    (case k3 => k_is)
    (case a4 => k_is)
    (case l4 => k_is)
    (case c4 => k_is)
    (case k4 => k_is)
    (case a5 => k_is)
    (case l5 => k_is)
    (case c5 => k_is)
    (case k5 => k_is)
    (case a6 => k_is)
    (case l6 => k_is)
    (case c6 => k_is)
    (case k6 => k_is)
    (case a7 => k_is)
    (case l7 => k_is)
    (case c7 => k_is)
    (case k7 => k_is)
    (case a8 => k_is)
    (case l8 => k_is)
    (case c8 => k_is)
    (case k8 => k_is)
    (case z_abs => k_is)
    (case z_bool => k_is)
    (case z_int => k_is)
    (case z_isinstance => k_is)
    (case z_len => k_is)
    (case z_list => k_is)
    (case z_range => k_is)
    (case z_sorted => k_is)
    (case z_tuple => k_is)
#print axioms PySem.Challenge.cw_fairbourse_k41_novated_trades_holds
