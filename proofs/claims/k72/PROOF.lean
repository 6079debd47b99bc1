import PyProof.Rows.All
import Wide.All
import OpenK.AllK
import Wide.FinOn
import HandS.ForMost
import HandS.Defaults
import HandS.IsInst
import HandS.Wide
import HandS.Codes
import PySem.Challenge.RW_fairbourse_k72_requirement_covers_scenar
set_option Elab.async false
set_option linter.all false
set_option maxRecDepth 100000
namespace FB
open PySem PySem.Spec PyProof.Rows L2
def topS (i : Nat) : Stmt := PySem.Challenge.pw_fairbourse_k72_requirement_covers_scenar.main.body.getD i (.Pass ⟨0, 0, 0, 0⟩)
abbrev s_loss : Stmt := topS 4
abbrev N_loss : List Str := ["positions", "scenario", "units", "move"]
theorem sc_loss : FnScope N_loss ["positions", "scenario"] (defScope s_loss) := ⟨rfl, rfl, rfl, by decide +kernel, rfl, by decide +kernel, by decide +kernel⟩
abbrev s_requirement : Stmt := topS 5
abbrev N_requirement : List Str := ["positions", "scenarios"]
theorem sc_requirement : FnScope N_requirement ["positions", "scenarios"] (defScope s_requirement) := ⟨rfl, rfl, rfl, by decide +kernel, rfl, by decide +kernel, by decide +kernel⟩
abbrev s_order_requirement : Stmt := topS 6
abbrev N_order_requirement : List Str := ["positions", "orders", "scenarios", "index", "_", "most", "first", "at", "scenario", "lost"]
theorem sc_order_requirement : FnScope N_order_requirement ["positions", "orders", "scenarios"] (defScope s_order_requirement) := ⟨rfl, rfl, rfl, by decide +kernel, rfl, by decide +kernel, by decide +kernel⟩
abbrev s_order_loss : Stmt := topS 7
abbrev N_order_loss : List Str := ["orders", "scenario", "added", "index", "units"]
theorem sc_order_loss : FnScope N_order_loss ["orders", "scenario"] (defScope s_order_loss) := ⟨rfl, rfl, rfl, by decide +kernel, rfl, by decide +kernel, by decide +kernel⟩
abbrev s_law_is_integer : Stmt := topS 9
abbrev N_law_is_integer : List Str := ["actual"]
theorem sc_law_is_integer : FnScope N_law_is_integer ["actual"] (defScope s_law_is_integer) := ⟨rfl, rfl, rfl, by decide +kernel, rfl, by decide +kernel, by decide +kernel⟩
abbrev s_law_numbers : Stmt := topS 10
abbrev N_law_numbers : List Str := ["script", "start", "count", "low", "high", "numbers", "k", "cell"]
theorem sc_law_numbers : FnScope N_law_numbers ["script", "start", "count", "low", "high"] (defScope s_law_numbers) := ⟨rfl, rfl, rfl, by decide +kernel, rfl, by decide +kernel, by decide +kernel⟩
abbrev s_law_loss : Stmt := topS 11
abbrev N_law_loss : List Str := ["positions", "scenario", "total", "k"]
theorem sc_law_loss : FnScope N_law_loss ["positions", "scenario"] (defScope s_law_loss) := ⟨rfl, rfl, rfl, by decide +kernel, rfl, by decide +kernel, by decide +kernel⟩
abbrev s_law : Stmt := topS 12
abbrev N_law : List Str := ["script", "shape", "count", "high", "positions", "scenarios", "k", "actual", "scenario", "losses"]
theorem sc_law : FnScope N_law ["script"] (defScope s_law) := ⟨rfl, rfl, rfl, by decide +kernel, rfl, by decide +kernel, by decide +kernel⟩
set_option maxHeartbeats 0 in
structure Txt (K : PySem.W.Frag) (mg : Str → Option Value) where
  f_loss : Addr
  d_loss : FuncData
  F_loss : Fun K "loss" "loss" s_loss f_loss d_loss
  m_loss : mg "loss" = some (.ref f_loss)
  b_loss : Binds K d_loss ["positions", "scenario"] []
  f_requirement : Addr
  d_requirement : FuncData
  F_requirement : Fun K "requirement" "requirement" s_requirement f_requirement d_requirement
  m_requirement : mg "requirement" = some (.ref f_requirement)
  b_requirement : Binds K d_requirement ["positions", "scenarios"] []
  f_order_requirement : Addr
  d_order_requirement : FuncData
  F_order_requirement : Fun K "order_requirement" "order_requirement" s_order_requirement f_order_requirement d_order_requirement
  m_order_requirement : mg "order_requirement" = some (.ref f_order_requirement)
  b_order_requirement : Binds K d_order_requirement ["positions", "orders", "scenarios"] []
  f_order_loss : Addr
  d_order_loss : FuncData
  F_order_loss : Fun K "_order_loss" "_order_loss" s_order_loss f_order_loss d_order_loss
  m_order_loss : mg "_order_loss" = some (.ref f_order_loss)
  b_order_loss : Binds K d_order_loss ["orders", "scenario"] []
  f_law_is_integer : Addr
  d_law_is_integer : FuncData
  F_law_is_integer : Fun K "_law_is_integer" "_law_is_integer" s_law_is_integer f_law_is_integer d_law_is_integer
  m_law_is_integer : mg "_law_is_integer" = some (.ref f_law_is_integer)
  b_law_is_integer : Binds K d_law_is_integer ["actual"] []
  f_law_numbers : Addr
  d_law_numbers : FuncData
  F_law_numbers : Fun K "_law_numbers" "_law_numbers" s_law_numbers f_law_numbers d_law_numbers
  m_law_numbers : mg "_law_numbers" = some (.ref f_law_numbers)
  b_law_numbers : Binds K d_law_numbers ["script", "start", "count", "low", "high"] []
  f_law_loss : Addr
  d_law_loss : FuncData
  F_law_loss : Fun K "_law_loss" "_law_loss" s_law_loss f_law_loss d_law_loss
  m_law_loss : mg "_law_loss" = some (.ref f_law_loss)
  b_law_loss : Binds K d_law_loss ["positions", "scenario"] []
  c_BourseError : Addr
  m_BourseError : mg "BourseError" = some (.ref c_BourseError)
  c_InvalidAmount : Addr
  m_InvalidAmount : mg "InvalidAmount" = some (.ref c_InvalidAmount)
  z_bool : mg "bool" = none
  z_enumerate : mg "enumerate" = none
  z_int : mg "int" = none
  z_isinstance : mg "isinstance" = none
  z_len : mg "len" = none
  z_list : mg "list" = none
  z_max : mg "max" = none
  z_range : mg "range" = none
  z_sum : mg "sum" = none
  z_tuple : mg "tuple" = none
  z_zip : mg "zip" = none
/-! own short words -/
theorem iteD {p A B : Prop} [Decidable p] (h1 : p → A) (h2 : ¬ p → B) : if decide p = true then A else B := by
  by_cases h : p
  · rw [decide_eq_true h, if_pos rfl]; exact h1 h
  · rw [decide_eq_false h, if_neg Bool.false_ne_true]; exact h2 h
theorem iteDN {p A B : Prop} [Decidable p] (h1 : ¬ p → A) (h2 : p → B) : if (!decide p) = true then A else B := by
  by_cases h : p
  · rw [decide_eq_true h]; exact iteF (h2 h)
  · rw [decide_eq_false h]; exact iteT (h1 h)
theorem len_le {n : Nat} (h : Nat.ble n 1000 = true) : n ≤ sizeLine := Nat.le_trans (Nat.le_of_ble_eq_true h) (by decide)
theorem iteB {b : Bool} {A B : Prop} (h1 : b = true → A) (h2 : b = false → B) : if b = true then A else B := by
  cases b with
  | true => exact iteT (h1 rfl)
  | false => exact iteF (h2 rfl)
theorem cmul_l {i j : Int} (h : -(2 ^ 64) < i) (h' : i < 2 ^ 64) : CMul i j := .inl ⟨h, h'⟩
theorem cmul_r {i j : Int} (h : -(2 ^ 64) < j) (h' : j < 2 ^ 64) : CMul i j := .inr ⟨h, h'⟩
theorem dec_t {p : Prop} [Decidable p] (h : decide p = true) : p := of_decide_eq_true h
theorem dec_f {p : Prop} [Decidable p] (h : decide p = false) : ¬ p := of_decide_eq_false h
theorem ndec_t {p : Prop} [Decidable p] (h : (!decide p) = true) : ¬ p := fun q => by rw [decide_eq_true q] at h; cases h
theorem ndec_f {p : Prop} [Decidable p] (h : (!decide p) = false) : p := by
  by_cases q : p
  · exact q
  · rw [decide_eq_false q] at h; cases h
theorem fld_lt {n : Nat} (h : Nat.ble (n + 1) 1000 = true) : n < 1000 := Nat.le_of_ble_eq_true h
def rLen (K : PySem.W.Frag) : List V → Hp → VK → Prop := fun xs H Q => ∃ p ys, xs = [.ref p] ∧ (SqL K H p ys ∨ SqT K H p ys) ∧ Q (.int ys.length) H
def rListOf (K : PySem.W.Frag) : List V → Hp → VK → Prop := fun xs H Q => ∃ p ys, xs = [.ref p] ∧ (SqL K H p ys ∨ SqT K H p ys) ∧ ∀ l, H l = none → Q (.ref l) (upd H l (.lst ys))
def rTupleOf (K : PySem.W.Frag) : List V → Hp → VK → Prop := fun xs H Q => ∃ p ys, xs = [.ref p] ∧ ((SqL K H p ys ∧ ∀ l, H l = none → Q (.ref l) (upd H l (.tup ys))) ∨ (SqT K H p ys ∧ Q (.ref p) H))
theorem len0 : ([] : List V).length ≤ sizeLine := len_le rfl
theorem len1 {a : V} : [a].length ≤ sizeLine := len_le rfl
theorem len2 {a b : V} : [a, b].length ≤ sizeLine := len_le rfl
theorem len3 {a b c : V} : [a, b, c].length ≤ sizeLine := len_le rfl
theorem len4 {a b c d : V} : [a, b, c, d].length ≤ sizeLine := len_le rfl
theorem len5 {a b c d e : V} : [a, b, c, d, e].length ≤ sizeLine := len_le rfl
local macro_rules | `(tactic| walk_at "st") => `(tactic| repeat (first
  | (apply Exists.intro (α := V))
  | (apply Exists.intro (α := Int))
  | (apply Exists.intro (α := Bool))
  | (apply Exists.intro (α := Addr))
  | (apply Exists.intro (α := List V))
  | (apply Exists.intro (α := List Int))
  | (apply Exists.intro (α := List (Str × V)))
  | (apply Exists.intro (α := Str))
  | (apply And.intro; focus (first | omega | (dsimp only; omega) | (simp only [List.length_map, List.length_replicate]; omega) | exact rfl | assumption | exact SqL.of (by assumption) | exact Or.inl (by assumption) | exact Or.inr (by assumption) | exact Or.inr (SqT.of (by assumption)) | exact Or.inl (Or.inl upd_same) | exact Or.inl (Or.inl (Or.inl upd_same)) | (with_reducible exact len0) | (with_reducible exact len1) | (with_reducible exact len2) | (with_reducible exact len3) | (with_reducible exact len4) | (with_reducible exact len5) | exact upd_same | exact ⟨_, Or.inl (Or.inl upd_same)⟩ | exact ⟨_, SqL.of (by assumption)⟩ | exact ⟨_, by assumption⟩ | exact Or.inl ⟨rfl, _, SqL.of (by assumption)⟩ | exact Or.inl ⟨rfl, _, SqL.of upd_same⟩ | exact cmul_l (by omega) (by omega) | exact cmul_r (by omega) (by omega) | exact ⟨by omega, by omega⟩ | (simp only [List.length_map, List.length_replicate]; omega) | exact Or.inl (SqL.of (by assumption)) | exact SqT.of (by assumption) | exact fld_lt rfl | exact Or.inl ⟨_, by assumption, rfl⟩))))
/-- the script's cell at j, 0 where there is none -/
def cellOf (ns : List Int) (j : Nat) : Int := ns.getD j 0
theorem atI_ints {ns : List Int} {j : Nat} (h : j < ns.length) : atI (ns.map V.int) (j : Int) = some (.int (cellOf ns j)) := by
  refine at_of (j := j) rfl ?_
  rw [List.getElem?_map, List.getElem?_eq_getElem h]
  unfold cellOf
  rw [List.getD_eq_getElem?_getD, List.getElem?_eq_getElem h]
  rfl
theorem cellOf_out {ns : List Int} {j : Nat} (h : ¬ j < ns.length) : cellOf ns j = 0 := by
  unfold cellOf
  rw [List.getD_eq_getElem?_getD, List.getElem?_eq_none (by omega)]
  rfl
theorem same_upd {H : Hp} {p : Addr} {o : HO} (h : H p = none) : Same H (upd H p o) := fun b x e => by
  rw [upd_ne (ne_of_none e h)]
  exact e
/-- a slice of a list of ints -/
def cutI (ns : List Int) (lo hi : Option Int) : List Int := (ns.drop (HT.sIx ns.length 0 lo)).take (HT.sIx ns.length ns.length hi - HT.sIx ns.length 0 lo)
theorem cutV_ints (ns : List Int) (lo hi : Option Int) : cutV (ns.map V.int) lo hi = (cutI ns lo hi).map V.int := by
  unfold cutV cutI
  rw [List.length_map, List.map_take, List.map_drop]
theorem cutI_len (ns : List Int) (lo hi : Option Int) : (cutI ns lo hi).length ≤ ns.length := by
  unfold cutI
  rw [List.length_take, List.length_drop]
  omega
theorem ints_at {ns : List Int} {i : Nat} {x : V} (h : (ns.map V.int)[i]? = some x) : ∃ z, ns[i]? = some z ∧ x = V.int z := by
  rw [List.getElem?_map] at h
  cases e : ns[i]? with
  | none => rw [e] at h; cases h
  | some z => rw [e] at h; exact ⟨z, rfl, (Option.some.inj h).symm⟩
theorem take_succ {α : Type} {xs : List α} {i : Nat} {x : α} (h : xs[i]? = some x) : xs.take (i + 1) = xs.take i ++ [x] := by
  rw [List.take_add_one, h]
  rfl
theorem sum_le_mul : ∀ (ws : List Int) (b : Int), (∀ w, w ∈ ws → w ≤ b) → ws.sum ≤ (ws.length : Int) * b
  | [], b, _ => by show (0 : Int) ≤ ((0 : Nat) : Int) * b; omega
  | w :: ws, b, h => by
    rw [List.sum_cons, List.length_cons, Int.natCast_add, Int.add_mul]
    have h1 := h w List.mem_cons_self
    have h2 := sum_le_mul ws b fun x hx => h x (List.mem_cons_of_mem _ hx)
    omega
theorem ixN_nat {n j : Nat} (h : j < n) : ixN n (j : Int) = some j := by
  unfold ixN
  rw [if_pos (by omega), if_pos (by omega), Int.toNat_natCast]
theorem call_int_i {X : Cx} : CallR X (.type "int") (fun xs H Q => ∃ i : Int, xs = [.int i] ∧ Q (.int i) H) := by
  intro pins s σ H xs us Q I r h
  obtain ⟨i, e, q⟩ := h
  exact call_int1 pins s σ H xs us Q I r (.inl ⟨i, e, q⟩)
theorem dpAll_ints {K : PySem.W.Frag} {H : Hp} : ∀ xs : List Int, DpAll K H (xs.map V.int) (xs.map PyData.int)
  | [] => .nil
  | x :: xs => .cons (.int x) (dpAll_ints xs)
theorem eqvAll_ints : ∀ xs ys : List Int, PyData.eqvAll (xs.map PyData.int) (ys.map PyData.int) = decide (xs = ys)
  | [], [] => by simp [PyData.eqvAll]
  | [], _ :: _ => by simp [PyData.eqvAll]
  | _ :: _, [] => by simp [PyData.eqvAll]
  | x :: xs, y :: ys => by
    rw [List.map_cons, List.map_cons]
    simp only [PyData.eqvAll, PyData.eqv]
    rw [eqvAll_ints xs ys]
    by_cases h : x = y <;> by_cases h2 : xs = ys <;> simp [h, h2]
theorem lay_ints : ∀ xs : List Int, PyData.canLayAll0 (xs.map PyData.int) = true
  | [] => rfl
  | x :: xs => by
    rw [List.map_cons]
    simp only [PyData.canLayAll0, PyData.canLay0, Bool.true_and]
    exact lay_ints xs
theorem depth_ints : ∀ xs : List Int, PyData.depthAll (xs.map PyData.int) = 0
  | [] => rfl
  | x :: xs => by
    rw [List.map_cons]
    simp only [PyData.depthAll, PyData.depth, depth_ints xs]
    rfl
theorem shaped_ints (xs : List Int) : SeqAt.shaped (.list (xs.map PyData.int)) = true := by
  unfold SeqAt.shaped
  simp only [PyData.canLay0, PyData.depth, lay_ints, depth_ints]
  rfl
theorem eqD_ints {K : PySem.W.Frag} {H : Hp} {a b : Addr} {xs ys : List Int} {Q : VK} (h1 : SqL K H a (xs.map V.int)) (h2 : SqL K H b (ys.map V.int)) (q : Q (.bl (decide (xs = ys))) H) : rEqD K (.ref a) (.ref b) H Q :=
  ⟨_, _, .lst h1 (dpAll_ints xs), .lst h2 (dpAll_ints ys), shaped_ints xs, shaped_ints ys, by rw [show PyData.eqv (.list (xs.map PyData.int)) (.list (ys.map PyData.int)) = decide (xs = ys) by simp only [PyData.eqv, eqvAll_ints]]; exact q⟩
theorem neD_ints {K : PySem.W.Frag} {H : Hp} {a b : Addr} {xs ys : List Int} {Q : VK} (h1 : SqL K H a (xs.map V.int)) (h2 : SqL K H b (ys.map V.int)) (q : Q (.bl (!decide (xs = ys))) H) : rNeD K (.ref a) (.ref b) H Q :=
  ⟨_, _, .lst h1 (dpAll_ints xs), .lst h2 (dpAll_ints ys), shaped_ints xs, shaped_ints ys, by rw [show PyData.eqv (.list (xs.map PyData.int)) (.list (ys.map PyData.int)) = decide (xs = ys) by simp only [PyData.eqv, eqvAll_ints]]; exact q⟩

def at0 (ws : List Int) (i : Nat) : Int := ws.getD i 0
theorem at0_lt {ws : List Int} {i : Nat} (h : i < ws.length) : ws[i]? = some (at0 ws i) := by
  unfold at0
  rw [List.getD_eq_getElem?_getD, List.getElem?_eq_getElem h]
  rfl
theorem atI_n {ws : List Int} {j : Nat} (h : j < ws.length) : atI (ws.map V.int) (j : Int) = some (.int (at0 ws j)) := by
  refine at_of (j := j) rfl ?_
  rw [List.getElem?_map, at0_lt h]
  rfl
theorem at0_of {ws : List Int} {i : Nat} {x : Int} (h : ws[i]? = some x) : at0 ws i = x := by
  unfold at0
  rw [List.getD_eq_getElem?_getD, h]
  rfl
theorem at0_out {ws : List Int} {i : Nat} (h : ws.length ≤ i) : at0 ws i = 0 := by
  unfold at0
  rw [List.getD_eq_getElem?_getD, List.getElem?_eq_none h]
  rfl
theorem at0_ext {xs ys : List Int} (hl : xs.length = ys.length) (h : ∀ i, i < xs.length → at0 xs i = at0 ys i) : xs = ys := by
  refine List.ext_getElem? fun i => ?_
  by_cases hi : i < xs.length
  · rw [at0_lt hi, at0_lt (by omega), h i hi]
  · rw [List.getElem?_eq_none (by omega), List.getElem?_eq_none (by omega)]
theorem at0_set {ps : List Int} {k i : Nat} {x : Int} (hk : k < ps.length) : at0 (ps.set k x) i = if i = k then x else at0 ps i := by
  by_cases h : i = k
  · subst h
    rw [if_pos rfl]
    exact at0_of (List.getElem?_set_self hk)
  · rw [if_neg h]
    unfold at0
    rw [List.getD_eq_getElem?_getD, List.getD_eq_getElem?_getD, List.getElem?_set_ne (fun e => h e.symm)]
theorem at0_nonneg {ws : List Int} (h : ∀ w, w ∈ ws → 0 ≤ w) (i : Nat) : 0 ≤ at0 ws i := by
  by_cases hi : i < ws.length
  · exact h _ (List.mem_of_getElem? (at0_lt hi))
  · rw [at0_out (by omega)]; exact Int.le_refl 0

/-- how items of one kind are told as data; equal data are equal items -/
structure LayD {α : Type} [DecidableEq α] (L : α → PyData) (k : Nat) (G : α → Prop) : Prop where
  lay : ∀ x, G x → (L x).canLay0 = true
  dep : ∀ x, (L x).depth ≤ k
  eqv : ∀ x y, PyData.eqv (L x) (L y) = decide (x = y)
theorem LayD.shaped {α : Type} [DecidableEq α] {L : α → PyData} {k : Nat} {G : α → Prop} (h : LayD L k G) (hk : k ≤ 64) {x : α} (g : G x) : SeqAt.shaped (L x) = true := by
  have h1 := h.lay x g
  have h2 := h.dep x
  unfold SeqAt.shaped
  rw [h1, Bool.true_and]
  exact decide_eq_true (by omega)
theorem layD_int : LayD PyData.int 0 (fun _ => True) := ⟨fun _ _ => rfl, fun _ => Nat.le_refl _, fun x y => by simp only [PyData.eqv]; exact (Bool.beq_eq_decide_eq x y)⟩
theorem layD_str : LayD PyData.str 0 (fun x => PyData.strOk x = true) := ⟨fun _ h => by simp only [PyData.canLay0]; exact h, fun _ => Nat.le_refl _, fun x y => by simp only [PyData.eqv]; exact (Bool.beq_eq_decide_eq x y)⟩
theorem decide_and2 {p q r : Prop} [Decidable p] [Decidable q] [Decidable r] (h : r ↔ p ∧ q) : (decide p && decide q) = decide r := by
  by_cases hp : p <;> by_cases hq : q <;> simp [h, hp, hq]
theorem layD_all {α : Type} [DecidableEq α] {L : α → PyData} {k : Nat} {G : α → Prop} (h : LayD L k G) : (∀ xs : List α, (∀ x, x ∈ xs → G x) → PyData.canLayAll0 (xs.map L) = true) ∧ (∀ xs : List α, PyData.depthAll (xs.map L) ≤ k) ∧ ∀ xs ys : List α, PyData.eqvAll (xs.map L) (ys.map L) = decide (xs = ys) := by
  refine ⟨fun xs => ?_, fun xs => ?_, fun xs => ?_⟩
  · induction xs with
    | nil => exact fun _ => rfl
    | cons x xs ih =>
      intro g
      rw [List.map_cons]
      simp only [PyData.canLayAll0, ih fun y hy => g y (List.mem_cons_of_mem _ hy), h.lay x (g x List.mem_cons_self)]
      rfl
  · induction xs with
    | nil => exact Nat.zero_le _
    | cons x xs ih => rw [List.map_cons]; simp only [PyData.depthAll]; exact Nat.max_le.mpr ⟨h.dep x, ih⟩
  · induction xs with
    | nil =>
      intro ys
      cases ys with
      | nil => rfl
      | cons y ys => simp [PyData.eqvAll]
    | cons x xs ih =>
      intro ys
      cases ys with
      | nil => simp [PyData.eqvAll]
      | cons y ys =>
        rw [List.map_cons, List.map_cons]
        simp only [PyData.eqvAll]
        rw [ih ys, h.eqv x y]
        exact decide_and2 (by rw [List.cons.injEq])
theorem LayD.list {α : Type} [DecidableEq α] {L : α → PyData} {k : Nat} {G : α → Prop} (h : LayD L k G) : LayD (fun xs : List α => PyData.list (xs.map L)) (k + 1) (fun xs => ∀ x, x ∈ xs → G x) := by
  obtain ⟨h1, h2, h3⟩ := layD_all h
  refine ⟨fun xs g => ?_, fun xs => ?_, fun xs ys => ?_⟩
  · simp only [PyData.canLay0]; exact h1 xs g
  · simp only [PyData.depth]; exact Nat.succ_le_succ (h2 xs)
  · simp only [PyData.eqv]; exact h3 xs ys
theorem LayD.tup2 {α β : Type} [DecidableEq α] [DecidableEq β] {L : α → PyData} {M : β → PyData} {k : Nat} {G : α → Prop} {G2 : β → Prop} (h : LayD L k G) (g : LayD M k G2) : LayD (fun x : α × β => PyData.tuple [L x.1, M x.2]) (k + 1) (fun x => G x.1 ∧ G2 x.2) := by
  refine ⟨fun x a => ?_, fun x => ?_, fun x y => ?_⟩
  · simp only [PyData.canLay0, PyData.canLayAll0, h.lay _ a.1, g.lay _ a.2, Bool.and_true]
  · simp only [PyData.depth, PyData.depthAll]
    have := h.dep x.1
    have := g.dep x.2
    omega
  · simp only [PyData.eqv, PyData.eqvAll, h.eqv, g.eqv, Bool.and_true]
    exact decide_and2 (by rw [Prod.ext_iff])
theorem LayD.tup3 {α β γ : Type} [DecidableEq α] [DecidableEq β] [DecidableEq γ] {L : α → PyData} {M : β → PyData} {N : γ → PyData} {k : Nat} {G : α → Prop} {G2 : β → Prop} {G3 : γ → Prop} (h : LayD L k G) (g : LayD M k G2) (e : LayD N k G3) : LayD (fun x : α × β × γ => PyData.tuple [L x.1, M x.2.1, N x.2.2]) (k + 1) (fun x => G x.1 ∧ G2 x.2.1 ∧ G3 x.2.2) := by
  refine ⟨fun x a => ?_, fun x => ?_, fun x y => ?_⟩
  · simp only [PyData.canLay0, PyData.canLayAll0, h.lay _ a.1, g.lay _ a.2.1, e.lay _ a.2.2, Bool.and_true]
  · simp only [PyData.depth, PyData.depthAll]
    have := h.dep x.1
    have := g.dep x.2.1
    have := e.dep x.2.2
    omega
  · simp only [PyData.eqv, PyData.eqvAll, h.eqv, g.eqv, e.eqv, Bool.and_true]
    rw [decide_and2 (r := x.2 = y.2) (by rw [Prod.ext_iff])]
    exact decide_and2 (by rw [Prod.ext_iff])
theorem LayD.tup4 {α β γ δ : Type} [DecidableEq α] [DecidableEq β] [DecidableEq γ] [DecidableEq δ] {L : α → PyData} {M : β → PyData} {N : γ → PyData} {O : δ → PyData} {k : Nat} {G : α → Prop} {G2 : β → Prop} {G3 : γ → Prop} {G4 : δ → Prop} (h : LayD L k G) (g : LayD M k G2) (e : LayD N k G3) (d : LayD O k G4) : LayD (fun x : α × β × γ × δ => PyData.tuple [L x.1, M x.2.1, N x.2.2.1, O x.2.2.2]) (k + 1) (fun x => G x.1 ∧ G2 x.2.1 ∧ G3 x.2.2.1 ∧ G4 x.2.2.2) := by
  refine ⟨fun x a => ?_, fun x => ?_, fun x y => ?_⟩
  · simp only [PyData.canLay0, PyData.canLayAll0, h.lay _ a.1, g.lay _ a.2.1, e.lay _ a.2.2.1, d.lay _ a.2.2.2, Bool.and_true]
  · simp only [PyData.depth, PyData.depthAll]
    have := h.dep x.1
    have := g.dep x.2.1
    have := e.dep x.2.2.1
    have := d.dep x.2.2.2
    omega
  · simp only [PyData.eqv, PyData.eqvAll, h.eqv, g.eqv, e.eqv, d.eqv, Bool.and_true]
    rw [decide_and2 (r := x.2.2 = y.2.2) (by rw [Prod.ext_iff]), decide_and2 (r := x.2 = y.2) (by rw [Prod.ext_iff])]
    exact decide_and2 (by rw [Prod.ext_iff])
theorem eqL {α : Type} [DecidableEq α] {L : α → PyData} {k : Nat} {G : α → Prop} (h : LayD L k G) (hk : k ≤ 64) {K : PySem.W.Frag} {H : Hp} {x y : V} {a b : α} {Q : VK} (ga : G a) (gb : G b) (h1 : Dp K H x (L a)) (h2 : Dp K H y (L b)) (q : Q (.bl (decide (a = b))) H) : rEqD K x y H Q :=
  ⟨_, _, h1, h2, h.shaped hk ga, h.shaped hk gb, by rw [h.eqv]; exact q⟩
theorem neL {α : Type} [DecidableEq α] {L : α → PyData} {k : Nat} {G : α → Prop} (h : LayD L k G) (hk : k ≤ 64) {K : PySem.W.Frag} {H : Hp} {x y : V} {a b : α} {Q : VK} (ga : G a) (gb : G b) (h1 : Dp K H x (L a)) (h2 : Dp K H y (L b)) (q : Q (.bl (!decide (a = b))) H) : rNeD K x y H Q :=
  ⟨_, _, h1, h2, h.shaped hk ga, h.shaped hk gb, by rw [h.eqv]; exact q⟩
theorem dpAll_refs {α : Type} {L : α → PyData} {K : PySem.W.Frag} {H : Hp} : ∀ {ps : List Addr} {xs : List α}, ps.length = xs.length → (∀ (i : Nat) (p : Addr) (x : α), ps[i]? = some p → xs[i]? = some x → Dp K H (.ref p) (L x)) → DpAll K H (ps.map V.ref) (xs.map L)
  | [], [], _, _ => .nil
  | [], _ :: _, h, _ => by cases h
  | _ :: _, [], h, _ => by cases h
  | p :: ps, x :: xs, h, e => .cons (e 0 p x rfl rfl) (dpAll_refs (Nat.succ.inj h) fun i p' x' h1 h2 => e (i + 1) p' x' h1 h2)

/-- for i, x in enumerate(xs): each turn a new pair -/
theorem for_enum {K : PySem.W.Frag} {a : Addr} {xs : List V} {g : TG} {tb : TS} {D : Ends} {σ : L2.St} {H : Hp} (Pv : Nat → L2.St → Hp → Prop) (h0 : Pv 0 σ H) (hl : ∀ i σ H, i ≤ xs.length → Pv i σ H → SqL K H a xs)
    (hs : ∀ (i : Nat) (x : V) (σ : L2.St) (H : Hp) (T : Addr), xs[i]? = some x → Pv i σ H → H T = none → g (.ref T) σ (upd H T (.tup [.int (i : Int), x])) fun σ2 H2 => tb { D with nx := Pv (i + 1), ct := Pv (i + 1), bk := D.nx } σ2 H2) (hd : ∀ σ H, Pv xs.length σ H → D.nx σ H) :
    ∃ W : Nat → Nat → L2.St → Hp → Prop, (∃ m, W 0 m σ H) ∧ ∀ i m σ H, W i m σ H →
      ((Ite K a).stop i H ∧ D.nx σ H) ∨ ((Ite K a).go i H ∧ ∃ N : L2.St → Hp → Prop, (∀ σ' H', N σ' H' → ∃ m', m' < m ∧ W (i + 1) m' σ' H') ∧ ∀ x H', (Ite K a).yld i H x H' → g x σ H' fun σ2 H2 => tb { D with nx := N, ct := N, bk := D.nx } σ2 H2) := by
  refine ⟨fun i m σ H => m + i = xs.length ∧ Pv i σ H, ⟨xs.length, rfl, h0⟩, ?_⟩
  rintro i m σ H ⟨em, p⟩
  have q := hl i σ H (by omega) p
  by_cases hlt : i < xs.length
  · refine .inr ⟨⟨xs, xs[i], q, List.getElem?_eq_getElem hlt⟩, Pv (i + 1), fun σ' H' p' => ⟨m - 1, by omega, by omega, p'⟩, fun x H' y => ?_⟩
    obtain ⟨T, z, rfl, nT, rfl, hz⟩ := y
    exact hs i z σ H T (hz xs q) p nT
  · have e : i = xs.length := by omega
    subst e
    exact .inl ⟨⟨xs, q, Nat.le_refl _⟩, hd σ H p⟩
theorem call_int_b {X : Cx} : CallR X (.type "int") (fun xs H Q => ∃ b : Bool, xs = [.bl b] ∧ Q (.int (if b = true then 1 else 0)) H) := by
  intro pins s σ H xs us Q I r h
  obtain ⟨i, e, q⟩ := h
  exact call_int1 pins s σ H xs us Q I r (.inr ⟨i, e, q⟩)

/-- the first n values of g -/
def rowI (n : Nat) (g : Nat → Int) : List Int := (List.range n).map g
theorem rowI_len (n : Nat) (g : Nat → Int) : (rowI n g).length = n := by
  unfold rowI
  rw [List.length_map, List.length_range]
theorem rowI_at {n : Nat} {g : Nat → Int} {i : Nat} (h : i < n) : (rowI n g)[i]? = some (g i) := by
  unfold rowI
  rw [List.getElem?_map, List.getElem?_range h]
  rfl
theorem atI_row {n : Nat} {g : Nat → Int} {i : Nat} (h : i < n) : atI ((rowI n g).map V.int) (i : Int) = some (.int (g i)) := by
  refine at_of (j := i) rfl ?_
  rw [List.getElem?_map, rowI_at h]
  rfl
theorem rowI_succ (n : Nat) (g : Nat → Int) : rowI (n + 1) g = rowI n g ++ [g n] := by
  unfold rowI
  rw [List.range_succ, List.map_append]
  rfl
theorem rowI_eq {n : Nat} {f g : Nat → Int} : rowI n f = rowI n g ↔ ∀ i, i < n → f i = g i := by
  unfold rowI
  rw [List.map_inj_left]
  exact ⟨fun h i hi => h i (List.mem_range.mpr hi), fun h i hi => h i (List.mem_range.mp hi)⟩
theorem rowI_of (ws : List Int) : rowI ws.length (at0 ws) = ws := by
  refine List.ext_getElem? fun i => ?_
  by_cases h : i < ws.length
  · rw [rowI_at h, at0_lt h]
  · rw [List.getElem?_eq_none (by rw [rowI_len]; omega), List.getElem?_eq_none (by omega)]
theorem rowI_mem {n : Nat} {g : Nat → Int} {x : Int} : x ∈ rowI n g ↔ ∃ i, i < n ∧ g i = x := by
  unfold rowI
  rw [List.mem_map]
  exact ⟨fun ⟨i, h, e⟩ => ⟨i, List.mem_range.mp h, e⟩, fun ⟨i, h, e⟩ => ⟨i, List.mem_range.mpr h, e⟩⟩
/-- the sum of the first n values of g -/
def sumI (n : Nat) (g : Nat → Int) : Int := (rowI n g).sum
theorem sumI_succ (n : Nat) (g : Nat → Int) : sumI (n + 1) g = sumI n g + g n := by
  unfold sumI
  rw [rowI_succ, List.sum_append, List.sum_cons, List.sum_nil]
  omega
theorem sumI_congr {n : Nat} {f g : Nat → Int} (h : ∀ i, i < n → f i = g i) : sumI n f = sumI n g := by
  unfold sumI
  rw [rowI_eq.mpr h]
theorem sumI_sub : ∀ (n : Nat) (f g : Nat → Int), sumI n (fun i => f i - g i) = sumI n f - sumI n g
  | 0, _, _ => rfl
  | n + 1, f, g => by rw [sumI_succ, sumI_succ, sumI_succ, sumI_sub n f g]; omega
theorem sumI_bound {n : Nat} {g : Nat → Int} {m : Int} (h : ∀ i, i < n → 0 ≤ g i ∧ g i ≤ m) : 0 ≤ sumI n g ∧ sumI n g ≤ n * m := by
  induction n with
  | zero => exact ⟨Int.le_refl 0, by show (0 : Int) ≤ ((0 : Nat) : Int) * m; omega⟩
  | succ n ih =>
    have h1 := ih fun i hi => h i (by omega)
    have h2 := h n (by omega)
    rw [sumI_succ]
    have e : ((n + 1 : Nat) : Int) * m = n * m + m := by rw [Int.natCast_add, Int.add_mul]; omega
    omega
/-- a square table of numbers, its rows at ps -/
structure Tab (H : Hp) (t : Addr) (ps : List Addr) (n : Nat) (f : Nat → Nat → Int) : Prop where
  lst : H t = some (.lst (ps.map V.ref))
  len : ps.length = n
  row : ∀ i p, ps[i]? = some p → H p = some (.lst ((rowI n (f i)).map V.int))
  nod : ps.Nodup
  out : t ∉ ps
theorem Tab.same {H H' : Hp} {t : Addr} {ps : List Addr} {n : Nat} {f : Nat → Nat → Int} (h : Tab H t ps n f) (e : Same H H') : Tab H' t ps n f :=
  ⟨e _ _ h.lst, h.len, fun i p hp => e _ _ (h.row i p hp), h.nod, h.out⟩
def tabL (n : Nat) (f : Nat → Nat → Int) : List (List Int) := (List.range n).map fun i => rowI n (f i)
theorem tabL_at {n : Nat} {f : Nat → Nat → Int} {i : Nat} (h : i < n) : (tabL n f)[i]? = some (rowI n (f i)) := by
  unfold tabL
  rw [List.getElem?_map, List.getElem?_range h]
  rfl
theorem tabL_eq {n : Nat} {f g : Nat → Nat → Int} : tabL n f = tabL n g ↔ ∀ i, i < n → ∀ j, j < n → f i j = g i j := by
  unfold tabL
  rw [List.map_inj_left]
  exact ⟨fun h i hi => rowI_eq.mp (h i (List.mem_range.mpr hi)), fun h i hi => rowI_eq.mpr (h i (List.mem_range.mp hi))⟩
theorem layD_tab : LayD (fun xs : List (List Int) => PyData.list (xs.map fun ys => PyData.list (ys.map PyData.int))) 2 (fun xs => ∀ x, x ∈ xs → ∀ y, y ∈ x → True) := layD_int.list.list
theorem Tab.dp {K : PySem.W.Frag} {H : Hp} {t : Addr} {ps : List Addr} {n : Nat} {f : Nat → Nat → Int} (h : Tab H t ps n f) : Dp K H (.ref t) (PyData.list ((tabL n f).map fun ys => PyData.list (ys.map PyData.int))) := by
  refine .lst (SqL.of h.lst) (dpAll_refs ?_ fun i p x h1 h2 => ?_)
  · rw [h.len]
    unfold tabL
    rw [List.length_map, List.length_range]
  · have hi := (List.getElem?_eq_some_iff.mp h1).1
    rw [h.len] at hi
    rw [tabL_at hi] at h2
    cases h2
    exact .lst (SqL.of (h.row i p h1)) (dpAll_ints _)
theorem refs_at {ps : List Addr} {i : Nat} {x : V} (h : (ps.map V.ref)[i]? = some x) : ∃ p, ps[i]? = some p ∧ x = V.ref p := by
  rw [List.getElem?_map] at h
  cases e : ps[i]? with
  | none => rw [e] at h; cases h
  | some z => rw [e] at h; exact ⟨z, rfl, (Option.some.inj h).symm⟩
theorem Tab.at {H : Hp} {t : Addr} {ps : List Addr} {n : Nat} {f : Nat → Nat → Int} (h : Tab H t ps n f) {i : Nat} (hi : i < n) : ∃ p, ps[i]? = some p ∧ atI (ps.map V.ref) (i : Int) = some (.ref p) ∧ H p = some (.lst ((rowI n (f i)).map V.int)) := by
  have hl : i < ps.length := by rw [h.len]; exact hi
  refine ⟨ps[i], List.getElem?_eq_getElem hl, at_of (j := i) rfl ?_, h.row i _ (List.getElem?_eq_getElem hl)⟩
  rw [List.getElem?_map, List.getElem?_eq_getElem hl]
  rfl

/-- a table that grows: m rows of n numbers -/
structure TabR (H : Hp) (t : Addr) (ps : List Addr) (m n : Nat) (f : Nat → Nat → Int) : Prop where
  lst : H t = some (.lst (ps.map V.ref))
  len : ps.length = m
  row : ∀ i p, ps[i]? = some p → H p = some (.lst ((rowI n (f i)).map V.int))
  nod : ps.Nodup
  out : t ∉ ps
theorem TabR.nil {H : Hp} {t : Addr} (n : Nat) (f : Nat → Nat → Int) (h : H t = some (.lst [])) : TabR H t [] 0 n f :=
  ⟨h, rfl, fun _ _ e => (by rw [List.getElem?_nil] at e; cases e), List.nodup_nil, fun h => (by cases h)⟩
theorem TabR.congr {H : Hp} {t : Addr} {ps : List Addr} {m n : Nat} {f g : Nat → Nat → Int} (h : TabR H t ps m n f) (e : ∀ i, i < m → ∀ j, j < n → f i j = g i j) : TabR H t ps m n g :=
  ⟨h.lst, h.len, fun i p hp => by
    have hi := (List.getElem?_eq_some_iff.mp hp).1
    rw [h.row i p hp, rowI_eq.mpr (e i (by rw [← h.len]; exact hi))], h.nod, h.out⟩
theorem TabR.push {H H' : Hp} {t p : Addr} {ps : List Addr} {m n : Nat} {f : Nat → Nat → Int} (h : TabR H t ps m n f) (e : Same H H') (np : H p = none) (hp : H' p = some (.lst ((rowI n (f m)).map V.int))) : TabR (upd H' t (.lst (ps.map V.ref ++ [V.ref p]))) t (ps ++ [p]) (m + 1) n f := by
  have hmem : ∀ q, q ∈ ps → ∃ o, H q = some o := fun q hq => by
    obtain ⟨i, hi⟩ := List.mem_iff_getElem?.mp hq
    exact ⟨_, h.row i q hi⟩
  have hpt : p ≠ t := fun z => by rw [z, h.lst] at np; cases np
  have hnp : p ∉ ps := fun z => by
    obtain ⟨o, ho⟩ := hmem p z
    rw [np] at ho
    cases ho
  refine ⟨?_, ?_, fun i q hq => ?_, ?_, ?_⟩
  · rw [upd_same, List.map_append]
    rfl
  · rw [List.length_append, h.len]
    rfl
  · by_cases hi : i < ps.length
    · rw [List.getElem?_append_left hi] at hq
      have hm := List.mem_of_getElem? hq
      rw [upd_ne (fun z => h.out (by rw [← z]; exact hm))]
      exact e _ _ (h.row i q hq)
    · rw [List.getElem?_append_right (by omega)] at hq
      have hi2 := (List.getElem?_eq_some_iff.mp hq).1
      have : i - ps.length = 0 := by
        rw [List.length_cons, List.length_nil] at hi2
        omega
      rw [this] at hq
      have hqp : p = q := Option.some.inj hq
      subst hqp
      rw [upd_ne hpt, hp]
      have : i = m := by have := h.len; omega
      rw [this]
  · rw [List.nodup_append]
    refine ⟨h.nod, List.nodup_cons.mpr ⟨fun z => (by cases z), List.nodup_nil⟩, fun a ha b hb z => ?_⟩
    rw [List.mem_singleton] at hb
    rw [hb] at z
    rw [z] at ha
    exact hnp ha
  · intro z
    rcases List.mem_append.mp z with z | z
    · exact h.out z
    · rw [List.mem_singleton] at z
      exact hpt z.symm
theorem TabR.tab {H : Hp} {t : Addr} {ps : List Addr} {n : Nat} {f : Nat → Nat → Int} (h : TabR H t ps n n f) : Tab H t ps n f := ⟨h.lst, h.len, h.row, h.nod, h.out⟩
theorem TabR.keep {H H0 : Hp} {t : Addr} {xs : List V} (s : Same H0 H) (nt : H0 t = none) : Same H0 (upd H t (.lst xs)) := fun b o e => by
  rw [upd_ne (ne_of_none e nt)]
  exact s b o e
/-- debts: one to thirteen houses, nobody owes itself -/
structure Debts (n : Nat) (f : Nat → Nat → Int) (m : Int) : Prop where
  n0 : 1 ≤ n
  n1 : n ≤ 13
  b : ∀ i, i < n → ∀ j, j < n → 0 ≤ f i j ∧ f i j ≤ m
  d : ∀ i, i < n → f i i = 0
theorem Debts.mono {n : Nat} {f : Nat → Nat → Int} {m k : Int} (h : Debts n f m) (e : m ≤ k) : Debts n f k := ⟨h.n0, h.n1, fun i hi j hj => ⟨(h.b i hi j hj).1, Int.le_trans (h.b i hi j hj).2 e⟩, h.d⟩

theorem TabR.same {H H' : Hp} {t : Addr} {ps : List Addr} {m n : Nat} {f : Nat → Nat → Int} (h : TabR H t ps m n f) (e : Same H H') : TabR H' t ps m n f :=
  ⟨e _ _ h.lst, h.len, fun i p hp => e _ _ (h.row i p hp), h.nod, h.out⟩
theorem TabR.at {H : Hp} {t : Addr} {ps : List Addr} {m n : Nat} {f : Nat → Nat → Int} (h : TabR H t ps m n f) {i : Nat} (hi : i < m) : ∃ p, ps[i]? = some p ∧ atI (ps.map V.ref) (i : Int) = some (.ref p) ∧ H p = some (.lst ((rowI n (f i)).map V.int)) := by
  have hl : i < ps.length := by rw [h.len]; exact hi
  refine ⟨ps[i], List.getElem?_eq_getElem hl, at_of (j := i) rfl ?_, h.row i _ (List.getElem?_eq_getElem hl)⟩
  rw [List.getElem?_map, List.getElem?_eq_getElem hl]
  rfl
/-- [list(row) for row in t]: a table copied -/
theorem lc_copyR {K : PySem.W.Frag} {t : Addr} {ps : List Addr} {m n : Nat} {f : Nat → Nat → Int} {σ : L2.St} {H1 : Hp} {D : Addr} {j : Nat} {Qd : Hp → Prop} (ht : TabR H1 t ps m n f) (hm : m ≤ 900) (hn : n ≤ 900) (nD : H1 D = none) (hj : Nat.ble (j + 1) σ.length = true)
    (q : ∀ H' qs, Same H1 H' → TabR H' D qs m n f → (∀ q, q ∈ qs → H1 q = none) → Qd H') :
    ∃ W : Nat → Nat → Hp → Prop, (∃ m, W 0 m (upd H1 D (.lst []))) ∧ ∀ i m H, W i m H →
      ((Itl K t).stop i H ∧ Qd H) ∨ ((Itl K t).go i H ∧ ∃ Nx : Hp → Prop, (∀ H', Nx H' → ∃ m', m' < m ∧ W (i + 1) m' H') ∧ ∀ x H', (Itl K t).yld i H x H' → gName j x (wipe σ [j]) H' fun σ2 H2 => wipe σ2 [j] = wipe σ [j] ∧ tYes σ2 H2 fun b H3 =>
        if b = true then tCB (rListOf K) (tCons (tVar j) tNil) σ2 H3 fun y H4 => ∃ acc, H4 D = some (.lst acc) ∧ acc.length < sizeLine ∧ Nx (upd H4 D (.lst (acc ++ [y]))) else Nx H3) := by
  have hs : SqL K H1 t (ps.map V.ref) := SqL.of ht.lst
  have hj' : j < (wipe σ [j]).length := by rw [wipe_length]; exact Nat.le_of_ble_eq_true hj
  refine lc_list (K := K) (a := t) (xs := ps.map V.ref) (fun i H' => ∃ qs, TabR H' D qs i n f ∧ Same H1 H' ∧ ∀ q, q ∈ qs → H1 q = none) ⟨[], .nil n f upd_same, same_upd nD, fun _ h => by cases h⟩ (fun i H' _ ⟨_, _, e, _⟩ => e.seq hs) ?_ ?_
  · rintro i x H' hx ⟨qs, hT, e, hfree⟩
    obtain ⟨p, hp, rfl⟩ := refs_at hx
    have hi := (List.getElem?_eq_some_iff.mp hp).1
    rw [ht.len] at hi
    refine ⟨?_, ?_⟩
    · show ((wipe σ [j]).set j (some (V.ref p))).set j none = σ.set j none
      show ((σ.set j none).set j (some (V.ref p))).set j none = σ.set j none
      rw [List.set_set, List.set_set]
    · refine ⟨_, List.getElem?_set_self hj', p, (rowI n (f i)).map V.int, rfl, .inl (e.seq (SqL.of (ht.row i p hp))), fun l nl => ?_⟩
      have sl := same_upd (o := .lst ((rowI n (f i)).map V.int)) nl
      refine ⟨_, sl _ _ hT.lst, ?_, qs ++ [l], hT.push sl nl upd_same, TabR.keep (e.trans sl) nD, fun q hq => ?_⟩
      · refine small1000 ?_
        rw [List.length_map, hT.len]
        omega
      · rcases List.mem_append.mp hq with hq | hq
        · exact hfree q hq
        · rw [List.mem_singleton.mp hq]
          exact e.free nl
  · rintro H' ⟨qs, hT, e, hfree⟩
    rw [List.length_map, ht.len] at hT
    exact q H' qs e hT hfree

/-- a list of tuples: the tuple of each item -/
structure Tups {α : Type} (enc : α → List V) (H : Hp) (l : Addr) (ps : List Addr) (xs : List α) : Prop where
  lst : H l = some (.lst (ps.map V.ref))
  len : ps.length = xs.length
  row : ∀ (i : Nat) (p : Addr) (x : α), ps[i]? = some p → xs[i]? = some x → H p = some (.tup (enc x))
theorem Tups.nil {α : Type} {enc : α → List V} {H : Hp} {l : Addr} (h : H l = some (.lst [])) : Tups enc H l [] ([] : List α) :=
  ⟨h, rfl, fun _ _ _ e => (by rw [List.getElem?_nil] at e; cases e)⟩
theorem Tups.same {α : Type} {enc : α → List V} {H H' : Hp} {l : Addr} {ps : List Addr} {xs : List α} (h : Tups enc H l ps xs) (e : Same H H') : Tups enc H' l ps xs :=
  ⟨e _ _ h.lst, h.len, fun i p x a b => e _ _ (h.row i p x a b)⟩
theorem Tups.at {α : Type} {enc : α → List V} {H : Hp} {l : Addr} {ps : List Addr} {xs : List α} (h : Tups enc H l ps xs) {i : Nat} {x : α} (e : xs[i]? = some x) : ∃ p, ps[i]? = some p ∧ atI (ps.map V.ref) (i : Int) = some (.ref p) ∧ H p = some (.tup (enc x)) := by
  have hi := (List.getElem?_eq_some_iff.mp e).1
  have hl : i < ps.length := by rw [h.len]; exact hi
  refine ⟨ps[i], List.getElem?_eq_getElem hl, at_of (j := i) rfl ?_, h.row i _ x (List.getElem?_eq_getElem hl) e⟩
  rw [List.getElem?_map, List.getElem?_eq_getElem hl]
  rfl
theorem Tups.item {α : Type} {enc : α → List V} {H : Hp} {l : Addr} {ps : List Addr} {xs : List α} (h : Tups enc H l ps xs) {i : Nat} {v : V} (e : (ps.map V.ref)[i]? = some v) : ∃ p x, ps[i]? = some p ∧ xs[i]? = some x ∧ v = .ref p ∧ H p = some (.tup (enc x)) := by
  obtain ⟨p, hp, rfl⟩ := refs_at e
  have hi := (List.getElem?_eq_some_iff.mp hp).1
  rw [h.len] at hi
  exact ⟨p, xs[i], hp, List.getElem?_eq_getElem hi, rfl, h.row i p _ hp (List.getElem?_eq_getElem hi)⟩
theorem Tups.push {α : Type} {enc : α → List V} {H H' : Hp} {l p : Addr} {ps : List Addr} {xs : List α} {x : α} (h : Tups enc H l ps xs) (e : Same H H') (np : H p = none) (hp : H' p = some (.tup (enc x))) : Tups enc (upd H' l (.lst (ps.map V.ref ++ [V.ref p]))) l (ps ++ [p]) (xs ++ [x]) := by
  have hpl : p ≠ l := fun z => by rw [z, h.lst] at np; cases np
  refine ⟨?_, ?_, fun i q y hq hy => ?_⟩
  · rw [upd_same, List.map_append]
    rfl
  · rw [List.length_append, List.length_append, h.len]
    rfl
  · by_cases hi : i < ps.length
    · rw [List.getElem?_append_left hi] at hq
      rw [List.getElem?_append_left (by rw [← h.len]; exact hi)] at hy
      have hq2 := h.row i q y hq hy
      rw [upd_ne (fun z => by rw [z, h.lst] at hq2; cases hq2)]
      exact e _ _ hq2
    · rw [List.getElem?_append_right (by omega)] at hq
      rw [List.getElem?_append_right (by have := h.len; omega)] at hy
      have h1 := (List.getElem?_eq_some_iff.mp hq).1
      rw [List.length_cons, List.length_nil] at h1
      have e0 : i - ps.length = 0 := by omega
      have e1 : i - xs.length = 0 := by have := h.len; omega
      rw [e0] at hq
      rw [e1] at hy
      have z1 : p = q := Option.some.inj hq
      have z2 : x = y := Option.some.inj hy
      rw [← z1, ← z2, upd_ne hpl]
      exact hp
theorem Tups.dp {α : Type} {enc : α → List V} {L : α → PyData} {K : PySem.W.Frag} {H : Hp} {l : Addr} {ps : List Addr} {xs : List α} (h : Tups enc H l ps xs) (he : ∀ x (p : Addr), H p = some (.tup (enc x)) → Dp K H (.ref p) (L x)) : Dp K H (.ref l) (PyData.list (xs.map L)) :=
  .lst (SqL.of h.lst) (dpAll_refs h.len fun i p x h1 h2 => he x p (h.row i p x h1 h2))
def enc2 (x : Int × Int) : List V := [.int x.1, .int x.2]
def enc3 (x : Int × Int × Int) : List V := [.int x.1, .int x.2.1, .int x.2.2]
def lay3 (x : Int × Int × Int) : PyData := .tuple [.int x.1, .int x.2.1, .int x.2.2]
theorem layD_3 : LayD lay3 1 (fun x => True ∧ True ∧ True) := layD_int.tup3 layD_int layD_int
theorem dp3 {K : PySem.W.Frag} {H : Hp} (x : Int × Int × Int) (p : Addr) (h : H p = some (.tup (enc3 x))) : Dp K H (.ref p) (lay3 x) :=
  .tup (SqT.of h) (.cons (.int _) (.cons (.int _) (.cons (.int _) .nil)))
theorem Tups.push2 {α : Type} {enc : α → List V} {H : Hp} {l p : Addr} {ps : List Addr} {xs : List α} {x : α} (h : Tups enc H l ps xs) (hp : H p = some (.tup (enc x))) : Tups enc (upd H l (.lst (ps.map V.ref ++ [V.ref p]))) l (ps ++ [p]) (xs ++ [x]) := by
  have hpl : p ≠ l := fun z => by rw [z, h.lst] at hp; cases hp
  refine ⟨?_, ?_, fun i q y hq hy => ?_⟩
  · rw [upd_same, List.map_append]
    rfl
  · rw [List.length_append, List.length_append, h.len]
    rfl
  · by_cases hi : i < ps.length
    · rw [List.getElem?_append_left hi] at hq
      rw [List.getElem?_append_left (by rw [← h.len]; exact hi)] at hy
      have hq2 := h.row i q y hq hy
      rw [upd_ne (fun z => by rw [z, h.lst] at hq2; cases hq2)]
      exact hq2
    · rw [List.getElem?_append_right (by omega)] at hq
      rw [List.getElem?_append_right (by have := h.len; omega)] at hy
      have h1 := (List.getElem?_eq_some_iff.mp hq).1
      rw [List.length_cons, List.length_nil] at h1
      have e0 : i - ps.length = 0 := by omega
      have e1 : i - xs.length = 0 := by have := h.len; omega
      rw [e0] at hq
      rw [e1] at hy
      have z1 : p = q := Option.some.inj hq
      have z2 : x = y := Option.some.inj hy
      rw [← z1, ← z2, upd_ne hpl]
      exact hp
theorem Tups.copy {α : Type} {enc : α → List V} {H H' : Hp} {l l2 : Addr} {ps : List Addr} {xs : List α} (h : Tups enc H l ps xs) (e : Same H H') (h2 : H' l2 = some (.lst (ps.map V.ref))) : Tups enc H' l2 ps xs :=
  ⟨h2, h.len, fun i p x a b => e _ _ (h.row i p x a b)⟩
theorem Tups.other {α : Type} {enc : α → List V} {H : Hp} {l A : Addr} {ps : List Addr} {xs : List α} {ys zs : List V} (h : Tups enc H l ps xs) (hA : H A = some (.lst ys)) (ne : l ≠ A) : Tups enc (upd H A (.lst zs)) l ps xs :=
  ⟨by rw [upd_ne ne]; exact h.lst, h.len, fun i p x a b => by
    have hp := h.row i p x a b
    rw [upd_ne (fun z => by rw [z, hA] at hp; cases hp)]
    exact hp⟩

/-- a comprehension over zip of two lists of one length: each turn a new pair -/
theorem lc_zip {K : PySem.W.Frag} {a b : Addr} {xs ys : List V} {g : TG} {tt : TT} {te : TE} {vs : List Nat} {σ : L2.St} {H1 : Hp} {D : Addr} {Qd : Hp → Prop} (el : xs.length = ys.length) (Pv : Nat → Hp → Prop) (h0 : Pv 0 (upd H1 D (.lst []))) (hl : ∀ i H, i ≤ xs.length → Pv i H → SqL K H a xs ∧ SqL K H b ys)
    (hs : ∀ (i : Nat) (x y : V) (H : Hp) (T : Addr), xs[i]? = some x → ys[i]? = some y → Pv i H → H T = none → g (.ref T) (wipe σ vs) (upd H T (.tup [x, y])) fun σ2 H2 => wipe σ2 vs = wipe σ vs ∧ tt σ2 H2 fun b H3 =>
      if b = true then te σ2 H3 fun y H4 => ∃ acc, H4 D = some (.lst acc) ∧ acc.length < sizeLine ∧ Pv (i + 1) (upd H4 D (.lst (acc ++ [y]))) else Pv (i + 1) H3) (hd : ∀ H, Pv xs.length H → Qd H) :
    ∃ W : Nat → Nat → Hp → Prop, (∃ m, W 0 m (upd H1 D (.lst []))) ∧ ∀ i m H, W i m H →
      ((Itz K a b).stop i H ∧ Qd H) ∨ ((Itz K a b).go i H ∧ ∃ Nx : Hp → Prop, (∀ H', Nx H' → ∃ m', m' < m ∧ W (i + 1) m' H') ∧ ∀ x H', (Itz K a b).yld i H x H' → g x (wipe σ vs) H' fun σ2 H2 => wipe σ2 vs = wipe σ vs ∧ tt σ2 H2 fun b H3 =>
        if b = true then te σ2 H3 fun y H4 => ∃ acc, H4 D = some (.lst acc) ∧ acc.length < sizeLine ∧ Nx (upd H4 D (.lst (acc ++ [y]))) else Nx H3) := by
  refine ⟨fun i m H => m + i = xs.length ∧ Pv i H, ⟨xs.length, rfl, h0⟩, ?_⟩
  rintro i m H ⟨em, p⟩
  obtain ⟨q1, q2⟩ := hl i H (by omega) p
  by_cases hlt : i < xs.length
  · refine .inr ⟨⟨xs, ys, xs[i], ys[i]'(by omega), q1, q2, List.getElem?_eq_getElem hlt, List.getElem?_eq_getElem (by omega)⟩, Pv (i + 1), fun H' p' => ⟨m - 1, by omega, by omega, p'⟩, fun x H' y => ?_⟩
    obtain ⟨T, z1, z2, rfl, nT, rfl, f1, f2⟩ := y
    exact hs i z1 z2 H T (f1 xs q1) (f2 ys q2) p nT
  · have e : i = xs.length := by omega
    subst e
    exact .inl ⟨⟨xs, ys, q1, q2, .inl (Nat.le_refl _)⟩, hd H p⟩

/-- the loss of positions in a scenario -/
def lossI (n : Nat) (p s : Nat → Int) : Int := -sumI n fun i => p i * s i
/-- the greatest of the first m losses above nought, and where it stands first -/
def reqI : Nat → (Nat → Int) → Int × Option Nat
  | 0, _ => (0, none)
  | m + 1, L => if L m > (reqI m L).1 then (L m, some m) else reqI m L
def optV : Option Nat → V
  | none => .non
  | some k => .int (k : Int)
theorem reqI_succ (m : Nat) (L : Nat → Int) : reqI (m + 1) L = if L m > (reqI m L).1 then (L m, some m) else reqI m L := rfl
theorem reqI_nn : ∀ (m : Nat) (L : Nat → Int), 0 ≤ (reqI m L).1
  | 0, _ => Int.le_refl 0
  | m + 1, L => by
    rw [reqI_succ]
    have := reqI_nn m L
    split
    · show 0 ≤ L m
      omega
    · exact this
theorem reqI_le : ∀ (m : Nat) (L : Nat → Int) (k : Nat), k < m → L k ≤ (reqI m L).1
  | 0, _, _, h => by omega
  | m + 1, L, k, h => by
    rw [reqI_succ]
    by_cases e : k = m
    · subst e
      split
      · exact Int.le_refl _
      · omega
    · have := reqI_le m L k (by omega)
      split
      · show L k ≤ L m
        omega
      · exact this
theorem reqI_spec : ∀ (m : Nat) (L : Nat → Int), ((reqI m L).1 = 0 ∧ (reqI m L).2 = none) ∨ ∃ k, k < m ∧ 0 < (reqI m L).1 ∧ (reqI m L).2 = some k ∧ L k = (reqI m L).1 ∧ ∀ j, j < k → L j < (reqI m L).1
  | 0, _ => .inl ⟨rfl, rfl⟩
  | m + 1, L => by
    rw [reqI_succ]
    by_cases h : L m > (reqI m L).1
    · rw [if_pos h]
      have := reqI_nn m L
      exact .inr ⟨m, by omega, show 0 < L m by omega, rfl, rfl, fun j hj => by have := reqI_le m L j hj; show L j < L m; omega⟩
    · rw [if_neg h]
      rcases reqI_spec m L with h1 | ⟨k, h1, h2⟩
      · exact .inl h1
      · exact .inr ⟨k, by omega, h2⟩
theorem reqI_congr : ∀ (m : Nat) {L M : Nat → Int}, (∀ k, k < m → L k = M k) → reqI m L = reqI m M
  | 0, _, _, _ => rfl
  | m + 1, L, M, h => by rw [reqI_succ, reqI_succ, reqI_congr m fun k hk => h k (by omega), h m (by omega)]
/-- what open orders can lose in a scenario -/
def ordI (s : Nat → Int) : List (Int × Int) → Int
  | [] => 0
  | x :: xs => ordI s xs + max 0 (-x.2 * s x.1.toNat)
theorem ordI_append (s : Nat → Int) : ∀ (xs : List (Int × Int)) (x : Int × Int), ordI s (xs ++ [x]) = ordI s xs + max 0 (-x.2 * s x.1.toNat)
  | [], x => by show 0 + _ = 0 + _; rfl
  | y :: xs, x => by
    show ordI s (xs ++ [x]) + _ = ordI s xs + _ + _
    rw [ordI_append s xs x]
    omega

theorem flat_ints : ∀ xs : List Int, (xs.map V.int).all flatV = true
  | [] => rfl
  | x :: xs => by
    rw [List.map_cons, List.all_cons, flat_ints xs]
    rfl
theorem eqV_ints (x y : Int) : eqV (V.int x) (V.int y) = decide (x = y) := by
  show (x == y) = _
  exact Bool.beq_eq_decide_eq x y
theorem inV_ints (x : Int) : ∀ xs : List Int, inV (V.int x) (xs.map V.int) = decide (x ∈ xs)
  | [] => rfl
  | y :: xs => by
    have ih := inV_ints x xs
    unfold inV at ih ⊢
    rw [List.map_cons, List.any_cons, ih, eqV_ints]
    by_cases h : y = x
    · rw [decide_eq_true h, Bool.true_or, decide_eq_true (by rw [h]; exact List.mem_cons_self)]
    · rw [decide_eq_false h, Bool.false_or]
      exact decide_eq_decide.mpr ⟨fun z => List.mem_cons_of_mem _ z, fun z => (List.mem_cons.mp z).resolve_left fun e => h e.symm⟩

section
variable {P : Program} {w : World} {K : PySem.W.Frag} {mg : Str → Option Value} {base : Heap}
/-- the told number of cells, drawn into a range -/
def sp_law_numbers (K : PySem.W.Frag) : Sp := fun vs H Q _ => ∃ (a : Addr) (ns : List Int) (start cnt low high : Int), vs = [.ref a, .int start, .int cnt, .int low, .int high] ∧ SqL K H a (ns.map V.int) ∧ 0 ≤ start ∧ 0 ≤ cnt ∧ cnt ≤ 100 ∧ low ≤ high ∧ -10000000000 ≤ low ∧ high ≤ 10000000000 ∧
  ∀ p H' (n : Nat) (f : Nat → Int), cnt = (n : Int) → Same H H' → H p = none → H' p = some (.lst ((rowI n f).map V.int)) → (∀ i, low ≤ f i ∧ f i ≤ high) → Q (.ref p) H'
set_option maxHeartbeats 0 in
theorem ok_law_numbers (T : Txt K mg) : FnOk P w K mg base CX0 1 T.f_law_numbers T.d_law_numbers ["script", "start", "count", "low", "high"] (sp_law_numbers K) := by
  refine T.F_law_numbers.ok sc_law_numbers (fun vs H Q E h => ?_) (fun cdv A outer s H vs Q E hr h => ?_)
  · obtain ⟨a, ns, start, cnt, low, high, rfl, _⟩ := h
    rfl
  · obtain ⟨a, ns, start', cnt, low, high, rfl, hs, h0, hn0, hn, hlh, hl, hh, q⟩ := h
    obtain ⟨n, rfl⟩ : ∃ n : Nat, cnt = (n : Int) := ⟨cnt.toNat, by omega⟩
    obtain ⟨start, rfl⟩ : ∃ start : Nat, start' = (start : Int) := ⟨start'.toNat, by omega⟩
    refine ⟨_, (pss_cons (ps_set (i := 5) sc_law_numbers.nd rfl (Or.inl rfl) (pe_lst pa_nil))
    (pss_cons (ps_for PassesOwn.never rfl (pi_range1 (by rfl) T.z_range (pa_cons (pv 2) pa_nil)) (pg_name (i := 6) sc_law_numbers.nd rfl (Or.inl rfl))
      (pss_cons (ps_set (i := 7) sc_law_numbers.nd rfl (Or.inl rfl) (pe_op op_mul pe_int (pv 6)))
      (pss_cons (ps_if (pt_cmpR op_lt (pe_op op_add (pv 1) (pv 6)) (pe_callB call_len_seq (by rfl) T.z_len PySem.boot_len (pa_cons (pv 0) pa_nil)) (nomark _))
        (pss_one (ps_set (i := 7) sc_law_numbers.nd rfl (Or.inl rfl) (pe_callTy call_int_i (by rfl) T.z_int (by decide +kernel) (pa_cons (pe_ix ix_list (pv 0) (pe_op op_add (pv 1) (pv 6)) (fun _ _ => rfl)) pa_nil))))
        pss_nil)
      (pss_one (ps_expr (pe_bm PySem.F.plainAttrs_list PySem.F.slot_list_append PySem.F.type_list_append mt_append (pv 5) (pa_cons (pe_op op_add (pv 3) (pe_op op_mod (pv 7) (pe_op op_add (pe_op op_sub (pv 4) (pv 3)) pe_int))) pa_nil)))))))
    (pss_one (ps_ret (pv 5))))), ?_⟩
    walk_at "st"
    intro D nD
    have hc : ∀ c : Int, low ≤ low + c % (high - low + 1) ∧ low + c % (high - low + 1) ≤ high := fun c => by
      have h1 := Int.emod_nonneg c (by omega : high - low + 1 ≠ 0)
      have h2 := Int.emod_lt_of_pos c (by omega : 0 < high - low + 1)
      omega
    walk_at "st"
    refine for_range (lo := 0) (n := ((n : Int)).toNat) (fun i σ H' => ∃ (v6 v7 : Option V) (f : Nat → Int), σ = [some (.ref a), some (.int (start : Int)), some (.int (n : Int)), some (.int low), some (.int high), some (.ref D), v6, v7] ∧ H' = upd H D (.lst ((rowI i f).map V.int)) ∧ ∀ i, low ≤ f i ∧ f i ≤ high) ⟨none, none, fun _ => low, rfl, rfl, fun i => ⟨Int.le_refl _, hlh⟩⟩ ?_ ?_
    · rintro i σ H' hi ⟨v6, v7, f, rfl, rfl, hf⟩
      rw [Int.toNat_natCast] at hi
      rw [show (0 : Int) + i = ((i : Nat) : Int) by omega]
      have hD : upd H D (.lst ((rowI i f).map V.int)) D = some (.lst ((rowI i f).map V.int)) := upd_same
      have hs1 := (same_upd (o := .lst ((rowI i f).map V.int)) nD).seq hs
      have hsz : ((rowI i f).map V.int).length < sizeLine := small1000 (by rw [List.length_map, rowI_len]; omega)
      have fin : ∀ c : Int, upd (upd H D (.lst ((rowI i f).map V.int))) D (.lst ((rowI i f).map V.int ++ [V.int (low + c % (high - low + 1))])) = upd H D (.lst ((rowI (i + 1) fun j => if j = i then low + c % (high - low + 1) else f j).map V.int)) ∧ ∀ j, low ≤ (if j = i then low + c % (high - low + 1) else f j) ∧ (if j = i then low + c % (high - low + 1) else f j) ≤ high := fun c => by
        refine ⟨?_, fun j => ?_⟩
        · rw [upd_upd, rowI_succ, List.map_append, if_pos rfl, rowI_eq.mpr fun j (hj : j < i) => if_neg (c := j = i) (t := low + c % (high - low + 1)) (e := f j) (by omega)]
          rfl
        · split
          · exact hc c
          · exact hf j
      walk_at "st"
      refine iteB (fun h => ?_) (fun h => ?_)
      · have h := dec_t h
        rw [List.length_map] at h
        have hj : start + i < ns.length := by omega
        have hat : atI (ns.map V.int) ((start : Int) + (i : Int)) = some (.int (cellOf ns (start + i))) := by
          rw [show (start : Int) + (i : Int) = ((start + i : Nat) : Int) by omega]
          exact atI_ints hj
        walk_at "st"
        exact ⟨_, _, _, rfl, (fin (cellOf ns (start + i))).1, (fin (cellOf ns (start + i))).2⟩
      · walk_at "st"
        exact ⟨_, _, _, rfl, (fin (7 * (i : Int))).1, (fin (7 * (i : Int))).2⟩
    · rintro σ H' ⟨v6, v7, f, rfl, rfl, hf⟩
      walk_at "st"
      rw [Int.toNat_natCast]
      exact q D _ n f rfl (same_upd nD) nD upd_same hf

def sp_loss (K : PySem.W.Frag) : Sp := fun vs H Q _ => ∃ (p s : Nat → Int) (a b : Addr) (n : Nat), vs = [.ref a, .ref b] ∧ SqL K H a ((rowI n p).map V.int) ∧ SqL K H b ((rowI n s).map V.int) ∧ n ≤ 100 ∧ (∀ i, -100000000000 ≤ p i ∧ p i ≤ 100000000000) ∧ ∀ H', Same H H' → Q (.int (lossI n p s)) H'
set_option maxHeartbeats 0 in
theorem ok_loss (T : Txt K mg) : FnOk P w K mg base CX0 1 T.f_loss T.d_loss ["positions", "scenario"] (sp_loss K) := by
  refine T.F_loss.ok sc_loss (fun vs H Q E h => ?_) (fun cdv A outer s H vs Q E hr h => ?_)
  · obtain ⟨p, s, a, b, n, rfl, _⟩ := h
    rfl
  · obtain ⟨p, s, a, b, n, rfl, ha, hb, hn, hp, q⟩ := h
    refine ⟨_, (pss_cons (ps_if (pt_cmpR op_ne (pe_callB call_len_seq (by rfl) T.z_len PySem.boot_len (pa_cons (pv 0) pa_nil)) (pe_callB call_len_seq (by rfl) T.z_len PySem.boot_len (pa_cons (pv 1) pa_nil)) (nomark _))
      (pss_one ps_never)
      pss_nil)
    (pss_one (ps_ret (pe_un un_neg (pe_callB (cr_sum rfl) (by rfl) T.z_sum (by decide +kernel) (pa_cons (pe_lc (own := [("units", 2), ("move", 3)]) (tt := tYes) rfl sc_loss.nd (pi_zip (by rfl) T.z_zip (pa_cons (pv 0) (pa_cons (pv 1) pa_nil))) (blkOk_by (own := [("units", 2), ("move", 3)]) (N := N_loss) (sc := defScope s_loss) (by decide +kernel)) (fun _ _ _ _ _ => (show PG _ _ (gTup K 2 (gCons (gName 2) (gCons (gName 3) gNil))) from (pg_tup rfl (pgs_cons (pg_name (i := 2) sc_loss.nd rfl (Or.inl rfl)) (pgs_cons (pg_name (i := 3) sc_loss.nd rfl (Or.inl rfl)) pgs_nil))))) (fun _ _ _ _ _ => pts_nil) (fun _ _ _ _ _ => (pe_op op_mul (pv 2) (pv 3)))) pa_nil)))))), ?_⟩
    walk_at "st"
    refine iteB (fun h => (ndec_t h (by rw [List.length_map, List.length_map, rowI_len, rowI_len])).elim) (fun _ => ?_)
    walk_at "st"
    intro D nD
    refine lc_zip (K := K) (a := a) (b := b) (xs := (rowI n p).map V.int) (ys := (rowI n s).map V.int) (by rw [List.length_map, List.length_map, rowI_len, rowI_len]) (fun i H' => H' D = some (.lst ((rowI i fun j => p j * s j).map V.int)) ∧ Same H H') ⟨upd_same, same_upd nD⟩ (fun i H' _ ⟨_, e⟩ => ⟨e.seq ha, e.seq hb⟩) ?_ ?_
    · rintro i x y H' T hx hy ⟨hD, e⟩ nT
      obtain ⟨z, hz, rfl⟩ := ints_at hx
      obtain ⟨u, hu, rfl⟩ := ints_at hy
      have hi := (List.getElem?_eq_some_iff.mp hz).1
      rw [rowI_len] at hi
      rw [rowI_at hi] at hz hu
      cases hz
      cases hu
      have s2 : Same H' (upd H' T (.tup [.int (p i), .int (s i)])) := same_upd nT
      have t2 : SqT K (upd H' T (.tup [.int (p i), .int (s i)])) T [.int (p i), .int (s i)] := SqT.of upd_same
      have hD2 := s2 _ _ hD
      generalize upd H' T (.tup [.int (p i), .int (s i)]) = H2 at s2 t2 hD2
      have hpi := hp i
      walk_at "st"
      refine ⟨small1000 (by rw [List.length_map, rowI_len]; omega), ?_, TabR.keep (e.trans s2) nD⟩
      rw [upd_same, rowI_succ, List.map_append]
      rfl
    · rintro H' ⟨hD, e⟩
      rw [List.length_map, rowI_len] at hD
      walk_at "st"
      exact q H' e
def sp_order_loss (K : PySem.W.Frag) : Sp := fun vs H Q _ => ∃ (os : List (Int × Int)) (s : Nat → Int) (a b : Addr) (qs : List Addr) (n : Nat), vs = [.ref a, .ref b] ∧ Tups enc2 H a qs os ∧ SqL K H b ((rowI n s).map V.int) ∧ n ≤ 100 ∧ (∀ x, x ∈ os → 0 ≤ x.1 ∧ x.1 < n ∧ -100000000000 ≤ x.2 ∧ x.2 ≤ 100000000000) ∧ Q (.int (ordI s os)) H
set_option maxHeartbeats 0 in
theorem ok_order_loss (T : Txt K mg) : FnOk P w K mg base CX0 1 T.f_order_loss T.d_order_loss ["orders", "scenario"] (sp_order_loss K) := by
  refine T.F_order_loss.ok sc_order_loss (fun vs H Q E h => ?_) (fun cdv A outer s H vs Q E hr h => ?_)
  · obtain ⟨os, s, a, b, qs, n, rfl, _⟩ := h
    rfl
  · obtain ⟨os, s, a, b, qs, n, rfl, ha, hb, hn, ho, q⟩ := h
    have has : SqL K H a (qs.map V.ref) := SqL.of ha.lst
    refine ⟨_, (pss_cons (ps_set (i := 2) sc_order_loss.nd rfl (Or.inl rfl) pe_int)
    (pss_cons (ps_for PassesOwn.never rfl (pi_list (pv 0)) (pg_tup rfl (pgs_cons (pg_name (i := 3) sc_order_loss.nd rfl (Or.inl rfl)) (pgs_cons (pg_name (i := 4) sc_order_loss.nd rfl (Or.inl rfl)) pgs_nil)))
      (pss_cons (ps_if (pt_cmpR op_ge (pv 3) (pe_callB call_len_seq (by rfl) T.z_len PySem.boot_len (pa_cons (pv 1) pa_nil)) (nomark _))
        (pss_one ps_never)
        pss_nil)
      (pss_one (ps_aug (i := 2) sc_order_loss.nd rfl (Or.inl rfl) (pe_callB (call_max2 rfl) (by rfl) T.z_max (by decide +kernel) (pa_cons pe_int (pa_cons (pe_op op_mul (pe_un un_neg (pv 4)) (pe_ix ix_list (pv 1) (pv 3) (fun _ _ => rfl))) pa_nil))) ip_add))))
    (pss_one (ps_ret (pv 2))))), ?_⟩
    walk_at "st"
    refine for_list (K := K) (a := a) (xs := qs.map V.ref) (fun i σ H' => (∃ v3 v4 : Option V, σ = [some (.ref a), some (.ref b), some (.int (ordI s (os.take i))), v3, v4]) ∧ H' = H) ⟨⟨none, none, rfl⟩, rfl⟩ (fun i σ H' _ ⟨_, e⟩ => by rw [e]; exact SqL.of ha.lst) ?_ ?_
    · rintro i x σ H' hx ⟨⟨v3, v4, rfl⟩, rfl⟩
      obtain ⟨p, ⟨ix, un⟩, hp, hxs, rfl, ht⟩ := ha.item hx
      have ht2 : SqT K H' p [.int ix, .int un] := SqT.of ht
      obtain ⟨b0, b1, b2, b3⟩ := ho _ (List.mem_of_getElem? hxs)
      dsimp only at b0 b1 b2 b3
      obtain ⟨j, rfl⟩ : ∃ j : Nat, ix = (j : Int) := ⟨ix.toNat, by omega⟩
      have hj : j < n := by omega
      have hat := atI_row (g := s) hj
      walk_at "st"
      refine iteB (fun h => absurd (dec_t h) (by rw [List.length_map, rowI_len]; omega)) (fun _ => ?_)
      walk_at "st"
      refine ⟨⟨some (.int (j : Int)), some (.int un), ?_⟩, rfl⟩
      rw [take_succ hxs, ordI_append]
      have e0 : (if -un * s j > 0 then -un * s j else 0) = max 0 (-un * s ((j : Int)).toNat) := by
        rw [Int.toNat_natCast]
        split <;> omega
      rw [← e0]
      rfl
    · rintro σ H' ⟨⟨v3, v4, rfl⟩, rfl⟩
      rw [List.length_map, ha.len, List.take_length]
      walk_at "st"
      exact q
def sp_order_requirement (K : PySem.W.Frag) : Sp := fun vs H Q _ => ∃ (os : List (Int × Int)) (p : Nat → Int) (f : Nat → Nat → Int) (a o t : Addr) (qs ps : List Addr) (m n : Nat), vs = [.ref a, .ref o, .ref t] ∧ SqL K H a ((rowI n p).map V.int) ∧ Tups enc2 H o qs os ∧ TabR H t ps m n f ∧ m ≤ 100 ∧ n ≤ 100 ∧ (∀ i, -100000000000 ≤ p i ∧ p i ≤ 100000000000) ∧ (∀ x, x ∈ os → 0 ≤ x.1 ∧ x.1 < n ∧ -100000000000 ≤ x.2 ∧ x.2 ≤ 100000000000) ∧
  ∀ r H', Same H H' → H r = none → H' r = some (.tup [.int (reqI m fun k => lossI n p (f k) + ordI (f k) os).1, optV (reqI m fun k => lossI n p (f k) + ordI (f k) os).2]) → Q (.ref r) H'
set_option maxHeartbeats 0 in
theorem ok_order_requirement (T : Txt K mg) : FnOk P w K mg base CX0 2 T.f_order_requirement T.d_order_requirement ["positions", "orders", "scenarios"] (sp_order_requirement K) := by
  refine T.F_order_requirement.ok sc_order_requirement (fun vs H Q E h => ?_) (fun cdv A outer s H vs Q E hr h => ?_)
  · obtain ⟨os, p, f, a, o, t, qs, ps, m, n, rfl, _⟩ := h
    rfl
  · obtain ⟨os, p, f, a, o, t, qs, ps, m, n, rfl, ha, ho, ht, hm, hn, hp, hb, q⟩ := h
    have G_loss : FnOk P w K mg base CX0 1 T.f_loss T.d_loss ["positions", "scenario"] (sp_loss K) := ok_loss T
    have G_order_loss : FnOk P w K mg base CX0 1 T.f_order_loss T.d_order_loss ["orders", "scenario"] (sp_order_loss K) := ok_order_loss T
    have hos : SqL K H o (qs.map V.ref) := SqL.of ho.lst
    refine ⟨_, (pss_cons (ps_for PassesOwn.never rfl (pi_list (pv 1)) (pg_tup rfl (pgs_cons (pg_name (i := 3) sc_order_requirement.nd rfl (Or.inl rfl)) (pgs_cons (pg_name (i := 4) sc_order_requirement.nd rfl (Or.inl rfl)) pgs_nil)))
      (pss_one (ps_if (pt_cmpR op_lt (pv 3) pe_int (nomark _))
        (pss_one ps_never)
        pss_nil)))
    (pss_cons (ps_set (i := 5) sc_order_requirement.nd rfl (Or.inl rfl) pe_int)
    (pss_cons (ps_set (i := 6) sc_order_requirement.nd rfl (Or.inl rfl) pe_non)
    (pss_cons (ps_for PassesOwn.never rfl (pi_enum (by rfl) T.z_enumerate (pa_cons (pv 2) pa_nil)) (pg_tup rfl (pgs_cons (pg_name (i := 7) sc_order_requirement.nd rfl (Or.inl rfl)) (pgs_cons (pg_name (i := 8) sc_order_requirement.nd rfl (Or.inl rfl)) pgs_nil)))
      (pss_cons (ps_set (i := 9) sc_order_requirement.nd rfl (Or.inl rfl) (pe_op op_add (pe_call G_loss hr (by rfl) T.m_loss T.F_loss.kp T.b_loss .nil pass0 (pa_cons (pv 0) (pa_cons (pv 8) pa_nil))) (pe_call G_order_loss hr (by rfl) T.m_order_loss T.F_order_loss.kp T.b_order_loss .nil pass0 (pa_cons (pv 1) (pa_cons (pv 8) pa_nil)))))
      (pss_one (ps_if (pt_cmpR op_gt (pv 9) (pv 5) (nomark _))
        (pss_cons (ps_set (i := 5) sc_order_requirement.nd rfl (Or.inl rfl) (pv 9))
        (pss_one (ps_set (i := 6) sc_order_requirement.nd rfl (Or.inl rfl) (pv 7))))
        pss_nil))))
    (pss_one (ps_ret (pe_tup (pa_cons (pv 5) (pa_cons (pv 6) pa_nil))))))))), ?_⟩
    walk_at "st"
    refine for_list (K := K) (a := o) (xs := qs.map V.ref) (fun i σ H' => (∃ v3 v4 : Option V, σ = [some (.ref a), some (.ref o), some (.ref t), v3, v4, none, none, none, none, none]) ∧ H' = H) ⟨⟨none, none, rfl⟩, rfl⟩ (fun i σ H' _ ⟨_, e⟩ => by rw [e]; exact SqL.of ho.lst) ?_ ?_
    · rintro i x σ H' hx ⟨⟨v3, v4, rfl⟩, rfl⟩
      obtain ⟨r, ⟨ix, un⟩, hr, hxs, rfl, hz⟩ := ho.item hx
      have hz2 : SqT K H' r [.int ix, .int un] := SqT.of hz
      obtain ⟨b0, b1, b2, b3⟩ := hb _ (List.mem_of_getElem? hxs)
      dsimp only at b0 b1 b2 b3
      walk_at "st"
      refine iteB (fun h => absurd (dec_t h) (by omega)) (fun _ => ?_)
      exact ⟨⟨_, _, rfl⟩, rfl⟩
    · rintro σ H' ⟨⟨v3, v4, rfl⟩, rfl⟩
      have hts : SqL K H' t (ps.map V.ref) := SqL.of ht.lst
      walk_at "st"
      refine for_enum (K := K) (a := t) (xs := ps.map V.ref) (fun i σ H2 => (∃ v7 v8 v9 : Option V, σ = [some (.ref a), some (.ref o), some (.ref t), v3, v4, some (.int (reqI i fun k => lossI n p (f k) + ordI (f k) os).1), some (optV (reqI i fun k => lossI n p (f k) + ordI (f k) os).2), v7, v8, v9]) ∧ Same H' H2) ⟨⟨none, none, none, rfl⟩, Same.refl _⟩ (fun i σ H2 _ ⟨_, e⟩ => e.seq hts) ?_ ?_
      · rintro i x σ H2 T hx ⟨⟨v7, v8, v9, rfl⟩, e⟩ nT
        obtain ⟨r, hr, rfl⟩ := refs_at hx
        have hi := (List.getElem?_eq_some_iff.mp hr).1
        rw [ht.len] at hi
        have eT := e.trans (same_upd (o := .tup [.int (i : Int), .ref r]) nT)
        have hT2 : SqT K (upd H2 T (.tup [.int (i : Int), .ref r])) T [.int (i : Int), .ref r] := SqT.of upd_same
        generalize upd H2 T (.tup [.int (i : Int), .ref r]) = H3 at *
        have ha3 := eT.seq ha
        have ho3 := ho.same eT
        have hrow : SqL K H3 r ((rowI n (f i)).map V.int) := eT.seq (SqL.of (ht.row i r hr))
        walk_at "st"
        refine ⟨p, f i, a, r, n, rfl, ha3, hrow, hn, hp, fun H4 e4 => ?_⟩
        have ho4 := ho3.same e4
        have hrow4 := e4.seq hrow
        walk_at "st"
        refine ⟨os, f i, o, r, qs, n, rfl, ho4, hrow4, hn, hb, ?_⟩
        walk_at "st"
        refine iteB (fun h => ?_) (fun h => ?_)
        · walk_at "st"
          refine ⟨⟨some (.int (i : Int)), some (.ref r), some (.int (lossI n p (f i) + ordI (f i) os)), ?_⟩, eT.trans e4⟩
          rw [reqI_succ, if_pos (dec_t h)]
          rfl
        · refine ⟨⟨some (.int (i : Int)), some (.ref r), some (.int (lossI n p (f i) + ordI (f i) os)), ?_⟩, eT.trans e4⟩
          rw [reqI_succ, if_neg (dec_f h)]
          rfl
      · rintro σ H2 ⟨⟨v7, v8, v9, rfl⟩, e⟩
        rw [List.length_map, ht.len]
        walk_at "st"
        exact fun r nr => q r _ (e.trans (same_upd nr)) (e.free nr) upd_same

def sp_requirement (K : PySem.W.Frag) : Sp := fun vs H Q _ => ∃ (p : Nat → Int) (f : Nat → Nat → Int) (a t : Addr) (ps : List Addr) (m n : Nat), vs = [.ref a, .ref t] ∧ SqL K H a ((rowI n p).map V.int) ∧ TabR H t ps m n f ∧ m ≤ 100 ∧ n ≤ 100 ∧ (∀ i, -100000000000 ≤ p i ∧ p i ≤ 100000000000) ∧
  ∀ r H', Same H H' → H r = none → H' r = some (.tup [.int (reqI m fun k => lossI n p (f k)).1, optV (reqI m fun k => lossI n p (f k)).2]) → Q (.ref r) H'
set_option maxHeartbeats 0 in
theorem ok_requirement (T : Txt K mg) : FnOk P w K mg base CX0 3 T.f_requirement T.d_requirement ["positions", "scenarios"] (sp_requirement K) := by
  refine T.F_requirement.ok sc_requirement (fun vs H Q E h => ?_) (fun cdv A outer s H vs Q E hr h => ?_)
  · obtain ⟨p, f, a, t, ps, m, n, rfl, _⟩ := h
    rfl
  · obtain ⟨p, f, a, t, ps, m, n, rfl, ha, ht, hm, hn, hp, q⟩ := h
    have G_order_requirement : FnOk P w K mg base CX0 2 T.f_order_requirement T.d_order_requirement ["positions", "orders", "scenarios"] (sp_order_requirement K) := ok_order_requirement T
    refine ⟨_, (pss_one (ps_ret (pe_call G_order_requirement hr (by rfl) T.m_order_requirement T.F_order_requirement.kp T.b_order_requirement .nil pass0 (pa_cons (pv 0) (pa_cons (pe_lst pa_nil) (pa_cons (pv 1) pa_nil)))))), ?_⟩
    walk_at "st"
    intro E nE
    have sE := same_upd (o := .lst []) nE
    have hE : (upd H E (.lst [])) E = some (.lst []) := upd_same
    generalize upd H E (.lst []) = H1 at *
    walk_at "st"
    refine ⟨[], p, f, a, E, t, [], ps, m, n, rfl, sE.seq ha, .nil hE, ⟨sE _ _ ht.lst, ht.len, fun i p hp => sE _ _ (ht.row i p hp), ht.nod, ht.out⟩, hm, hn, hp, (fun _ h => by cases h), fun r H2 e nr hr => ?_⟩
    rw [reqI_congr m (M := fun k => lossI n p (f k)) fun k _ => by show lossI n p (f k) + 0 = _; omega] at hr
    exact q r H2 (sE.trans e) (sE.free nr) hr

def sp_law_is_integer (K : PySem.W.Frag) : Sp := fun vs H Q _ => ∃ x : Int, vs = [.int x] ∧ Q (.bl true) H
set_option maxHeartbeats 0 in
theorem ok_law_is_integer (T : Txt K mg) : FnOk P w K mg base CX0 1 T.f_law_is_integer T.d_law_is_integer ["actual"] (sp_law_is_integer K) := by
  refine T.F_law_is_integer.ok sc_law_is_integer (fun vs H Q E h => ?_) (fun cdv A outer s H vs Q E hr h => ?_)
  · obtain ⟨x, rfl, _⟩ := h
    rfl
  · obtain ⟨x, rfl, q⟩ := h
    refine ⟨_, (pss_one (ps_ret (pe_and (pe_callB call_isi (by rfl) T.z_isinstance (by decide +kernel) (pa_cons (pv 0) (pa_cons (pe_bltn (v := .ty "int") (u := .type "int") (by rfl) T.z_int (by decide +kernel) rfl) pa_nil))) (pe_one (pe_not (pe_callB call_isi (by rfl) T.z_isinstance (by decide +kernel) (pa_cons (pv 0) (pa_cons (pe_bltn (v := .ty "bool") (u := .type "bool") (by rfl) T.z_bool (by decide +kernel) rfl) pa_nil)))))))), ?_⟩
    refine ⟨_, rfl, ?_⟩
    refine ⟨_, _, _, _, true, rfl, .ty _, .base (.int _), kit_ty (by decide +kernel), ?_⟩
    refine ⟨true, rfl, iteT ?_⟩
    refine ⟨_, rfl, ?_⟩
    refine ⟨_, _, _, _, false, rfl, .ty _, .base (.int _), kit_ty (by decide +kernel), ?_⟩
    refine ⟨false, rfl, ?_⟩
    exact q

def sp_law_loss (K : PySem.W.Frag) : Sp := fun vs H Q _ => ∃ (p s : Nat → Int) (a b : Addr) (n : Nat), vs = [.ref a, .ref b] ∧ SqL K H a ((rowI n p).map V.int) ∧ SqL K H b ((rowI n s).map V.int) ∧ n ≤ 100 ∧ (∀ i, i < n → -100000000000 ≤ p i ∧ p i ≤ 100000000000) ∧ Q (.int (lossI n p s)) H
set_option maxHeartbeats 0 in
theorem ok_law_loss (T : Txt K mg) : FnOk P w K mg base CX0 1 T.f_law_loss T.d_law_loss ["positions", "scenario"] (sp_law_loss K) := by
  refine T.F_law_loss.ok sc_law_loss (fun vs H Q E h => ?_) (fun cdv A outer s H vs Q E hr h => ?_)
  · obtain ⟨p, s, a, b, n, rfl, _⟩ := h
    rfl
  · obtain ⟨p, s, a, b, n, rfl, ha, hb, hn, hp, q⟩ := h
    have hln : ((rowI n p).map V.int).length = n := by rw [List.length_map, rowI_len]
    refine ⟨_, (pss_cons (ps_set (i := 2) sc_law_loss.nd rfl (Or.inl rfl) pe_int)
    (pss_cons (ps_for PassesOwn.never rfl (pi_range1 (by rfl) T.z_range (pa_cons (pe_callB call_len_seq (by rfl) T.z_len PySem.boot_len (pa_cons (pv 0) pa_nil)) pa_nil)) (pg_name (i := 3) sc_law_loss.nd rfl (Or.inl rfl))
      (pss_one (ps_set (i := 2) sc_law_loss.nd rfl (Or.inl rfl) (pe_op op_sub (pv 2) (pe_op op_mul (pe_ix ix_list (pv 0) (pv 3) (fun _ _ => rfl)) (pe_ix ix_list (pv 1) (pv 3) (fun _ _ => rfl)))))))
    (pss_one (ps_ret (pv 2))))), ?_⟩
    walk_at "st"
    refine for_range (lo := 0) (n := (((rowI n p).map V.int).length : Int).toNat) (fun i σ H' => (∃ v3 : Option V, σ = [some (.ref a), some (.ref b), some (.int (lossI i p s)), v3]) ∧ H' = H) ⟨⟨none, rfl⟩, rfl⟩ ?_ ?_
    · rintro i σ H' hi ⟨⟨v3, rfl⟩, rfl⟩
      rw [List.length_map, rowI_len, Int.toNat_natCast] at hi
      rw [show (0 : Int) + i = ((i : Nat) : Int) by omega]
      have a1 := atI_row (g := p) hi
      have a2 := atI_row (g := s) hi
      have hpi := hp i hi
      walk_at "st"
      refine ⟨⟨some (.int (i : Int)), ?_⟩, rfl⟩
      unfold lossI
      rw [sumI_succ, show -(sumI i (fun i => p i * s i) + p i * s i) = -sumI i (fun i => p i * s i) - p i * s i by omega]
      rfl
    · rintro σ H' ⟨⟨v3, rfl⟩, rfl⟩
      rw [List.length_map, rowI_len, Int.toNat_natCast]
      walk_at "st"
      exact q

def sp_law (K : PySem.W.Frag) : Sp := fun vs H Q _ => ∃ (a : Addr) (ns : List Int), vs = [.ref a] ∧ SqL K H a (ns.map V.int) ∧ ns.length ≤ 63 ∧ ∀ H', Q (.bl true) H'
set_option maxHeartbeats 0 in
theorem ok_law {f : Addr} {fd : FuncData} (T : Txt K mg) (F : Fun K "law" "law" s_law f fd) : FnOk P w K mg base CX0 4 f fd ["script"] (sp_law K) := by
  refine F.ok sc_law (fun vs H Q E h => ?_) (fun cdv A outer s H vs Q E hr h => ?_)
  · obtain ⟨a, ns, rfl, _⟩ := h
    rfl
  · obtain ⟨a, ns, rfl, hs, hlen, q⟩ := h
    have G_law_numbers : FnOk P w K mg base CX0 1 T.f_law_numbers T.d_law_numbers ["script", "start", "count", "low", "high"] (sp_law_numbers K) := ok_law_numbers T
    have G_requirement : FnOk P w K mg base CX0 3 T.f_requirement T.d_requirement ["positions", "scenarios"] (sp_requirement K) := ok_requirement T
    have G_law_loss : FnOk P w K mg base CX0 1 T.f_law_loss T.d_law_loss ["positions", "scenario"] (sp_law_loss K) := ok_law_loss T
    have G_law_is_integer : FnOk P w K mg base CX0 1 T.f_law_is_integer T.d_law_is_integer ["actual"] (sp_law_is_integer K) := ok_law_is_integer T
    have G_loss : FnOk P w K mg base CX0 1 T.f_loss T.d_loss ["positions", "scenario"] (sp_loss K) := ok_loss T
    refine ⟨_, (pss_cons (ps_set (i := 1) sc_law.nd rfl (Or.inl rfl) pe_int)
    (C8.pss_cut (ps_if (pt_truth (pv 0) (by intro _; rfl))
      (pss_one (ps_set (i := 1) sc_law.nd rfl (Or.inl rfl) (pe_callTy call_int_i (by rfl) T.z_int (by decide +kernel) (pa_cons (pe_ix ix_list (pv 0) pe_int (fun _ _ => rfl)) pa_nil))))
      pss_nil)
    (pss_cons (ps_set (i := 2) sc_law.nd rfl (Or.inl rfl) (pe_op op_add pe_int (pe_op op_mod (pv 1) pe_int)))
    (pss_cons (ps_set (i := 3) sc_law.nd rfl (Or.inl rfl) (pe_ix ix_list (pe_lst (pa_cons pe_int (pa_cons pe_int (pa_cons (pe_op op_pow pe_int pe_int) pa_nil)))) (pe_op op_mod (pe_op op_fdiv (pv 1) pe_int) pe_int) (fun _ _ => rfl)))
    (pss_cons (ps_set (i := 4) sc_law.nd rfl (Or.inr rfl) (pe_call G_law_numbers (hr.mono (by decide)) (by rfl) T.m_law_numbers T.F_law_numbers.kp T.b_law_numbers .nil pass0 (pa_cons (pv 0) (pa_cons pe_int (pa_cons (pv 2) (pa_cons (pe_op op_sub pe_int (pv 3)) (pa_cons (pv 3) pa_nil)))))))
    (pss_cons (ps_set (i := 5) sc_law.nd rfl (Or.inl rfl) (pe_lst pa_nil))
    (pss_cons (ps_for PassesOwn.never rfl (pi_range1 (by rfl) T.z_range (pa_cons (pe_op op_mod (pe_op op_fdiv (pv 1) pe_int) pe_int) pa_nil)) (pg_name (i := 6) sc_law.nd rfl (Or.inl rfl))
      (pss_one (ps_expr (pe_bm PySem.F.plainAttrs_list PySem.F.slot_list_append PySem.F.type_list_append mt_append (pv 5) (pa_cons (pe_call G_law_numbers (hr.mono (by decide)) (by rfl) T.m_law_numbers T.F_law_numbers.kp T.b_law_numbers .nil pass0 (pa_cons (pv 0) (pa_cons (pe_op op_add (pe_op op_add pe_int (pv 2)) (pe_op op_mul (pv 2) (pv 6))) (pa_cons (pv 2) (pa_cons (pe_op op_sub pe_int (pv 3)) (pa_cons (pv 3) pa_nil)))))) pa_nil)))))
    (pss_cons (ps_set (i := 7) sc_law.nd rfl (Or.inl rfl) (pe_call G_requirement hr (by rfl) T.m_requirement T.F_requirement.kp T.b_requirement .nil pass0 (pa_cons (pe_callTy call_list_of (by rfl) T.z_list (by decide +kernel) (pa_cons (pv 4) pa_nil)) (pa_cons (pe_lc (own := [("scenario", 8)]) (g := gName 8) (tt := tYes) rfl sc_law.nd (pi_list (pv 5)) (blkOk_by (own := [("scenario", 8)]) (N := N_law) (sc := defScope s_law) (by decide +kernel)) (fun _ _ _ _ _ => (pg_name (i := 8) sc_law.nd rfl (Or.inl rfl))) (fun _ _ _ _ _ => pts_nil) (fun _ _ _ _ _ => (pe_callTy (show CallR _ (.type "list") (rListOf K) from call_list_of) (by rfl) T.z_list (by decide +kernel) (pa_cons (pv 8) pa_nil)))) pa_nil))))
    (pss_cons (ps_if (PW.pt (pw_or (pt_not (pt_val (pe_callB call_isi (by rfl) T.z_isinstance (by decide +kernel) (pa_cons (pv 7) (pa_cons (pe_bltn (v := .ty "tuple") (u := .type "tuple") (by rfl) T.z_tuple (by decide +kernel) rfl) pa_nil))))) (pw_or (pt_cmpR op_ne (pe_callB call_len_seq (by rfl) T.z_len PySem.boot_len (pa_cons (pv 7) pa_nil)) pe_int (nomark _)) (pw_or1 (pt_not (pt_val (pe_call G_law_is_integer (hr.mono (by decide)) (by rfl) T.m_law_is_integer T.F_law_is_integer.kp T.b_law_is_integer .nil pass0 (pa_cons (pe_ix ix_tup (pv 7) pe_int (fun _ _ => rfl)) pa_nil))))))))
      (pss_one (ps_ret pe_bl))
      pss_nil)
    (pss_cons (ps_setLc (i := 9) (own := [("scenario", 8)]) (g := gName 8) (tt := tYes) rfl sc_law.nd rfl rfl (sw_true rfl rfl rfl (by decide +kernel)) (pi_list (pv 5)) (blkOk_by (own := [("scenario", 8)]) (N := N_law) (sc := defScope s_law) (by decide +kernel)) (fun _ _ _ _ _ => (pg_name (i := 8) sc_law.nd rfl (Or.inl rfl))) (fun _ _ _ _ _ => pts_nil) (fun _ _ _ _ _ => (pe_call G_law_loss (hr.mono (by decide)) (by rfl) T.m_law_loss T.F_law_loss.kp T.b_law_loss .nil pass0 (pa_cons (pv 4) (pa_cons (pv 8) pa_nil)))))
    (pss_cons (ps_for PassesOwn.never rfl (pi_range1 (by rfl) T.z_range (pa_cons (pe_callB call_len_seq (by rfl) T.z_len PySem.boot_len (pa_cons (pv 5) pa_nil)) pa_nil)) (pg_name (i := 6) sc_law.nd rfl (Or.inl rfl))
      (pss_one (ps_if (PW.pt (pw_or (pt_cmpR op_ne (pe_call G_loss (hr.mono (by decide)) (by rfl) T.m_loss T.F_loss.kp T.b_loss .nil pass0 (pa_cons (pv 4) (pa_cons (pe_ix ix_list (pv 5) (pv 6) (fun _ _ => rfl)) pa_nil))) (pe_ix ix_list (pv 9) (pv 6) (fun _ _ => rfl)) (nomark _)) (pw_or1 (pt_cmpR op_gt (pe_ix ix_list (pv 9) (pv 6) (fun _ _ => rfl)) (pe_ix ix_tup (pv 7) pe_int (fun _ _ => rfl)) (nomark _)))))
        (pss_one (ps_ret pe_bl))
        pss_nil)))
    (pss_cons (ps_if (pt_cmpR op_eq (pe_ix ix_tup (pv 7) pe_int (fun _ _ => rfl)) pe_int (nomark _))
      (pss_one (ps_ret (pe_cmpR op_isN (pe_ix ix_tup (pv 7) pe_int (fun _ _ => rfl)) pe_non (nomark _))))
      pss_nil)
    (pss_one (ps_ret (pe_and (pe_cmpR op_gt (pe_ix ix_tup (pv 7) pe_int (fun _ _ => rfl)) pe_int (nomark _)) (pe_and (pe_cmpR op_in_seq (pe_ix ix_tup (pv 7) pe_int (fun _ _ => rfl)) (pv 9) rfl) (pe_one (pe_cmpR op_eq (pe_ix ix_tup (pv 7) pe_int (fun _ _ => rfl)) (pe_bm PySem.F.plainAttrs_list PySem.F.slot_list_index PySem.F.type_list_index mt_index (pv 9) (pa_cons (pe_ix ix_tup (pv 7) pe_int (fun _ _ => rfl)) pa_nil)) (nomark _))))))))))))))))))), ?_⟩
    refine ⟨fun σ' H' => (∃ shape : Int, σ' = [some (.ref a), some (.int shape), none, none, none, none, none, none, none, none]) ∧ H' = H, ?_, ?_⟩
    · walk_at "st"
      refine iteB (fun h => ?_) (fun h => ?_)
      · have hl : 0 < ns.length := by
          cases ns with
          | nil => cases h
          | cons => exact Nat.succ_pos _
        have hat : atI (ns.map V.int) 0 = some (.int (cellOf ns 0)) := atI_ints hl
        walk_at "st"
        exact ⟨⟨_, rfl⟩, rfl⟩
      · exact ⟨⟨_, rfl⟩, rfl⟩
    · rintro σ' H' ⟨⟨shape, rfl⟩, rfl⟩
      obtain ⟨n, en, hn0, hn1⟩ : ∃ n : Nat, 1 + shape % 5 = (n : Int) ∧ 1 ≤ n ∧ n ≤ 5 := ⟨(1 + shape % 5).toNat, by omega, by omega, by omega⟩
      obtain ⟨m, em, hm1⟩ : ∃ m : Nat, shape / 15 % 9 = (m : Int) ∧ m ≤ 8 := ⟨(shape / 15 % 9).toNat, by omega, by omega⟩
      obtain ⟨hi, hat, hi0, hi1⟩ : ∃ hi : Int, atI [V.int 3, V.int 20, V.int 1000000000] (shape / 5 % 3) = some (.int hi) ∧ 0 ≤ hi ∧ hi ≤ 1000000000 := by
        rcases (by omega : shape / 5 % 3 = 0 ∨ shape / 5 % 3 = 1 ∨ shape / 5 % 3 = 2) with e | e | e
        · exact ⟨3, by rw [e]; rfl, by decide, by decide⟩
        · exact ⟨20, by rw [e]; rfl, by decide, by decide⟩
        · exact ⟨1000000000, by rw [e]; rfl, by decide, by decide⟩
      walk_at "st"
      intro L nL
      have sL := same_upd (o := .lst [.int 3, .int 20, .int 1000000000]) nL
      have hs1 := sL.seq hs
      have hL : SqL K (upd H' L (.lst [.int 3, .int 20, .int 1000000000])) L [.int 3, .int 20, .int 1000000000] := SqL.of upd_same
      dsimp only
      rw [en, show (10 : Int) ^ Int.toNat 9 = 1000000000 from by decide]
      generalize upd H' L _ = H1 at *
      walk_at "st"
      intro P H2 n' pf en' e2 nP hP hpf
      obtain rfl : n = n' := by omega
      have hs2 := e2.seq hs1
      walk_at "st"
      intro S nS
      have hS : upd H2 S (.lst []) S = some (.lst []) := upd_same
      have sS : Same H2 (upd H2 S (.lst [])) := same_upd nS
      generalize upd H2 S (.lst []) = H3 at *
      walk_at "st"
      refine for_range (lo := 0) (n := (shape / 15 % 9).toNat) (fun i σ H' => (∃ (v6 : Option V) (qs : List Addr) (F : Nat → Nat → Int), σ = [some (.ref a), some (.int shape), some (.int (n : Int)), some (.int hi), some (.ref P), some (.ref S), v6, none, none, none] ∧ TabR H' S qs i n F ∧ ∀ r i, 0 - hi ≤ F r i ∧ F r i ≤ hi) ∧ Same H2 H') ⟨⟨none, [], fun _ _ => 0, rfl, .nil n _ hS, fun _ _ => ⟨by show 0 - hi ≤ 0; omega, hi0⟩⟩, sS⟩ ?_ ?_
      · rintro i σ H4 hi' ⟨⟨v6, qs, F, rfl, hT, hF⟩, e4⟩
        rw [show (0 : Int) + i = ((i : Nat) : Int) by omega]
        have hs4 := e4.seq hs2
        have hS4 := hT.lst
        have hni : 0 ≤ (n : Int) * (i : Int) := Int.mul_nonneg (by omega) (by omega)
        walk_at "st"
        intro p H5 n5 f5 en5 e5 np hp hf5
        obtain rfl : n = n5 := by omega
        have hT5 := TabR.push (hT.congr (g := fun r => if r = i then f5 else F r) fun r hr b hb => by rw [if_neg (by omega)]) e5 np (by rw [if_pos rfl]; exact hp)
        have hS5 := e5 _ _ hT.lst
        have hsz : (qs.map V.ref).length < sizeLine := small1000 (by rw [List.length_map, hT.len]; omega)
        walk_at "st"
        refine ⟨⟨some (.int (i : Int)), qs ++ [p], fun r => if r = i then f5 else F r, rfl, hT5, fun r j => ?_⟩, TabR.keep (e4.trans e5) nS⟩
        dsimp only
        split
        · exact hf5 j
        · exact hF r j
      · rintro σ H4 ⟨⟨v6, qs, F, rfl, hT, hF⟩, e4⟩
        rw [em, Int.toNat_natCast] at hT
        have hs4 := e4.seq hs2
        have hP4 : SqL K H4 P ((rowI n pf).map V.int) := e4.seq (SqL.of hP)
        have hS4 : SqL K H4 S (qs.map V.ref) := SqL.of hT.lst
        walk_at "st"
        intro l nl
        have sl := same_upd (o := .lst ((rowI n pf).map V.int)) nl
        have hl : SqL K (upd H4 l (.lst ((rowI n pf).map V.int))) l ((rowI n pf).map V.int) := SqL.of upd_same
        have hS5 := sl.seq hS4
        have hT5 := hT.same sl
        generalize upd H4 l _ = H5 at *
        walk_at "st"
        intro D nD
        refine lc_copyR hT5 (by omega) (by omega) nD rfl fun H6 rs e6 hR _ => ?_
        have hl6 := e6.seq hl
        walk_at "st"
        refine ⟨pf, F, l, D, rs, m, n, rfl, hl6, hR, by omega, by omega, fun i => ?_, fun r H7 e7 nr hr => ?_⟩
        · have := hpf i
          omega
        have hr2 := SqT.of (K := K) hr
        have e57 := e6.trans e7
        have hT7 := hT5.same e57
        have hS7 : SqL K H7 S (qs.map V.ref) := SqL.of hT7.lst
        have hP7 : SqL K H7 P ((rowI n pf).map V.int) := e57.seq (sl.seq hP4)
        generalize hL : (fun k => lossI n pf (F k)) = L at hr hr2
        refine ⟨_, rfl, ?_⟩
        refine ⟨_, _, _, _, true, rfl, .ty _, .base (.tup hr), kit_ty (by decide +kernel), ?_⟩
        refine ⟨_, rfl, iteF ?_⟩
        walk_at "st"
        intro D2 nD2
        have hpb : ∀ i, -100000000000 ≤ pf i ∧ pf i ≤ 100000000000 := fun i => by
          have := hpf i
          omega
        refine lc_list (K := K) (a := S) (xs := qs.map V.ref) (fun i H' => H' = upd H7 D2 (.lst ((rowI i L).map V.int))) rfl (fun i H' _ e => by rw [e]; exact (same_upd nD2).seq hS7) ?_ ?_
        · rintro i x H8 hx rfl
          obtain ⟨p, hp, rfl⟩ := refs_at hx
          have hi' := (List.getElem?_eq_some_iff.mp hp).1
          rw [hT.len] at hi'
          have s8 : Same H7 (upd H7 D2 (.lst ((rowI i L).map V.int))) := same_upd nD2
          refine ⟨rfl, ?_⟩
          walk_at "st"
          refine ⟨pf, F i, P, p, n, rfl, s8.seq hP7, s8.seq (SqL.of (hT7.row i p hp)), by omega, fun j _ => hpb j, _, upd_same, small1000 (by rw [List.length_map, rowI_len]; omega), ?_⟩
          rw [upd_upd, rowI_succ, List.map_append, ← hL]
          rfl
        · rintro H8 rfl
          rw [List.length_map, hT.len]
          have s8 : Same H7 (upd H7 D2 (.lst ((rowI m L).map V.int))) := same_upd nD2
          have h8 : SqL K (upd H7 D2 (.lst ((rowI m L).map V.int))) D2 ((rowI m L).map V.int) := SqL.of upd_same
          have hT8 := hT7.same s8
          have hS8 := s8.seq hS7
          have hP8 := s8.seq hP7
          have hr8 := s8 _ _ hr
          have h8' : upd H7 D2 (.lst ((rowI m L).map V.int)) D2 = some (.lst ((rowI m L).map V.int)) := upd_same
          generalize upd H7 D2 _ = H8 at *
          have hlm : (qs.map V.ref).length = m := by rw [List.length_map, hT.len]
          walk_at "st"
          refine for_range (lo := 0) (n := ((qs.map V.ref).length : Int).toNat) (fun i σ H' => (∃ v6 : Option V, σ = [some (.ref a), some (.int shape), some (.int (n : Int)), some (.int hi), some (.ref P), some (.ref S), v6, some (.ref r), none, some (.ref D2)]) ∧ Same H8 H') ⟨⟨_, rfl⟩, Same.refl _⟩ ?_ ?_
          · rintro i σ H9 hi' ⟨⟨v6, rfl⟩, e9⟩
            rw [show (0 : Int) + i = ((i : Nat) : Int) by omega]
            have hi2 : i < m := by omega
            obtain ⟨x1, hx1, hx2, hx3⟩ := (hT8.same e9).at hi2
            have hx4 : SqL K H9 x1 ((rowI n (F i)).map V.int) := SqL.of hx3
            have hS9 := e9.seq hS8
            have hP9 := e9.seq hP8
            have c1 := atI_row (g := L) hi2
            walk_at "st"
            refine ⟨pf, F i, P, x1, n, rfl, hP9, hx4, by omega, hpb, fun H10 e10 => ?_⟩
            have e810 := e9.trans e10
            have hr10 : SqT K H10 r [.int (reqI m L).1, optV (reqI m L).2] := SqT.of (e810 _ _ hr8)
            have h10 : SqL K H10 D2 ((rowI m L).map V.int) := e810.seq h8
            have hle := reqI_le m L i hi2
            walk_at "st"
            refine iteB (fun h => (ndec_t h (by rw [← hL])).elim) (fun _ => ?_)
            walk_at "st"
            refine iteB (fun h => absurd (dec_t h) (by omega)) (fun _ => ?_)
            exact ⟨⟨_, rfl⟩, e810⟩
          · rintro σ H9 ⟨⟨v6, rfl⟩, e9⟩
            have hr9 : SqT K H9 r [.int (reqI m L).1, optV (reqI m L).2] := SqT.of (e9 _ _ hr8)
            have h9 : SqL K H9 D2 ((rowI m L).map V.int) := e9.seq h8
            rcases reqI_spec m L with ⟨z1, z2⟩ | ⟨k, k1, k2, k3, k4, k5⟩
            · rw [z1, z2] at hr9
              walk_at "st"
              exact q _
            · rw [k3] at hr9
              walk_at "st"
              refine iteB (fun h => absurd (V.int.inj (dec_t h)) (by omega)) (fun _ => ?_)
              walk_at "st"
              refine iteB (fun _ => ?_) (fun h => absurd k2 (dec_f h))
              have hk : (rowI m L)[k]? = some (L k) := rowI_at k1
              have hmem : (reqI m L).1 ∈ rowI m L := by
                rw [← k4]
                exact List.mem_of_getElem? hk
              walk_at "st"
              refine ⟨flat_ints _, true, ?_, ?_⟩
              · rw [if_neg Bool.false_ne_true, inV_ints, decide_eq_true hmem]
              refine iteT ?_
              have h9' := e9 _ _ h8'
              have hk2 : ((rowI m L).map V.int)[k]? = some (V.int (reqI m L).1) := by
                rw [List.getElem?_map, hk, k4]
                rfl
              have hk3 : eqV (V.int (reqI m L).1) (V.int (reqI m L).1) = true := by rw [eqV_ints, decide_eq_true rfl]
              have hk4 := flat_ints (rowI m L)
              walk_at "st"
              refine ⟨fun j z' hj hz => ?_, ?_⟩
              · obtain ⟨z, hz1, rfl⟩ := ints_at hz
                rw [rowI_at (by omega)] at hz1
                cases hz1
                rw [eqV_ints]
                exact decide_eq_false (by have := k5 j hj; omega)
              refine ⟨rfl, ?_⟩
              show Q (V.bl (decide (V.int (k : Int) = V.int (k : Int)))) H9
              rw [decide_eq_true rfl]
              exact q _
end
set_option maxHeartbeats 0 in
theorem all_mk {l : PySem.W.OpenLaw} {w : World} {K : PySem.W.Frag} {h : Heap} {mg : Str → Option Value} {fa f1 f2 f3 f4 f5 f6 f7 f8 : Addr} (X : K.In h) (G : h.Ns mainGlobals mg) (hfa : mg "law" = some (.ref fa))
    {c_BourseError c_InvalidAmount : Addr}
    {od1 an1 od2 an2 od3 an3 od4 an4 od5 an5 od6 an6 od7 an7 od8 an8 : Option Addr} {sl1 sl2 sl3 sl4 sl5 sl6 sl7 sl8 : Array (Option Value)} {oc1 kV1 dc1 pm1 cd1 ct1 oc2 kV2 dc2 pm2 cd2 ct2 oc3 kV3 dc3 pm3 cd3 ct3 oc4 kV4 dc4 pm4 cd4 ct4 oc5 kV5 dc5 pm5 cd5 ct5 oc6 kV6 dc6 pm6 cd6 ct6 oc7 kV7 dc7 pm7 cd7 ct7 oc8 kV8 dc8 pm8 cd8 ct8 : Value}
    (a1 : PySem.W.nsIn K mainGlobals "loss" = some (some (.ref f1)))
    (l1 : K.lookup f1 = some ⟨oc1, od1, .func (PySem.W.fnOf "loss" "loss" (defArgs s_loss) (defBody s_loss) (defScope s_loss) .none kV1 dc1 pm1 an1 cd1 ct1), sl1⟩) (c1 : PySem.W.codeIn K cd1 "loss" = true) (k1 : PySem.W.keepIn K (.ref f1) = true)
    (a2 : PySem.W.nsIn K mainGlobals "requirement" = some (some (.ref f2)))
    (l2 : K.lookup f2 = some ⟨oc2, od2, .func (PySem.W.fnOf "requirement" "requirement" (defArgs s_requirement) (defBody s_requirement) (defScope s_requirement) .none kV2 dc2 pm2 an2 cd2 ct2), sl2⟩) (c2 : PySem.W.codeIn K cd2 "requirement" = true) (k2 : PySem.W.keepIn K (.ref f2) = true)
    (a3 : PySem.W.nsIn K mainGlobals "order_requirement" = some (some (.ref f3)))
    (l3 : K.lookup f3 = some ⟨oc3, od3, .func (PySem.W.fnOf "order_requirement" "order_requirement" (defArgs s_order_requirement) (defBody s_order_requirement) (defScope s_order_requirement) .none kV3 dc3 pm3 an3 cd3 ct3), sl3⟩) (c3 : PySem.W.codeIn K cd3 "order_requirement" = true) (k3 : PySem.W.keepIn K (.ref f3) = true)
    (a4 : PySem.W.nsIn K mainGlobals "_order_loss" = some (some (.ref f4)))
    (l4 : K.lookup f4 = some ⟨oc4, od4, .func (PySem.W.fnOf "_order_loss" "_order_loss" (defArgs s_order_loss) (defBody s_order_loss) (defScope s_order_loss) .none kV4 dc4 pm4 an4 cd4 ct4), sl4⟩) (c4 : PySem.W.codeIn K cd4 "_order_loss" = true) (k4 : PySem.W.keepIn K (.ref f4) = true)
    (a5 : PySem.W.nsIn K mainGlobals "_law_is_integer" = some (some (.ref f5)))
    (l5 : K.lookup f5 = some ⟨oc5, od5, .func (PySem.W.fnOf "_law_is_integer" "_law_is_integer" (defArgs s_law_is_integer) (defBody s_law_is_integer) (defScope s_law_is_integer) .none kV5 dc5 pm5 an5 cd5 ct5), sl5⟩) (c5 : PySem.W.codeIn K cd5 "_law_is_integer" = true) (k5 : PySem.W.keepIn K (.ref f5) = true)
    (a6 : PySem.W.nsIn K mainGlobals "_law_numbers" = some (some (.ref f6)))
    (l6 : K.lookup f6 = some ⟨oc6, od6, .func (PySem.W.fnOf "_law_numbers" "_law_numbers" (defArgs s_law_numbers) (defBody s_law_numbers) (defScope s_law_numbers) .none kV6 dc6 pm6 an6 cd6 ct6), sl6⟩) (c6 : PySem.W.codeIn K cd6 "_law_numbers" = true) (k6 : PySem.W.keepIn K (.ref f6) = true)
    (a7 : PySem.W.nsIn K mainGlobals "_law_loss" = some (some (.ref f7)))
    (l7 : K.lookup f7 = some ⟨oc7, od7, .func (PySem.W.fnOf "_law_loss" "_law_loss" (defArgs s_law_loss) (defBody s_law_loss) (defScope s_law_loss) .none kV7 dc7 pm7 an7 cd7 ct7), sl7⟩) (c7 : PySem.W.codeIn K cd7 "_law_loss" = true) (k7 : PySem.W.keepIn K (.ref f7) = true)
    (a8 : PySem.W.nsIn K mainGlobals "law" = some (some (.ref f8)))
    (l8 : K.lookup f8 = some ⟨oc8, od8, .func (PySem.W.fnOf "law" "law" (defArgs s_law) (defBody s_law) (defScope s_law) .none kV8 dc8 pm8 an8 cd8 ct8), sl8⟩) (c8 : PySem.W.codeIn K cd8 "law" = true) (k8 : PySem.W.keepIn K (.ref f8) = true)
    (z_bool : PySem.W.nsIn K mainGlobals "bool" = some none)
    (z_enumerate : PySem.W.nsIn K mainGlobals "enumerate" = some none)
    (z_int : PySem.W.nsIn K mainGlobals "int" = some none)
    (z_isinstance : PySem.W.nsIn K mainGlobals "isinstance" = some none)
    (z_len : PySem.W.nsIn K mainGlobals "len" = some none)
    (z_list : PySem.W.nsIn K mainGlobals "list" = some none)
    (z_max : PySem.W.nsIn K mainGlobals "max" = some none)
    (z_range : PySem.W.nsIn K mainGlobals "range" = some none)
    (z_sum : PySem.W.nsIn K mainGlobals "sum" = some none)
    (z_tuple : PySem.W.nsIn K mainGlobals "tuple" = some none)
    (z_zip : PySem.W.nsIn K mainGlobals "zip" = some none)
    (g_BourseError : PySem.W.nsIn K mainGlobals "BourseError" = some (some (.ref c_BourseError)))
    (g_InvalidAmount : PySem.W.nsIn K mainGlobals "InvalidAmount" = some (some (.ref c_InvalidAmount))) :
    ∃ fd : FuncData, (∀ (s : Shared) (v : Value), BindsTo s fd ⟨[v], []⟩ [("script", v)]) ∧ ∀ base : Heap, K.In base → base.Ns mainGlobals mg → FnOk l.prog w K mg base CX0 4 fa fd ["script"] (sp_law K) := by
  have e := hfa.symm.trans (PySem.W.mg_of X G a8)
  cases e
  have F1 := fun_mk (st := s_loss) l1 c1 k1
  have b1 := F1.binds (ps := ["positions", "scenario"]) fun _ _ _ _ _ _ us hl => match us, hl with | [_, _], _ => rfl
  have F2 := fun_mk (st := s_requirement) l2 c2 k2
  have b2 := F2.binds (ps := ["positions", "scenarios"]) fun _ _ _ _ _ _ us hl => match us, hl with | [_, _], _ => rfl
  have F3 := fun_mk (st := s_order_requirement) l3 c3 k3
  have b3 := F3.binds (ps := ["positions", "orders", "scenarios"]) fun _ _ _ _ _ _ us hl => match us, hl with | [_, _, _], _ => rfl
  have F4 := fun_mk (st := s_order_loss) l4 c4 k4
  have b4 := F4.binds (ps := ["orders", "scenario"]) fun _ _ _ _ _ _ us hl => match us, hl with | [_, _], _ => rfl
  have F5 := fun_mk (st := s_law_is_integer) l5 c5 k5
  have b5 := F5.binds (ps := ["actual"]) fun _ _ _ _ _ _ us hl => match us, hl with | [_], _ => rfl
  have F6 := fun_mk (st := s_law_numbers) l6 c6 k6
  have b6 := F6.binds (ps := ["script", "start", "count", "low", "high"]) fun _ _ _ _ _ _ us hl => match us, hl with | [_, _, _, _, _], _ => rfl
  have F7 := fun_mk (st := s_law_loss) l7 c7 k7
  have b7 := F7.binds (ps := ["positions", "scenario"]) fun _ _ _ _ _ _ us hl => match us, hl with | [_, _], _ => rfl
  have F8 := fun_mk (st := s_law) l8 c8 k8
  have b8 := F8.binds (ps := ["script"]) fun _ _ _ _ _ _ us hl => match us, hl with | [_], _ => rfl
  have T : Txt K mg := ⟨f1, _, F1, PySem.W.mg_of X G a1, b1, f2, _, F2, PySem.W.mg_of X G a2, b2, f3, _, F3, PySem.W.mg_of X G a3, b3, f4, _, F4, PySem.W.mg_of X G a4, b4, f5, _, F5, PySem.W.mg_of X G a5, b5, f6, _, F6, PySem.W.mg_of X G a6, b6, f7, _, F7, PySem.W.mg_of X G a7, b7, c_BourseError, PySem.W.mg_of X G g_BourseError, c_InvalidAmount, PySem.W.mg_of X G g_InvalidAmount, PySem.W.mg_none_of X G z_bool, PySem.W.mg_none_of X G z_enumerate, PySem.W.mg_none_of X G z_int, PySem.W.mg_none_of X G z_isinstance, PySem.W.mg_none_of X G z_len, PySem.W.mg_none_of X G z_list, PySem.W.mg_none_of X G z_max, PySem.W.mg_none_of X G z_range, PySem.W.mg_none_of X G z_sum, PySem.W.mg_none_of X G z_tuple, PySem.W.mg_none_of X G z_zip⟩
  exact ⟨PySem.W.fnOf "law" "law" (defArgs s_law) (defBody s_law) (defScope s_law) .none kV8 dc8 pm8 an8 cd8 ct8, fun s v => .of_eq rfl, fun base _ _ => ok_law T F8⟩
end FB
open PySem PySem.W PyProof.Rows
set_option maxRecDepth 100000 in
set_option maxHeartbeats 0 in
theorem PySem.Challenge.cw_fairbourse_k72_requirement_covers_scenar_holds : PySem.Challenge.rw_fairbourse_k72_requirement_covers_scenar.Holds := by
  w_on; o_law; k_head; (case hw => w_witness2)
  k_fill
  refine L2.walk_of (l := PySem.Challenge.rw_fairbourse_k72_requirement_covers_scenar) (n := 63) (k := 4) (x := "script") (CX := fun _ => L2.CX0) (sp := fun w => FB.sp_law _) rfl (by decide) rfl ⟨rfl, by decide, by decide⟩ (fun w h Y => PySem.W.kIn_of Y) ?F (fun _ _ a ns hl _ hS => ⟨a, ns, rfl, hS, hl, fun _ => rfl⟩) (fun _ _ _ _ _ h => h)
  case F =>
    intro w mg fa h KX G hmg
    refine' FB.all_mk KX G hmg ?a1 ?l1 ?c1 ?k1 ?a2 ?l2 ?c2 ?k2 ?a3 ?l3 ?c3 ?k3 ?a4 ?l4 ?c4 ?k4 ?a5 ?l5 ?c5 ?k5 ?a6 ?l6 ?c6 ?k6 ?a7 ?l7 ?c7 ?k7 ?a8 ?l8 ?c8 ?k8 ?z_bool ?z_enumerate ?z_int ?z_isinstance ?z_len ?z_list ?z_max ?z_range ?z_sum ?z_tuple ?z_zip ?g_BourseError ?g_InvalidAmount
    (case g_BourseError => k_is)
    (case g_InvalidAmount => k_is)
    (case a1 => k_is)
    (case l1 => k_is)
    (case c1 => k_is)
    (case k1 => k_is)
    (case a2 => k_is)
    (case l2 => k_is)
    (case c2 => k_is)
    (case k2 => k_is)
    (case a3 => k_is)
    (case l3 => k_is)
    (case c3 => k_is)
    (case k3 => k_is)
    (case a4 => k_is)
    (case l4 => k_is)
    (case c4 => k_is)
    (case k4 => k_is)
    (case a5 => k_is)
    (case l5 => k_is)
    (case c5 => k_is)
    (case k5 => k_is)
    (case a6 => k_is)
    (case l6 => k_is)
    (case c6 => k_is)
    (case k6 => k_is)
    (case a7 => k_is)
    (case l7 => k_is)
    (case c7 => k_is)
    (case k7 => k_is)
    (case a8 => k_is)
    (case l8 => k_is)
    (case c8 => k_is)
    (case k8 => k_is)
    (case z_bool => k_is)
    (case z_enumerate => k_is)
    (case z_int => k_is)
    (case z_isinstance => k_is)
    (case z_len => k_is)
    (case z_list => k_is)
    (case z_max => k_is)
    (case z_range => k_is)
    (case z_sum => k_is)
    (case z_tuple => k_is)
    (case z_zip => k_is)
#print axioms PySem.Challenge.cw_fairbourse_k72_requirement_covers_scenar_holds
