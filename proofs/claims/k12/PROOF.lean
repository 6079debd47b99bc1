import PyProof.Rows.All
import Wide.All
import OpenK.AllK
import Wide.FinOn
import HandS.ForMost
import HandS.Defaults
import HandS.IsInst
import HandS.Wide
import HandS.Codes
import PySem.Challenge.RW_fairbourse_k12_split_within_a_group
set_option Elab.async false
set_option linter.all false
set_option maxRecDepth 100000
namespace FB
open PySem PySem.Spec PyProof.Rows L2
def topS (i : Nat) : Stmt := PySem.Challenge.pw_fairbourse_k12_split_within_a_group.main.body.getD i (.Pass ⟨0, 0, 0, 0⟩)
abbrev s_check_amount : Stmt := topS 8
abbrev N_check_amount : List Str := ["amount", "most"]
theorem sc_check_amount : FnScope N_check_amount ["amount", "most"] (defScope s_check_amount) := ⟨rfl, rfl, rfl, by decide +kernel, rfl, by decide +kernel, by decide +kernel⟩
abbrev s_check_weights : Stmt := topS 9
abbrev N_check_weights : List Str := ["weights", "amount", "weight"]
theorem sc_check_weights : FnScope N_check_weights ["weights", "amount"] (defScope s_check_weights) := ⟨rfl, rfl, rfl, by decide +kernel, rfl, by decide +kernel, by decide +kernel⟩
abbrev s_split : Stmt := topS 10
abbrev N_split : List Str := ["amount", "weights", "total", "parts", "weight", "_"]
theorem sc_split : FnScope N_split ["amount", "weights"] (defScope s_split) := ⟨rfl, rfl, rfl, by decide +kernel, rfl, by decide +kernel, by decide +kernel⟩
abbrev s_greatest_quotient : Stmt := topS 11
abbrev N_greatest_quotient : List Str := ["weights", "parts", "best", "at"]
theorem sc_greatest_quotient : FnScope N_greatest_quotient ["weights", "parts"] (defScope s_greatest_quotient) := ⟨rfl, rfl, rfl, by decide +kernel, rfl, by decide +kernel, by decide +kernel⟩
abbrev s_law_cell : Stmt := topS 13
abbrev N_law_cell : List Str := ["script", "k"]
theorem sc_law_cell : FnScope N_law_cell ["script", "k"] (defScope s_law_cell) := ⟨rfl, rfl, rfl, by decide +kernel, rfl, by decide +kernel, by decide +kernel⟩
abbrev s_law_draws : Stmt := topS 14
abbrev N_law_draws : List Str := ["cell", "count", "size", "draws", "rest", "k"]
theorem sc_law_draws : FnScope N_law_draws ["cell", "count", "size"] (defScope s_law_draws) := ⟨rfl, rfl, rfl, by decide +kernel, rfl, by decide +kernel, by decide +kernel⟩
abbrev s_law_integers : Stmt := topS 15
abbrev N_law_integers : List Str := ["actual", "count", "part"]
theorem sc_law_integers : FnScope N_law_integers ["actual", "count"] (defScope s_law_integers) := ⟨rfl, rfl, rfl, by decide +kernel, rfl, by decide +kernel, by decide +kernel⟩
abbrev s_law_weights : Stmt := topS 16
abbrev N_law_weights : List Str := ["cell", "shape", "count", "size", "weights", "weight"]
theorem sc_law_weights : FnScope N_law_weights ["cell", "shape"] (defScope s_law_weights) := ⟨rfl, rfl, rfl, by decide +kernel, rfl, by decide +kernel, by decide +kernel⟩
abbrev s_law : Stmt := topS 17
abbrev N_law : List Str := ["script", "weights", "amount", "chosen", "group", "k", "parts", "theirs", "actual"]
theorem sc_law : FnScope N_law ["script"] (defScope s_law) := ⟨rfl, rfl, rfl, by decide +kernel, rfl, by decide +kernel, by decide +kernel⟩
structure Txt (K : PySem.W.Frag) (mg : Str → Option Value) where
  f_check_amount : Addr
  d_check_amount : FuncData
  F_check_amount : Fun K "_check_amount" "_check_amount" s_check_amount f_check_amount d_check_amount
  m_check_amount : mg "_check_amount" = some (.ref f_check_amount)
  b_check_amount : Binds K d_check_amount ["amount", "most"] []
  f_check_weights : Addr
  d_check_weights : FuncData
  F_check_weights : Fun K "_check_weights" "_check_weights" s_check_weights f_check_weights d_check_weights
  m_check_weights : mg "_check_weights" = some (.ref f_check_weights)
  b_check_weights : Binds K d_check_weights ["weights", "amount"] []
  f_split : Addr
  d_split : FuncData
  F_split : Fun K "split" "split" s_split f_split d_split
  m_split : mg "split" = some (.ref f_split)
  b_split : Binds K d_split ["amount", "weights"] []
  f_greatest_quotient : Addr
  d_greatest_quotient : FuncData
  F_greatest_quotient : Fun K "_greatest_quotient" "_greatest_quotient" s_greatest_quotient f_greatest_quotient d_greatest_quotient
  m_greatest_quotient : mg "_greatest_quotient" = some (.ref f_greatest_quotient)
  b_greatest_quotient : Binds K d_greatest_quotient ["weights", "parts"] []
  f_law_cell : Addr
  d_law_cell : FuncData
  F_law_cell : Fun K "_law_cell" "_law_cell" s_law_cell f_law_cell d_law_cell
  m_law_cell : mg "_law_cell" = some (.ref f_law_cell)
  b_law_cell : Binds K d_law_cell ["script", "k"] []
  f_law_draws : Addr
  d_law_draws : FuncData
  F_law_draws : Fun K "_law_draws" "_law_draws" s_law_draws f_law_draws d_law_draws
  m_law_draws : mg "_law_draws" = some (.ref f_law_draws)
  b_law_draws : Binds K d_law_draws ["cell", "count", "size"] []
  f_law_integers : Addr
  d_law_integers : FuncData
  F_law_integers : Fun K "_law_integers" "_law_integers" s_law_integers f_law_integers d_law_integers
  m_law_integers : mg "_law_integers" = some (.ref f_law_integers)
  b_law_integers : Binds K d_law_integers ["actual", "count"] []
  f_law_weights : Addr
  d_law_weights : FuncData
  F_law_weights : Fun K "_law_weights" "_law_weights" s_law_weights f_law_weights d_law_weights
  m_law_weights : mg "_law_weights" = some (.ref f_law_weights)
  b_law_weights : Binds K d_law_weights ["cell", "shape"] []
  z_abs : mg "abs" = none
  z_all : mg "all" = none
  z_bool : mg "bool" = none
  z_int : mg "int" = none
  z_isinstance : mg "isinstance" = none
  z_len : mg "len" = none
  z_list : mg "list" = none
  z_min : mg "min" = none
  z_range : mg "range" = none
  z_sum : mg "sum" = none
  t_MOST_AMOUNT : Tok
  m_MOST_AMOUNT : mg "MOST_AMOUNT" = some (.int 1000000000000000000 t_MOST_AMOUNT)
  t_MOST_WEIGHTS : Tok
  m_MOST_WEIGHTS : mg "MOST_WEIGHTS" = some (.int 40 t_MOST_WEIGHTS)
  t_MOST_WEIGHT : Tok
  m_MOST_WEIGHT : mg "MOST_WEIGHT" = some (.int 1000000000000000 t_MOST_WEIGHT)
/-! own short words -/
theorem iteD {p A B : Prop} [Decidable p] (h1 : p → A) (h2 : ¬ p → B) : if decide p = true then A else B := by
  by_cases h : p
  · rw [decide_eq_true h, if_pos rfl]; exact h1 h
  · rw [decide_eq_false h, if_neg Bool.false_ne_true]; exact h2 h
theorem iteDN {p A B : Prop} [Decidable p] (h1 : ¬ p → A) (h2 : p → B) : if (!decide p) = true then A else B := by
  by_cases h : p
  · rw [decide_eq_true h]; exact iteF (h2 h)
  · rw [decide_eq_false h]; exact iteT (h1 h)
theorem len_le {n : Nat} (h : Nat.ble n 1000 = true) : n ≤ sizeLine := Nat.le_trans (Nat.le_of_ble_eq_true h) (by decide)
theorem iteB {b : Bool} {A B : Prop} (h1 : b = true → A) (h2 : b = false → B) : if b = true then A else B := by
  cases b with
  | true => exact iteT (h1 rfl)
  | false => exact iteF (h2 rfl)
theorem cmul_l {i j : Int} (h : -(2 ^ 64) < i) (h' : i < 2 ^ 64) : CMul i j := .inl ⟨h, h'⟩
theorem cmul_r {i j : Int} (h : -(2 ^ 64) < j) (h' : j < 2 ^ 64) : CMul i j := .inr ⟨h, h'⟩
theorem dec_t {p : Prop} [Decidable p] (h : decide p = true) : p := of_decide_eq_true h
theorem dec_f {p : Prop} [Decidable p] (h : decide p = false) : ¬ p := of_decide_eq_false h
theorem ndec_t {p : Prop} [Decidable p] (h : (!decide p) = true) : ¬ p := fun q => by rw [decide_eq_true q] at h; cases h
theorem ndec_f {p : Prop} [Decidable p] (h : (!decide p) = false) : p := by
  by_cases q : p
  · exact q
  · rw [decide_eq_false q] at h; cases h
theorem len0 : ([] : List V).length ≤ sizeLine := len_le rfl
theorem len1 {a : V} : [a].length ≤ sizeLine := len_le rfl
theorem len2 {a b : V} : [a, b].length ≤ sizeLine := len_le rfl
theorem len3 {a b c : V} : [a, b, c].length ≤ sizeLine := len_le rfl
theorem len4 {a b c d : V} : [a, b, c, d].length ≤ sizeLine := len_le rfl
theorem len5 {a b c d e : V} : [a, b, c, d, e].length ≤ sizeLine := len_le rfl
local macro_rules | `(tactic| walk_at "st") => `(tactic| repeat (first
  | (apply Exists.intro (α := V))
  | (apply Exists.intro (α := Int))
  | (apply Exists.intro (α := Bool))
  | (apply Exists.intro (α := Addr))
  | (apply Exists.intro (α := List V))
  | (apply Exists.intro (α := List Int))
  | (apply Exists.intro (α := List (Str × V)))
  | (apply Exists.intro (α := Str))
  | (apply And.intro; focus (first | omega | (dsimp only; omega) | (simp only [List.length_map, List.length_replicate]; omega) | exact rfl | assumption | exact SqL.of (by assumption) | exact Or.inl (by assumption) | exact Or.inr (by assumption) | exact Or.inr (SqT.of (by assumption)) | exact Or.inl (Or.inl upd_same) | exact Or.inl (Or.inl (Or.inl upd_same)) | (with_reducible exact len0) | (with_reducible exact len1) | (with_reducible exact len2) | (with_reducible exact len3) | (with_reducible exact len4) | (with_reducible exact len5) | exact upd_same | exact ⟨_, Or.inl (Or.inl upd_same)⟩ | exact ⟨_, SqL.of (by assumption)⟩ | exact ⟨_, by assumption⟩ | exact Or.inl ⟨rfl, _, SqL.of (by assumption)⟩ | exact Or.inl ⟨rfl, _, SqL.of upd_same⟩ | exact cmul_l (by omega) (by omega) | exact cmul_r (by omega) (by omega) | exact ⟨by omega, by omega⟩ | (simp only [List.length_map, List.length_replicate]; omega) | exact Or.inl (SqL.of (by assumption)) | exact SqT.of (by assumption)))))
/-- the script's cell at j, 0 where there is none -/
def cellOf (ns : List Int) (j : Nat) : Int := ns.getD j 0
theorem atI_ints {ns : List Int} {j : Nat} (h : j < ns.length) : atI (ns.map V.int) (j : Int) = some (.int (cellOf ns j)) := by
  refine at_of (j := j) rfl ?_
  rw [List.getElem?_map, List.getElem?_eq_getElem h]
  unfold cellOf
  rw [List.getD_eq_getElem?_getD, List.getElem?_eq_getElem h]
  rfl
theorem cellOf_out {ns : List Int} {j : Nat} (h : ¬ j < ns.length) : cellOf ns j = 0 := by
  unfold cellOf
  rw [List.getD_eq_getElem?_getD, List.getElem?_eq_none (by omega)]
  rfl
theorem same_upd {H : Hp} {p : Addr} {o : HO} (h : H p = none) : Same H (upd H p o) := fun b x e => by
  rw [upd_ne (ne_of_none e h)]
  exact e
/-- a slice of a list of ints -/
def cutI (ns : List Int) (lo hi : Option Int) : List Int := (ns.drop (HT.sIx ns.length 0 lo)).take (HT.sIx ns.length ns.length hi - HT.sIx ns.length 0 lo)
theorem cutV_ints (ns : List Int) (lo hi : Option Int) : cutV (ns.map V.int) lo hi = (cutI ns lo hi).map V.int := by
  unfold cutV cutI
  rw [List.length_map, List.map_take, List.map_drop]
theorem cutI_len (ns : List Int) (lo hi : Option Int) : (cutI ns lo hi).length ≤ ns.length := by
  unfold cutI
  rw [List.length_take, List.length_drop]
  omega
theorem ints_at {ns : List Int} {i : Nat} {x : V} (h : (ns.map V.int)[i]? = some x) : ∃ z, ns[i]? = some z ∧ x = V.int z := by
  rw [List.getElem?_map] at h
  cases e : ns[i]? with
  | none => rw [e] at h; cases h
  | some z => rw [e] at h; exact ⟨z, rfl, (Option.some.inj h).symm⟩
theorem take_succ {α : Type} {xs : List α} {i : Nat} {x : α} (h : xs[i]? = some x) : xs.take (i + 1) = xs.take i ++ [x] := by
  rw [List.take_add_one, h]
  rfl
theorem sum_le_mul : ∀ (ws : List Int) (b : Int), (∀ w, w ∈ ws → w ≤ b) → ws.sum ≤ (ws.length : Int) * b
  | [], b, _ => by show (0 : Int) ≤ ((0 : Nat) : Int) * b; omega
  | w :: ws, b, h => by
    rw [List.sum_cons, List.length_cons, Int.natCast_add, Int.add_mul]
    have h1 := h w List.mem_cons_self
    have h2 := sum_le_mul ws b fun x hx => h x (List.mem_cons_of_mem _ hx)
    omega
theorem ixN_nat {n j : Nat} (h : j < n) : ixN n (j : Int) = some j := by
  unfold ixN
  rw [if_pos (by omega), if_pos (by omega), Int.toNat_natCast]
theorem call_int_i {X : Cx} : CallR X (.type "int") (fun xs H Q => ∃ i : Int, xs = [.int i] ∧ Q (.int i) H) := by
  intro pins s σ H xs us Q I r h
  obtain ⟨i, e, q⟩ := h
  exact call_int1 pins s σ H xs us Q I r (.inl ⟨i, e, q⟩)
theorem dpAll_ints {K : PySem.W.Frag} {H : Hp} : ∀ xs : List Int, DpAll K H (xs.map V.int) (xs.map PyData.int)
  | [] => .nil
  | x :: xs => .cons (.int x) (dpAll_ints xs)
theorem eqvAll_ints : ∀ xs ys : List Int, PyData.eqvAll (xs.map PyData.int) (ys.map PyData.int) = decide (xs = ys)
  | [], [] => by simp [PyData.eqvAll]
  | [], _ :: _ => by simp [PyData.eqvAll]
  | _ :: _, [] => by simp [PyData.eqvAll]
  | x :: xs, y :: ys => by
    rw [List.map_cons, List.map_cons]
    simp only [PyData.eqvAll, PyData.eqv]
    rw [eqvAll_ints xs ys]
    by_cases h : x = y <;> by_cases h2 : xs = ys <;> simp [h, h2]
theorem lay_ints : ∀ xs : List Int, PyData.canLayAll0 (xs.map PyData.int) = true
  | [] => rfl
  | x :: xs => by
    rw [List.map_cons]
    simp only [PyData.canLayAll0, PyData.canLay0, Bool.true_and]
    exact lay_ints xs
theorem depth_ints : ∀ xs : List Int, PyData.depthAll (xs.map PyData.int) = 0
  | [] => rfl
  | x :: xs => by
    rw [List.map_cons]
    simp only [PyData.depthAll, PyData.depth, depth_ints xs]
    rfl
theorem shaped_ints (xs : List Int) : SeqAt.shaped (.list (xs.map PyData.int)) = true := by
  unfold SeqAt.shaped
  simp only [PyData.canLay0, PyData.depth, lay_ints, depth_ints]
  rfl
theorem eqD_ints {K : PySem.W.Frag} {H : Hp} {a b : Addr} {xs ys : List Int} {Q : VK} (h1 : SqL K H a (xs.map V.int)) (h2 : SqL K H b (ys.map V.int)) (q : Q (.bl (decide (xs = ys))) H) : rEqD K (.ref a) (.ref b) H Q :=
  ⟨_, _, .lst h1 (dpAll_ints xs), .lst h2 (dpAll_ints ys), shaped_ints xs, shaped_ints ys, by rw [show PyData.eqv (.list (xs.map PyData.int)) (.list (ys.map PyData.int)) = decide (xs = ys) by simp only [PyData.eqv, eqvAll_ints]]; exact q⟩
theorem neD_ints {K : PySem.W.Frag} {H : Hp} {a b : Addr} {xs ys : List Int} {Q : VK} (h1 : SqL K H a (xs.map V.int)) (h2 : SqL K H b (ys.map V.int)) (q : Q (.bl (!decide (xs = ys))) H) : rNeD K (.ref a) (.ref b) H Q :=
  ⟨_, _, .lst h1 (dpAll_ints xs), .lst h2 (dpAll_ints ys), shaped_ints xs, shaped_ints ys, by rw [show PyData.eqv (.list (xs.map PyData.int)) (.list (ys.map PyData.int)) = decide (xs = ys) by simp only [PyData.eqv, eqvAll_ints]]; exact q⟩

theorem pget_list {X : Cx} : PGet X (fun x y H Q => ∃ (p : Addr) (xs : List V) (j : Nat) (z : V), x = .ref p ∧ y = .int (j : Int) ∧ SqL X.K H p xs ∧ xs[j]? = some z ∧ Q z H) := by
  intro pins s σ H x y v u Q I rx ry h
  obtain ⟨p, xs, j, z, rfl, rfl, hq, he, q⟩ := h
  cases rx
  obtain ⟨t, rfl⟩ := ry
  obtain ⟨its, r, pl, hz⟩ := I.list hq
  obtain ⟨w, ew, rw'⟩ := r.get he
  have hl := r.length
  have hn := line63
  have hj := (List.getElem?_eq_some_iff.mp he).1
  exact wpAny_getItem_list pl.isList (by omega) (by omega) (by simpa using ew) ⟨z, H, I, rw', q⟩

/-! the mathematics of split: the greatest quotient, steps, what makes a division the one it is -/
def at0 (ws : List Int) (i : Nat) : Int := ws.getD i 0
theorem at0_lt {ws : List Int} {i : Nat} (h : i < ws.length) : ws[i]? = some (at0 ws i) := by
  unfold at0
  rw [List.getD_eq_getElem?_getD, List.getElem?_eq_getElem h]
  rfl
theorem atI_n {ws : List Int} {j : Nat} (h : j < ws.length) : atI (ws.map V.int) (j : Int) = some (.int (at0 ws j)) := by
  refine at_of (j := j) rfl ?_
  rw [List.getElem?_map, at0_lt h]
  rfl
theorem at0_of {ws : List Int} {i : Nat} {x : Int} (h : ws[i]? = some x) : at0 ws i = x := by
  unfold at0
  rw [List.getD_eq_getElem?_getD, h]
  rfl
theorem at0_out {ws : List Int} {i : Nat} (h : ws.length ≤ i) : at0 ws i = 0 := by
  unfold at0
  rw [List.getD_eq_getElem?_getD, List.getElem?_eq_none h]
  rfl
theorem at0_ext {xs ys : List Int} (hl : xs.length = ys.length) (h : ∀ i, i < xs.length → at0 xs i = at0 ys i) : xs = ys := by
  refine List.ext_getElem? fun i => ?_
  by_cases hi : i < xs.length
  · rw [at0_lt hi, at0_lt (by omega), h i hi]
  · rw [List.getElem?_eq_none (by omega), List.getElem?_eq_none (by omega)]
theorem at0_set {ps : List Int} {k i : Nat} {x : Int} (hk : k < ps.length) : at0 (ps.set k x) i = if i = k then x else at0 ps i := by
  by_cases h : i = k
  · subst h
    rw [if_pos rfl]
    exact at0_of (List.getElem?_set_self hk)
  · rw [if_neg h]
    unfold at0
    rw [List.getD_eq_getElem?_getD, List.getD_eq_getElem?_getD, List.getElem?_set_ne (fun e => h e.symm)]
theorem at0_nonneg {ws : List Int} (h : ∀ w, w ∈ ws → 0 ≤ w) (i : Nat) : 0 ≤ at0 ws i := by
  by_cases hi : i < ws.length
  · exact h _ (List.mem_of_getElem? (at0_lt hi))
  · rw [at0_out (by omega)]; exact Int.le_refl 0
/-- one cent more at k -/
def bump (ps : List Int) (k : Nat) : List Int := ps.set k (at0 ps k + 1)
theorem bump_len (ps : List Int) (k : Nat) : (bump ps k).length = ps.length := List.length_set
theorem at0_bump {ps : List Int} {k i : Nat} (hk : k < ps.length) : at0 (bump ps k) i = if i = k then at0 ps k + 1 else at0 ps i := at0_set hk
theorem sum_set1 : ∀ (ps : List Int) (k : Nat) (x : Int), k < ps.length → (ps.set k x).sum = ps.sum + (x - at0 ps k)
  | [], _, _, h => absurd h (Nat.not_lt_zero _)
  | p :: ps, 0, x, _ => by
    show (x :: ps).sum = (p :: ps).sum + (x - p)
    rw [List.sum_cons, List.sum_cons]
    omega
  | p :: ps, k + 1, x, h => by
    show (p :: ps.set k x).sum = (p :: ps).sum + (x - at0 ps k)
    rw [List.sum_cons, List.sum_cons, sum_set1 ps k x (Nat.lt_of_succ_lt_succ h)]
    omega
theorem bump_sum {ps : List Int} {k : Nat} (h : k < ps.length) : (bump ps k).sum = ps.sum + 1 := by
  unfold bump
  rw [sum_set1 ps k _ h]
  omega
/-- the index with the greatest quotient among the first m -/
def gq (ws ps : List Int) : Nat → Nat
  | 0 => 0
  | m + 1 => if at0 ws (gq ws ps m) * (at0 ps m + 1) < at0 ws m * (at0 ps (gq ws ps m) + 1) then m else gq ws ps m
theorem gq_one (ws ps : List Int) : gq ws ps 1 = 0 := by
  show (if at0 ws 0 * (at0 ps 0 + 1) < at0 ws 0 * (at0 ps 0 + 1) then 0 else 0) = 0
  split <;> rfl
theorem gq_lt (ws ps : List Int) : ∀ m, 0 < m → gq ws ps m < m
  | 0, h => absurd h (Nat.lt_irrefl _)
  | 1, _ => by rw [gq_one]; exact Nat.one_pos
  | m + 2, _ => by
    have ih := gq_lt ws ps (m + 1) (Nat.succ_pos _)
    unfold gq
    split
    · exact Nat.lt_succ_self _
    · exact Nat.lt_succ_of_lt ih
theorem ratio_lt {a A b B c C : Int} (hA : 0 < A) (hB : 0 < B) (hC : 0 < C) (h1 : b * A < a * B) (h2 : c * B ≤ b * C) : c * A < a * C := by
  have e1 : b * A * C < a * B * C := Int.mul_lt_mul_of_pos_right h1 hC
  have e2 : c * B * A ≤ b * C * A := Int.mul_le_mul_of_nonneg_right h2 (by omega)
  have e3 : c * A * B < a * C * B := by grind
  exact Int.lt_of_mul_lt_mul_right e3 (by omega)
theorem ratio_le {a A b B c C : Int} (hA : 0 < A) (hB : 0 < B) (hC : 0 < C) (h1 : b * A ≤ a * B) (h2 : c * B < b * C) : c * A < a * C := by
  have e1 : b * A * C ≤ a * B * C := Int.mul_le_mul_of_nonneg_right h1 (by omega)
  have e2 : c * B * A < b * C * A := Int.mul_lt_mul_of_pos_right h2 hA
  have e3 : c * A * B < a * C * B := by grind
  exact Int.lt_of_mul_lt_mul_right e3 (by omega)
/-- (i, a) goes ahead of (k, b) -/
def Ahead (ws : List Int) (i : Nat) (a : Int) (k : Nat) (b : Int) : Prop := at0 ws k * a < at0 ws i * b ∨ (at0 ws k * a = at0 ws i * b ∧ i ≤ k)
theorem Ahead.le {ws : List Int} {i k : Nat} {a b : Int} (h : Ahead ws i a k b) : at0 ws k * a ≤ at0 ws i * b := by
  rcases h with h | ⟨h, _⟩
  · omega
  · omega
theorem gq_best {ws ps : List Int} (hp : ∀ i, 0 ≤ at0 ps i) : ∀ m k, k < m → Ahead ws (gq ws ps m) (at0 ps (gq ws ps m) + 1) k (at0 ps k + 1)
  | 0, k, h => absurd h (Nat.not_lt_zero _)
  | m + 1, k, h => by
    have hb := hp (gq ws ps m)
    have hm := hp m
    have hk := hp k
    by_cases e : at0 ws (gq ws ps m) * (at0 ps m + 1) < at0 ws m * (at0 ps (gq ws ps m) + 1)
    · have eg : gq ws ps (m + 1) = m := by
        show (if _ then _ else _) = _
        rw [if_pos e]
      rw [eg]
      by_cases hkm : k = m
      · subst hkm
        exact .inr ⟨rfl, Nat.le_refl _⟩
      · have ih := (gq_best (ws := ws) hp m k (by omega)).le
        exact .inl (ratio_lt (by omega) (by omega) (by omega) e ih)
    · have eg : gq ws ps (m + 1) = gq ws ps m := by
        show (if _ then _ else _) = _
        rw [if_neg e]
      rw [eg]
      by_cases hkm : k = m
      · subst hkm
        by_cases e2 : at0 ws k * (at0 ps (gq ws ps k) + 1) = at0 ws (gq ws ps k) * (at0 ps k + 1)
        · refine .inr ⟨e2, ?_⟩
          by_cases h0 : 0 < k
          · exact Nat.le_of_lt (gq_lt ws ps k h0)
          · have : k = 0 := by omega
            subst this
            exact Nat.le_refl _
        · exact .inl (by omega)
      · exact gq_best hp m k (by omega)
/-- n steps -/
def steps (ws : List Int) : Nat → List Int → List Int
  | 0, ps => ps
  | n + 1, ps => bump (steps ws n ps) (gq ws (steps ws n ps) ws.length)
def floors (amount total : Int) (ws : List Int) : List Int := ws.map fun w => amount * w / total
def splitOf (amount : Int) (ws : List Int) : List Int :=
  if ws.sum = 0 then ws.map fun _ => 0 else steps ws (amount - (floors amount ws.sum ws).sum).toNat (floors amount ws.sum ws)
theorem steps_len (ws : List Int) : ∀ n ps, (steps ws n ps).length = ps.length
  | 0, _ => rfl
  | n + 1, ps => by
    show (bump _ _).length = _
    rw [bump_len, steps_len ws n ps]
theorem floors_len (amount total : Int) (ws : List Int) : (floors amount total ws).length = ws.length := List.length_map ..
theorem splitOf_len (amount : Int) (ws : List Int) : (splitOf amount ws).length = ws.length := by
  unfold splitOf
  split
  · exact List.length_map ..
  · rw [steps_len, floors_len]
theorem at0_floors {amount total : Int} {ws : List Int} {i : Nat} (h : i < ws.length) : at0 (floors amount total ws) i = amount * at0 ws i / total := by
  refine at0_of ?_
  unfold floors
  rw [List.getElem?_map, at0_lt h]
  rfl
theorem sum_nonneg : ∀ (ws : List Int), (∀ w, w ∈ ws → 0 ≤ w) → 0 ≤ ws.sum
  | [], _ => Int.le_refl _
  | w :: ws, h => by
    rw [List.sum_cons]
    have h1 := h w List.mem_cons_self
    have h2 := sum_nonneg ws fun x hx => h x (List.mem_cons_of_mem _ hx)
    omega
theorem at0_le_sum : ∀ (ws : List Int) (i : Nat), (∀ w, w ∈ ws → 0 ≤ w) → at0 ws i ≤ ws.sum
  | [], i, _ => by rw [at0_out (Nat.zero_le _)]; exact Int.le_refl _
  | w :: ws, 0, h => by
    show w ≤ (w :: ws).sum
    rw [List.sum_cons]
    have h2 := sum_nonneg ws fun x hx => h x (List.mem_cons_of_mem _ hx)
    omega
  | w :: ws, i + 1, h => by
    show at0 ws i ≤ (w :: ws).sum
    rw [List.sum_cons]
    have h1 := h w List.mem_cons_self
    have h2 := at0_le_sum ws i fun x hx => h x (List.mem_cons_of_mem _ hx)
    omega
theorem floors_mul_le (amount total : Int) (ht : 0 < total) : ∀ ws : List Int, (floors amount total ws).sum * total ≤ amount * ws.sum
  | [] => by show (0 : Int) * total ≤ amount * 0; omega
  | w :: ws => by
    show ((amount * w / total) :: floors amount total ws).sum * total ≤ amount * (w :: ws).sum
    rw [List.sum_cons, List.sum_cons, Int.add_mul, Int.mul_add]
    have h1 := floors_mul_le amount total ht ws
    have h2 := Int.ediv_mul_le (amount * w) (by omega : total ≠ 0)
    omega
theorem floors_le {amount : Int} {ws : List Int} (ht : 0 < ws.sum) : (floors amount ws.sum ws).sum ≤ amount := by
  have h := floors_mul_le amount ws.sum ht ws
  exact Int.le_of_mul_le_mul_right h ht
theorem floors_gt (amount total : Int) (ht : 0 < total) : ∀ ws : List Int, amount * ws.sum ≤ (floors amount total ws).sum * total + (ws.length : Int) * (total - 1)
  | [] => by show amount * 0 ≤ (0 : Int) * total + ((0 : Nat) : Int) * (total - 1); omega
  | w :: ws => by
    show amount * (w :: ws).sum ≤ ((amount * w / total) :: floors amount total ws).sum * total + ((ws.length + 1 : Nat) : Int) * (total - 1)
    rw [List.sum_cons, List.sum_cons, Int.add_mul, Int.mul_add]
    have h1 := floors_gt amount total ht ws
    have h2 := Int.lt_ediv_add_one_mul_self (amount * w) ht
    rw [Int.add_mul, Int.one_mul] at h2
    have h3 : ((ws.length + 1 : Nat) : Int) * (total - 1) = (ws.length : Int) * (total - 1) + (total - 1) := by
      rw [Int.natCast_add, Int.add_mul]
      omega
    omega
/-- fewer steps than weights -/
theorem floors_rest {amount : Int} {ws : List Int} (ht : 0 < ws.sum) : amount - (floors amount ws.sum ws).sum < ws.length := by
  have h := floors_gt amount ws.sum ht ws
  have h2 : (amount - (floors amount ws.sum ws).sum) * ws.sum ≤ (ws.length : Int) * (ws.sum - 1) := by
    rw [Int.sub_mul]
    omega
  by_cases hl : (ws.length : Int) = 0
  · have : ws = [] := by
      cases ws with
      | nil => rfl
      | cons x r => rw [List.length_cons] at hl; omega
    subst this
    exact absurd ht (by decide)
  · refine Int.lt_of_mul_lt_mul_right (Int.lt_of_le_of_lt h2 ?_) (Int.le_of_lt ht)
    rw [Int.mul_sub]
    omega
theorem floors_nonneg {amount total : Int} {ws : List Int} (ha : 0 ≤ amount) (ht : 0 < total) (hw : ∀ w, w ∈ ws → 0 ≤ w) : ∀ p, p ∈ floors amount total ws → 0 ≤ p := by
  intro p hp
  obtain ⟨w, hm, rfl⟩ := List.mem_map.mp hp
  exact Int.ediv_nonneg (Int.mul_nonneg ha (hw w hm)) (by omega)
theorem steps_ge {ws : List Int} (hl : 0 < ws.length) : ∀ n ps, ps.length = ws.length → ∀ i, at0 ps i ≤ at0 (steps ws n ps) i
  | 0, _, _, _ => Int.le_refl _
  | n + 1, ps, h, i => by
    have ih := steps_ge hl n ps h i
    have hk : gq ws (steps ws n ps) ws.length < (steps ws n ps).length := by rw [steps_len, h]; exact gq_lt _ _ _ hl
    show at0 ps i ≤ at0 (bump _ _) i
    rw [at0_bump hk]
    split
    · rename_i e
      rw [← e]
      omega
    · exact ih
theorem steps_sum {ws : List Int} (hl : 0 < ws.length) : ∀ n ps, ps.length = ws.length → (steps ws n ps).sum = ps.sum + n
  | 0, ps, _ => by show ps.sum = ps.sum + ((0 : Nat) : Int); omega
  | n + 1, ps, h => by
    have hk : gq ws (steps ws n ps) ws.length < (steps ws n ps).length := by rw [steps_len, h]; exact gq_lt _ _ _ hl
    show (bump _ _).sum = _
    rw [bump_sum hk, steps_sum hl n ps h]
    omega
theorem len_pos {ws : List Int} (h : 0 < ws.sum) : 0 < ws.length := by
  cases ws with
  | nil => exact absurd h (by decide)
  | cons x r => rw [List.length_cons]; exact Nat.succ_pos _
theorem splitOf_sum {amount : Int} {ws : List Int} (ht : 0 < ws.sum) : (splitOf amount ws).sum = amount := by
  unfold splitOf
  rw [if_neg (by omega), steps_sum (len_pos ht) _ _ (floors_len ..)]
  have := floors_le (amount := amount) ht
  omega
theorem splitOf_ge {amount : Int} {ws : List Int} (ht : 0 < ws.sum) {i : Nat} (hi : i < ws.length) : amount * at0 ws i / ws.sum ≤ at0 (splitOf amount ws) i := by
  unfold splitOf
  rw [if_neg (by omega)]
  have h := steps_ge (len_pos ht) (amount - (floors amount ws.sum ws).sum).toNat (floors amount ws.sum ws) (floors_len ..) i
  rw [at0_floors hi] at h
  exact h
theorem sum_lt_ex : ∀ (ps ws : List Int), ps.length = ws.length → ps.sum < ws.sum → ∃ i, i < ws.length ∧ at0 ps i < at0 ws i
  | [], [], _, h => absurd h (by decide)
  | p :: ps, w :: ws, hl, h => by
    rw [List.sum_cons, List.sum_cons] at h
    by_cases e : p < w
    · exact ⟨0, Nat.succ_pos _, e⟩
    · obtain ⟨i, h1, h2⟩ := sum_lt_ex ps ws (by simpa using hl) (by omega)
      exact ⟨i + 1, Nat.succ_lt_succ h1, h2⟩
  | [], _ :: _, hl, _ => by simp at hl
  | _ :: _, [], hl, _ => by simp at hl
/-- while there are fewer cents than weights in all, nobody gets more than his weight -/
theorem steps_le {ws : List Int} (hw : ∀ w, w ∈ ws → 0 ≤ w) (hl : 0 < ws.length) : ∀ (n : Nat) (ps : List Int), ps.length = ws.length → (∀ i, 0 ≤ at0 ps i) → (∀ i, i < ws.length → at0 ps i ≤ at0 ws i) → ps.sum + (n : Int) ≤ ws.sum → ∀ i, i < ws.length → at0 (steps ws n ps) i ≤ at0 ws i
  | 0, _, _, _, h, _, i, hi => h i hi
  | n + 1, ps, h, h0, h1, h2, i, hi => by
    have ih := steps_le hw hl n ps h h0 h1 (by omega)
    have hn : ∀ i, 0 ≤ at0 (steps ws n ps) i := fun i => Int.le_trans (h0 i) (steps_ge hl n ps h i)
    have hk : gq ws (steps ws n ps) ws.length < (steps ws n ps).length := by rw [steps_len, h]; exact gq_lt _ _ _ hl
    have hs := steps_sum hl n ps h
    obtain ⟨k, hk1, hk2⟩ := sum_lt_ex (steps ws n ps) ws (by rw [steps_len, h]) (by omega)
    have hb := (gq_best (ws := ws) hn ws.length k hk1).le
    show at0 (bump _ _) i ≤ _
    rw [at0_bump hk]
    split
    · rename_i e
      rw [e]
      generalize gq ws (steps ws n ps) ws.length = b at *
      generalize steps ws n ps = qs at *
      have hkn := hn k
      have hbn := hn b
      have h5 : (at0 qs k + 1) * (at0 qs b + 1) ≤ at0 ws k * (at0 qs b + 1) := Int.mul_le_mul_of_nonneg_right (by omega) (by omega)
      have h6 : (at0 qs b + 1) * (at0 qs k + 1) ≤ at0 ws b * (at0 qs k + 1) := by
        rw [Int.mul_comm (at0 qs b + 1)]
        exact Int.le_trans h5 hb
      exact Int.le_of_mul_le_mul_right h6 (by omega)
    · exact ih i hi
theorem splitOf_le {amount : Int} {ws : List Int} (ha : 0 ≤ amount) (hw : ∀ w, w ∈ ws → 0 ≤ w) (ht : 0 < ws.sum) (hle : amount ≤ ws.sum) {i : Nat} (hi : i < ws.length) : at0 (splitOf amount ws) i ≤ at0 ws i := by
  unfold splitOf
  rw [if_neg (by omega)]
  have hf := floors_le (amount := amount) ht
  refine steps_le hw (len_pos ht) _ _ (floors_len ..) (fun i => at0_nonneg (floors_nonneg ha ht hw) i) (fun i hi => ?_) (by omega) i hi
  rw [at0_floors hi]
  have hwi := at0_nonneg hw i
  refine Int.ediv_le_of_le_mul ht ?_
  rw [Int.mul_comm]
  exact Int.mul_le_mul_of_nonneg_left hle hwi

/-! a division is the one it is: each cent given goes ahead of each cent not given -/
structure Good (ws ps : List Int) : Prop where
  len : ps.length = ws.length
  nn : ∀ i, 0 ≤ at0 ps i
  ah : ∀ i k, i < ws.length → k < ws.length → 0 < at0 ps i → Ahead ws i (at0 ps i) k (at0 ps k + 1)
theorem Good.uniq {ws ps qs : List Int} (g : Good ws ps) (g' : Good ws qs) (hs : ps.sum = qs.sum) (hw : ∀ i, 0 ≤ at0 ws i) : ps = qs := by
  have hl := g.len
  have hl' := g'.len
  refine at0_ext (by omega) fun i hi => ?_
  by_cases hne : at0 ps i = at0 qs i
  · exact hne
  -- some index has more, some other less
  have key : ∀ (as bs : List Int), Good ws as → Good ws bs → as.sum = bs.sum → ∀ i, i < ws.length → at0 bs i < at0 as i → False := by
    intro as bs ga gb es i hi hlt
    have hk : ∃ k, k < ws.length ∧ at0 as k < at0 bs k := by
      have e1 : (as.set i (at0 bs i)).sum < bs.sum := by
        rw [sum_set1 as i _ (by rw [ga.len]; exact hi)]
        omega
      obtain ⟨k, h1, h2⟩ := sum_lt_ex (as.set i (at0 bs i)) bs (by rw [List.length_set, ga.len, gb.len]) e1
      rw [at0_set (by rw [ga.len]; exact hi)] at h2
      by_cases e : k = i
      · rw [if_pos e, e] at h2
        omega
      · rw [if_neg e] at h2
        exact ⟨k, by rw [gb.len] at h1; exact h1, h2⟩
    obtain ⟨k, hk, hlt2⟩ := hk
    have n1 := gb.nn i
    have n2 := ga.nn k
    have a1 := ga.ah i k hi hk (by omega)
    have a2 := gb.ah k i hk hi (by omega)
    have wi := hw i
    have wk := hw k
    have m1 : at0 ws k * (at0 bs i + 1) ≤ at0 ws k * at0 as i := Int.mul_le_mul_of_nonneg_left (by omega) wk
    have m2 : at0 ws i * (at0 as k + 1) ≤ at0 ws i * at0 bs k := Int.mul_le_mul_of_nonneg_left (by omega) wi
    rcases a1 with a1 | ⟨a1, c1⟩
    · have := a2.le
      omega
    · rcases a2 with a2 | ⟨a2, c2⟩
      · omega
      · have e : i = k := by omega
        subst e
        omega
  rcases Int.lt_or_gt_of_ne hne with h | h
  · exact (key qs ps g' g hs.symm i (by omega) h).elim
  · exact (key ps qs g g' hs i (by omega) h).elim
theorem Ahead.trans {ws : List Int} {i j k : Nat} {a b c : Int} (ha : 0 < a) (hb : 0 < b) (hc : 0 < c) (h1 : Ahead ws i a j b) (h2 : Ahead ws j b k c) : Ahead ws i a k c := by
  rcases h1 with h1 | ⟨h1, q1⟩
  · exact .inl (ratio_lt ha hb hc h1 h2.le)
  · rcases h2 with h2 | ⟨h2, q2⟩
    · exact .inl (ratio_le ha hb hc (by omega) h2)
    · refine .inr ⟨?_, Nat.le_trans q1 q2⟩
      have e1 : at0 ws k * a * b = at0 ws i * c * b := by
        have e2 : at0 ws k * b * a = at0 ws j * c * a := by rw [h2]
        have e3 : at0 ws j * a * c = at0 ws i * b * c := by rw [h1]
        grind
      exact Int.eq_of_mul_eq_mul_right (by omega) e1
theorem Ahead.more {ws : List Int} {i k : Nat} {a b c : Int} (hw : ∀ i, 0 ≤ at0 ws i) (h : Ahead ws i a k b) (hbc : b ≤ c) : Ahead ws i a k c := by
  have m : at0 ws i * b ≤ at0 ws i * c := Int.mul_le_mul_of_nonneg_left hbc (hw i)
  rcases h with h | ⟨h, q⟩
  · exact .inl (by omega)
  · by_cases e : at0 ws k * a = at0 ws i * c
    · exact .inr ⟨e, q⟩
    · exact .inl (by omega)
/-- one cent to the greatest quotient keeps it so -/
theorem Good.step {ws ps : List Int} (hw : ∀ i, 0 ≤ at0 ws i) (hl : 0 < ws.length) (g : Good ws ps) : Good ws (bump ps (gq ws ps ws.length)) := by
  have hk : gq ws ps ws.length < ps.length := by rw [g.len]; exact gq_lt _ _ _ hl
  have hb := gq_best (ws := ws) g.nn ws.length
  refine ⟨by rw [bump_len, g.len], fun i => ?_, fun i k hi hkl h => ?_⟩
  · rw [at0_bump hk]
    have := g.nn i
    split
    · have := g.nn (gq ws ps ws.length)
      omega
    · exact this
  · rw [at0_bump hk] at h ⊢
    have hge : at0 ps k + 1 ≤ at0 (bump ps (gq ws ps ws.length)) k + 1 := by
      rw [at0_bump hk]
      split
      · rename_i e
        rw [e]
        omega
      · omega
    by_cases e : i = gq ws ps ws.length
    · rw [if_pos e, e]
      exact (hb k hkl).more hw hge
    · rw [if_neg e] at h ⊢
      exact (g.ah i k hi hkl h).more hw hge
/-- from the floors on: what holds between the steps -/
structure Half (ws fs ps : List Int) : Prop where
  len : ps.length = ws.length
  nn : ∀ i, 0 ≤ at0 ps i
  ge : ∀ i, at0 fs i ≤ at0 ps i
  ah : ∀ i k, i < ws.length → k < ws.length → at0 fs i < at0 ps i → Ahead ws i (at0 ps i) k (at0 ps k + 1)
theorem Half.step {ws fs ps : List Int} (hw : ∀ i, 0 ≤ at0 ws i) (hl : 0 < ws.length) (g : Half ws fs ps) : Half ws fs (bump ps (gq ws ps ws.length)) := by
  have hk : gq ws ps ws.length < ps.length := by rw [g.len]; exact gq_lt _ _ _ hl
  have hb := gq_best (ws := ws) g.nn ws.length
  have hge : ∀ k, at0 ps k ≤ at0 (bump ps (gq ws ps ws.length)) k := by
    intro k
    rw [at0_bump hk]
    split
    · rename_i e
      rw [e]
      omega
    · omega
  refine ⟨by rw [bump_len, g.len], fun i => Int.le_trans (g.nn i) (hge i), fun i => Int.le_trans (g.ge i) (hge i), fun i k hi hkl h => ?_⟩
  have hgk := hge k
  rw [at0_bump hk] at h ⊢
  by_cases e : i = gq ws ps ws.length
  · rw [if_pos e, e]
    exact (hb k hkl).more hw (by omega)
  · rw [if_neg e] at h ⊢
    exact (g.ah i k hi hkl h).more hw (by omega)
theorem Half.run {ws fs : List Int} (hw : ∀ i, 0 ≤ at0 ws i) (hl : 0 < ws.length) (g : Half ws fs fs) : ∀ n, Half ws fs (steps ws n fs)
  | 0 => g
  | n + 1 => (Half.run hw hl g n).step hw hl
theorem splitOf_good {amount : Int} {ws : List Int} (ha : 0 ≤ amount) (hw : ∀ w, w ∈ ws → 0 ≤ w) (ht : 0 < ws.sum) : Good ws (splitOf amount ws) := by
  have hw0 := at0_nonneg hw
  have hl := len_pos ht
  have hfn := at0_nonneg (floors_nonneg ha ht hw)
  have h0 : Half ws (floors amount ws.sum ws) (floors amount ws.sum ws) := ⟨floors_len .., hfn, fun _ => Int.le_refl _, fun i k _ _ h => absurd h (by omega)⟩
  have h := h0.run hw0 hl (amount - (floors amount ws.sum ws).sum).toNat
  have e : splitOf amount ws = steps ws (amount - (floors amount ws.sum ws).sum).toNat (floors amount ws.sum ws) := by
    unfold splitOf
    rw [if_neg (by omega)]
  rw [← e] at h
  refine ⟨h.len, h.nn, fun i k hi hk hp => ?_⟩
  by_cases q : at0 (floors amount ws.sum ws) i < at0 (splitOf amount ws) i
  · exact h.ah i k hi hk q
  · have ei : at0 (splitOf amount ws) i = at0 (floors amount ws.sum ws) i := by have := h.ge i; omega
    have gk := h.ge k
    rw [ei] at hp ⊢
    rw [at0_floors hi] at hp ⊢
    rw [at0_floors hk] at gk
    refine .inl ?_
    have wi := hw0 i
    have wk := hw0 k
    have f1 : amount * at0 ws i / ws.sum * ws.sum ≤ amount * at0 ws i := Int.ediv_mul_le _ (by omega)
    have f2 := Int.lt_ediv_add_one_mul_self (amount * at0 ws k) ht
    have wip : 0 < at0 ws i := by
      by_cases z : at0 ws i = 0
      · rw [z, Int.mul_zero, Int.zero_ediv] at hp
        exact absurd hp (by decide)
      · omega
    generalize amount * at0 ws i / ws.sum = fi at *
    generalize amount * at0 ws k / ws.sum = fk at *
    generalize at0 (splitOf amount ws) k = pk at *
    have g1 : at0 ws k * (fi * ws.sum) ≤ at0 ws k * (amount * at0 ws i) := Int.mul_le_mul_of_nonneg_left f1 wk
    have g2 : at0 ws i * (amount * at0 ws k) < at0 ws i * ((fk + 1) * ws.sum) := Int.mul_lt_mul_of_pos_left f2 wip
    have g3 : at0 ws i * ((fk + 1) * ws.sum) ≤ at0 ws i * ((pk + 1) * ws.sum) := Int.mul_le_mul_of_nonneg_left (Int.mul_le_mul_of_nonneg_right (by omega) (by omega)) wi
    have g4 : at0 ws k * fi * ws.sum < at0 ws i * (pk + 1) * ws.sum := by grind
    exact Int.lt_of_mul_lt_mul_right g4 (by omega)
/-- what splitOf gives is the one good division -/
theorem splitOf_uniq {ws ps : List Int} (hw : ∀ w, w ∈ ws → 0 ≤ w) (ht : 0 < ws.sum) (g : Good ws ps) (hs : 0 ≤ ps.sum) : splitOf ps.sum ws = ps :=
  (splitOf_good hs hw ht).uniq g (splitOf_sum ht) (at0_nonneg hw)
/-- one cent more goes to the greatest quotient -/
theorem splitOf_succ {amount : Int} {ws : List Int} (ha : 0 ≤ amount) (hw : ∀ w, w ∈ ws → 0 ≤ w) (ht : 0 < ws.sum) : splitOf (amount + 1) ws = bump (splitOf amount ws) (gq ws (splitOf amount ws) ws.length) := by
  have g := splitOf_good ha hw ht
  have hk : gq ws (splitOf amount ws) ws.length < (splitOf amount ws).length := by rw [g.len]; exact gq_lt _ _ _ (len_pos ht)
  have es : (bump (splitOf amount ws) (gq ws (splitOf amount ws) ws.length)).sum = amount + 1 := by rw [bump_sum hk, splitOf_sum ht]
  have := splitOf_uniq hw ht (g.step (at0_nonneg hw) (len_pos ht)) (by omega)
  rw [es] at this
  exact this

/-! picking by a list of places -/
def nats (G : List Nat) : List V := G.map fun (k : Nat) => V.int (k : Int)
/-- what a comprehension asks behind its source -/
def lcBody (J : It) (g : TG) (tt : TT) (te : TE) (vs : List Nat) (σ : L2.St) (Q : VK) (H1 : Hp) : Prop := ∀ D, H1 D = none → ∃ W : Nat → Nat → Hp → Prop, (∃ m, W 0 m (upd H1 D (.lst []))) ∧ ∀ i m H, W i m H →
  (J.stop i H ∧ Q (.ref D) H) ∨ (J.go i H ∧ ∃ Nx : Hp → Prop, (∀ H', Nx H' → ∃ m', m' < m ∧ W (i + 1) m' H') ∧ ∀ x H', J.yld i H x H' → g x (wipe σ vs) H' fun σ2 H2 => wipe σ2 vs = wipe σ vs ∧ tt σ2 H2 fun b H3 =>
    if b = true then te σ2 H3 fun y H4 => ∃ acc, H4 D = some (.lst acc) ∧ acc.length < sizeLine ∧ Nx (upd H4 D (.lst (acc ++ [y]))) else Nx H3)
theorem lc_pick2 {K : PySem.W.Frag} {σ : L2.St} {H : Hp} {Q : VK} {j l : Nat} {g b : Addr} {G : List Nat} {ws : List Int} (hj : j < σ.length) (hlj : l ≠ j) (hl : σ[l]? = some (some (.ref b)))
    (hg : SqL K H g (nats G)) (hb : SqL K H b (ws.map V.int)) (hG : ∀ k, k ∈ G → k < ws.length) (hlen : G.length ≤ 1000)
    (q : ∀ D, H D = none → Q (.ref D) (upd H D (.lst ((G.map (at0 ws)).map V.int)))) : lcBody (Itl K g) (gName j) tYes (tOp (rIxL K) (tVar l) (tVar j)) [j] σ Q H := by
  intro D nD
  refine lc_list (K := K) (a := g) (xs := nats G) (fun n H' => H' = upd H D (.lst (((G.take n).map (at0 ws)).map V.int))) rfl (fun n H' _ e => by rw [e]; exact (same_upd nD).seq hg) ?_ ?_
  · rintro n x H' hx rfl
    unfold nats at hx
    rw [List.getElem?_map] at hx
    cases hk : G[n]? with
    | none => rw [hk] at hx; cases hx
    | some k =>
      rw [hk] at hx
      have ex : V.int (k : Int) = x := Option.some.inj hx
      subst ex
      have hn := (List.getElem?_eq_some_iff.mp hk).1
      have hkl := hG k (List.mem_of_getElem? hk)
      have hj' : j < (wipe σ [j]).length := by rw [wipe_length]; exact hj
      refine ⟨?_, ?_⟩
      · show ((wipe σ [j]).set j (some (V.int (k : Int)))).set j none = σ.set j none
        show ((σ.set j none).set j (some (V.int (k : Int)))).set j none = σ.set j none
        rw [List.set_set, List.set_set]
      · refine ⟨_, ?_, _, List.getElem?_set_self hj', b, ws.map V.int, (k : Int), _, rfl, rfl, (same_upd nD).seq hb, atI_n hkl, ?_⟩
        · show ((wipe σ [j]).set j (some (V.int (k : Int))))[l]? = some (some (V.ref b))
          rw [List.getElem?_set_ne (fun e => hlj e.symm)]
          show (σ.set j none)[l]? = _
          rw [List.getElem?_set_ne (fun e => hlj e.symm)]
          exact hl
        · refine ⟨_, upd_same, ?_, ?_⟩
          · refine small1000 ?_
            rw [List.length_map, List.length_map, List.length_take]
            omega
          · rw [upd_upd, take_succ hk, List.map_append, List.map_append]
            rfl
  · rintro H' rfl
    have e : G.take (nats G).length = G := List.take_of_length_le (by unfold nats; rw [List.length_map]; exact Nat.le_refl _)
    rw [e]
    exact q D nD
theorem lc_pick {K : PySem.W.Frag} {σ : L2.St} {H : Hp} {Q : VK} {i j l : Nat} {g b : Addr} {G : List Nat} {ws : List Int} (hj : j < σ.length) (hij : i ≠ j) (hlj : l ≠ j) (hi : σ[i]? = some (some (.ref g))) (hl : σ[l]? = some (some (.ref b)))
    (hg : SqL K H g (nats G)) (hb : SqL K H b (ws.map V.int)) (hG : ∀ k, k ∈ G → k < ws.length) (hlen : G.length ≤ 1000)
    (q : ∀ D, H D = none → Q (.ref D) (upd H D (.lst ((G.map (at0 ws)).map V.int)))) : tLc (iList K (tVar i)) (gName j) tYes (tOp (rIxL K) (tVar l) (tVar j)) [j] σ H Q :=
  ⟨_, hi, g, rfl, ⟨_, hg⟩, lc_pick2 hj hlj hl hg hb hG hlen q⟩
/-- [ws[k] for k in G], as one step: the slots i of G, j of k, l of ws -/
def tPick (K : PySem.W.Frag) (i j l : Nat) : TE := fun σ H Q => ∃ (g b : Addr), Nat.ble (j + 1) σ.length = true ∧ σ[i]? = some (some (.ref g)) ∧ σ[l]? = some (some (.ref b)) ∧ ∃ (G : List Nat) (ws : List Int), SqL K H g (nats G) ∧ SqL K H b (ws.map V.int) ∧ (∀ k, k ∈ G → k < ws.length) ∧ G.length ≤ 1000 ∧
  ∀ D, H D = none → Q (.ref D) (upd H D (.lst ((G.map (at0 ws)).map V.int)))
theorem pe_pick {X : Cx} {K : PySem.W.Frag} {e : Expr} {i j l : Nat} (p : PE X e (tLc (iList K (tVar i)) (gName j) tYes (tOp (rIxL K) (tVar l) (tVar j)) [j])) (hij : i ≠ j := by decide) (hlj : l ≠ j := by decide) : PE X e (tPick K i j l) := by
  refine ⟨fun pins s σ H Q I h => ?_⟩
  obtain ⟨g, b, h1, h2, h3, G, ws, h4, h5, h6, h7, q⟩ := h
  exact p.run pins s σ H Q I (lc_pick (Nat.le_of_ble_eq_true h1) hij hlj h2 h3 h4 h5 h6 h7 q)
theorem ps_pick {X : Cx} {K : PySem.W.Frag} {e : Stmt} {i j l n : Nat} (p : PS X e (tAsg (tLc (iList K (tVar i)) (gName j) tYes (tOp (rIxL K) (tVar l) (tVar j)) [j]) (gName n))) (hij : i ≠ j := by decide) (hlj : l ≠ j := by decide) : PS X e (tAsg (tPick K i j l) (gName n)) := by
  refine ⟨fun pins s σ H D I h => ?_⟩
  obtain ⟨g, b, h1, h2, h3, G, ws, h4, h5, h6, h7, q⟩ := h
  exact p.run pins s σ H D I (lc_pick (Nat.le_of_ble_eq_true h1) hij hlj h2 h3 h4 h5 h6 h7 q)
theorem at0_map {G : List Nat} {f : Nat → Int} {i k : Nat} (h : G[i]? = some k) : at0 (G.map f) i = f k := by
  refine at0_of ?_
  rw [List.getElem?_map, h]
  rfl
/-- a good division is good for every group -/
theorem Good.group {ws ps : List Int} {G : List Nat} (g : Good ws ps) (hG : ∀ k, k ∈ G → k < ws.length) (hs : G.Pairwise (· < ·)) : Good (G.map (at0 ws)) (G.map (at0 ps)) := by
  refine ⟨by rw [List.length_map, List.length_map], fun i => ?_, fun i k hi hk h => ?_⟩
  · by_cases hi : i < G.length
    · rw [at0_map (List.getElem?_eq_getElem hi)]
      exact g.nn _
    · rw [at0_out (by rw [List.length_map]; omega)]
      exact Int.le_refl 0
  · rw [List.length_map] at hi hk
    have ei := List.getElem?_eq_getElem hi
    have ek := List.getElem?_eq_getElem hk
    rw [at0_map ei] at h ⊢
    rw [at0_map ek]
    have a := g.ah G[i] G[k] (hG _ (List.getElem_mem hi)) (hG _ (List.getElem_mem hk)) h
    unfold Ahead
    rw [at0_map ei, at0_map ek]
    rcases a with a | ⟨a, c⟩
    · exact .inl a
    · refine .inr ⟨a, ?_⟩
      by_cases z : i ≤ k
      · exact z
      · have := List.pairwise_iff_getElem.mp hs k i hk hi (by omega)
        omega

section
variable {P : Program} {w : World} {K : PySem.W.Frag} {mg : Str → Option Value} {base : Heap}
def sp_check_amount (K : PySem.W.Frag) : Sp := fun vs H Q _ => ∃ a m : Int, vs = [.int a, .int m] ∧ 0 ≤ a ∧ a ≤ m ∧ Q .non H
theorem ok_check_amount (T : Txt K mg) : FnOk P w K mg base CX0 1 T.f_check_amount T.d_check_amount ["amount", "most"] (sp_check_amount K) := by
  refine T.F_check_amount.ok sc_check_amount (fun vs H Q E h => ?_) (fun cdv A outer s H vs Q E hr h => ?_)
  · obtain ⟨a, m, rfl, _⟩ := h
    rfl
  · obtain ⟨a, m, rfl, h1, h2, q⟩ := h
    refine ⟨_, (pss_one (ps_if (pt_not (pt_chain op_le op_le pe_int (pv 0) (pv 1)))
      (pss_one ps_never)
      pss_nil)), ?_⟩
    walk_at "st"
    refine iteB (fun _ => ?_) (fun h => absurd h1 (dec_f h))
    walk_at "st"
    exact iteB (fun h => absurd h2 (ndec_t h)) (fun _ => q)

/-- good weights -/
structure Wts (ws : List Int) : Prop where
  l0 : 0 < ws.length
  l1 : ws.length ≤ 40
  b0 : ∀ w, w ∈ ws → 0 ≤ w
  b1 : ∀ w, w ∈ ws → w ≤ 1000000000000000
def sp_check_weights (K : PySem.W.Frag) : Sp := fun vs H Q _ => ∃ (a : Addr) (ws : List Int) (amount : Int), vs = [.ref a, .int amount] ∧ SqL K H a (ws.map V.int) ∧ Wts ws ∧ (0 < amount → ws.sum ≠ 0) ∧ ∀ H', Same H H' → Q .non H'
theorem ok_check_weights (T : Txt K mg) : FnOk P w K mg base CX0 1 T.f_check_weights T.d_check_weights ["weights", "amount"] (sp_check_weights K) := by
  refine T.F_check_weights.ok sc_check_weights (fun vs H Q E h => ?_) (fun cdv A outer s H vs Q E hr h => ?_)
  · obtain ⟨a, ws, amount, rfl, _⟩ := h
    rfl
  · obtain ⟨a, ws, amount, rfl, hs, hw, hz, q⟩ := h
    refine ⟨_, (pss_cons (ps_if (pt_not (pt_chain op_le op_le pe_int (pe_callB call_len_seq (by rfl) T.z_len PySem.boot_len (pa_cons (pv 0) pa_nil)) (pe_glob (v := .int 40) rfl T.m_MOST_WEIGHTS ⟨_, rfl⟩)))
      (pss_one ps_never)
      pss_nil)
    (pss_cons (ps_if (pt_not (pt_val (pe_callB (cr_all rfl) (by rfl) T.z_all (by decide +kernel) (pa_cons (pe_lc (own := [("weight", 2)]) (g := gName 2) (tt := tYes) rfl sc_check_weights.nd (pi_list (pv 0)) (blkOk_by (own := [("weight", 2)]) (N := N_check_weights) (sc := defScope s_check_weights) (by decide +kernel)) (fun _ _ _ _ _ => (pg_name (i := 2) sc_check_weights.nd rfl (Or.inl rfl))) (fun _ _ _ _ _ => pts_nil) (fun _ _ _ _ _ => (pe_chain op_le op_le pe_int (pv 2) (pe_glob (v := .int 1000000000000000) rfl T.m_MOST_WEIGHT ⟨_, rfl⟩)))) pa_nil))))
      (pss_one ps_never)
      pss_nil)
    (pss_one (ps_if (PW.pt (pw_and (pt_cmpR op_gt (pv 1) pe_int (nomark _)) (pw_and1 (pt_cmpR op_eq (pe_callB (cr_sum rfl) (by rfl) T.z_sum (by decide +kernel) (pa_cons (pv 0) pa_nil)) pe_int (nomark _)))))
      (pss_one ps_never)
      pss_nil)))), ?_⟩
    have l0 := hw.l0
    have l1 := hw.l1
    walk_at "st"
    refine iteB (fun _ => ?_) (fun h => absurd (dec_f h) (by rw [List.length_map]; omega))
    walk_at "st"
    refine iteB (fun h => absurd (ndec_t h) (by rw [List.length_map]; omega)) (fun _ => ?_)
    walk_at "st"
    intro D nD
    refine lc_list (K := K) (a := a) (xs := ws.map V.int) (fun i H' => H' = upd H D (.lst ((List.replicate i true).map V.bl))) rfl (fun i H' _ e => by rw [e]; exact (same_upd nD).seq hs) ?_ ?_
    · rintro i x H' hx rfl
      obtain ⟨z, hz', rfl⟩ := ints_at hx
      have hm := List.mem_of_getElem? hz'
      have hi := (List.getElem?_eq_some_iff.mp hz').1
      have z0 := hw.b0 z hm
      have z1 := hw.b1 z hm
      refine ⟨rfl, ?_⟩
      walk_at "st"
      refine iteB (fun _ => ?_) (fun h => absurd z0 (dec_f h))
      walk_at "st"
      refine ⟨?_, ?_⟩
      · refine small1000 ?_
        rw [List.length_map, List.length_replicate]
        omega
      · show upd (upd H D _) D (.lst (_ ++ [V.bl (decide (z ≤ 1000000000000000))])) = _
        rw [upd_upd, decide_eq_true z1, List.replicate_succ', List.map_append]
        rfl
    · rintro H' rfl
      have sD := same_upd (o := .lst ((List.replicate (ws.map V.int).length true).map V.bl)) nD
      have hs' := sD.seq hs
      walk_at "st"
      refine ⟨List.replicate (ws.map V.int).length true, rfl, .inl (.inl upd_same), ?_⟩
      have ea : (List.replicate (ws.map V.int).length true).all id = true := by
        rw [List.all_eq_true]
        intro b hb
        exact List.eq_of_mem_replicate hb
      rw [ea]
      walk_at "st"
      refine iteB (fun h => ?_) (fun h => ?_)
      · walk_at "st"
        refine iteB (fun h2 => ?_) (fun _ => q _ sD)
        exact (hz (dec_t h) (V.int.inj (dec_t h2))).elim
      · exact q _ sD
def sp_greatest_quotient (K : PySem.W.Frag) : Sp := fun vs H Q _ => ∃ (a b : Addr) (ws ps : List Int), vs = [.ref a, .ref b] ∧ SqL K H a (ws.map V.int) ∧ SqL K H b (ps.map V.int) ∧ Wts ws ∧ ps.length = ws.length ∧ Q (.int (gq ws ps ws.length)) H
theorem ok_greatest_quotient (T : Txt K mg) : FnOk P w K mg base CX0 1 T.f_greatest_quotient T.d_greatest_quotient ["weights", "parts"] (sp_greatest_quotient K) := by
  refine T.F_greatest_quotient.ok sc_greatest_quotient (fun vs H Q E h => ?_) (fun cdv A outer s H vs Q E hr h => ?_)
  · obtain ⟨a, b, ws, ps, rfl, _⟩ := h
    rfl
  · obtain ⟨a, b, ws, ps, rfl, hs, ht, hw, hl, q⟩ := h
    refine ⟨_, (pss_cons (ps_set (i := 2) sc_greatest_quotient.nd rfl (Or.inl rfl) pe_int)
    (pss_cons (ps_for PassesOwn.never rfl (pi_range2 (by rfl) T.z_range (pa_cons pe_int (pa_cons (pe_callB call_len_seq (by rfl) T.z_len PySem.boot_len (pa_cons (pv 0) pa_nil)) pa_nil))) (pg_name (i := 3) sc_greatest_quotient.nd rfl (Or.inl rfl))
      (pss_one (ps_if (pt_cmpR op_gt (pe_op op_mul (pe_ix ix_list (pv 0) (pv 3) (fun _ _ => rfl)) (pe_op op_add (pe_ix ix_list (pv 1) (pv 2) (fun _ _ => rfl)) pe_int)) (pe_op op_mul (pe_ix ix_list (pv 0) (pv 2) (fun _ _ => rfl)) (pe_op op_add (pe_ix ix_list (pv 1) (pv 3) (fun _ _ => rfl)) pe_int)) (nomark _))
        (pss_one (ps_set (i := 2) sc_greatest_quotient.nd rfl (Or.inl rfl) (pv 3)))
        pss_nil)))
    (pss_one (ps_ret (pv 2))))), ?_⟩
    have l0 := hw.l0
    have l1 := hw.l1
    walk_at "st"
    refine for_range (lo := 1) (n := (((ws.map V.int).length : Int) - 1).toNat) (fun i σ H' => H' = H ∧ ∃ v, σ = [some (.ref a), some (.ref b), some (.int ((gq ws ps (i + 1) : Nat) : Int)), v]) ⟨rfl, none, ?_⟩ ?_ ?_
    · rw [gq_one]
      rfl
    · rintro i σ H' hi ⟨rfl, v, rfl⟩
      rw [List.length_map] at hi
      have hi2 : i + 1 < ws.length := by omega
      have hg := gq_lt ws ps (i + 1) (Nat.succ_pos _)
      have hg2 : gq ws ps (i + 1) < ws.length := by omega
      rw [show (1 : Int) + i = ((i + 1 : Nat) : Int) by omega]
      have a1 := atI_n hi2
      have a2 := atI_n hg2
      have a3 := atI_n (ws := ps) (j := i + 1) (by omega)
      have a4 := atI_n (ws := ps) (j := gq ws ps (i + 1)) (by omega)
      have b1 := at0_nonneg hw.b0 (i + 1)
      have b2 := at0_nonneg hw.b0 (gq ws ps (i + 1))
      have b3 := hw.b1 _ (List.mem_of_getElem? (at0_lt hi2))
      have b4 := hw.b1 _ (List.mem_of_getElem? (at0_lt hg2))
      walk_at "st"
      refine iteB (fun h => ?_) (fun h => ?_)
      · have e : gq ws ps (i + 1 + 1) = i + 1 := if_pos (dec_t h)
        rw [e]
        exact ⟨_, rfl, rfl, _, rfl⟩
      · have e : gq ws ps (i + 1 + 1) = gq ws ps (i + 1) := if_neg (dec_f h)
        rw [e]
        exact ⟨rfl, _, rfl⟩
    · rintro σ H' ⟨rfl, v, rfl⟩
      rw [List.length_map, show (((ws.length : Int) - 1).toNat + 1) = ws.length by omega]
      walk_at "st"
      exact q
def sp_split (K : PySem.W.Frag) : Sp := fun vs H Q _ => ∃ (a : Addr) (ws : List Int) (amount : Int), vs = [.int amount, .ref a] ∧ SqL K H a (ws.map V.int) ∧ Wts ws ∧ (0 < amount → ws.sum ≠ 0) ∧ 0 ≤ amount ∧ amount ≤ 1000000000000000000 ∧
  ∀ p H', Same H H' → H p = none → H' p = some (.lst ((splitOf amount ws).map V.int)) → Q (.ref p) H'
theorem ok_split (T : Txt K mg) : FnOk P w K mg base CX0 2 T.f_split T.d_split ["amount", "weights"] (sp_split K) := by
  refine T.F_split.ok sc_split (fun vs H Q E h => ?_) (fun cdv A outer s H vs Q E hr h => ?_)
  · obtain ⟨a, ws, amount, rfl, _⟩ := h
    rfl
  · obtain ⟨a, ws, amount, rfl, hs, hw, hz, ha0, ha1, q⟩ := h
    have G_check_amount : FnOk P w K mg base CX0 1 T.f_check_amount T.d_check_amount ["amount", "most"] (sp_check_amount K) := ok_check_amount T
    have G_check_weights : FnOk P w K mg base CX0 1 T.f_check_weights T.d_check_weights ["weights", "amount"] (sp_check_weights K) := ok_check_weights T
    have G_greatest_quotient : FnOk P w K mg base CX0 1 T.f_greatest_quotient T.d_greatest_quotient ["weights", "parts"] (sp_greatest_quotient K) := ok_greatest_quotient T
    refine ⟨_, (pss_cons (ps_expr (pe_call G_check_amount hr (by rfl) T.m_check_amount T.F_check_amount.kp T.b_check_amount .nil pass0 (pa_cons (pv 0) (pa_cons (pe_glob (v := .int 1000000000000000000) rfl T.m_MOST_AMOUNT ⟨_, rfl⟩) pa_nil))))
    (pss_cons (ps_expr (pe_call G_check_weights hr (by rfl) T.m_check_weights T.F_check_weights.kp T.b_check_weights .nil pass0 (pa_cons (pv 1) (pa_cons (pv 0) pa_nil))))
    (pss_cons (ps_set (i := 2) sc_split.nd rfl (Or.inr rfl) (pe_callB (cr_sum rfl) (by rfl) T.z_sum (by decide +kernel) (pa_cons (pv 1) pa_nil)))
    (pss_cons (ps_if (pt_cmpR op_eq (pv 2) pe_int (nomark _))
      (pss_one (ps_ret (pe_op op_rep (pe_lst (pa_cons pe_int pa_nil)) (pe_callB call_len_seq (by rfl) T.z_len PySem.boot_len (pa_cons (pv 1) pa_nil)))))
      pss_nil)
    (pss_cons (ps_setLc (i := 3) (own := [("weight", 4)]) (g := gName 4) (tt := tYes) rfl sc_split.nd rfl rfl (sw_true rfl rfl rfl (by decide +kernel)) (pi_list (pv 1)) (blkOk_by (own := [("weight", 4)]) (N := N_split) (sc := defScope s_split) (by decide +kernel)) (fun _ _ _ _ _ => (pg_name (i := 4) sc_split.nd rfl (Or.inl rfl))) (fun _ _ _ _ _ => pts_nil) (fun _ _ _ _ _ => (pe_op op_fdivW (pe_op op_mul (pv 0) (pv 4)) (pv 2))))
    (pss_cons (ps_for PassesOwn.never rfl (pi_range1 (by rfl) T.z_range (pa_cons (pe_op op_sub (pv 0) (pe_callB (cr_sum rfl) (by rfl) T.z_sum (by decide +kernel) (pa_cons (pv 3) pa_nil))) pa_nil)) (pg_name (i := 5) sc_split.nd rfl (Or.inl rfl))
      (pss_one (ps_augS (pv 3) (pe_call G_greatest_quotient hr (by rfl) T.m_greatest_quotient T.F_greatest_quotient.kp T.b_greatest_quotient .nil pass0 (pa_cons (pv 1) (pa_cons (pv 3) pa_nil))) pget_list pe_int ip_add set_list)))
    (pss_one (ps_ret (pv 3))))))))), ?_⟩
    have l0 := hw.l0
    have l1 := hw.l1
    walk_at "st"
    intro H1 e1
    have hs1 := e1.seq hs
    walk_at "st"
    have hs0 := sum_nonneg ws hw.b0
    refine iteB (fun h => ?_) (fun h => ?_)
    · have hz0 : ws.sum = 0 := V.int.inj (dec_t h)
      walk_at "st"
      intro p np
      have e2 := e1.trans (same_upd (o := .lst [.int 0]) np)
      have hs2 := e2.seq hs
      refine ⟨_, rfl, _, _, rfl, .inl hs2, ?_⟩
      rw [List.length_map]
      refine ⟨p, _, [.int 0], rfl, rfl, upd_same, by omega, by omega, ?_, fun p2 np2 => ?_⟩
      · refine Nat.le_of_lt (small1000 ?_)
        show 1 * (ws.length : Int).toNat ≤ 1000
        omega
      refine q p2 _ (e2.trans (same_upd np2)) (e2.free np2) ?_
      rw [upd_same]
      refine congrArg (fun z => some (HO.lst z)) ?_
      unfold splitOf
      rw [if_pos hz0, List.map_map, Int.toNat_natCast]
      have : ∀ (l : List Int), (List.replicate l.length [V.int 0]).flatten = l.map (V.int ∘ fun _ => 0) := by
        intro l
        induction l with
        | nil => rfl
        | cons x r ih =>
          rw [List.length_cons, List.replicate_succ, List.flatten_cons, ih]
          rfl
      exact this ws
    · have hz0 : ws.sum ≠ 0 := fun z => dec_f h (congrArg V.int z)
      have ht : 0 < ws.sum := by omega
      have hsl := sum_le_mul ws _ hw.b1
      walk_at "st"
      intro D nD
      refine lc_list (K := K) (a := a) (xs := ws.map V.int) (fun i H' => H' = upd H1 D (.lst ((floors amount ws.sum (ws.take i)).map V.int))) rfl (fun i H' _ e => by rw [e]; exact (same_upd nD).seq hs1) ?_ ?_
      · rintro i x H' hx rfl
        obtain ⟨z, hz', rfl⟩ := ints_at hx
        have hm := List.mem_of_getElem? hz'
        have hi := (List.getElem?_eq_some_iff.mp hz').1
        refine ⟨rfl, ?_⟩
        walk_at "st"
        refine ⟨wide_div (b := 64) ht (by omega) (by decide) (by decide), ?_⟩
        walk_at "st"
        refine ⟨?_, ?_⟩
        · refine small1000 ?_
          rw [List.length_map, floors_len, List.length_take]
          omega
        · rw [upd_upd, take_succ hz']
          unfold floors
          rw [List.map_append, List.map_append]
          rfl
      · rintro H' rfl
        rw [List.take_of_length_le (by rw [List.length_map]; exact Nat.le_refl _)]
        have hD : (upd H1 D (.lst ((floors amount ws.sum ws).map V.int))) D = some (.lst ((floors amount ws.sum ws).map V.int)) := upd_same
        have e2 := e1.trans (same_upd (o := .lst ((floors amount ws.sum ws).map V.int)) nD)
        have nD0 := e1.free nD
        generalize upd H1 D (.lst ((floors amount ws.sum ws).map V.int)) = H2 at hD e2
        have f1 := floors_le (amount := amount) ht
        have f2 := floors_rest (amount := amount) ht
        have f3 := sum_nonneg _ (floors_nonneg ha0 ht hw.b0)
        walk_at "st"
        have hs2 := e2.seq hs
        refine for_range (lo := 0) (n := (amount - (floors amount ws.sum ws).sum).toNat) (fun i σ H' => (∃ v5, σ = [some (.int amount), some (.ref a), some (.int ws.sum), some (.ref D), none, v5]) ∧ Same H H' ∧ H' D = some (.lst ((steps ws i (floors amount ws.sum ws)).map V.int))) ⟨⟨none, rfl⟩, e2, hD⟩ ?_ ?_
        · rintro i σ H' hi ⟨⟨v5, rfl⟩, e3, hD3⟩
          have hs3 := e3.seq hs
          have hlen3 : (steps ws i (floors amount ws.sum ws)).length = ws.length := by rw [steps_len, floors_len]
          have hg := gq_lt ws (steps ws i (floors amount ws.sum ws)) ws.length l0
          have hat : ((steps ws i (floors amount ws.sum ws)).map V.int)[gq ws (steps ws i (floors amount ws.sum ws)) ws.length]? = some (.int (at0 (steps ws i (floors amount ws.sum ws)) (gq ws (steps ws i (floors amount ws.sum ws)) ws.length))) := by
            rw [List.getElem?_map, at0_lt (by omega)]
            rfl
          walk_at "st"
          refine ⟨ixN_nat (by rw [List.length_map]; omega), ⟨some (.int (0 + (i : Int))), rfl⟩, fun b o e => ?_, ?_⟩
          · rw [upd_ne (ne_of_none e nD0)]
            exact e3 b o e
          · rw [upd_same]
            refine congrArg (fun z => some (HO.lst z)) ?_
            rw [← List.map_set]
            rfl
        · rintro σ H' ⟨⟨v5, rfl⟩, e3, hD3⟩
          walk_at "st"
          refine q D H' e3 nD0 ?_
          rw [hD3]
          unfold splitOf
          rw [if_neg hz0]

def sp_law_cell (K : PySem.W.Frag) : Sp := fun vs H Q _ => ∃ (a : Addr) (ns : List Int) (j : Nat), vs = [.ref a, .int j] ∧ SqL K H a (ns.map V.int) ∧ Q (.int (cellOf ns j)) H
theorem ok_law_cell (T : Txt K mg) : FnOk P w K mg base CX0 1 T.f_law_cell T.d_law_cell ["script", "k"] (sp_law_cell K) := by
  refine T.F_law_cell.ok sc_law_cell (fun vs H Q E h => ?_) (fun cdv A outer s H vs Q E hr h => ?_)
  · obtain ⟨a, ns, j, rfl, _⟩ := h
    rfl
  · obtain ⟨a, ns, j, rfl, hs, q⟩ := h
    refine ⟨_, (pss_cons (ps_if (pt_cmpR op_lt (pv 1) (pe_callB call_len_seq (by rfl) T.z_len PySem.boot_len (pa_cons (pv 0) pa_nil)) (nomark _))
      (pss_one (ps_ret (pe_ix ix_list (pv 0) (pv 1) (fun _ _ => rfl))))
      pss_nil)
    (pss_one (ps_ret pe_int))), ?_⟩
    walk_at "st"
    refine iteD (fun h => ?_) (fun h => ?_)
    · have hj : j < ns.length := by rw [List.length_map] at h; omega
      walk_at "st"
      exact ⟨atI_ints hj, q⟩
    · have hj : ¬ j < ns.length := by rw [List.length_map] at h; omega
      rw [cellOf_out hj] at q
      exact q

/-- what the draws are: only their number and their bounds matter -/
def sp_law_draws (K : PySem.W.Frag) : Sp := fun vs H Q _ => ∃ (cell : Int) (n : Nat) (size : Int), vs = [.int cell, .int (n : Int), .int size] ∧ n ≤ 1000 ∧ 0 < size ∧ size < 1073741824 ∧
  ∀ p H' (ds : List Int), Same H H' → H p = none → H' p = some (.lst (ds.map V.int)) → ds.length = n → (∀ d, d ∈ ds → 0 ≤ d ∧ d < size) → Q (.ref p) H'
theorem ok_law_draws (T : Txt K mg) : FnOk P w K mg base CX0 1 T.f_law_draws T.d_law_draws ["cell", "count", "size"] (sp_law_draws K) := by
  refine T.F_law_draws.ok sc_law_draws (fun vs H Q E h => ?_) (fun cdv A outer s H vs Q E hr h => ?_)
  · obtain ⟨cell, n, size, rfl, _⟩ := h
    rfl
  · obtain ⟨cell, n, size, rfl, hn, h0, h1, q⟩ := h
    refine ⟨_, (pss_cons (ps_set (i := 3) sc_law_draws.nd rfl (Or.inl rfl) (pe_lst pa_nil))
    (pss_cons (ps_set (i := 4) sc_law_draws.nd rfl (Or.inl rfl) (pe_callB call_abs (by rfl) T.z_abs (by decide +kernel) (pa_cons (pv 0) pa_nil)))
    (pss_cons (ps_if (pt_cmpR op_ge (pv 4) pe_int (nomark _))
      (pss_cons (ps_for PassesOwn.never rfl (pi_range1 (by rfl) T.z_range (pa_cons (pv 1) pa_nil)) (pg_name (i := 5) sc_law_draws.nd rfl (Or.inl rfl))
        (pss_cons (ps_expr (pe_bm PySem.F.plainAttrs_list PySem.F.slot_list_append PySem.F.type_list_append mt_append (pv 3) (pa_cons (pe_op op_mod (pe_callTy call_int_i (by rfl) T.z_int (by decide +kernel) (pa_cons (pv 4) pa_nil)) (pv 2)) pa_nil)))
        (pss_one (ps_set (i := 4) sc_law_draws.nd rfl (Or.inl rfl) (pe_op op_fdiv (pv 4) (pv 2))))))
      (pss_one (ps_ret (pv 3))))
      pss_nil)
    (pss_cons (ps_for PassesOwn.never rfl (pi_range1 (by rfl) T.z_range (pa_cons (pv 1) pa_nil)) (pg_name (i := 5) sc_law_draws.nd rfl (Or.inl rfl))
      (pss_cons (ps_set (i := 4) sc_law_draws.nd rfl (Or.inl rfl) (pe_op op_mod (pe_callTy call_int_i (by rfl) T.z_int (by decide +kernel) (pa_cons (pe_op op_add (pe_op op_add (pe_op op_mul (pv 4) pe_int) (pe_op op_mul (pv 5) pe_int)) pe_int) pa_nil)) pe_int))
      (pss_one (ps_expr (pe_bm PySem.F.plainAttrs_list PySem.F.slot_list_append PySem.F.type_list_append mt_append (pv 3) (pa_cons (pe_op op_mod (pe_op op_mod (pe_callTy call_int_i (by rfl) T.z_int (by decide +kernel) (pa_cons (pe_op op_add (pe_op op_mul (pv 4) pe_int) (pv 5)) pa_nil)) pe_int) (pv 2)) pa_nil))))))
    (pss_one (ps_ret (pv 3))))))), ?_⟩
    walk_at "st"
    intro D nD
    walk_at "st"
    generalize hrest : (if cell < 0 then -cell else cell) = rest
    have hrest0 : 0 ≤ rest := by rw [← hrest]; split <;> omega
    have eD : (upd H D (.lst [])) D = some (.lst (([] : List Int).map V.int)) := upd_same
    have s1 : Same H (upd H D (.lst [])) := same_upd nD
    generalize upd H D (.lst []) = H1 at eD s1
    refine iteB (fun h => ?_) (fun h => ?_)
    · walk_at "st"
      refine for_range (lo := 0) (n := ((n : Int)).toNat) (fun i σ H' => ∃ (v5 : Option V) (r : Int) (ds : List Int), σ = [some (.int cell), some (.int (n : Int)), some (.int size), some (.ref D), some (.int r), v5] ∧ 0 ≤ r ∧ H' D = some (.lst (ds.map V.int)) ∧ ds.length = i ∧ (∀ d, d ∈ ds → 0 ≤ d ∧ d < size) ∧ Same H H')
        ⟨none, rest, [], rfl, hrest0, eD, rfl, (fun _ hd => by cases hd), s1⟩ ?_ ?_
      · rintro i σ H' hi ⟨v5, r, ds, rfl, hr0, hD, hl, hb, e⟩
        have hlt : (ds.map V.int).length < sizeLine := small1000 (by rw [List.length_map]; omega)
        walk_at "st"
        refine ⟨some (.int (0 + (i : Int))), r / size, ds ++ [r % size], rfl, ?_, ?_, ?_, ?_, fun b o z => ?_⟩
        · exact Int.ediv_nonneg hr0 (by omega)
        · rw [upd_same, List.map_append]
          rfl
        · rw [List.length_append, hl]
          rfl
        · intro d hd
          rcases List.mem_append.mp hd with hd | hd
          · exact hb d hd
          · rw [List.mem_singleton.mp hd]
            exact ⟨Int.emod_nonneg _ (by omega), Int.emod_lt_of_pos _ h0⟩
        · rw [upd_ne (ne_of_none z nD)]
          exact e b o z
      · rintro σ H' ⟨v5, r, ds, rfl, hr0, hD, hl, hb, e⟩
        walk_at "st"
        exact q D H' ds e nD hD (by omega) hb
    · walk_at "st"
      refine for_range (lo := 0) (n := ((n : Int)).toNat) (fun i σ H' => ∃ (v5 : Option V) (r : Int) (ds : List Int), σ = [some (.int cell), some (.int (n : Int)), some (.int size), some (.ref D), some (.int r), v5] ∧ 0 ≤ r ∧ H' D = some (.lst (ds.map V.int)) ∧ ds.length = i ∧ (∀ d, d ∈ ds → 0 ≤ d ∧ d < size) ∧ Same H H')
        ⟨none, rest, [], rfl, hrest0, eD, rfl, (fun _ hd => by cases hd), s1⟩ ?_ ?_
      · rintro i σ H' hi ⟨v5, r, ds, rfl, hr0, hD, hl, hb, e⟩
        have hlt : (ds.map V.int).length < sizeLine := small1000 (by rw [List.length_map]; omega)
        walk_at "st"
        refine ⟨some (.int (0 + (i : Int))), (r * 48271 + (0 + (i : Int)) * 69621 + 11) % 2147483647, ds ++ [((r * 48271 + (0 + (i : Int)) * 69621 + 11) % 2147483647 * 16807 + (0 + (i : Int))) % 2147483629 % size], rfl, ?_, ?_, ?_, ?_, fun b o z => ?_⟩
        · exact Int.emod_nonneg _ (by decide)
        · rw [upd_same, List.map_append]
          rfl
        · rw [List.length_append, hl]
          rfl
        · intro d hd
          rcases List.mem_append.mp hd with hd | hd
          · exact hb d hd
          · rw [List.mem_singleton.mp hd]
            exact ⟨Int.emod_nonneg _ (by omega), Int.emod_lt_of_pos _ h0⟩
        · rw [upd_ne (ne_of_none z nD)]
          exact e b o z
      · rintro σ H' ⟨v5, r, ds, rfl, hr0, hD, hl, hb, e⟩
        walk_at "st"
        exact q D H' ds e nD hD (by omega) hb

def sp_law_integers (K : PySem.W.Frag) : Sp := fun vs H Q _ => ∃ (a : Addr) (ns : List Int) (n : Int), vs = [.ref a, .int n] ∧ H a = some (.lst (ns.map V.int)) ∧ (ns.length : Int) = n ∧ Q (.bl true) H
theorem ok_law_integers (T : Txt K mg) : FnOk P w K mg base CX0 1 T.f_law_integers T.d_law_integers ["actual", "count"] (sp_law_integers K) := by
  refine T.F_law_integers.ok sc_law_integers (fun vs H Q E h => ?_) (fun cdv A outer s H vs Q E hr h => ?_)
  · obtain ⟨a, ns, n, rfl, _⟩ := h
    rfl
  · obtain ⟨a, ns, n, rfl, hs, hl, q⟩ := h
    refine ⟨_, (pss_cons (ps_if (PW.pt (pw_or (pt_not (pt_val (pe_callB call_isi (by rfl) T.z_isinstance (by decide +kernel) (pa_cons (pv 0) (pa_cons (pe_bltn (v := .ty "list") (u := .type "list") (by rfl) T.z_list (by decide +kernel) rfl) pa_nil))))) (pw_or1 (pt_cmpR op_ne (pe_callB call_len_seq (by rfl) T.z_len PySem.boot_len (pa_cons (pv 0) pa_nil)) (pv 1) (nomark _)))))
      (pss_one (ps_ret pe_bl))
      pss_nil)
    (pss_cons (ps_for PassesOwn.never rfl (pi_list (pv 0)) (pg_name (i := 2) sc_law_integers.nd rfl (Or.inl rfl))
      (pss_one (ps_if (PW.pt (pw_or (pt_not (pt_val (pe_callB call_isi (by rfl) T.z_isinstance (by decide +kernel) (pa_cons (pv 2) (pa_cons (pe_bltn (v := .ty "int") (u := .type "int") (by rfl) T.z_int (by decide +kernel) rfl) pa_nil))))) (pw_or1 (pt_val (pe_callB call_isi (by rfl) T.z_isinstance (by decide +kernel) (pa_cons (pv 2) (pa_cons (pe_bltn (v := .ty "bool") (u := .type "bool") (by rfl) T.z_bool (by decide +kernel) rfl) pa_nil)))))))
        (pss_one (ps_ret pe_bl))
        pss_nil)))
    (pss_one (ps_ret pe_bl)))), ?_⟩
    refine ⟨_, rfl, ?_⟩
    refine ⟨_, _, _, _, true, rfl, .ty _, .base (.lst hs), kit_ty (by decide +kernel), ?_⟩
    refine ⟨_, rfl, iteF ?_⟩
    walk_at "st"
    refine iteB (fun h => (ndec_t h (congrArg V.int (by rw [List.length_map]; exact hl))).elim) (fun _ => ?_)
    walk_at "st"
    refine for_list (K := K) (a := a) (xs := ns.map V.int) (fun i σ H' => (∃ v, σ = [some (.ref a), some (.int n), v]) ∧ H' = H) ⟨⟨none, rfl⟩, rfl⟩ (fun i σ H' _ ⟨_, e⟩ => by rw [e]; exact SqL.of hs) ?_ ?_
    · rintro i x σ H' hx ⟨⟨v, rfl⟩, rfl⟩
      obtain ⟨z, hz, rfl⟩ := ints_at hx
      refine ⟨_, rfl, ?_⟩
      refine ⟨_, _, _, _, true, rfl, .ty _, .base (.int _), kit_ty (by decide +kernel), ?_⟩
      refine ⟨_, rfl, iteF ?_⟩
      refine ⟨_, rfl, ?_⟩
      refine ⟨_, _, _, _, false, rfl, .ty _, .base (.int _), kit_ty (by decide +kernel), ?_⟩
      refine ⟨_, rfl, iteF ?_⟩
      exact ⟨⟨_, rfl⟩, rfl⟩
    · rintro σ H' ⟨⟨v, rfl⟩, rfl⟩
      exact q

def sp_law_weights (K : PySem.W.Frag) : Sp := fun vs H Q _ => ∃ (cell shape : Int), vs = [.int cell, .int shape] ∧
  ∀ p H' (ws : List Int), Same H H' → H p = none → H' p = some (.lst (ws.map V.int)) → Wts ws → 0 < ws.sum → Q (.ref p) H'
theorem ok_law_weights (T : Txt K mg) : FnOk P w K mg base CX0 2 T.f_law_weights T.d_law_weights ["cell", "shape"] (sp_law_weights K) := by
  refine T.F_law_weights.ok sc_law_weights (fun vs H Q E h => ?_) (fun cdv A outer s H vs Q E hr h => ?_)
  · obtain ⟨cell, shape, rfl, _⟩ := h
    rfl
  · obtain ⟨cell, shape, rfl, q⟩ := h
    have G_law_draws : FnOk P w K mg base CX0 1 T.f_law_draws T.d_law_draws ["cell", "count", "size"] (sp_law_draws K) := ok_law_draws T
    refine ⟨_, (pss_cons (ps_set (i := 2) sc_law_weights.nd rfl (Or.inl rfl) (pe_op op_add pe_int (pe_op op_mod (pe_callB call_abs (by rfl) T.z_abs (by decide +kernel) (pa_cons (pv 1) pa_nil)) pe_int)))
    (C8.pss_cut (ps_if (pt_cmpR op_eq (pe_op op_mod (pe_op op_fdiv (pe_callTy call_int_i (by rfl) T.z_int (by decide +kernel) (pa_cons (pv 1) pa_nil)) pe_int) pe_int) pe_int (nomark _))
      (pss_one (ps_set (i := 2) sc_law_weights.nd rfl (Or.inl rfl) pe_int))
      pss_nil)
    (pss_cons (ps_set (i := 3) sc_law_weights.nd rfl (Or.inl rfl) (pe_ix ix_list (pe_lst (pa_cons pe_int (pa_cons pe_int (pa_cons pe_int (pa_cons pe_int pa_nil))))) (pe_op op_mod (pe_op op_fdiv (pe_callTy call_int_i (by rfl) T.z_int (by decide +kernel) (pa_cons (pv 1) pa_nil)) pe_int) pe_int) (fun _ _ => rfl)))
    (pss_cons (ps_set (i := 4) sc_law_weights.nd rfl (Or.inr rfl) (pe_call G_law_draws hr (by rfl) T.m_law_draws T.F_law_draws.kp T.b_law_draws .nil pass0 (pa_cons (pv 0) (pa_cons (pv 2) (pa_cons (pv 3) pa_nil)))))
    (C8.pss_cut (ps_if (pt_cmpR op_eq (pe_op op_mod (pe_op op_fdiv (pe_callTy call_int_i (by rfl) T.z_int (by decide +kernel) (pa_cons (pv 1) pa_nil)) pe_int) pe_int) pe_int (nomark _))
      (pss_one (ps_set (i := 4) sc_law_weights.nd rfl (Or.inr rfl) (pe_lc (own := [("weight", 5)]) (g := gName 5) (tt := tYes) rfl sc_law_weights.nd (pi_list (pv 4)) (blkOk_by (own := [("weight", 5)]) (N := N_law_weights) (sc := defScope s_law_weights) (by decide +kernel)) (fun _ _ _ _ _ => (pg_name (i := 5) sc_law_weights.nd rfl (Or.inl rfl))) (fun _ _ _ _ _ => pts_nil) (fun _ _ _ _ _ => (pe_ix (show IxR _ (rIxL K) from ix_list) (pv 4) pe_int (fun _ _ => rfl))))))
      pss_nil)
    (C8.pss_cut (ps_if (pt_cmpR op_eq (pe_callB (cr_sum rfl) (by rfl) T.z_sum (by decide +kernel) (pa_cons (pv 4) pa_nil)) pe_int (nomark _))
      (pss_one (ps_asg pe_int (pg_sub (pv 4) (pe_op op_mod (pe_op op_fdiv (pe_callTy call_int_i (by rfl) T.z_int (by decide +kernel) (pa_cons (pv 1) pa_nil)) pe_int) (pv 2)) set_list)))
      pss_nil)
    (pss_one (ps_ret (pv 4))))))))), ?_⟩
    walk_at "st"
    generalize (if shape < 0 then -shape else shape) = shp
    refine ⟨fun σ' H' => H' = H ∧ ∃ n : Nat, σ' = [some (.int cell), some (.int shape), some (.int (n : Int)), none, none, none] ∧ 1 ≤ n ∧ n ≤ 40, ?_, ?_⟩
    · walk_at "st"
      refine iteB (fun _ => ?_) (fun _ => ?_)
      · exact ⟨rfl, 40, rfl, by decide, by decide⟩
      · have h1 := Int.emod_nonneg shp (by decide : (9 : Int) ≠ 0)
        have h2 := Int.emod_lt_of_pos shp (by decide : (0 : Int) < 9)
        refine ⟨rfl, (1 + shp % 9).toNat, ?_, by omega, by omega⟩
        rw [Int.toNat_of_nonneg (by omega)]
        rfl
    · rintro σ' H' ⟨rfl, n, rfl, hn0, hn1⟩
      walk_at "st"
      intro L nL
      have sL := same_upd (o := .lst [.int 4, .int 12, .int 100, .int 1000000001]) nL
      obtain ⟨size, hat, hsz0, hsz1⟩ : ∃ size : Int, atI [V.int 4, V.int 12, V.int 100, V.int 1000000001] (shape / 63 % 4) = some (.int size) ∧ 0 < size ∧ size ≤ 1000000001 := by
        have h1 := Int.emod_nonneg (shape / 63) (by decide : (4 : Int) ≠ 0)
        have h2 := Int.emod_lt_of_pos (shape / 63) (by decide : (0 : Int) < 4)
        generalize shape / 63 % 4 = m at *
        rcases (by omega : m = 0 ∨ m = 1 ∨ m = 2 ∨ m = 3) with e | e | e | e
        · exact ⟨4, by rw [e]; rfl, by decide, by decide⟩
        · exact ⟨12, by rw [e]; rfl, by decide, by decide⟩
        · exact ⟨100, by rw [e]; rfl, by decide, by decide⟩
        · exact ⟨1000000001, by rw [e]; rfl, by decide, by decide⟩
      walk_at "st"
      intro p H2 ds e2 np hp hl hb
      have e02 : Same H' H2 := sL.trans e2
      have np0 : H' p = Option.none := sL.free np
      refine ⟨fun σ' H3 => ∃ (p : Addr) (ws : List Int), σ' = [some (.int cell), some (.int shape), some (.int (n : Int)), some (.int size), some (.ref p), none] ∧ Same H' H3 ∧ H' p = none ∧ H3 p = some (.lst (ws.map V.int)) ∧ ws.length = n ∧ ∀ d, d ∈ ws → 0 ≤ d ∧ d < 1073741824, ?_, ?_⟩
      · walk_at "st"
        refine iteB (fun _ => ?_) (fun _ => ?_)
        · walk_at "st"
          intro D nD
          refine lc_list (K := K) (a := p) (xs := ds.map V.int) (fun i H' => H' = upd H2 D (.lst ((List.replicate i (at0 ds 0)).map V.int))) rfl (fun i H' _ e => by rw [e]; exact (same_upd nD).seq (SqL.of hp)) ?_ ?_
          · rintro i x H4 hx rfl
            obtain ⟨z, hz, rfl⟩ := ints_at hx
            have hi := (List.getElem?_eq_some_iff.mp hz).1
            have hs4 : SqL K (upd H2 D (.lst ((List.replicate i (at0 ds 0)).map V.int))) p (ds.map V.int) := (same_upd nD).seq (SqL.of hp)
            have ha := atI_n (ws := ds) (j := 0) (by omega)
            refine ⟨rfl, ?_⟩
            walk_at "st"
            refine ⟨?_, ?_⟩
            · refine small1000 ?_
              rw [List.length_map, List.length_replicate]
              omega
            · rw [upd_upd, List.replicate_succ', List.map_append]
              rfl
          · rintro H4 rfl
            have hn0' : 0 < ds.length := by omega
            refine ⟨D, List.replicate (ds.map V.int).length (at0 ds 0), rfl, e02.trans (same_upd nD), e02.free nD, upd_same, by rw [List.length_replicate, List.length_map, hl], fun d hd => ?_⟩
            rw [List.eq_of_mem_replicate hd]
            have := hb _ (List.mem_of_getElem? (at0_lt hn0'))
            omega
        · exact ⟨p, ds, rfl, e02, np0, hp, hl, fun d hd => ⟨(hb d hd).1, by have := (hb d hd).2; omega⟩⟩
      · rintro σ' H3 ⟨p, ws, rfl, e3, np3, hp3, hl3, hb3⟩
        refine ⟨fun σ' H4 => ∃ (ws : List Int), σ' = [some (.int cell), some (.int shape), some (.int (n : Int)), some (.int size), some (.ref p), none] ∧ Same H' H4 ∧ H4 p = some (.lst (ws.map V.int)) ∧ ws.length = n ∧ (∀ d, d ∈ ws → 0 ≤ d ∧ d < 1073741824) ∧ 0 < ws.sum, ?_, ?_⟩
        · walk_at "st"
          have hs0 := sum_nonneg ws fun d hd => (hb3 d hd).1
          refine iteB (fun h => ?_) (fun h => ?_)
          · have hz := V.int.inj (dec_t h)
            have h1 := Int.emod_nonneg (shape / 1260) (by omega : (n : Int) ≠ 0)
            have h2 := Int.emod_lt_of_pos (shape / 1260) (by omega : (0 : Int) < n)
            obtain ⟨j, ej⟩ : ∃ j : Nat, shape / 1260 % (n : Int) = (j : Int) := ⟨(shape / 1260 % (n : Int)).toNat, by omega⟩
            walk_at "st"
            dsimp only
            rw [ej]
            have hj : j < ws.length := by omega
            have hj' : j < (ws.map V.int).length := by rw [List.length_map]; exact hj
            refine ⟨ixN_nat hj', ws.set j 1, rfl, fun b o e => ?_, ?_, by rw [List.length_set, hl3], fun d hd => ?_, ?_⟩
            · rw [upd_ne (ne_of_none e np3)]
              exact e3 b o e
            · rw [upd_same, List.map_set]
            · rcases List.mem_or_eq_of_mem_set hd with hd | hd
              · exact hb3 d hd
              · rw [hd]
                exact ⟨by decide, by decide⟩
            · rw [sum_set1 ws j 1 hj, hz]
              have hle := at0_le_sum ws j fun d hd => (hb3 d hd).1
              omega
          · have hz : ws.sum ≠ 0 := fun z => dec_f h (congrArg V.int z)
            exact ⟨ws, rfl, e3, hp3, hl3, hb3, by omega⟩
        · rintro σ' H4 ⟨ws, rfl, e4, hp4, hl4, hb4, hsum⟩
          walk_at "st"
          exact q p H4 ws e4 np3 hp4 ⟨by omega, by omega, fun w hw => (hb4 w hw).1, fun w hw => by have := (hb4 w hw).2; omega⟩ hsum

def sp_law (K : PySem.W.Frag) : Sp := fun vs H Q _ => ∃ (a : Addr) (ns : List Int), vs = [.ref a] ∧ SqL K H a (ns.map V.int) ∧ ns.length ≤ 63 ∧ ∀ H', Q (.bl true) H'
theorem ok_law {f : Addr} {fd : FuncData} (T : Txt K mg) (F : Fun K "law" "law" s_law f fd) : FnOk P w K mg base CX0 3 f fd ["script"] (sp_law K) := by
  refine F.ok sc_law (fun vs H Q E h => ?_) (fun cdv A outer s H vs Q E hr h => ?_)
  · obtain ⟨a, ns, rfl, _⟩ := h
    rfl
  · obtain ⟨a, ns, rfl, hs, hlen, q⟩ := h
    have G_law_weights : FnOk P w K mg base CX0 2 T.f_law_weights T.d_law_weights ["cell", "shape"] (sp_law_weights K) := ok_law_weights T
    have G_law_draws : FnOk P w K mg base CX0 1 T.f_law_draws T.d_law_draws ["cell", "count", "size"] (sp_law_draws K) := ok_law_draws T
    have G_split : FnOk P w K mg base CX0 2 T.f_split T.d_split ["amount", "weights"] (sp_split K) := ok_split T
    have G_law_cell : FnOk P w K mg base CX0 1 T.f_law_cell T.d_law_cell ["script", "k"] (sp_law_cell K) := ok_law_cell T
    have G_law_integers : FnOk P w K mg base CX0 1 T.f_law_integers T.d_law_integers ["actual", "count"] (sp_law_integers K) := ok_law_integers T
    refine ⟨_, (pss_cons (ps_set (i := 1) sc_law.nd rfl (Or.inr rfl) (pe_call G_law_weights hr (by rfl) T.m_law_weights T.F_law_weights.kp T.b_law_weights .nil pass0 (pa_cons (pe_call G_law_cell (hr.mono (by decide)) (by rfl) T.m_law_cell T.F_law_cell.kp T.b_law_cell .nil pass0 (pa_cons (pv 0) (pa_cons pe_int pa_nil))) (pa_cons (pe_call G_law_cell (hr.mono (by decide)) (by rfl) T.m_law_cell T.F_law_cell.kp T.b_law_cell .nil pass0 (pa_cons (pv 0) (pa_cons pe_int pa_nil))) pa_nil))))
    (pss_cons (ps_set (i := 2) sc_law.nd rfl (Or.inl rfl) (pe_op op_mod (pe_call G_law_cell (hr.mono (by decide)) (by rfl) T.m_law_cell T.F_law_cell.kp T.b_law_cell .nil pass0 (pa_cons (pv 0) (pa_cons pe_int pa_nil))) (pe_callB (call_min2 rfl) (by rfl) T.z_min (by decide +kernel) (pa_cons (pe_op op_add (pe_op op_mul pe_int (pe_callB (cr_sum rfl) (by rfl) T.z_sum (by decide +kernel) (pa_cons (pv 1) pa_nil))) pe_int) (pa_cons pe_int pa_nil)))))
    (pss_cons (ps_set (i := 3) sc_law.nd rfl (Or.inr rfl) (pe_call G_law_draws (hr.mono (by decide)) (by rfl) T.m_law_draws T.F_law_draws.kp T.b_law_draws .nil pass0 (pa_cons (pe_call G_law_cell (hr.mono (by decide)) (by rfl) T.m_law_cell T.F_law_cell.kp T.b_law_cell .nil pass0 (pa_cons (pv 0) (pa_cons pe_int pa_nil))) (pa_cons (pe_callB call_len_seq (by rfl) T.z_len PySem.boot_len (pa_cons (pv 1) pa_nil)) (pa_cons pe_int pa_nil)))))
    (pss_cons (ps_setLc (i := 4) (own := [("k", 5)]) (g := gName 5) rfl sc_law.nd rfl rfl (sw_true rfl rfl rfl (by decide +kernel)) (pi_range1 (by rfl) T.z_range (pa_cons (pe_callB call_len_seq (by rfl) T.z_len PySem.boot_len (pa_cons (pv 1) pa_nil)) pa_nil)) (blkOk_by (own := [("k", 5)]) (N := N_law) (sc := defScope s_law) (by decide +kernel)) (fun _ _ _ _ _ => (pg_name (i := 5) sc_law.nd rfl (Or.inl rfl))) (fun _ _ _ _ _ => pts_one (pt_cmpR op_eq (pe_ix (show IxR _ (rIxL K) from ix_list) (pv 3) (pv 5) (fun _ _ => rfl)) pe_int (nomark _))) (fun _ _ _ _ _ => (pv 5)))
    (C8.pss_cut (ps_if (pt_cmpR op_eq (pe_callB (cr_sum rfl) (by rfl) T.z_sum (by decide +kernel) (pa_cons (pe_pick (pe_lc (own := [("k", 5)]) (g := gName 5) (tt := tYes) rfl sc_law.nd (pi_list (pv 4)) (blkOk_by (own := [("k", 5)]) (N := N_law) (sc := defScope s_law) (by decide +kernel)) (fun _ _ _ _ _ => (pg_name (i := 5) sc_law.nd rfl (Or.inl rfl))) (fun _ _ _ _ _ => pts_nil) (fun _ _ _ _ _ => (pe_ix (show IxR _ (rIxL K) from ix_list) (pv 1) (pv 5) (fun _ _ => rfl))))) pa_nil)) pe_int (nomark _))
      (pss_one (ps_setLc (i := 4) (own := [("k", 5)]) (g := gName 5) (tt := tYes) rfl sc_law.nd rfl rfl (sw_true rfl rfl rfl (by decide +kernel)) (pi_range1 (by rfl) T.z_range (pa_cons (pe_callB call_len_seq (by rfl) T.z_len PySem.boot_len (pa_cons (pv 1) pa_nil)) pa_nil)) (blkOk_by (own := [("k", 5)]) (N := N_law) (sc := defScope s_law) (by decide +kernel)) (fun _ _ _ _ _ => (pg_name (i := 5) sc_law.nd rfl (Or.inl rfl))) (fun _ _ _ _ _ => pts_nil) (fun _ _ _ _ _ => (pv 5))))
      pss_nil)
    (pss_cons (ps_set (i := 6) sc_law.nd rfl (Or.inr rfl) (pe_call G_split hr (by rfl) T.m_split T.F_split.kp T.b_split .nil pass0 (pa_cons (pv 2) (pa_cons (pe_callTy call_list_of (by rfl) T.z_list (by decide +kernel) (pa_cons (pv 1) pa_nil)) pa_nil))))
    (pss_cons (ps_if (pt_not (pt_val (pe_call G_law_integers (hr.mono (by decide)) (by rfl) T.m_law_integers T.F_law_integers.kp T.b_law_integers .nil pass0 (pa_cons (pv 6) (pa_cons (pe_callB call_len_seq (by rfl) T.z_len PySem.boot_len (pa_cons (pv 1) pa_nil)) pa_nil)))))
      (pss_one (ps_ret pe_bl))
      pss_nil)
    (pss_cons (ps_pick (ps_setLc (i := 7) (own := [("k", 5)]) (g := gName 5) (tt := tYes) rfl sc_law.nd rfl rfl (sw_true rfl rfl rfl (by decide +kernel)) (pi_list (pv 4)) (blkOk_by (own := [("k", 5)]) (N := N_law) (sc := defScope s_law) (by decide +kernel)) (fun _ _ _ _ _ => (pg_name (i := 5) sc_law.nd rfl (Or.inl rfl))) (fun _ _ _ _ _ => pts_nil) (fun _ _ _ _ _ => (pe_ix (show IxR _ (rIxL K) from ix_list) (pv 6) (pv 5) (fun _ _ => rfl)))))
    (pss_cons (ps_set (i := 8) sc_law.nd rfl (Or.inl rfl) (pe_call G_split hr (by rfl) T.m_split T.F_split.kp T.b_split .nil pass0 (pa_cons (pe_callB (cr_sum rfl) (by rfl) T.z_sum (by decide +kernel) (pa_cons (pv 7) pa_nil)) (pa_cons (pe_pick (pe_lc (own := [("k", 5)]) (g := gName 5) (tt := tYes) rfl sc_law.nd (pi_list (pv 4)) (blkOk_by (own := [("k", 5)]) (N := N_law) (sc := defScope s_law) (by decide +kernel)) (fun _ _ _ _ _ => (pg_name (i := 5) sc_law.nd rfl (Or.inl rfl))) (fun _ _ _ _ _ => pts_nil) (fun _ _ _ _ _ => (pe_ix (show IxR _ (rIxL K) from ix_list) (pv 1) (pv 5) (fun _ _ => rfl))))) pa_nil))))
    (pss_one (ps_ret (pe_and (pe_call G_law_integers (hr.mono (by decide)) (by rfl) T.m_law_integers T.F_law_integers.kp T.b_law_integers .nil pass0 (pa_cons (pv 8) (pa_cons (pe_callB call_len_seq (by rfl) T.z_len PySem.boot_len (pa_cons (pv 4) pa_nil)) pa_nil))) (pe_one (pe_cmpR (op_eqD hr.units) (pv 8) (pv 7) (nomark _))))))))))))))), ?_⟩
    walk_at "st"
    intro p H1 ws e1 np hp hw ht
    have hs1 := e1.seq hs
    have hp1 : SqL K H1 p (ws.map V.int) := SqL.of hp
    have l0 := hw.l0
    have l1 := hw.l1
    have hsl := sum_le_mul ws _ hw.b1
    have hmin : 0 < (if 1000000000001 < 2 * ws.sum + 1 then 1000000000001 else 2 * ws.sum + 1) := by split <;> omega
    have hmin2 : (if 1000000000001 < 2 * ws.sum + 1 then 1000000000001 else 2 * ws.sum + 1) ≤ 1000000000001 := by split <;> omega
    walk_at "st"
    generalize (if 1000000000001 < 2 * ws.sum + 1 then 1000000000001 else 2 * ws.sum + 1) = m at *
    have ha0 := Int.emod_nonneg (cellOf ns 2) (by omega : m ≠ 0)
    have ha1 := Int.emod_lt_of_pos (cellOf ns 2) hmin
    intro c H2 ch e2 nc hc hcl hcb
    rw [List.length_map] at hcl
    have hp2 := e2.seq hp1
    have e02 := e1.trans e2
    walk_at "st"
    intro D nD
    refine lc_range (lo := 0) (n := (((ws.map V.int).length : Nat) : Int).toNat) (fun i H' => H' = upd H2 D (.lst (nats ((List.range i).filter fun k => decide (at0 ch k = 1))))) rfl ?_ ?_
    · rintro i H' hi rfl
      rw [List.length_map] at hi
      have hi2 : i < ch.length := by omega
      have hat := atI_n hi2
      have hs3 : SqL K (upd H2 D (.lst (nats ((List.range i).filter fun k => decide (at0 ch k = 1))))) c (ch.map V.int) := (same_upd nD).seq (SqL.of hc)
      rw [show (0 : Int) + i = ((i : Nat) : Int) by omega]
      refine ⟨rfl, ?_⟩
      walk_at "st"
      have hlen1 : (nats ((List.range i).filter fun k => decide (at0 ch k = 1))).length < sizeLine := by
        unfold nats
        rw [List.length_map]
        have := List.length_filter_le (fun k => decide (at0 ch k = 1)) (List.range i)
        rw [List.length_range] at this
        exact small1000 (by omega)
      refine iteB (fun h => ?_) (fun h => ?_)
      · have hd : at0 ch i = 1 := V.int.inj (dec_t h)
        refine ⟨_, rfl, _, upd_same, hlen1, ?_⟩
        rw [upd_upd, List.range_succ, List.filter_append, List.filter_cons_of_pos (by rw [hd]; rfl), List.filter_nil]
        unfold nats
        rw [List.map_append]
        rfl
      · have hd : at0 ch i ≠ 1 := fun z => dec_f h (congrArg V.int z)
        rw [List.range_succ, List.filter_append, List.filter_cons_of_neg (by rw [decide_eq_false hd]; exact Bool.false_ne_true), List.filter_nil, List.append_nil]
    · rintro H' rfl
      have en : (((ws.map V.int).length : Nat) : Int).toNat = ws.length := by rw [List.length_map, Int.toNat_natCast]
      rw [en]
      have hG0 : ∀ k, k ∈ (List.range ws.length).filter (fun k => decide (at0 ch k = 1)) → k < ws.length := fun k hk => List.mem_range.mp (List.mem_filter.mp hk).1
      have hGs : ((List.range ws.length).filter (fun k => decide (at0 ch k = 1))).Pairwise (· < ·) := List.Pairwise.filter _ List.pairwise_lt_range
      have hGl : ((List.range ws.length).filter (fun k => decide (at0 ch k = 1))).length ≤ ws.length := by
        have := List.length_filter_le (fun k => decide (at0 ch k = 1)) (List.range ws.length)
        rw [List.length_range] at this
        exact this
      generalize (List.range ws.length).filter (fun k => decide (at0 ch k = 1)) = G at *
      have hD : (upd H2 D (.lst (nats G))) D = some (.lst (nats G)) := upd_same
      have e3 := e02.trans (same_upd (o := .lst (nats G)) nD)
      have hp3 := (same_upd (o := .lst (nats G)) nD).seq hp2
      generalize upd H2 D (.lst (nats G)) = H3 at *
      -- the group: one that has some weight
      refine ⟨fun σ' H4 => ∃ (_ : Unit) (g : Addr) (G : List Nat), σ' = [some (.ref a), some (.ref p), some (.int (cellOf ns 2 % m)), some (.ref c), some (.ref g), none, none, none, none] ∧ SqL K H4 p (ws.map V.int) ∧ SqL K H4 g (nats G) ∧ (∀ k, k ∈ G → k < ws.length) ∧ G.Pairwise (· < ·) ∧ G.length ≤ ws.length ∧ 0 < (G.map (at0 ws)).sum, ?_, ?_⟩
      · have hG1 : G.length ≤ 1000 := by omega
        have hD3 : SqL K H3 D (nats G) := SqL.of hD
        walk_at "st"
        refine ⟨G, ws, hD3, hp3, hG0, hG1, fun E nE => ?_⟩
        have hE : SqL K (upd H3 E (.lst ((G.map (at0 ws)).map V.int))) E ((G.map (at0 ws)).map V.int) := SqL.of upd_same
        have hp4 := (same_upd (o := .lst ((G.map (at0 ws)).map V.int)) nE).seq hp3
        have hD4 := (same_upd (o := .lst ((G.map (at0 ws)).map V.int)) nE) _ _ hD
        generalize upd H3 E (.lst ((G.map (at0 ws)).map V.int)) = H4 at *
        have hs0 : 0 ≤ (G.map (at0 ws)).sum := sum_nonneg _ fun w hw' => by
          obtain ⟨k, _, rfl⟩ := List.mem_map.mp hw'
          exact at0_nonneg hw.b0 k
        walk_at "st"
        refine iteB (fun _ => ?_) (fun h => ?_)
        · walk_at "st"
          intro D2 nD2
          refine lc_range (lo := 0) (n := (((ws.map V.int).length : Nat) : Int).toNat) (fun i H' => H' = upd H4 D2 (.lst (nats (List.range i)))) rfl ?_ ?_
          · rintro i H' hi rfl
            rw [List.length_map] at hi
            refine ⟨rfl, _, rfl, _, upd_same, ?_, ?_⟩
            · unfold nats
              rw [List.length_map, List.length_range]
              exact small1000 (by omega)
            · rw [upd_upd, List.range_succ]
              unfold nats
              rw [List.map_append, show (0 : Int) + i = ((i : Nat) : Int) by omega]
              rfl
          · rintro H' rfl
            rw [en]
            refine ⟨(), D2, List.range ws.length, rfl, (same_upd nD2).seq hp4, SqL.of upd_same, fun k hk => List.mem_range.mp hk, List.pairwise_lt_range, by rw [List.length_range]; exact Nat.le_refl _, ?_⟩
            have e : (List.range ws.length).map (at0 ws) = ws := by
              refine at0_ext (by rw [List.length_map, List.length_range]) fun i hi => ?_
              rw [List.length_map, List.length_range] at hi
              exact at0_map (List.getElem?_range hi)
            rw [e]
            exact ht
        · have hne : (G.map (at0 ws)).sum ≠ 0 := fun z => dec_f h (congrArg V.int z)
          exact ⟨(), D, G, rfl, hp4, SqL.of hD4, hG0, hGs, hGl, by omega⟩
      · rintro σ' H4 ⟨_, g, G, rfl, hp4, hg4, hG, hGs, hGl, hGt⟩
        have hz : ws.sum ≠ 0 := by omega
        walk_at "st"
        intro l nl
        have e5 := same_upd (o := .lst (ws.map V.int)) nl
        have hl5 : SqL K (upd H4 l (.lst (ws.map V.int))) l (ws.map V.int) := SqL.of upd_same
        have hp5 := e5.seq hp4
        have hg5 := e5.seq hg4
        generalize upd H4 l (.lst (ws.map V.int)) = H5 at *
        walk_at "st"
        intro r H6 e6 nr hr6
        have hp6 := e6.seq hp5
        have hg6 := e6.seq hg5
        have hlen6 := splitOf_len (cellOf ns 2 % m) ws
        have hgood := splitOf_good ha0 hw.b0 ht
        have hsum := splitOf_sum (amount := cellOf ns 2 % m) ht
        have hlesum := fun k => at0_le_sum (splitOf (cellOf ns 2 % m) ws) k
        have hR : SqL K H6 r ((splitOf (cellOf ns 2 % m) ws).map V.int) := SqL.of hr6
        generalize splitOf (cellOf ns 2 % m) ws = ps at *
        have hpn : ∀ x, x ∈ ps → 0 ≤ x := fun x hx => by
          obtain ⟨i, hi, rfl⟩ := List.mem_iff_getElem.mp hx
          have := hgood.nn i
          rw [at0_of (List.getElem?_eq_getElem hi)] at this
          exact this
        have hG2 : ∀ k, k ∈ G → k < ps.length := fun k hk => by rw [hlen6]; exact hG k hk
        have hG3 : G.length ≤ 1000 := by omega
        walk_at "st"
        refine ⟨G, ps, hg6, hR, hG2, hG3, fun E nE => ?_⟩
        have e7 := same_upd (o := .lst ((G.map (at0 ps)).map V.int)) nE
        have hE : (upd H6 E (.lst ((G.map (at0 ps)).map V.int))) E = some (.lst ((G.map (at0 ps)).map V.int)) := upd_same
        have hp7 := e7.seq hp6
        have hg7 := e7.seq hg6
        generalize upd H6 E (.lst ((G.map (at0 ps)).map V.int)) = H7 at *
        have hth0 : ∀ x, x ∈ G.map (at0 ps) → 0 ≤ x := fun x hx => by
          obtain ⟨k, _, rfl⟩ := List.mem_map.mp hx
          exact hgood.nn k
        have hths := sum_nonneg _ hth0
        have hth1 := sum_le_mul (G.map (at0 ps)) 1000000000001 fun x hx => by
          obtain ⟨k, _, rfl⟩ := List.mem_map.mp hx
          have := hlesum k hpn
          omega
        rw [List.length_map] at hth1
        have hws : Wts (G.map (at0 ws)) := by
          refine ⟨len_pos hGt, by rw [List.length_map]; omega, fun x hx => ?_, fun x hx => ?_⟩
          · obtain ⟨k, _, rfl⟩ := List.mem_map.mp hx
            exact at0_nonneg hw.b0 k
          · obtain ⟨k, hk, rfl⟩ := List.mem_map.mp hx
            exact hw.b1 _ (List.mem_of_getElem? (at0_lt (hG k hk)))
        have huniq := splitOf_uniq hws.b0 hGt (hgood.group hG hGs) hths
        have hE7 : SqL K H7 E ((G.map (at0 ps)).map V.int) := SqL.of hE
        walk_at "st"
        refine ⟨G, ws, hg7, hp7, hG, hG3, fun F nF => ?_⟩
        have e8 := same_upd (o := .lst ((G.map (at0 ws)).map V.int)) nF
        have hF : (upd H7 F (.lst ((G.map (at0 ws)).map V.int))) F = some (.lst ((G.map (at0 ws)).map V.int)) := upd_same
        have hE8 := e8 _ _ hE
        have hg8 := e8.seq hg7
        generalize upd H7 F (.lst ((G.map (at0 ws)).map V.int)) = H8 at *
        have hF8 : SqL K H8 F ((G.map (at0 ws)).map V.int) := SqL.of hF
        have hz8 : (G.map (at0 ws)).sum ≠ 0 := by omega
        walk_at "st"
        rw [huniq]
        intro t H9 e9 nt ht9
        have hE9 := e9 _ _ hE8
        have hg9 := e9.seq hg8
        have hl9 : ((G.map (at0 ps)).length : Int) = ((nats G).length : Int) := by unfold nats; rw [List.length_map, List.length_map]
        walk_at "st"
        refine eqD_ints (SqL.of ht9) (SqL.of hE9) ?_
        rw [decide_eq_true rfl]
        exact q _
end
theorem all_mk {l : PySem.W.OpenLaw} {w : World} {K : PySem.W.Frag} {h : Heap} {mg : Str → Option Value} {fa f1 f2 f3 f4 f5 f6 f7 f8 f9 : Addr} (X : K.In h) (G : h.Ns mainGlobals mg) (hfa : mg "law" = some (.ref fa))
    {od1 an1 od2 an2 od3 an3 od4 an4 od5 an5 od6 an6 od7 an7 od8 an8 od9 an9 : Option Addr} {sl1 sl2 sl3 sl4 sl5 sl6 sl7 sl8 sl9 : Array (Option Value)} {oc1 kV1 dc1 pm1 cd1 ct1 oc2 kV2 dc2 pm2 cd2 ct2 oc3 kV3 dc3 pm3 cd3 ct3 oc4 kV4 dc4 pm4 cd4 ct4 oc5 kV5 dc5 pm5 cd5 ct5 oc6 kV6 dc6 pm6 cd6 ct6 oc7 kV7 dc7 pm7 cd7 ct7 oc8 kV8 dc8 pm8 cd8 ct8 oc9 kV9 dc9 pm9 cd9 ct9 : Value}
    (a1 : PySem.W.nsIn K mainGlobals "_check_amount" = some (some (.ref f1)))
    (l1 : K.lookup f1 = some ⟨oc1, od1, .func (PySem.W.fnOf "_check_amount" "_check_amount" (defArgs s_check_amount) (defBody s_check_amount) (defScope s_check_amount) .none kV1 dc1 pm1 an1 cd1 ct1), sl1⟩) (c1 : PySem.W.codeIn K cd1 "_check_amount" = true) (k1 : PySem.W.keepIn K (.ref f1) = true)
    (a2 : PySem.W.nsIn K mainGlobals "_check_weights" = some (some (.ref f2)))
    (l2 : K.lookup f2 = some ⟨oc2, od2, .func (PySem.W.fnOf "_check_weights" "_check_weights" (defArgs s_check_weights) (defBody s_check_weights) (defScope s_check_weights) .none kV2 dc2 pm2 an2 cd2 ct2), sl2⟩) (c2 : PySem.W.codeIn K cd2 "_check_weights" = true) (k2 : PySem.W.keepIn K (.ref f2) = true)
    (a3 : PySem.W.nsIn K mainGlobals "split" = some (some (.ref f3)))
    (l3 : K.lookup f3 = some ⟨oc3, od3, .func (PySem.W.fnOf "split" "split" (defArgs s_split) (defBody s_split) (defScope s_split) .none kV3 dc3 pm3 an3 cd3 ct3), sl3⟩) (c3 : PySem.W.codeIn K cd3 "split" = true) (k3 : PySem.W.keepIn K (.ref f3) = true)
    (a4 : PySem.W.nsIn K mainGlobals "_greatest_quotient" = some (some (.ref f4)))
    (l4 : K.lookup f4 = some ⟨oc4, od4, .func (PySem.W.fnOf "_greatest_quotient" "_greatest_quotient" (defArgs s_greatest_quotient) (defBody s_greatest_quotient) (defScope s_greatest_quotient) .none kV4 dc4 pm4 an4 cd4 ct4), sl4⟩) (c4 : PySem.W.codeIn K cd4 "_greatest_quotient" = true) (k4 : PySem.W.keepIn K (.ref f4) = true)
    (a5 : PySem.W.nsIn K mainGlobals "_law_cell" = some (some (.ref f5)))
    (l5 : K.lookup f5 = some ⟨oc5, od5, .func (PySem.W.fnOf "_law_cell" "_law_cell" (defArgs s_law_cell) (defBody s_law_cell) (defScope s_law_cell) .none kV5 dc5 pm5 an5 cd5 ct5), sl5⟩) (c5 : PySem.W.codeIn K cd5 "_law_cell" = true) (k5 : PySem.W.keepIn K (.ref f5) = true)
    (a6 : PySem.W.nsIn K mainGlobals "_law_draws" = some (some (.ref f6)))
    (l6 : K.lookup f6 = some ⟨oc6, od6, .func (PySem.W.fnOf "_law_draws" "_law_draws" (defArgs s_law_draws) (defBody s_law_draws) (defScope s_law_draws) .none kV6 dc6 pm6 an6 cd6 ct6), sl6⟩) (c6 : PySem.W.codeIn K cd6 "_law_draws" = true) (k6 : PySem.W.keepIn K (.ref f6) = true)
    (a7 : PySem.W.nsIn K mainGlobals "_law_integers" = some (some (.ref f7)))
    (l7 : K.lookup f7 = some ⟨oc7, od7, .func (PySem.W.fnOf "_law_integers" "_law_integers" (defArgs s_law_integers) (defBody s_law_integers) (defScope s_law_integers) .none kV7 dc7 pm7 an7 cd7 ct7), sl7⟩) (c7 : PySem.W.codeIn K cd7 "_law_integers" = true) (k7 : PySem.W.keepIn K (.ref f7) = true)
    (a8 : PySem.W.nsIn K mainGlobals "_law_weights" = some (some (.ref f8)))
    (l8 : K.lookup f8 = some ⟨oc8, od8, .func (PySem.W.fnOf "_law_weights" "_law_weights" (defArgs s_law_weights) (defBody s_law_weights) (defScope s_law_weights) .none kV8 dc8 pm8 an8 cd8 ct8), sl8⟩) (c8 : PySem.W.codeIn K cd8 "_law_weights" = true) (k8 : PySem.W.keepIn K (.ref f8) = true)
    (a9 : PySem.W.nsIn K mainGlobals "law" = some (some (.ref f9)))
    (l9 : K.lookup f9 = some ⟨oc9, od9, .func (PySem.W.fnOf "law" "law" (defArgs s_law) (defBody s_law) (defScope s_law) .none kV9 dc9 pm9 an9 cd9 ct9), sl9⟩) (c9 : PySem.W.codeIn K cd9 "law" = true) (k9 : PySem.W.keepIn K (.ref f9) = true)
    (z_abs : PySem.W.nsIn K mainGlobals "abs" = some none)
    (z_all : PySem.W.nsIn K mainGlobals "all" = some none)
    (z_bool : PySem.W.nsIn K mainGlobals "bool" = some none)
    (z_int : PySem.W.nsIn K mainGlobals "int" = some none)
    (z_isinstance : PySem.W.nsIn K mainGlobals "isinstance" = some none)
    (z_len : PySem.W.nsIn K mainGlobals "len" = some none)
    (z_list : PySem.W.nsIn K mainGlobals "list" = some none)
    (z_min : PySem.W.nsIn K mainGlobals "min" = some none)
    (z_range : PySem.W.nsIn K mainGlobals "range" = some none)
    (z_sum : PySem.W.nsIn K mainGlobals "sum" = some none)
    {t_MOST_AMOUNT t_MOST_WEIGHTS t_MOST_WEIGHT : Tok}
    (v_MOST_AMOUNT : PySem.W.nsIn K mainGlobals "MOST_AMOUNT" = some (some (.int 1000000000000000000 t_MOST_AMOUNT)))
    (v_MOST_WEIGHTS : PySem.W.nsIn K mainGlobals "MOST_WEIGHTS" = some (some (.int 40 t_MOST_WEIGHTS)))
    (v_MOST_WEIGHT : PySem.W.nsIn K mainGlobals "MOST_WEIGHT" = some (some (.int 1000000000000000 t_MOST_WEIGHT))) :
    ∃ fd : FuncData, (∀ (s : Shared) (v : Value), BindsTo s fd ⟨[v], []⟩ [("script", v)]) ∧ ∀ base : Heap, K.In base → base.Ns mainGlobals mg → FnOk l.prog w K mg base CX0 3 fa fd ["script"] (sp_law K) := by
  have e := hfa.symm.trans (PySem.W.mg_of X G a9)
  cases e
  have F1 := fun_mk (st := s_check_amount) l1 c1 k1
  have b1 := F1.binds (ps := ["amount", "most"]) fun _ _ _ _ _ _ us hl => match us, hl with | [_, _], _ => rfl
  have F2 := fun_mk (st := s_check_weights) l2 c2 k2
  have b2 := F2.binds (ps := ["weights", "amount"]) fun _ _ _ _ _ _ us hl => match us, hl with | [_, _], _ => rfl
  have F3 := fun_mk (st := s_split) l3 c3 k3
  have b3 := F3.binds (ps := ["amount", "weights"]) fun _ _ _ _ _ _ us hl => match us, hl with | [_, _], _ => rfl
  have F4 := fun_mk (st := s_greatest_quotient) l4 c4 k4
  have b4 := F4.binds (ps := ["weights", "parts"]) fun _ _ _ _ _ _ us hl => match us, hl with | [_, _], _ => rfl
  have F5 := fun_mk (st := s_law_cell) l5 c5 k5
  have b5 := F5.binds (ps := ["script", "k"]) fun _ _ _ _ _ _ us hl => match us, hl with | [_, _], _ => rfl
  have F6 := fun_mk (st := s_law_draws) l6 c6 k6
  have b6 := F6.binds (ps := ["cell", "count", "size"]) fun _ _ _ _ _ _ us hl => match us, hl with | [_, _, _], _ => rfl
  have F7 := fun_mk (st := s_law_integers) l7 c7 k7
  have b7 := F7.binds (ps := ["actual", "count"]) fun _ _ _ _ _ _ us hl => match us, hl with | [_, _], _ => rfl
  have F8 := fun_mk (st := s_law_weights) l8 c8 k8
  have b8 := F8.binds (ps := ["cell", "shape"]) fun _ _ _ _ _ _ us hl => match us, hl with | [_, _], _ => rfl
  have F9 := fun_mk (st := s_law) l9 c9 k9
  have b9 := F9.binds (ps := ["script"]) fun _ _ _ _ _ _ us hl => match us, hl with | [_], _ => rfl
  have T : Txt K mg := ⟨f1, _, F1, PySem.W.mg_of X G a1, b1, f2, _, F2, PySem.W.mg_of X G a2, b2, f3, _, F3, PySem.W.mg_of X G a3, b3, f4, _, F4, PySem.W.mg_of X G a4, b4, f5, _, F5, PySem.W.mg_of X G a5, b5, f6, _, F6, PySem.W.mg_of X G a6, b6, f7, _, F7, PySem.W.mg_of X G a7, b7, f8, _, F8, PySem.W.mg_of X G a8, b8, PySem.W.mg_none_of X G z_abs, PySem.W.mg_none_of X G z_all, PySem.W.mg_none_of X G z_bool, PySem.W.mg_none_of X G z_int, PySem.W.mg_none_of X G z_isinstance, PySem.W.mg_none_of X G z_len, PySem.W.mg_none_of X G z_list, PySem.W.mg_none_of X G z_min, PySem.W.mg_none_of X G z_range, PySem.W.mg_none_of X G z_sum, t_MOST_AMOUNT, PySem.W.mg_of X G v_MOST_AMOUNT, t_MOST_WEIGHTS, PySem.W.mg_of X G v_MOST_WEIGHTS, t_MOST_WEIGHT, PySem.W.mg_of X G v_MOST_WEIGHT⟩
  exact ⟨PySem.W.fnOf "law" "law" (defArgs s_law) (defBody s_law) (defScope s_law) .none kV9 dc9 pm9 an9 cd9 ct9, fun s v => .of_eq rfl, fun base _ _ => ok_law T F9⟩
end FB
open PySem PySem.W PyProof.Rows
set_option maxRecDepth 100000 in
set_option maxHeartbeats 0 in
theorem PySem.Challenge.cw_fairbourse_k12_split_within_a_group_holds : PySem.Challenge.rw_fairbourse_k12_split_within_a_group.Holds := by
  w_on; o_law; k_head; (case hw => w_witness2)
  k_fill
  refine L2.walk_of (l := PySem.Challenge.rw_fairbourse_k12_split_within_a_group) (n := 63) (k := 3) (x := "script") (CX := fun _ => L2.CX0) (sp := fun w => FB.sp_law _) rfl (by decide) rfl ⟨rfl, by decide, by decide⟩ (fun w h Y => PySem.W.kIn_of Y) ?F (fun _ _ a ns hl _ hS => ⟨a, ns, rfl, hS, hl, fun _ => rfl⟩) (fun _ _ _ _ _ h => h)
  case F =>
    intro w mg fa h KX G hmg
    refine' FB.all_mk KX G hmg ?a1 ?l1 ?c1 ?k1 ?a2 ?l2 ?c2 ?k2 ?a3 ?l3 ?c3 ?k3 ?a4 ?l4 ?c4 ?k4 ?a5 ?l5 ?c5 ?k5 ?a6 ?l6 ?c6 ?k6 ?a7 ?l7 ?c7 ?k7 ?a8 ?l8 ?c8 ?k8 ?a9 ?l9 ?c9 ?k9 ?z_abs ?z_all ?z_bool ?z_int ?z_isinstance ?z_len ?z_list ?z_min ?z_range ?z_sum ?v_MOST_AMOUNT ?v_MOST_WEIGHTS ?v_MOST_WEIGHT
    (case a1 => k_is)
    (case l1 => k_is)
    (case c1 => k_is)
    (case k1 => k_is)
    (case a2 => k_is)
    (case l2 => k_is)
    (case c2 => k_is)
    (case k2 => k_is)
    (case a3 => k_is)
    (case l3 => k_is)
    (case c3 => k_is)
    (case k3 => k_is)
    (case a4 => k_is)
    (case l4 => k_is)
    (case c4 => k_is)
    (case k4 => k_is)
    (case a5 => k_is)
    (case l5 => k_is)
    (case c5 => k_is)
    (case k5 => k_is)
    (case a6 => k_is)
    (case l6 => k_is)
    (case c6 => k_is)
    (case k6 => k_is)
    (case a7 => k_is)
    (case l7 => k_is)
    (case c7 => k_is)
    (case k7 => k_is)
    (case a8 => k_is)
    (case l8 => k_is)
    (case c8 => k_is)
    (case k8 => k_is)
    (case a9 => k_is)
    (case l9 => k_is)
    (case c9 => k_is)
    (case k9 => k_is)
    (case z_abs => k_is)
    (case z_all => k_is)
    (case z_bool => k_is)
    (case z_int => k_is)
    (case z_isinstance => k_is)
    (case z_len => k_is)
    (case z_list => k_is)
    (case z_min => k_is)
    (case z_range => k_is)
    (case z_sum => k_is)
    (case v_MOST_AMOUNT => k_is)
    (case v_MOST_WEIGHTS => k_is)
    (case v_MOST_WEIGHT => k_is)
#print axioms PySem.Challenge.cw_fairbourse_k12_split_within_a_group_holds
