import PyProof.Rows.All
import Wide.All
import OpenK.AllK
import Wide.FinOn
import HandS.ForMost
import HandS.Defaults
import HandS.IsInst
import HandS.Wide
import HandS.Codes
import PyProof.MinMaxWalk
import PySem.Challenge.RW_fairbourse_k13_deal_whole_within_a_cent
set_option Elab.async false
set_option linter.all false
set_option maxRecDepth 100000
namespace FB
open PySem PySem.Spec PyProof.Rows L2
def topS (i : Nat) : Stmt := PySem.Challenge.pw_fairbourse_k13_deal_whole_within_a_cent.main.body.getD i (.Pass ⟨0, 0, 0, 0⟩)
abbrev s_check_amount : Stmt := topS 8
abbrev N_check_amount : List Str := ["amount", "most"]
theorem sc_check_amount : FnScope N_check_amount ["amount", "most"] (defScope s_check_amount) := ⟨rfl, rfl, rfl, by decide +kernel, rfl, by decide +kernel, by decide +kernel⟩
abbrev s_check_weights : Stmt := topS 9
abbrev N_check_weights : List Str := ["weights", "amount", "weight"]
theorem sc_check_weights : FnScope N_check_weights ["weights", "amount"] (defScope s_check_weights) := ⟨rfl, rfl, rfl, by decide +kernel, rfl, by decide +kernel, by decide +kernel⟩
abbrev s_deal_order : Stmt := topS 10
abbrev N_deal_order : List Str := ["amount", "weights", "total", "parts", "order", "number", "at"]
theorem sc_deal_order : FnScope N_deal_order ["amount", "weights"] (defScope s_deal_order) := ⟨rfl, rfl, rfl, by decide +kernel, rfl, by decide +kernel, by decide +kernel⟩
abbrev s_first_due : Stmt := topS 11
abbrev N_first_due : List Str := ["number", "weights", "parts", "total", "due", "at", "weight"]
theorem sc_first_due : FnScope N_first_due ["number", "weights", "parts", "total"] (defScope s_first_due) := ⟨rfl, rfl, rfl, by decide +kernel, rfl, by decide +kernel, by decide +kernel⟩
abbrev s_due : Stmt := topS 12
abbrev N_due : List Str := ["weight", "part", "total"]
theorem sc_due : FnScope N_due ["weight", "part", "total"] (defScope s_due) := ⟨rfl, rfl, rfl, by decide +kernel, rfl, by decide +kernel, by decide +kernel⟩
abbrev s_deal : Stmt := topS 13
abbrev N_deal : List Str := ["amount", "weights", "parts", "at"]
theorem sc_deal : FnScope N_deal ["amount", "weights"] (defScope s_deal) := ⟨rfl, rfl, rfl, by decide +kernel, rfl, by decide +kernel, by decide +kernel⟩
abbrev s_law_cell : Stmt := topS 15
abbrev N_law_cell : List Str := ["script", "k"]
theorem sc_law_cell : FnScope N_law_cell ["script", "k"] (defScope s_law_cell) := ⟨rfl, rfl, rfl, by decide +kernel, rfl, by decide +kernel, by decide +kernel⟩
abbrev s_law_draws : Stmt := topS 16
abbrev N_law_draws : List Str := ["cell", "count", "size", "draws", "rest", "k"]
theorem sc_law_draws : FnScope N_law_draws ["cell", "count", "size"] (defScope s_law_draws) := ⟨rfl, rfl, rfl, by decide +kernel, rfl, by decide +kernel, by decide +kernel⟩
abbrev s_law_is_integer : Stmt := topS 17
abbrev N_law_is_integer : List Str := ["actual"]
theorem sc_law_is_integer : FnScope N_law_is_integer ["actual"] (defScope s_law_is_integer) := ⟨rfl, rfl, rfl, by decide +kernel, rfl, by decide +kernel, by decide +kernel⟩
abbrev s_law_weights : Stmt := topS 18
abbrev N_law_weights : List Str := ["cell", "shape", "count", "size", "weights", "weight"]
theorem sc_law_weights : FnScope N_law_weights ["cell", "shape"] (defScope s_law_weights) := ⟨rfl, rfl, rfl, by decide +kernel, rfl, by decide +kernel, by decide +kernel⟩
abbrev s_law_next : Stmt := topS 19
abbrev N_law_next : List Str := ["count", "parts", "weights", "total", "chosen", "due", "index", "last"]
theorem sc_law_next : FnScope N_law_next ["count", "parts", "weights", "total"] (defScope s_law_next) := ⟨rfl, rfl, rfl, by decide +kernel, rfl, by decide +kernel, by decide +kernel⟩
abbrev s_law_order : Stmt := topS 20
abbrev N_law_order : List Str := ["order", "amount", "weights", "total", "parts", "weight", "k", "index"]
theorem sc_law_order : FnScope N_law_order ["order", "amount", "weights"] (defScope s_law_order) := ⟨rfl, rfl, rfl, by decide +kernel, rfl, by decide +kernel, by decide +kernel⟩
abbrev s_law : Stmt := topS 21
abbrev N_law : List Str := ["script", "weights", "amount", "kept", "order", "parts", "dealt", "fewer"]
theorem sc_law : FnScope N_law ["script"] (defScope s_law) := ⟨rfl, rfl, rfl, by decide +kernel, rfl, by decide +kernel, by decide +kernel⟩
structure Txt (K : PySem.W.Frag) (mg : Str → Option Value) where
  f_check_amount : Addr
  d_check_amount : FuncData
  F_check_amount : Fun K "_check_amount" "_check_amount" s_check_amount f_check_amount d_check_amount
  m_check_amount : mg "_check_amount" = some (.ref f_check_amount)
  b_check_amount : Binds K d_check_amount ["amount", "most"] []
  f_check_weights : Addr
  d_check_weights : FuncData
  F_check_weights : Fun K "_check_weights" "_check_weights" s_check_weights f_check_weights d_check_weights
  m_check_weights : mg "_check_weights" = some (.ref f_check_weights)
  b_check_weights : Binds K d_check_weights ["weights", "amount"] []
  f_deal_order : Addr
  d_deal_order : FuncData
  F_deal_order : Fun K "deal_order" "deal_order" s_deal_order f_deal_order d_deal_order
  m_deal_order : mg "deal_order" = some (.ref f_deal_order)
  b_deal_order : Binds K d_deal_order ["amount", "weights"] []
  f_first_due : Addr
  d_first_due : FuncData
  F_first_due : Fun K "_first_due" "_first_due" s_first_due f_first_due d_first_due
  m_first_due : mg "_first_due" = some (.ref f_first_due)
  b_first_due : Binds K d_first_due ["number", "weights", "parts", "total"] []
  f_due : Addr
  d_due : FuncData
  F_due : Fun K "_due" "_due" s_due f_due d_due
  m_due : mg "_due" = some (.ref f_due)
  b_due : Binds K d_due ["weight", "part", "total"] []
  f_deal : Addr
  d_deal : FuncData
  F_deal : Fun K "deal" "deal" s_deal f_deal d_deal
  m_deal : mg "deal" = some (.ref f_deal)
  b_deal : Binds K d_deal ["amount", "weights"] []
  f_law_cell : Addr
  d_law_cell : FuncData
  F_law_cell : Fun K "_law_cell" "_law_cell" s_law_cell f_law_cell d_law_cell
  m_law_cell : mg "_law_cell" = some (.ref f_law_cell)
  b_law_cell : Binds K d_law_cell ["script", "k"] []
  f_law_draws : Addr
  d_law_draws : FuncData
  F_law_draws : Fun K "_law_draws" "_law_draws" s_law_draws f_law_draws d_law_draws
  m_law_draws : mg "_law_draws" = some (.ref f_law_draws)
  b_law_draws : Binds K d_law_draws ["cell", "count", "size"] []
  f_law_is_integer : Addr
  d_law_is_integer : FuncData
  F_law_is_integer : Fun K "_law_is_integer" "_law_is_integer" s_law_is_integer f_law_is_integer d_law_is_integer
  m_law_is_integer : mg "_law_is_integer" = some (.ref f_law_is_integer)
  b_law_is_integer : Binds K d_law_is_integer ["actual"] []
  f_law_weights : Addr
  d_law_weights : FuncData
  F_law_weights : Fun K "_law_weights" "_law_weights" s_law_weights f_law_weights d_law_weights
  m_law_weights : mg "_law_weights" = some (.ref f_law_weights)
  b_law_weights : Binds K d_law_weights ["cell", "shape"] []
  f_law_next : Addr
  d_law_next : FuncData
  F_law_next : Fun K "_law_next" "_law_next" s_law_next f_law_next d_law_next
  m_law_next : mg "_law_next" = some (.ref f_law_next)
  b_law_next : Binds K d_law_next ["count", "parts", "weights", "total"] []
  f_law_order : Addr
  d_law_order : FuncData
  F_law_order : Fun K "_law_order" "_law_order" s_law_order f_law_order d_law_order
  m_law_order : mg "_law_order" = some (.ref f_law_order)
  b_law_order : Binds K d_law_order ["order", "amount", "weights"] []
  z_abs : mg "abs" = none
  z_all : mg "all" = none
  z_bool : mg "bool" = none
  z_enumerate : mg "enumerate" = none
  z_int : mg "int" = none
  z_isinstance : mg "isinstance" = none
  z_len : mg "len" = none
  z_list : mg "list" = none
  z_min : mg "min" = none
  z_range : mg "range" = none
  z_sum : mg "sum" = none
  t_MOST_DEALT : Tok
  m_MOST_DEALT : mg "MOST_DEALT" = some (.int 9999 t_MOST_DEALT)
  t_MOST_WEIGHTS : Tok
  m_MOST_WEIGHTS : mg "MOST_WEIGHTS" = some (.int 40 t_MOST_WEIGHTS)
  t_MOST_WEIGHT : Tok
  m_MOST_WEIGHT : mg "MOST_WEIGHT" = some (.int 1000000000000000 t_MOST_WEIGHT)
/-! own short words -/
theorem iteD {p A B : Prop} [Decidable p] (h1 : p → A) (h2 : ¬ p → B) : if decide p = true then A else B := by
  by_cases h : p
  · rw [decide_eq_true h, if_pos rfl]; exact h1 h
  · rw [decide_eq_false h, if_neg Bool.false_ne_true]; exact h2 h
theorem iteDN {p A B : Prop} [Decidable p] (h1 : ¬ p → A) (h2 : p → B) : if (!decide p) = true then A else B := by
  by_cases h : p
  · rw [decide_eq_true h]; exact iteF (h2 h)
  · rw [decide_eq_false h]; exact iteT (h1 h)
theorem len_le {n : Nat} (h : Nat.ble n 1000 = true) : n ≤ sizeLine := Nat.le_trans (Nat.le_of_ble_eq_true h) (by decide)
theorem iteB {b : Bool} {A B : Prop} (h1 : b = true → A) (h2 : b = false → B) : if b = true then A else B := by
  cases b with
  | true => exact iteT (h1 rfl)
  | false => exact iteF (h2 rfl)
theorem cmul_l {i j : Int} (h : -(2 ^ 64) < i) (h' : i < 2 ^ 64) : CMul i j := .inl ⟨h, h'⟩
theorem cmul_r {i j : Int} (h : -(2 ^ 64) < j) (h' : j < 2 ^ 64) : CMul i j := .inr ⟨h, h'⟩
theorem dec_t {p : Prop} [Decidable p] (h : decide p = true) : p := of_decide_eq_true h
theorem dec_f {p : Prop} [Decidable p] (h : decide p = false) : ¬ p := of_decide_eq_false h
theorem ndec_t {p : Prop} [Decidable p] (h : (!decide p) = true) : ¬ p := fun q => by rw [decide_eq_true q] at h; cases h
theorem ndec_f {p : Prop} [Decidable p] (h : (!decide p) = false) : p := by
  by_cases q : p
  · exact q
  · rw [decide_eq_false q] at h; cases h
theorem len0 : ([] : List V).length ≤ sizeLine := len_le rfl
theorem len1 {a : V} : [a].length ≤ sizeLine := len_le rfl
theorem len2 {a b : V} : [a, b].length ≤ sizeLine := len_le rfl
theorem len3 {a b c : V} : [a, b, c].length ≤ sizeLine := len_le rfl
theorem len4 {a b c d : V} : [a, b, c, d].length ≤ sizeLine := len_le rfl
theorem len5 {a b c d e : V} : [a, b, c, d, e].length ≤ sizeLine := len_le rfl
local macro_rules | `(tactic| walk_at "st") => `(tactic| repeat (first
  | (apply Exists.intro (α := V))
  | (apply Exists.intro (α := Int))
  | (apply Exists.intro (α := Bool))
  | (apply Exists.intro (α := Addr))
  | (apply Exists.intro (α := List V))
  | (apply Exists.intro (α := List Int))
  | (apply Exists.intro (α := List (Str × V)))
  | (apply Exists.intro (α := Str))
  | (apply And.intro; focus (first | omega | (dsimp only; omega) | (simp only [List.length_map, List.length_replicate]; omega) | exact rfl | assumption | exact SqL.of (by assumption) | exact Or.inl (by assumption) | exact Or.inr (by assumption) | exact Or.inr (SqT.of (by assumption)) | exact Or.inl (Or.inl upd_same) | exact Or.inl (Or.inl (Or.inl upd_same)) | (with_reducible exact len0) | (with_reducible exact len1) | (with_reducible exact len2) | (with_reducible exact len3) | (with_reducible exact len4) | (with_reducible exact len5) | exact upd_same | exact ⟨_, Or.inl (Or.inl upd_same)⟩ | exact ⟨_, SqL.of (by assumption)⟩ | exact ⟨_, by assumption⟩ | exact Or.inl ⟨rfl, _, SqL.of (by assumption)⟩ | exact Or.inl ⟨rfl, _, SqL.of upd_same⟩ | exact cmul_l (by omega) (by omega) | exact cmul_r (by omega) (by omega) | exact ⟨by omega, by omega⟩ | (simp only [List.length_map, List.length_replicate]; omega) | exact Or.inl (SqL.of (by assumption)) | exact SqT.of (by assumption)))))
/-- the script's cell at j, 0 where there is none -/
def cellOf (ns : List Int) (j : Nat) : Int := ns.getD j 0
theorem atI_ints {ns : List Int} {j : Nat} (h : j < ns.length) : atI (ns.map V.int) (j : Int) = some (.int (cellOf ns j)) := by
  refine at_of (j := j) rfl ?_
  rw [List.getElem?_map, List.getElem?_eq_getElem h]
  unfold cellOf
  rw [List.getD_eq_getElem?_getD, List.getElem?_eq_getElem h]
  rfl
theorem cellOf_out {ns : List Int} {j : Nat} (h : ¬ j < ns.length) : cellOf ns j = 0 := by
  unfold cellOf
  rw [List.getD_eq_getElem?_getD, List.getElem?_eq_none (by omega)]
  rfl
theorem same_upd {H : Hp} {p : Addr} {o : HO} (h : H p = none) : Same H (upd H p o) := fun b x e => by
  rw [upd_ne (ne_of_none e h)]
  exact e
/-- a slice of a list of ints -/
def cutI (ns : List Int) (lo hi : Option Int) : List Int := (ns.drop (HT.sIx ns.length 0 lo)).take (HT.sIx ns.length ns.length hi - HT.sIx ns.length 0 lo)
theorem cutV_ints (ns : List Int) (lo hi : Option Int) : cutV (ns.map V.int) lo hi = (cutI ns lo hi).map V.int := by
  unfold cutV cutI
  rw [List.length_map, List.map_take, List.map_drop]
theorem cutI_len (ns : List Int) (lo hi : Option Int) : (cutI ns lo hi).length ≤ ns.length := by
  unfold cutI
  rw [List.length_take, List.length_drop]
  omega
theorem ints_at {ns : List Int} {i : Nat} {x : V} (h : (ns.map V.int)[i]? = some x) : ∃ z, ns[i]? = some z ∧ x = V.int z := by
  rw [List.getElem?_map] at h
  cases e : ns[i]? with
  | none => rw [e] at h; cases h
  | some z => rw [e] at h; exact ⟨z, rfl, (Option.some.inj h).symm⟩
theorem take_succ {α : Type} {xs : List α} {i : Nat} {x : α} (h : xs[i]? = some x) : xs.take (i + 1) = xs.take i ++ [x] := by
  rw [List.take_add_one, h]
  rfl
theorem sum_le_mul : ∀ (ws : List Int) (b : Int), (∀ w, w ∈ ws → w ≤ b) → ws.sum ≤ (ws.length : Int) * b
  | [], b, _ => by show (0 : Int) ≤ ((0 : Nat) : Int) * b; omega
  | w :: ws, b, h => by
    rw [List.sum_cons, List.length_cons, Int.natCast_add, Int.add_mul]
    have h1 := h w List.mem_cons_self
    have h2 := sum_le_mul ws b fun x hx => h x (List.mem_cons_of_mem _ hx)
    omega
theorem ixN_nat {n j : Nat} (h : j < n) : ixN n (j : Int) = some j := by
  unfold ixN
  rw [if_pos (by omega), if_pos (by omega), Int.toNat_natCast]
theorem call_int_i {X : Cx} : CallR X (.type "int") (fun xs H Q => ∃ i : Int, xs = [.int i] ∧ Q (.int i) H) := by
  intro pins s σ H xs us Q I r h
  obtain ⟨i, e, q⟩ := h
  exact call_int1 pins s σ H xs us Q I r (.inl ⟨i, e, q⟩)
theorem dpAll_ints {K : PySem.W.Frag} {H : Hp} : ∀ xs : List Int, DpAll K H (xs.map V.int) (xs.map PyData.int)
  | [] => .nil
  | x :: xs => .cons (.int x) (dpAll_ints xs)
theorem eqvAll_ints : ∀ xs ys : List Int, PyData.eqvAll (xs.map PyData.int) (ys.map PyData.int) = decide (xs = ys)
  | [], [] => by simp [PyData.eqvAll]
  | [], _ :: _ => by simp [PyData.eqvAll]
  | _ :: _, [] => by simp [PyData.eqvAll]
  | x :: xs, y :: ys => by
    rw [List.map_cons, List.map_cons]
    simp only [PyData.eqvAll, PyData.eqv]
    rw [eqvAll_ints xs ys]
    by_cases h : x = y <;> by_cases h2 : xs = ys <;> simp [h, h2]
theorem lay_ints : ∀ xs : List Int, PyData.canLayAll0 (xs.map PyData.int) = true
  | [] => rfl
  | x :: xs => by
    rw [List.map_cons]
    simp only [PyData.canLayAll0, PyData.canLay0, Bool.true_and]
    exact lay_ints xs
theorem depth_ints : ∀ xs : List Int, PyData.depthAll (xs.map PyData.int) = 0
  | [] => rfl
  | x :: xs => by
    rw [List.map_cons]
    simp only [PyData.depthAll, PyData.depth, depth_ints xs]
    rfl
theorem shaped_ints (xs : List Int) : SeqAt.shaped (.list (xs.map PyData.int)) = true := by
  unfold SeqAt.shaped
  simp only [PyData.canLay0, PyData.depth, lay_ints, depth_ints]
  rfl
theorem eqD_ints {K : PySem.W.Frag} {H : Hp} {a b : Addr} {xs ys : List Int} {Q : VK} (h1 : SqL K H a (xs.map V.int)) (h2 : SqL K H b (ys.map V.int)) (q : Q (.bl (decide (xs = ys))) H) : rEqD K (.ref a) (.ref b) H Q :=
  ⟨_, _, .lst h1 (dpAll_ints xs), .lst h2 (dpAll_ints ys), shaped_ints xs, shaped_ints ys, by rw [show PyData.eqv (.list (xs.map PyData.int)) (.list (ys.map PyData.int)) = decide (xs = ys) by simp only [PyData.eqv, eqvAll_ints]]; exact q⟩
theorem neD_ints {K : PySem.W.Frag} {H : Hp} {a b : Addr} {xs ys : List Int} {Q : VK} (h1 : SqL K H a (xs.map V.int)) (h2 : SqL K H b (ys.map V.int)) (q : Q (.bl (!decide (xs = ys))) H) : rNeD K (.ref a) (.ref b) H Q :=
  ⟨_, _, .lst h1 (dpAll_ints xs), .lst h2 (dpAll_ints ys), shaped_ints xs, shaped_ints ys, by rw [show PyData.eqv (.list (xs.map PyData.int)) (.list (ys.map PyData.int)) = decide (xs = ys) by simp only [PyData.eqv, eqvAll_ints]]; exact q⟩

theorem pget_list {X : Cx} : PGet X (fun x y H Q => ∃ (p : Addr) (xs : List V) (j : Nat) (z : V), x = .ref p ∧ y = .int (j : Int) ∧ SqL X.K H p xs ∧ xs[j]? = some z ∧ Q z H) := by
  intro pins s σ H x y v u Q I rx ry h
  obtain ⟨p, xs, j, z, rfl, rfl, hq, he, q⟩ := h
  cases rx
  obtain ⟨t, rfl⟩ := ry
  obtain ⟨its, r, pl, hz⟩ := I.list hq
  obtain ⟨w, ew, rw'⟩ := r.get he
  have hl := r.length
  have hn := line63
  have hj := (List.getElem?_eq_some_iff.mp he).1
  exact wpAny_getItem_list pl.isList (by omega) (by omega) (by simpa using ew) ⟨z, H, I, rw', q⟩

/-! the mathematics of split: the greatest quotient, steps, what makes a division the one it is -/
def at0 (ws : List Int) (i : Nat) : Int := ws.getD i 0
theorem at0_lt {ws : List Int} {i : Nat} (h : i < ws.length) : ws[i]? = some (at0 ws i) := by
  unfold at0
  rw [List.getD_eq_getElem?_getD, List.getElem?_eq_getElem h]
  rfl
theorem atI_n {ws : List Int} {j : Nat} (h : j < ws.length) : atI (ws.map V.int) (j : Int) = some (.int (at0 ws j)) := by
  refine at_of (j := j) rfl ?_
  rw [List.getElem?_map, at0_lt h]
  rfl
theorem at0_of {ws : List Int} {i : Nat} {x : Int} (h : ws[i]? = some x) : at0 ws i = x := by
  unfold at0
  rw [List.getD_eq_getElem?_getD, h]
  rfl
theorem at0_out {ws : List Int} {i : Nat} (h : ws.length ≤ i) : at0 ws i = 0 := by
  unfold at0
  rw [List.getD_eq_getElem?_getD, List.getElem?_eq_none h]
  rfl
theorem at0_ext {xs ys : List Int} (hl : xs.length = ys.length) (h : ∀ i, i < xs.length → at0 xs i = at0 ys i) : xs = ys := by
  refine List.ext_getElem? fun i => ?_
  by_cases hi : i < xs.length
  · rw [at0_lt hi, at0_lt (by omega), h i hi]
  · rw [List.getElem?_eq_none (by omega), List.getElem?_eq_none (by omega)]
theorem at0_set {ps : List Int} {k i : Nat} {x : Int} (hk : k < ps.length) : at0 (ps.set k x) i = if i = k then x else at0 ps i := by
  by_cases h : i = k
  · subst h
    rw [if_pos rfl]
    exact at0_of (List.getElem?_set_self hk)
  · rw [if_neg h]
    unfold at0
    rw [List.getD_eq_getElem?_getD, List.getD_eq_getElem?_getD, List.getElem?_set_ne (fun e => h e.symm)]
theorem at0_nonneg {ws : List Int} (h : ∀ w, w ∈ ws → 0 ≤ w) (i : Nat) : 0 ≤ at0 ws i := by
  by_cases hi : i < ws.length
  · exact h _ (List.mem_of_getElem? (at0_lt hi))
  · rw [at0_out (by omega)]; exact Int.le_refl 0
/-- one cent more at k -/
def bump (ps : List Int) (k : Nat) : List Int := ps.set k (at0 ps k + 1)
theorem bump_len (ps : List Int) (k : Nat) : (bump ps k).length = ps.length := List.length_set
theorem at0_bump {ps : List Int} {k i : Nat} (hk : k < ps.length) : at0 (bump ps k) i = if i = k then at0 ps k + 1 else at0 ps i := at0_set hk
theorem sum_set1 : ∀ (ps : List Int) (k : Nat) (x : Int), k < ps.length → (ps.set k x).sum = ps.sum + (x - at0 ps k)
  | [], _, _, h => absurd h (Nat.not_lt_zero _)
  | p :: ps, 0, x, _ => by
    show (x :: ps).sum = (p :: ps).sum + (x - p)
    rw [List.sum_cons, List.sum_cons]
    omega
  | p :: ps, k + 1, x, h => by
    show (p :: ps.set k x).sum = (p :: ps).sum + (x - at0 ps k)
    rw [List.sum_cons, List.sum_cons, sum_set1 ps k x (Nat.lt_of_succ_lt_succ h)]
    omega
theorem bump_sum {ps : List Int} {k : Nat} (h : k < ps.length) : (bump ps k).sum = ps.sum + 1 := by
  unfold bump
  rw [sum_set1 ps k _ h]
  omega
/-- the index with the greatest quotient among the first m -/
def gq (ws ps : List Int) : Nat → Nat
  | 0 => 0
  | m + 1 => if at0 ws (gq ws ps m) * (at0 ps m + 1) < at0 ws m * (at0 ps (gq ws ps m) + 1) then m else gq ws ps m
theorem gq_one (ws ps : List Int) : gq ws ps 1 = 0 := by
  show (if at0 ws 0 * (at0 ps 0 + 1) < at0 ws 0 * (at0 ps 0 + 1) then 0 else 0) = 0
  split <;> rfl
theorem gq_lt (ws ps : List Int) : ∀ m, 0 < m → gq ws ps m < m
  | 0, h => absurd h (Nat.lt_irrefl _)
  | 1, _ => by rw [gq_one]; exact Nat.one_pos
  | m + 2, _ => by
    have ih := gq_lt ws ps (m + 1) (Nat.succ_pos _)
    unfold gq
    split
    · exact Nat.lt_succ_self _
    · exact Nat.lt_succ_of_lt ih
theorem ratio_lt {a A b B c C : Int} (hA : 0 < A) (hB : 0 < B) (hC : 0 < C) (h1 : b * A < a * B) (h2 : c * B ≤ b * C) : c * A < a * C := by
  have e1 : b * A * C < a * B * C := Int.mul_lt_mul_of_pos_right h1 hC
  have e2 : c * B * A ≤ b * C * A := Int.mul_le_mul_of_nonneg_right h2 (by omega)
  have e3 : c * A * B < a * C * B := by grind
  exact Int.lt_of_mul_lt_mul_right e3 (by omega)
theorem ratio_le {a A b B c C : Int} (hA : 0 < A) (hB : 0 < B) (hC : 0 < C) (h1 : b * A ≤ a * B) (h2 : c * B < b * C) : c * A < a * C := by
  have e1 : b * A * C ≤ a * B * C := Int.mul_le_mul_of_nonneg_right h1 (by omega)
  have e2 : c * B * A < b * C * A := Int.mul_lt_mul_of_pos_right h2 hA
  have e3 : c * A * B < a * C * B := by grind
  exact Int.lt_of_mul_lt_mul_right e3 (by omega)
/-- (i, a) goes ahead of (k, b) -/
def Ahead (ws : List Int) (i : Nat) (a : Int) (k : Nat) (b : Int) : Prop := at0 ws k * a < at0 ws i * b ∨ (at0 ws k * a = at0 ws i * b ∧ i ≤ k)
theorem Ahead.le {ws : List Int} {i k : Nat} {a b : Int} (h : Ahead ws i a k b) : at0 ws k * a ≤ at0 ws i * b := by
  rcases h with h | ⟨h, _⟩
  · omega
  · omega
theorem gq_best {ws ps : List Int} (hp : ∀ i, 0 ≤ at0 ps i) : ∀ m k, k < m → Ahead ws (gq ws ps m) (at0 ps (gq ws ps m) + 1) k (at0 ps k + 1)
  | 0, k, h => absurd h (Nat.not_lt_zero _)
  | m + 1, k, h => by
    have hb := hp (gq ws ps m)
    have hm := hp m
    have hk := hp k
    by_cases e : at0 ws (gq ws ps m) * (at0 ps m + 1) < at0 ws m * (at0 ps (gq ws ps m) + 1)
    · have eg : gq ws ps (m + 1) = m := by
        show (if _ then _ else _) = _
        rw [if_pos e]
      rw [eg]
      by_cases hkm : k = m
      · subst hkm
        exact .inr ⟨rfl, Nat.le_refl _⟩
      · have ih := (gq_best (ws := ws) hp m k (by omega)).le
        exact .inl (ratio_lt (by omega) (by omega) (by omega) e ih)
    · have eg : gq ws ps (m + 1) = gq ws ps m := by
        show (if _ then _ else _) = _
        rw [if_neg e]
      rw [eg]
      by_cases hkm : k = m
      · subst hkm
        by_cases e2 : at0 ws k * (at0 ps (gq ws ps k) + 1) = at0 ws (gq ws ps k) * (at0 ps k + 1)
        · refine .inr ⟨e2, ?_⟩
          by_cases h0 : 0 < k
          · exact Nat.le_of_lt (gq_lt ws ps k h0)
          · have : k = 0 := by omega
            subst this
            exact Nat.le_refl _
        · exact .inl (by omega)
      · exact gq_best hp m k (by omega)
/-- n steps -/
def steps (ws : List Int) : Nat → List Int → List Int
  | 0, ps => ps
  | n + 1, ps => bump (steps ws n ps) (gq ws (steps ws n ps) ws.length)
def floors (amount total : Int) (ws : List Int) : List Int := ws.map fun w => amount * w / total
def splitOf (amount : Int) (ws : List Int) : List Int :=
  if ws.sum = 0 then ws.map fun _ => 0 else steps ws (amount - (floors amount ws.sum ws).sum).toNat (floors amount ws.sum ws)
theorem steps_len (ws : List Int) : ∀ n ps, (steps ws n ps).length = ps.length
  | 0, _ => rfl
  | n + 1, ps => by
    show (bump _ _).length = _
    rw [bump_len, steps_len ws n ps]
theorem floors_len (amount total : Int) (ws : List Int) : (floors amount total ws).length = ws.length := List.length_map ..
theorem splitOf_len (amount : Int) (ws : List Int) : (splitOf amount ws).length = ws.length := by
  unfold splitOf
  split
  · exact List.length_map ..
  · rw [steps_len, floors_len]
theorem at0_floors {amount total : Int} {ws : List Int} {i : Nat} (h : i < ws.length) : at0 (floors amount total ws) i = amount * at0 ws i / total := by
  refine at0_of ?_
  unfold floors
  rw [List.getElem?_map, at0_lt h]
  rfl
theorem sum_nonneg : ∀ (ws : List Int), (∀ w, w ∈ ws → 0 ≤ w) → 0 ≤ ws.sum
  | [], _ => Int.le_refl _
  | w :: ws, h => by
    rw [List.sum_cons]
    have h1 := h w List.mem_cons_self
    have h2 := sum_nonneg ws fun x hx => h x (List.mem_cons_of_mem _ hx)
    omega
theorem at0_le_sum : ∀ (ws : List Int) (i : Nat), (∀ w, w ∈ ws → 0 ≤ w) → at0 ws i ≤ ws.sum
  | [], i, _ => by rw [at0_out (Nat.zero_le _)]; exact Int.le_refl _
  | w :: ws, 0, h => by
    show w ≤ (w :: ws).sum
    rw [List.sum_cons]
    have h2 := sum_nonneg ws fun x hx => h x (List.mem_cons_of_mem _ hx)
    omega
  | w :: ws, i + 1, h => by
    show at0 ws i ≤ (w :: ws).sum
    rw [List.sum_cons]
    have h1 := h w List.mem_cons_self
    have h2 := at0_le_sum ws i fun x hx => h x (List.mem_cons_of_mem _ hx)
    omega
theorem floors_mul_le (amount total : Int) (ht : 0 < total) : ∀ ws : List Int, (floors amount total ws).sum * total ≤ amount * ws.sum
  | [] => by show (0 : Int) * total ≤ amount * 0; omega
  | w :: ws => by
    show ((amount * w / total) :: floors amount total ws).sum * total ≤ amount * (w :: ws).sum
    rw [List.sum_cons, List.sum_cons, Int.add_mul, Int.mul_add]
    have h1 := floors_mul_le amount total ht ws
    have h2 := Int.ediv_mul_le (amount * w) (by omega : total ≠ 0)
    omega
theorem floors_le {amount : Int} {ws : List Int} (ht : 0 < ws.sum) : (floors amount ws.sum ws).sum ≤ amount := by
  have h := floors_mul_le amount ws.sum ht ws
  exact Int.le_of_mul_le_mul_right h ht
theorem floors_gt (amount total : Int) (ht : 0 < total) : ∀ ws : List Int, amount * ws.sum ≤ (floors amount total ws).sum * total + (ws.length : Int) * (total - 1)
  | [] => by show amount * 0 ≤ (0 : Int) * total + ((0 : Nat) : Int) * (total - 1); omega
  | w :: ws => by
    show amount * (w :: ws).sum ≤ ((amount * w / total) :: floors amount total ws).sum * total + ((ws.length + 1 : Nat) : Int) * (total - 1)
    rw [List.sum_cons, List.sum_cons, Int.add_mul, Int.mul_add]
    have h1 := floors_gt amount total ht ws
    have h2 := Int.lt_ediv_add_one_mul_self (amount * w) ht
    rw [Int.add_mul, Int.one_mul] at h2
    have h3 : ((ws.length + 1 : Nat) : Int) * (total - 1) = (ws.length : Int) * (total - 1) + (total - 1) := by
      rw [Int.natCast_add, Int.add_mul]
      omega
    omega
/-- fewer steps than weights -/
theorem floors_rest {amount : Int} {ws : List Int} (ht : 0 < ws.sum) : amount - (floors amount ws.sum ws).sum < ws.length := by
  have h := floors_gt amount ws.sum ht ws
  have h2 : (amount - (floors amount ws.sum ws).sum) * ws.sum ≤ (ws.length : Int) * (ws.sum - 1) := by
    rw [Int.sub_mul]
    omega
  by_cases hl : (ws.length : Int) = 0
  · have : ws = [] := by
      cases ws with
      | nil => rfl
      | cons x r => rw [List.length_cons] at hl; omega
    subst this
    exact absurd ht (by decide)
  · refine Int.lt_of_mul_lt_mul_right (Int.lt_of_le_of_lt h2 ?_) (Int.le_of_lt ht)
    rw [Int.mul_sub]
    omega
theorem floors_nonneg {amount total : Int} {ws : List Int} (ha : 0 ≤ amount) (ht : 0 < total) (hw : ∀ w, w ∈ ws → 0 ≤ w) : ∀ p, p ∈ floors amount total ws → 0 ≤ p := by
  intro p hp
  obtain ⟨w, hm, rfl⟩ := List.mem_map.mp hp
  exact Int.ediv_nonneg (Int.mul_nonneg ha (hw w hm)) (by omega)
theorem steps_ge {ws : List Int} (hl : 0 < ws.length) : ∀ n ps, ps.length = ws.length → ∀ i, at0 ps i ≤ at0 (steps ws n ps) i
  | 0, _, _, _ => Int.le_refl _
  | n + 1, ps, h, i => by
    have ih := steps_ge hl n ps h i
    have hk : gq ws (steps ws n ps) ws.length < (steps ws n ps).length := by rw [steps_len, h]; exact gq_lt _ _ _ hl
    show at0 ps i ≤ at0 (bump _ _) i
    rw [at0_bump hk]
    split
    · rename_i e
      rw [← e]
      omega
    · exact ih
theorem steps_sum {ws : List Int} (hl : 0 < ws.length) : ∀ n ps, ps.length = ws.length → (steps ws n ps).sum = ps.sum + n
  | 0, ps, _ => by show ps.sum = ps.sum + ((0 : Nat) : Int); omega
  | n + 1, ps, h => by
    have hk : gq ws (steps ws n ps) ws.length < (steps ws n ps).length := by rw [steps_len, h]; exact gq_lt _ _ _ hl
    show (bump _ _).sum = _
    rw [bump_sum hk, steps_sum hl n ps h]
    omega
theorem len_pos {ws : List Int} (h : 0 < ws.sum) : 0 < ws.length := by
  cases ws with
  | nil => exact absurd h (by decide)
  | cons x r => rw [List.length_cons]; exact Nat.succ_pos _
theorem splitOf_sum {amount : Int} {ws : List Int} (ht : 0 < ws.sum) : (splitOf amount ws).sum = amount := by
  unfold splitOf
  rw [if_neg (by omega), steps_sum (len_pos ht) _ _ (floors_len ..)]
  have := floors_le (amount := amount) ht
  omega
theorem splitOf_ge {amount : Int} {ws : List Int} (ht : 0 < ws.sum) {i : Nat} (hi : i < ws.length) : amount * at0 ws i / ws.sum ≤ at0 (splitOf amount ws) i := by
  unfold splitOf
  rw [if_neg (by omega)]
  have h := steps_ge (len_pos ht) (amount - (floors amount ws.sum ws).sum).toNat (floors amount ws.sum ws) (floors_len ..) i
  rw [at0_floors hi] at h
  exact h
theorem sum_lt_ex : ∀ (ps ws : List Int), ps.length = ws.length → ps.sum < ws.sum → ∃ i, i < ws.length ∧ at0 ps i < at0 ws i
  | [], [], _, h => absurd h (by decide)
  | p :: ps, w :: ws, hl, h => by
    rw [List.sum_cons, List.sum_cons] at h
    by_cases e : p < w
    · exact ⟨0, Nat.succ_pos _, e⟩
    · obtain ⟨i, h1, h2⟩ := sum_lt_ex ps ws (by simpa using hl) (by omega)
      exact ⟨i + 1, Nat.succ_lt_succ h1, h2⟩
  | [], _ :: _, hl, _ => by simp at hl
  | _ :: _, [], hl, _ => by simp at hl
/-- while there are fewer cents than weights in all, nobody gets more than his weight -/
theorem steps_le {ws : List Int} (hw : ∀ w, w ∈ ws → 0 ≤ w) (hl : 0 < ws.length) : ∀ (n : Nat) (ps : List Int), ps.length = ws.length → (∀ i, 0 ≤ at0 ps i) → (∀ i, i < ws.length → at0 ps i ≤ at0 ws i) → ps.sum + (n : Int) ≤ ws.sum → ∀ i, i < ws.length → at0 (steps ws n ps) i ≤ at0 ws i
  | 0, _, _, _, h, _, i, hi => h i hi
  | n + 1, ps, h, h0, h1, h2, i, hi => by
    have ih := steps_le hw hl n ps h h0 h1 (by omega)
    have hn : ∀ i, 0 ≤ at0 (steps ws n ps) i := fun i => Int.le_trans (h0 i) (steps_ge hl n ps h i)
    have hk : gq ws (steps ws n ps) ws.length < (steps ws n ps).length := by rw [steps_len, h]; exact gq_lt _ _ _ hl
    have hs := steps_sum hl n ps h
    obtain ⟨k, hk1, hk2⟩ := sum_lt_ex (steps ws n ps) ws (by rw [steps_len, h]) (by omega)
    have hb := (gq_best (ws := ws) hn ws.length k hk1).le
    show at0 (bump _ _) i ≤ _
    rw [at0_bump hk]
    split
    · rename_i e
      rw [e]
      generalize gq ws (steps ws n ps) ws.length = b at *
      generalize steps ws n ps = qs at *
      have hkn := hn k
      have hbn := hn b
      have h5 : (at0 qs k + 1) * (at0 qs b + 1) ≤ at0 ws k * (at0 qs b + 1) := Int.mul_le_mul_of_nonneg_right (by omega) (by omega)
      have h6 : (at0 qs b + 1) * (at0 qs k + 1) ≤ at0 ws b * (at0 qs k + 1) := by
        rw [Int.mul_comm (at0 qs b + 1)]
        exact Int.le_trans h5 hb
      exact Int.le_of_mul_le_mul_right h6 (by omega)
    · exact ih i hi
theorem splitOf_le {amount : Int} {ws : List Int} (ha : 0 ≤ amount) (hw : ∀ w, w ∈ ws → 0 ≤ w) (ht : 0 < ws.sum) (hle : amount ≤ ws.sum) {i : Nat} (hi : i < ws.length) : at0 (splitOf amount ws) i ≤ at0 ws i := by
  unfold splitOf
  rw [if_neg (by omega)]
  have hf := floors_le (amount := amount) ht
  refine steps_le hw (len_pos ht) _ _ (floors_len ..) (fun i => at0_nonneg (floors_nonneg ha ht hw) i) (fun i hi => ?_) (by omega) i hi
  rw [at0_floors hi]
  have hwi := at0_nonneg hw i
  refine Int.ediv_le_of_le_mul ht ?_
  rw [Int.mul_comm]
  exact Int.mul_le_mul_of_nonneg_left hle hwi

/-! the mathematics of deal: whoever is due first gets the cent, and nobody is ever a cent off -/
def Elig (ws ps : List Int) (W n : Int) (i : Nat) : Prop := at0 ps i * W < n * at0 ws i
instance (ws ps : List Int) (W n : Int) (i : Nat) : Decidable (Elig ws ps W n i) := inferInstanceAs (Decidable (_ < _))
def due (ws ps : List Int) (W : Int) (i : Nat) : Int := ((at0 ps i + 1) * W + at0 ws i - 1) / at0 ws i
/-- the one who is due first, of the first m -/
def nd (ws ps : List Int) (W n : Int) : Nat → Option Nat
  | 0 => none
  | m + 1 => if Elig ws ps W n m then
      match nd ws ps W n m with
      | none => some m
      | some b => if due ws ps W m < due ws ps W b then some m else some b
    else nd ws ps W n m
theorem nd_none {ws ps : List Int} {W n : Int} : ∀ m, nd ws ps W n m = none → ∀ k, k < m → ¬ Elig ws ps W n k
  | 0, _, k, h => absurd h (Nat.not_lt_zero _)
  | m + 1, e, k, h => by
    unfold nd at e
    by_cases he : Elig ws ps W n m
    · rw [if_pos he] at e
      cases hb : nd ws ps W n m with
      | none => rw [hb] at e; cases e
      | some b => rw [hb] at e; dsimp only at e; split at e <;> cases e
    · rw [if_neg he] at e
      by_cases hk : k = m
      · rw [hk]; exact he
      · exact nd_none m e k (by omega)
theorem nd_some {ws ps : List Int} {W n : Int} : ∀ m r, nd ws ps W n m = some r → r < m ∧ Elig ws ps W n r ∧ ∀ k, k < m → Elig ws ps W n k → due ws ps W r < due ws ps W k ∨ (due ws ps W r = due ws ps W k ∧ r ≤ k)
  | 0, r, e => by cases e
  | m + 1, r, e => by
    unfold nd at e
    by_cases he : Elig ws ps W n m
    · rw [if_pos he] at e
      cases hb : nd ws ps W n m with
      | none =>
        rw [hb] at e
        obtain rfl : m = r := Option.some.inj e
        refine ⟨Nat.lt_succ_self _, he, fun k hk hek => ?_⟩
        by_cases hkm : k = m
        · subst hkm
          exact .inr ⟨rfl, Nat.le_refl _⟩
        · exact absurd hek (nd_none m hb k (by omega))
      | some b =>
        rw [hb] at e
        obtain ⟨h1, h2, h3⟩ := nd_some m b hb
        dsimp only at e
        by_cases hd : due ws ps W m < due ws ps W b
        · rw [if_pos hd] at e
          obtain rfl : m = r := Option.some.inj e
          refine ⟨Nat.lt_succ_self _, he, fun k hk hek => ?_⟩
          by_cases hkm : k = m
          · subst hkm
            exact .inr ⟨rfl, Nat.le_refl _⟩
          · have := h3 k (by omega) hek
            exact .inl (by omega)
        · rw [if_neg hd] at e
          obtain rfl : b = r := Option.some.inj e
          refine ⟨by omega, h2, fun k hk hek => ?_⟩
          by_cases hkm : k = m
          · subst hkm
            by_cases hq : due ws ps W b = due ws ps W k
            · exact .inr ⟨hq, by omega⟩
            · exact .inl (by omega)
          · exact h3 k (by omega) hek
    · rw [if_neg he] at e
      obtain ⟨h1, h2, h3⟩ := nd_some m r e
      refine ⟨by omega, h2, fun k hk hek => ?_⟩
      by_cases hkm : k = m
      · rw [hkm] at hek
        exact absurd hek he
      · exact h3 k (by omega) hek
/-- sums, place by place -/
theorem lin_sum (W d : Int) : ∀ (ps qs ws : List Int), ps.length = ws.length → qs.length = ws.length → (∀ k, k < ws.length → W * (at0 ps k - at0 qs k) ≤ d * at0 ws k) → W * (ps.sum - qs.sum) ≤ d * ws.sum
  | [], [], [], _, _, _ => by simp
  | p :: ps, q :: qs, w :: ws, h1, h2, h => by
    have ih := lin_sum W d ps qs ws (by simpa using h1) (by simpa using h2) fun k hk => h (k + 1) (Nat.succ_lt_succ hk)
    have h0 : W * (p - q) ≤ d * w := h 0 (Nat.succ_pos _)
    rw [List.sum_cons, List.sum_cons, List.sum_cons]
    have e1 : W * (p + ps.sum - (q + qs.sum)) = W * (p - q) + W * (ps.sum - qs.sum) := by grind
    rw [e1, Int.mul_add]
    omega
  | [], _ :: _, [], _, h, _ => by simp at h
  | _ :: _, _, [], h, _, _ => by simp at h
  | [], _, _ :: _, h, _, _ => by simp at h
  | _ :: _, [], _ :: _, _, h, _ => by simp at h
theorem lin_sum1 (W d c : Int) : ∀ (ps qs ws : List Int) (i : Nat), ps.length = ws.length → qs.length = ws.length → (∀ k, k < ws.length → W * (at0 ps k - at0 qs k) ≤ d * at0 ws k) → i < ws.length → W * (at0 ps i - at0 qs i) + c ≤ d * at0 ws i → W * (ps.sum - qs.sum) + c ≤ d * ws.sum
  | p :: ps, q :: qs, w :: ws, 0, h1, h2, h, _, hc => by
    have ih := lin_sum W d ps qs ws (by simpa using h1) (by simpa using h2) fun k hk => h (k + 1) (Nat.succ_lt_succ hk)
    have h0 : W * (p - q) + c ≤ d * w := hc
    rw [List.sum_cons, List.sum_cons, List.sum_cons]
    have e1 : W * (p + ps.sum - (q + qs.sum)) = W * (p - q) + W * (ps.sum - qs.sum) := by grind
    rw [e1, Int.mul_add]
    omega
  | p :: ps, q :: qs, w :: ws, i + 1, h1, h2, h, hi, hc => by
    have ih := lin_sum1 W d c ps qs ws i (by simpa using h1) (by simpa using h2) (fun k hk => h (k + 1) (Nat.succ_lt_succ hk)) (Nat.lt_of_succ_lt_succ hi) hc
    have h0 : W * (p - q) ≤ d * w := h 0 (Nat.succ_pos _)
    rw [List.sum_cons, List.sum_cons, List.sum_cons]
    have e1 : W * (p + ps.sum - (q + qs.sum)) = W * (p - q) + W * (ps.sum - qs.sum) := by grind
    rw [e1, Int.mul_add]
    omega
  | _, _, [], _, _, _, _, h, _ => absurd h (Nat.not_lt_zero _)
  | [], _, _ :: _, _, h, _, _, _, _ => by simp at h
  | _ :: _, [], _ :: _, _, _, h, _, _, _ => by simp at h
/-- somebody may get the next cent -/
theorem elig_ex {ws ps : List Int} {n : Int} (hl : ps.length = ws.length) (hW : 0 < ws.sum) (hs : ps.sum < n) : ∃ i, i < ws.length ∧ Elig ws ps ws.sum n i := by
  by_cases h : ∃ i, i < ws.length ∧ Elig ws ps ws.sum n i
  · exact h
  · exfalso
    have h0 : ∀ k, k < ws.length → (-ws.sum) * (at0 ps k - at0 (ws.map fun _ => 0) k) ≤ (-n) * at0 ws k := by
      intro k hk
      have e0 : at0 (ws.map fun _ => (0 : Int)) k = 0 := at0_of (by rw [List.getElem?_map, at0_lt hk]; rfl)
      have h1 : ¬ at0 ps k * ws.sum < n * at0 ws k := fun e => h ⟨k, hk, e⟩
      rw [e0]
      have e1 : (-ws.sum) * (at0 ps k - 0) = -(at0 ps k * ws.sum) := by grind
      have e2 : (-n) * at0 ws k = -(n * at0 ws k) := by grind
      rw [e1, e2]
      omega
    have hz : ∀ l : List Int, (l.map fun _ => (0 : Int)).sum = 0 := by
      intro l
      induction l with
      | nil => rfl
      | cons x r ih => rw [List.map_cons, List.sum_cons, ih]; rfl
    have := lin_sum (-ws.sum) (-n) ps (ws.map fun _ => 0) ws hl (List.length_map ..) h0
    rw [hz] at this
    have e3 : (-ws.sum) * (ps.sum - 0) = -(ps.sum * ws.sum) := by grind
    have e4 : (-n) * ws.sum = -(n * ws.sum) := by grind
    rw [e3, e4] at this
    have h5 : ps.sum * ws.sum < n * ws.sum := Int.mul_lt_mul_of_pos_right hs hW
    omega
/-- whose turn it is -/
def ch (ws ps : List Int) (n : Int) : Nat := (nd ws ps ws.sum n ws.length).getD 0
theorem ch_spec {ws ps : List Int} {n : Int} (hl : ps.length = ws.length) (hW : 0 < ws.sum) (hs : ps.sum < n) : nd ws ps ws.sum n ws.length = some (ch ws ps n) ∧ ch ws ps n < ws.length ∧ Elig ws ps ws.sum n (ch ws ps n) ∧
    ∀ k, k < ws.length → Elig ws ps ws.sum n k → due ws ps ws.sum (ch ws ps n) < due ws ps ws.sum k ∨ (due ws ps ws.sum (ch ws ps n) = due ws ps ws.sum k ∧ ch ws ps n ≤ k) := by
  cases h : nd ws ps ws.sum n ws.length with
  | none =>
    obtain ⟨i, h1, h2⟩ := elig_ex hl hW hs
    exact absurd h2 (nd_none _ h i h1)
  | some r =>
    have e : ch ws ps n = r := by unfold ch; rw [h]; rfl
    rw [e]
    exact ⟨rfl, nd_some _ r h⟩
/-- the parts behind n cents -/
def run (ws : List Int) : Nat → List Int
  | 0 => ws.map fun _ => 0
  | n + 1 => bump (run ws n) (ch ws (run ws n) ((n + 1 : Nat) : Int))
theorem run_len (ws : List Int) : ∀ n, (run ws n).length = ws.length
  | 0 => List.length_map ..
  | n + 1 => by
    show (bump _ _).length = _
    rw [bump_len, run_len ws n]
theorem zeros_sum : ∀ l : List Int, (l.map fun _ => (0 : Int)).sum = 0
  | [] => rfl
  | x :: r => by rw [List.map_cons, List.sum_cons, zeros_sum r]; rfl
theorem at0_zeros (ws : List Int) (i : Nat) : at0 (ws.map fun _ => (0 : Int)) i = 0 := by
  by_cases h : i < ws.length
  · exact at0_of (by rw [List.getElem?_map, at0_lt h]; rfl)
  · exact at0_out (by rw [List.length_map]; omega)
theorem run_sum {ws : List Int} (hW : 0 < ws.sum) : ∀ n : Nat, (run ws n).sum = n
  | 0 => zeros_sum ws
  | n + 1 => by
    have ih := run_sum hW n
    have hc := (ch_spec (n := ((n + 1 : Nat) : Int)) (run_len ws n) hW (by omega)).2.1
    show (bump _ _).sum = _
    rw [bump_sum (by rw [run_len]; exact hc), ih]
    omega
theorem run_ch {ws : List Int} (hW : 0 < ws.sum) (n : Nat) : nd ws (run ws n) ws.sum ((n + 1 : Nat) : Int) ws.length = some (ch ws (run ws n) ((n + 1 : Nat) : Int)) ∧ ch ws (run ws n) ((n + 1 : Nat) : Int) < ws.length ∧ Elig ws (run ws n) ws.sum ((n + 1 : Nat) : Int) (ch ws (run ws n) ((n + 1 : Nat) : Int)) ∧
    ∀ k, k < ws.length → Elig ws (run ws n) ws.sum ((n + 1 : Nat) : Int) k → due ws (run ws n) ws.sum (ch ws (run ws n) ((n + 1 : Nat) : Int)) < due ws (run ws n) ws.sum k ∨ (due ws (run ws n) ws.sum (ch ws (run ws n) ((n + 1 : Nat) : Int)) = due ws (run ws n) ws.sum k ∧ ch ws (run ws n) ((n + 1 : Nat) : Int) ≤ k) :=
  ch_spec (run_len ws n) hW (by rw [run_sum hW]; omega)
theorem run_at {ws : List Int} (hW : 0 < ws.sum) (n i : Nat) : at0 (run ws (n + 1)) i = if i = ch ws (run ws n) ((n + 1 : Nat) : Int) then at0 (run ws n) (ch ws (run ws n) ((n + 1 : Nat) : Int)) + 1 else at0 (run ws n) i :=
  at0_bump (by rw [run_len]; exact (run_ch hW n).2.1)
theorem run_up {ws : List Int} (hW : 0 < ws.sum) (n i : Nat) : at0 (run ws n) i ≤ at0 (run ws (n + 1)) i := by
  rw [run_at hW]
  split
  · rename_i h
    rw [h]
    omega
  · omega
theorem run_mono {ws : List Int} (hW : 0 < ws.sum) (i : Nat) {m n : Nat} (h : m ≤ n) : at0 (run ws m) i ≤ at0 (run ws n) i := by
  induction h with
  | refl => exact Int.le_refl _
  | step _ ih => exact Int.le_trans ih (run_up hW _ i)
theorem run_nn {ws : List Int} (hW : 0 < ws.sum) (n i : Nat) : 0 ≤ at0 (run ws n) i := by
  have := run_mono hW i (Nat.zero_le n)
  have e : at0 (run ws 0) i = 0 := at0_zeros ws i
  omega
/-- not a cent too much -/
theorem run_upper {ws : List Int} (hw : ∀ i, 0 ≤ at0 ws i) (hW : 0 < ws.sum) : ∀ (n i : Nat), at0 (run ws n) i * ws.sum < (n : Int) * at0 ws i + ws.sum
  | 0, i => by
    have e : at0 (run ws 0) i = 0 := at0_zeros ws i
    rw [e]
    simp only [Int.zero_mul, Int.natCast_zero, Int.zero_add]
    exact hW
  | n + 1, i => by
    have ih := run_upper hw hW n i
    have he : at0 (run ws n) _ * ws.sum < ((n + 1 : Nat) : Int) * at0 ws _ := (run_ch hW n).2.2.1
    rw [run_at hW]
    split
    · rename_i h
      rw [← h] at he ⊢
      rw [Int.add_mul]
      omega
    · have e2 : ((n + 1 : Nat) : Int) * at0 ws i = (n : Int) * at0 ws i + at0 ws i := by grind
      have := hw i
      rw [e2]
      omega
theorem due_le {ws ps : List Int} {W n : Int} {i : Nat} (hw : 0 < at0 ws i) : due ws ps W i ≤ n ↔ (at0 ps i + 1) * W ≤ n * at0 ws i := by
  unfold due
  generalize (at0 ps i + 1) * W = x
  generalize at0 ws i = w at *
  constructor
  · intro h
    have h1 := Int.lt_ediv_add_one_mul_self (x + w - 1) hw
    have h2 : (x + w - 1) / w * w ≤ n * w := Int.mul_le_mul_of_nonneg_right h (by omega)
    rw [Int.add_mul] at h1
    omega
  · intro h
    have : (x + w - 1) / w < n + 1 := Int.ediv_lt_of_lt_mul hw (by rw [Int.add_mul]; omega)
    omega
theorem elig_pos {ws ps : List Int} {W n : Int} {i : Nat} (hw : 0 ≤ at0 ws i) (hp : 0 ≤ at0 ps i) (hW : 0 < W) (h : Elig ws ps W n i) : 0 < at0 ws i := by
  by_cases e : at0 ws i = 0
  · unfold Elig at h
    rw [e, Int.mul_zero] at h
    have := Int.mul_nonneg hp (Int.le_of_lt hW)
    omega
  · omega
/-- not a cent too little -/
theorem run_lower {ws : List Int} (hw : ∀ i, 0 ≤ at0 ws i) (hW : 0 < ws.sum) (n i : Nat) (hi : i < ws.length) : (n : Int) * at0 ws i < (at0 (run ws n) i + 1) * ws.sum := by
  by_cases hgoal : (n : Int) * at0 ws i < (at0 (run ws n) i + 1) * ws.sum
  · exact hgoal
  exfalso
  -- the last cent that went to somebody whose time was later than n
  have hlast : ∀ m, m ≤ n → ∃ t, t ≤ m ∧ (∀ s, t < s → s ≤ m → ∀ k, at0 (run ws (s - 1)) k < at0 (run ws s) k → at0 (run ws s) k * ws.sum ≤ (n : Int) * at0 ws k) ∧
      (t = 0 ∨ ∃ a, a = ch ws (run ws (t - 1)) (t : Int) ∧ 0 < t ∧ (n : Int) * at0 ws a < at0 (run ws t) a * ws.sum) := by
    intro m
    induction m with
    | zero => exact fun _ => ⟨0, Nat.le_refl _, fun s h1 h2 => by omega, .inl rfl⟩
    | succ m ih =>
      intro hm
      obtain ⟨t, h1, h2, h3⟩ := ih (by omega)
      by_cases hl : (n : Int) * at0 ws (ch ws (run ws m) ((m + 1 : Nat) : Int)) < at0 (run ws (m + 1)) (ch ws (run ws m) ((m + 1 : Nat) : Int)) * ws.sum
      · exact ⟨m + 1, Nat.le_refl _, fun s h4 h5 => by omega, .inr ⟨_, rfl, Nat.succ_pos _, hl⟩⟩
      · refine ⟨t, by omega, fun s h4 h5 k hk => ?_, h3⟩
        by_cases hs : s = m + 1
        · subst hs
          have hk' : at0 (run ws m) k < at0 (run ws (m + 1)) k := hk
          have : k = ch ws (run ws m) ((m + 1 : Nat) : Int) := by
            rw [run_at hW] at hk'
            by_cases e : k = ch ws (run ws m) ((m + 1 : Nat) : Int)
            · exact e
            · rw [if_neg e] at hk'
              omega
          rw [this]
          omega
        · exact h2 s h4 (by omega) k hk
  obtain ⟨t, ht, hA, hB⟩ := hlast n (Nat.le_refl _)
  have claimA : ∀ k m, t ≤ m → m ≤ n → at0 (run ws m) k = at0 (run ws t) k ∨ at0 (run ws m) k * ws.sum ≤ (n : Int) * at0 ws k := by
    intro k m
    induction m with
    | zero =>
      intro h1 _
      have : t = 0 := by omega
      rw [this]
      exact .inl rfl
    | succ m ih =>
      intro h1 h2
      by_cases e : t = m + 1
      · rw [e]
        exact .inl rfl
      · by_cases hk : at0 (run ws m) k < at0 (run ws (m + 1)) k
        · exact .inr (hA (m + 1) (by omega) h2 k hk)
        · have := run_up hW m k
          have e2 : at0 (run ws (m + 1)) k = at0 (run ws m) k := by omega
          rw [e2]
          exact ih (by omega) (by omega)
  have claimB : ∀ k, k < ws.length → (t : Int) * at0 ws k ≤ at0 (run ws t) k * ws.sum ∨ (n : Int) * at0 ws k < (at0 (run ws t) k + 1) * ws.sum := by
    intro k hk
    rcases hB with h0 | ⟨a, ea, ht0, hl⟩
    · subst h0
      left
      have := Int.mul_nonneg (run_nn hW 0 k) (Int.le_of_lt hW)
      simp only [Int.natCast_zero, Int.zero_mul]
      exact this
    · obtain ⟨m, rfl⟩ : ∃ m, t = m + 1 := ⟨t - 1, by omega⟩
      have ea : a = ch ws (run ws m) ((m + 1 : Nat) : Int) := ea
      subst ea
      obtain ⟨_, hc1, hc2, hc3⟩ := run_ch hW m
      have hup := run_up hW m k
      have hp := run_nn hW m k
      by_cases he : Elig ws (run ws m) ws.sum ((m + 1 : Nat) : Int) k
      · right
        have hd := hc3 k hk he
        rw [run_at hW, if_pos rfl] at hl
        have wa := elig_pos (hw _) (run_nn hW m _) hW hc2
        have wk := elig_pos (hw _) hp hW he
        have d1 : ¬ due ws (run ws m) ws.sum (ch ws (run ws m) ((m + 1 : Nat) : Int)) ≤ (n : Int) := by rw [due_le wa]; omega
        have d2 : ¬ due ws (run ws m) ws.sum k ≤ (n : Int) := by omega
        rw [due_le wk] at d2
        have : (at0 (run ws m) k + 1) * ws.sum ≤ (at0 (run ws (m + 1)) k + 1) * ws.sum := Int.mul_le_mul_of_nonneg_right (by omega) (by omega)
        omega
      · left
        have he' : ¬ at0 (run ws m) k * ws.sum < ((m + 1 : Nat) : Int) * at0 ws k := he
        have : at0 (run ws m) k * ws.sum ≤ at0 (run ws (m + 1)) k * ws.sum := Int.mul_le_mul_of_nonneg_right hup (by omega)
        omega
  have hpoint : ∀ k, k < ws.length → ws.sum * (at0 (run ws n) k - at0 (run ws t) k) ≤ ((n : Int) - t) * at0 ws k := by
    intro k hk
    have hm := run_mono hW k ht
    by_cases e : at0 (run ws n) k = at0 (run ws t) k
    · rw [e, Int.sub_self, Int.mul_zero]
      exact Int.mul_nonneg (by omega) (hw k)
    · have h1 := (claimA k n ht (Nat.le_refl _)).resolve_left e
      rcases claimB k hk with h2 | h2
      · have e1 : ws.sum * (at0 (run ws n) k - at0 (run ws t) k) = at0 (run ws n) k * ws.sum - at0 (run ws t) k * ws.sum := by grind
        have e2 : ((n : Int) - t) * at0 ws k = (n : Int) * at0 ws k - (t : Int) * at0 ws k := by grind
        rw [e1, e2]
        omega
      · have : (at0 (run ws t) k + 1) * ws.sum ≤ at0 (run ws n) k * ws.sum := Int.mul_le_mul_of_nonneg_right (by omega) (by omega)
        omega
  have hi2 : ws.sum * (at0 (run ws n) i - at0 (run ws t) i) + ws.sum ≤ ((n : Int) - t) * at0 ws i := by
    have hm := run_mono hW i ht
    rcases claimB i hi with h2 | h2
    · have e1 : ws.sum * (at0 (run ws n) i - at0 (run ws t) i) + ws.sum = (at0 (run ws n) i + 1) * ws.sum - at0 (run ws t) i * ws.sum := by grind
      have e2 : ((n : Int) - t) * at0 ws i = (n : Int) * at0 ws i - (t : Int) * at0 ws i := by grind
      rw [e1, e2]
      omega
    · have : (at0 (run ws t) i + 1) * ws.sum ≤ (at0 (run ws n) i + 1) * ws.sum := Int.mul_le_mul_of_nonneg_right (by omega) (by omega)
      omega
  have hsum := lin_sum1 ws.sum ((n : Int) - t) ws.sum (run ws n) (run ws t) ws i (run_len ..) (run_len ..) hpoint hi hi2
  rw [run_sum hW, run_sum hW] at hsum
  have : ws.sum * ((n : Int) - t) = ((n : Int) - t) * ws.sum := Int.mul_comm ..
  omega

def nats (G : List Nat) : List V := G.map fun (k : Nat) => V.int (k : Int)

/-! min of a list of pairs of ints: the library's loop, with a comparison that may read the heap -/
section
variable {prog : Program} {w : World} {A : Around} {R : Result → Shared → Prop} {it : Addr} {seen mine : List Addr} {cnt : Nat} {Itm : Nat → Value → Prop} {Pos : Nat → Heap → Prop}
/-- the objects apart from the iterator's and the slot's stay -/
def Stays (mine : List Addr) (slot : Addr) (g g' : Heap) : Prop := ∀ c ob, c ∉ mine → c ≠ slot → g.get? c = some ob → g'.get? c = some ob
theorem pmin_loop (Wk : Walks prog w A.in1 it seen mine cnt Itm Pos) (less : Nat → Nat → Bool) (slot : Addr) (hslot : slot ∉ seen) (Kp : Heap → Prop) (hKp : ∀ g g', Kp g → Stays mine slot g g' → Kp g')
    (hless : ∀ a b va vb (sh : Shared) (Qc : Value → Shared → Prop) (Ec : Value → Shared → Prop), Itm a va → Itm b vb → Kp sh.heap → Qc (.bool (less a b)) sh → wpAny (model prog w) A.in1 (richCompare .Lt va vb) Qc Ec sh) :
    ∀ (left at_ : Nat) (sh : Shared) (best : Value) (tick : Nat), left = cnt - (at_ + 1) → at_ + 1 ≤ cnt → Pos (at_ + 1) sh.heap → Itm (argBest less at_) best → Kp sh.heap →
      sh.heap.get? slot = some { cls := .type "list", dict := none, data := .seq #[best, best] tick, slots := #[] } →
      (∀ res g' tk, Itm (argBest less (cnt - 1)) res → Stays mine slot sh.heap g' → R (.ok (.ret res)) { sh with heap := g', toks := tk }) →
      codeAny (model prog w) A (.builtin "min.loop" ⟨[.ref it, .none, .ref slot], []⟩) R sh := by
  have nmine : slot ∉ mine := fun z => hslot (Wk.sub _ z)
  have nm : (toString "min" ++ toString ".loop" : String) = "min.loop" := by decide
  intro left
  induction left with
  | zero =>
    intro at_ sh best tick e0 e1 hpos hbest hk hs hres
    have e2 : at_ + 1 = cnt := by omega
    rw [e2] at hpos
    refine codeAny_builtin PySem.F.entry_min_loop ?_
    rw [Around.under_plainId PySem.F.plain_min_loop _]
    refine wpAny_bind (wpAny_seqItems hs rfl ?_)
    refine wpAny_bind (wpAny_tryCatch (Wk.done sh _ _ hpos fun g' tk kept => ?_))
    have hs' := kept slot _ nmine hs
    refine wpAny_bind (wpAny_updateSeq hs' rfl (wpAny_bind (wpAny_letGo (wpAny_pure ?_))))
    refine hres best _ tk ?_ fun c ob c1 c2 e => (Heap.get?_update_other _ _ (Ne.symm c2)).trans (kept c ob c1 e)
    have e3 : cnt - 1 = at_ := by omega
    rw [e3]
    exact hbest
  | succ left ih =>
    intro at_ sh best tick e0 e1 hpos hbest hk hs hres
    have hlt : at_ + 1 < cnt := by omega
    refine codeAny_builtin PySem.F.entry_min_loop ?_
    rw [Around.under_plainId PySem.F.plain_min_loop _]
    refine wpAny_bind (wpAny_seqItems hs rfl ?_)
    refine wpAny_bind (wpAny_tryCatch (Wk.item (at_ + 1) sh _ _ hlt hpos fun v g' tk hv hpos' kept => ?_))
    have hs' := kept slot _ nmine hs
    have st1 : Stays mine slot sh.heap g' := fun c ob c1 _ e => kept c ob c1 e
    have hk' : Kp g' := hKp _ _ hk st1
    show wpAny (model prog w) A.in1 (tryCatch (holding [v, v] (richCompare .Lt v best >>= _)) _ >>= _) _ _ _
    refine wpAny_bind (wpAny_tryCatch (wpAny_holding (wpAny_bind (hless (at_ + 1) (argBest less at_) v best _ _ _ hv hbest hk' ?_))))
    refine wpAny_bind (wpAny_holding (wpAny_truthy_bool ?_))
    refine wpAny_bind (wpAny_letGo (wpAny_pure ?_))
    cases hb : less (at_ + 1) (argBest less at_) with
    | true =>
      simp only [if_true]
      have eb : argBest less (at_ + 1) = at_ + 1 := if_pos hb
      refine wpAny_bind (wpAny_updateSeq hs' rfl (wpAny_bind (wpAny_letGo ?_)))
      rw [nm]
      refine wpAny_pure ⟨plainId_quiet PySem.F.plain_min_loop _, ih (at_ + 1) _ v _ (by omega) hlt (Wk.frame _ _ _ hpos' fun c hc ob e => ?_) (by rw [eb]; exact hv) (hKp _ _ hk' fun c ob _ c2 e => (Heap.get?_update_other _ _ (Ne.symm c2)).trans e) (Heap.get?_update_self _ hs' rfl) fun res g2 tk2 r1 r2 => ?_⟩
      · exact (Heap.get?_update_other _ _ (fun z : slot = c => hslot (by rw [z]; exact hc))).trans e
      · exact hres res g2 tk2 r1 fun c ob c1 c2 e => r2 c ob c1 c2 ((Heap.get?_update_other _ _ (Ne.symm c2)).trans (st1 c ob c1 c2 e))
    | false =>
      simp only [Bool.false_eq_true, if_false]
      have eb : argBest less (at_ + 1) = argBest less at_ := if_neg (by rw [hb]; exact Bool.false_ne_true)
      refine wpAny_bind (wpAny_letGo ?_)
      rw [nm]
      refine wpAny_pure ⟨plainId_quiet PySem.F.plain_min_loop _, ih (at_ + 1) _ best tick (by omega) hlt hpos' (by rw [eb]; exact hbest) hk' hs' fun res g2 tk2 r1 r2 => ?_⟩
      exact hres res g2 tk2 r1 fun c ob c1 c2 e => r2 c ob c1 c2 (st1 c ob c1 c2 e)
theorem pmin_start (Wk : Walks prog w A.in1 it seen mine cnt Itm Pos) (less : Nat → Nat → Bool) (slot : Addr) (hslot : slot ∉ seen) (Kp : Heap → Prop) (hKp : ∀ g g', Kp g → Stays mine slot g g' → Kp g')
    (hless : ∀ a b va vb (sh : Shared) (Qc : Value → Shared → Prop) (Ec : Value → Shared → Prop), Itm a va → Itm b vb → Kp sh.heap → Qc (.bool (less a b)) sh → wpAny (model prog w) A.in1 (richCompare .Lt va vb) Qc Ec sh)
    (hcnt : 0 < cnt) {sh : Shared} {tick : Nat} (hpos : Pos 0 sh.heap) (hk : Kp sh.heap) (hs : sh.heap.get? slot = some { cls := .type "list", dict := none, data := .seq #[] tick, slots := #[] })
    (hres : ∀ res g' tk, Itm (argBest less (cnt - 1)) res → Stays mine slot sh.heap g' → R (.ok (.ret res)) { sh with heap := g', toks := tk }) :
    codeAny (model prog w) A (.builtin "min.loop" ⟨[.ref it, .none, .ref slot], []⟩) R sh := by
  have nmine : slot ∉ mine := fun z => hslot (Wk.sub _ z)
  have nm : (toString "min" ++ toString ".loop" : String) = "min.loop" := by decide
  refine codeAny_builtin PySem.F.entry_min_loop ?_
  rw [Around.under_plainId PySem.F.plain_min_loop _]
  refine wpAny_bind (wpAny_seqItems hs rfl ?_)
  refine wpAny_bind (wpAny_tryCatch (Wk.item 0 sh _ _ hcnt hpos fun v g' tk hv hpos' kept => ?_))
  have hs' := kept slot _ nmine hs
  have st1 : Stays mine slot sh.heap g' := fun c ob c1 _ e => kept c ob c1 e
  show wpAny (model prog w) A.in1 (updateSeq slot (fun _ => #[v, v]) >>= _) _ _ _
  refine wpAny_bind (wpAny_updateSeq hs' rfl ?_)
  rw [nm]
  refine wpAny_pure ⟨plainId_quiet PySem.F.plain_min_loop _, pmin_loop Wk less slot hslot Kp hKp hless _ 0 _ v _ rfl hcnt (Wk.frame _ _ _ hpos' fun c hc ob e => ?_) hv
    (hKp _ _ (hKp _ _ hk st1) fun c ob _ c2 e => (Heap.get?_update_other _ _ (Ne.symm c2)).trans e) (Heap.get?_update_self _ hs' rfl) fun res g2 tk2 r1 r2 => ?_⟩
  · exact (Heap.get?_update_other _ _ (fun z : slot = c => hslot (by rw [z]; exact hc))).trans e
  · exact hres res g2 tk2 r1 fun c ob c1 c2 e => r2 c ob c1 c2 ((Heap.get?_update_other _ _ (Ne.symm c2)).trans (st1 c ob c1 c2 e))
end
section
variable {prog : Program} {w : World} {A : Around} {E : Value → Shared → Prop} {sh : Shared}
theorem addr_ne {h : Heap} {c : Addr} {o : Obj} {n : Nat} (e : h.get? c = some o) (hn : h.objs.size ≤ n) : c ≠ n := Nat.ne_of_lt (Nat.lt_of_lt_of_le (Heap.lt_size e) hn)
theorem pmin_call {l : Addr} {its : Array Value} {Q : Value → Shared → Prop} (hh : A.in1.handled = none) (hl : sh.heap.IsList l its) (less : Nat → Nat → Bool) (hcnt : 0 < its.size)
    (hless : ∀ a b va vb (s2 : Shared) (Qc : Value → Shared → Prop) (Ec : Value → Shared → Prop), its[a]? = some va → its[b]? = some vb → (∀ c ob, sh.heap.get? c = some ob → s2.heap.get? c = some ob) → Qc (.bool (less a b)) s2 →
      wpAny (model prog w) A.in1 (richCompare .Lt va vb) Qc Ec s2)
    (hres : ∀ res g' tk, its[argBest less (its.size - 1)]? = some res → (∀ c ob, sh.heap.get? c = some ob → g'.get? c = some ob) → Q res { sh with heap := g', toks := tk }) :
    wpAny (model prog w) A (call (.builtin "min") [.ref l]) Q E sh := by
  have nm : (toString "min" ++ toString ".loop" : String) = "min.loop" := by decide
  have hlt : l < sh.heap.objs.size := by obtain ⟨_, e, _⟩ := hl; exact Heap.lt_size e
  refine call_function_tree PySem.F.kind_min PySem.F.plain_min PySem.F.entry_min (PySem.F.args_min1 _) ?_
  refine wpAny_bind (wpAny_of_eq (show Builtin.Builtins.bindParams "min" ["key", "default"] 0 ⟨[], []⟩ = pure [none, none] from rfl) ?_)
  refine wpAny_bind (wpAny_pure ?_)
  refine wpAny_bind (wpAny_pyIter_list hl ?_)
  refine wpAny_bind (wpAny_newObj_type ?_)
  rw [nm]
  generalize hg1 : sh.heap.push { cls := .type "list_iterator", data := .fields #[.ref l, .int 0 0] } = g1
  have sz1 : g1.objs.size = sh.heap.objs.size + 1 := by rw [← hg1]; exact Heap.size_push _ _
  have old1 : ∀ c ob, sh.heap.get? c = some ob → g1.get? c = some ob := fun c ob e => by rw [← hg1]; exact Heap.get?_push_of_some _ e
  have iter1 : g1.IsListIter sh.heap.objs.size l 0 := by rw [← hg1]; exact ⟨_, Heap.get?_push_size _ rfl, rfl, rfl⟩
  have list1 : g1.IsList l its := by rw [← hg1]; exact hl.push _
  have neI : l ≠ sh.heap.objs.size := Nat.ne_of_lt hlt
  have ns : g1.objs.size ∉ [sh.heap.objs.size, l] := by
    intro z
    rcases List.mem_cons.mp z with z | z
    · have z : g1.objs.size = sh.heap.objs.size := z
      omega
    · have z2 : g1.objs.size = l := List.mem_singleton.mp z
      rw [← z2, sz1] at hlt
      exact Nat.not_succ_lt_self hlt
  have Wk := Walks.list (prog := prog) (w := w) (A := A.in1) hh sh.heap.objs.size l neI its
  have old2 : ∀ o c ob, g1.get? c = some ob → (g1.push o).get? c = some ob := fun o c ob e => Heap.get?_push_of_some _ e
  refine wpAny_pure ⟨plainId_quiet PySem.F.plain_min_loop _, pmin_start Wk less g1.objs.size ns (fun g => ∀ c ob, sh.heap.get? c = some ob → g.get? c = some ob) (fun g g' h1 h2 c ob e => ?_) hless hcnt
    (Wk.frame _ _ _ ⟨iter1, list1⟩ fun c _ ob e => old2 _ c ob e) (fun c ob e => old2 _ c ob (old1 c ob e)) (Heap.get?_push_size _ rfl) fun res g' tk r1 r2 => ?_⟩
  · exact h2 c ob (fun z => addr_ne e (Nat.le_refl _) (List.mem_singleton.mp z)) (addr_ne e (by omega)) (h1 c ob e)
  · exact hres res g' tk r1 fun c ob e => r2 c ob (fun z => addr_ne e (Nat.le_refl _) (List.mem_singleton.mp z)) (addr_ne e (by omega)) (old2 _ c ob (old1 c ob e))
end
/-- one pair goes ahead of another -/
def pLt (p q : Int × Int) : Bool := if p.1 = q.1 then decide (p.2 < q.2) else decide (p.1 < q.1)
theorem pLt_lex (p q : Int × Int) : HT.lexLt [p.1, p.2] [q.1, q.2] = pLt p q := by
  unfold pLt
  rw [HT.lexLt_cons, HT.lexLt_cons, HT.lexLt_nil_nil]
  split
  · split
    · rename_i h
      exact (decide_eq_false (by omega)).symm
    · rfl
  · rfl
theorem pLt_iff (p q : Int × Int) : pLt p q = true ↔ p.1 < q.1 ∨ (p.1 = q.1 ∧ p.2 < q.2) := by
  unfold pLt
  split
  · rw [decide_eq_true_eq]; omega
  · rw [decide_eq_true_eq]; omega
theorem argBest_least (f : Nat → Int × Int) : ∀ n, argBest (fun i j => pLt (f i) (f j)) n ≤ n ∧ ∀ k, k ≤ n → pLt (f k) (f (argBest (fun i j => pLt (f i) (f j)) n)) = false
  | 0 => ⟨Nat.le_refl _, fun k hk => by
      have : k = 0 := by omega
      subst this
      cases h : pLt (f 0) (f 0) with
      | false => exact h
      | true => rw [pLt_iff] at h; omega⟩
  | n + 1 => by
    obtain ⟨h1, h2⟩ := argBest_least f n
    generalize hb : argBest (fun i j => pLt (f i) (f j)) n = b at *
    by_cases e : pLt (f (n + 1)) (f b) = true
    · have eb : argBest (fun i j => pLt (f i) (f j)) (n + 1) = n + 1 := by
        show (if pLt (f (n + 1)) (f (argBest (fun i j => pLt (f i) (f j)) n)) = true then _ else _) = _
        rw [hb, if_pos e]
      rw [eb]
      refine ⟨Nat.le_refl _, fun k hk => ?_⟩
      cases h : pLt (f k) (f (n + 1)) with
      | false => rfl
      | true =>
        rw [pLt_iff] at h e
        by_cases hk2 : k = n + 1
        · rw [hk2] at h
          omega
        · have h3 := h2 k (by omega)
          have h4 : ¬ (pLt (f k) (f b) = true) := by rw [h3]; exact Bool.false_ne_true
          rw [pLt_iff] at h4
          omega
    · have eb : argBest (fun i j => pLt (f i) (f j)) (n + 1) = b := by
        show (if pLt (f (n + 1)) (f (argBest (fun i j => pLt (f i) (f j)) n)) = true then _ else _) = _
        rw [hb, if_neg e]
      rw [eb]
      refine ⟨by omega, fun k hk => ?_⟩
      by_cases hk2 : k = n + 1
      · rw [hk2]
        cases h : pLt (f (n + 1)) (f b) with
        | false => rfl
        | true => exact absurd h e
      · exact h2 k (by omega)
/-- min of a list of pairs of ints -/
def rMinP (K : PySem.W.Frag) : List V → Hp → VK → Prop := fun vs H Q => ∃ (a : Addr) (ts : List (Addr × Int × Int)), vs = [.ref a] ∧ SqL K H a (ts.map fun (t : Addr × Int × Int) => V.ref t.1) ∧ (∀ t, t ∈ ts → H t.1 = some (.tup [.int t.2.1, .int t.2.2])) ∧ 0 < ts.length ∧
  ∀ t, t ∈ ts → (∀ u, u ∈ ts → pLt u.2 t.2 = false) → Q (.ref t.1) H
theorem cr_minP {X : Cx} (hc : X.calm = true) (hu : X.A.in1.units < cLine) : CallR X (.builtin "min") (rMinP X.K) := by
  intro pins s σ H vs us Q I r h
  obtain ⟨a, ts, rfl, hs, ht, hne, q⟩ := h
  obtain ⟨its, rv, hl, _⟩ := I.list hs
  rw [Vals.ref1 r]
  have hlen : ts.length = its.length := by
    have := rv.length
    rw [List.length_map] at this
    exact this
  have hitem : ∀ (i : Nat) (v : Value), its.toArray[i]? = some v → ∃ t : Addr × Int × Int, ts[i]? = some t ∧ v = Value.ref t.1 := by
    intro i v e
    have hi : i < ts.length := by
      have := (Array.getElem?_eq_some_iff.mp e).1
      rw [List.size_toArray] at this
      omega
    obtain ⟨u, e1, e2⟩ := rv.get (i := i) (x := V.ref ts[i].1) (by rw [List.getElem?_map, List.getElem?_eq_getElem hi]; rfl)
    have e3 : its[i]? = some v := by simpa using e
    rw [e1] at e3
    cases e3
    exact ⟨ts[i], List.getElem?_eq_getElem hi, e2⟩
  let f : Nat → Int × Int := fun i => (ts.getD i (0, 0, 0)).2
  have hf : ∀ (i : Nat) (t : Addr × Int × Int), ts[i]? = some t → f i = t.2 := fun i t e => by
    show (ts.getD i (0, 0, 0)).2 = t.2
    rw [List.getD_eq_getElem?_getD, e]
    rfl
  have hh : X.A.in1.handled = none := I.ok.hd hc
  refine pmin_call hh hl.isList (fun i j => pLt (f i) (f j)) (by rw [List.size_toArray]; omega) ?_ ?_
  · intro i j va vb s2 Qc Ec ea eb keep hq
    obtain ⟨t, e1, rfl⟩ := hitem i va ea
    obtain ⟨u, e2, rfl⟩ := hitem j vb eb
    obtain ⟨_, its1, r1, p1⟩ := I.hok _ _ (ht t (List.mem_of_getElem? e1))
    obtain ⟨_, its2, r2, p2⟩ := I.hok _ _ (ht u (List.mem_of_getElem? e2))
    have k1 : IsTup s2.heap t.1 its1.toArray := by
      obtain ⟨o, h1, h2⟩ := p1
      exact ⟨o, keep _ _ h1, h2⟩
    have k2 : IsTup s2.heap u.1 its2.toArray := by
      obtain ⟨o, h1, h2⟩ := p2
      exact ⟨o, keep _ _ h1, h2⟩
    have i1 : IntsAre its1.toArray.toList [t.2.1, t.2.2] := intsAre_of r1
    have i2 : IntsAre its2.toArray.toList [u.2.1, u.2.2] := intsAre_of r2
    refine (HT.lt_tupInts k1 k2 i1 i2 hu ?_ : wpAny (model X.prog X.w) X.A.in1 (compareOp .Lt (.ref t.1) (.ref u.1)) Qc Ec s2)
    rw [show HT.lexLt [t.2.1, t.2.2] [u.2.1, u.2.2] = pLt t.2 u.2 from pLt_lex t.2 u.2, ← hf i t e1, ← hf j u e2]
    exact hq
  · intro res g' tk e keep
    obtain ⟨t, e1, rfl⟩ := hitem _ res e
    obtain ⟨_, hb⟩ := argBest_least f (its.toArray.size - 1)
    refine ⟨.ref t.1, H, I.kept keep, rfl, q t (List.mem_of_getElem? e1) fun u hu' => ?_⟩
    obtain ⟨i, hi, rfl⟩ := List.mem_iff_getElem.mp hu'
    have := hb i (by rw [List.size_toArray]; omega)
    rw [hf i _ (List.getElem?_eq_getElem hi), hf _ t e1] at this
    exact this

theorem in1_lt {k : Nat} {A : Around} (hr : Room k A) : A.in1.units < cLine := by
  have := hr.un
  simp only [Around.in1_units]
  omega
/-- a comprehension over enumerate(xs) -/
theorem lc_enum {K : PySem.W.Frag} {a : Addr} {xs : List V} {g : TG} {tt : TT} {te : TE} {vs : List Nat} {σ : L2.St} {H1 : Hp} {D : Addr} {Qd : Hp → Prop} (Pv : Nat → Hp → Prop) (h0 : Pv 0 (upd H1 D (.lst []))) (hl : ∀ i H, i ≤ xs.length → Pv i H → SqL K H a xs)
    (hs : ∀ (i : Nat) (x : V) (H : Hp) (T : Addr), xs[i]? = some x → Pv i H → H T = none → g (.ref T) (wipe σ vs) (upd H T (.tup [.int (i : Int), x])) fun σ2 H2 => wipe σ2 vs = wipe σ vs ∧ tt σ2 H2 fun b H3 =>
      if b = true then te σ2 H3 fun y H4 => ∃ acc, H4 D = some (.lst acc) ∧ acc.length < sizeLine ∧ Pv (i + 1) (upd H4 D (.lst (acc ++ [y]))) else Pv (i + 1) H3) (hd : ∀ H, Pv xs.length H → Qd H) :
    ∃ W : Nat → Nat → Hp → Prop, (∃ m, W 0 m (upd H1 D (.lst []))) ∧ ∀ i m H, W i m H →
      ((Ite K a).stop i H ∧ Qd H) ∨ ((Ite K a).go i H ∧ ∃ Nx : Hp → Prop, (∀ H', Nx H' → ∃ m', m' < m ∧ W (i + 1) m' H') ∧ ∀ x H', (Ite K a).yld i H x H' → g x (wipe σ vs) H' fun σ2 H2 => wipe σ2 vs = wipe σ vs ∧ tt σ2 H2 fun b H3 =>
        if b = true then te σ2 H3 fun y H4 => ∃ acc, H4 D = some (.lst acc) ∧ acc.length < sizeLine ∧ Nx (upd H4 D (.lst (acc ++ [y]))) else Nx H3) := by
  refine ⟨fun i m H => m + i = xs.length ∧ Pv i H, ⟨xs.length, rfl, h0⟩, ?_⟩
  rintro i m H ⟨em, p⟩
  have q := hl i H (by omega) p
  by_cases hlt : i < xs.length
  · refine .inr ⟨⟨xs, xs[i], q, List.getElem?_eq_getElem hlt⟩, Pv (i + 1), fun H' p' => ⟨m - 1, by omega, by omega, p'⟩, fun x H' y => ?_⟩
    obtain ⟨T, z, rfl, nT, rfl, hz⟩ := y
    exact hs i z H T (hz xs q) p nT
  · have e : i = xs.length := by omega
    subst e
    exact .inl ⟨⟨xs, q, Nat.le_refl _⟩, hd H p⟩

section
variable {P : Program} {w : World} {K : PySem.W.Frag} {mg : Str → Option Value} {base : Heap}
def sp_check_amount (K : PySem.W.Frag) : Sp := fun vs H Q _ => ∃ a m : Int, vs = [.int a, .int m] ∧ 0 ≤ a ∧ a ≤ m ∧ Q .non H
theorem ok_check_amount (T : Txt K mg) : FnOk P w K mg base CX0 1 T.f_check_amount T.d_check_amount ["amount", "most"] (sp_check_amount K) := by
  refine T.F_check_amount.ok sc_check_amount (fun vs H Q E h => ?_) (fun cdv A outer s H vs Q E hr h => ?_)
  · obtain ⟨a, m, rfl, _⟩ := h
    rfl
  · obtain ⟨a, m, rfl, h1, h2, q⟩ := h
    refine ⟨_, (pss_one (ps_if (pt_not (pt_chain op_le op_le pe_int (pv 0) (pv 1)))
      (pss_one ps_never)
      pss_nil)), ?_⟩
    walk_at "st"
    refine iteB (fun _ => ?_) (fun h => absurd h1 (dec_f h))
    walk_at "st"
    exact iteB (fun h => absurd h2 (ndec_t h)) (fun _ => q)

/-- good weights -/
structure Wts (ws : List Int) : Prop where
  l0 : 0 < ws.length
  l1 : ws.length ≤ 40
  b0 : ∀ w, w ∈ ws → 0 ≤ w
  b1 : ∀ w, w ∈ ws → w ≤ 1000000000000000
def sp_check_weights (K : PySem.W.Frag) : Sp := fun vs H Q _ => ∃ (a : Addr) (ws : List Int) (amount : Int), vs = [.ref a, .int amount] ∧ SqL K H a (ws.map V.int) ∧ Wts ws ∧ (0 < amount → ws.sum ≠ 0) ∧ ∀ H', Same H H' → Q .non H'
theorem ok_check_weights (T : Txt K mg) : FnOk P w K mg base CX0 1 T.f_check_weights T.d_check_weights ["weights", "amount"] (sp_check_weights K) := by
  refine T.F_check_weights.ok sc_check_weights (fun vs H Q E h => ?_) (fun cdv A outer s H vs Q E hr h => ?_)
  · obtain ⟨a, ws, amount, rfl, _⟩ := h
    rfl
  · obtain ⟨a, ws, amount, rfl, hs, hw, hz, q⟩ := h
    refine ⟨_, (pss_cons (ps_if (pt_not (pt_chain op_le op_le pe_int (pe_callB call_len_seq (by rfl) T.z_len PySem.boot_len (pa_cons (pv 0) pa_nil)) (pe_glob (v := .int 40) rfl T.m_MOST_WEIGHTS ⟨_, rfl⟩)))
      (pss_one ps_never)
      pss_nil)
    (pss_cons (ps_if (pt_not (pt_val (pe_callB (cr_all rfl) (by rfl) T.z_all (by decide +kernel) (pa_cons (pe_lc (own := [("weight", 2)]) (g := gName 2) (tt := tYes) rfl sc_check_weights.nd (pi_list (pv 0)) (blkOk_by (own := [("weight", 2)]) (N := N_check_weights) (sc := defScope s_check_weights) (by decide +kernel)) (fun _ _ _ _ _ => (pg_name (i := 2) sc_check_weights.nd rfl (Or.inl rfl))) (fun _ _ _ _ _ => pts_nil) (fun _ _ _ _ _ => (pe_chain op_le op_le pe_int (pv 2) (pe_glob (v := .int 1000000000000000) rfl T.m_MOST_WEIGHT ⟨_, rfl⟩)))) pa_nil))))
      (pss_one ps_never)
      pss_nil)
    (pss_one (ps_if (PW.pt (pw_and (pt_cmpR op_gt (pv 1) pe_int (nomark _)) (pw_and1 (pt_cmpR op_eq (pe_callB (cr_sum rfl) (by rfl) T.z_sum (by decide +kernel) (pa_cons (pv 0) pa_nil)) pe_int (nomark _)))))
      (pss_one ps_never)
      pss_nil)))), ?_⟩
    have l0 := hw.l0
    have l1 := hw.l1
    walk_at "st"
    refine iteB (fun _ => ?_) (fun h => absurd (dec_f h) (by rw [List.length_map]; omega))
    walk_at "st"
    refine iteB (fun h => absurd (ndec_t h) (by rw [List.length_map]; omega)) (fun _ => ?_)
    walk_at "st"
    intro D nD
    refine lc_list (K := K) (a := a) (xs := ws.map V.int) (fun i H' => H' = upd H D (.lst ((List.replicate i true).map V.bl))) rfl (fun i H' _ e => by rw [e]; exact (same_upd nD).seq hs) ?_ ?_
    · rintro i x H' hx rfl
      obtain ⟨z, hz', rfl⟩ := ints_at hx
      have hm := List.mem_of_getElem? hz'
      have hi := (List.getElem?_eq_some_iff.mp hz').1
      have z0 := hw.b0 z hm
      have z1 := hw.b1 z hm
      refine ⟨rfl, ?_⟩
      walk_at "st"
      refine iteB (fun _ => ?_) (fun h => absurd z0 (dec_f h))
      walk_at "st"
      refine ⟨?_, ?_⟩
      · refine small1000 ?_
        rw [List.length_map, List.length_replicate]
        omega
      · show upd (upd H D _) D (.lst (_ ++ [V.bl (decide (z ≤ 1000000000000000))])) = _
        rw [upd_upd, decide_eq_true z1, List.replicate_succ', List.map_append]
        rfl
    · rintro H' rfl
      have sD := same_upd (o := .lst ((List.replicate (ws.map V.int).length true).map V.bl)) nD
      have hs' := sD.seq hs
      walk_at "st"
      refine ⟨List.replicate (ws.map V.int).length true, rfl, .inl (.inl upd_same), ?_⟩
      have ea : (List.replicate (ws.map V.int).length true).all id = true := by
        rw [List.all_eq_true]
        intro b hb
        exact List.eq_of_mem_replicate hb
      rw [ea]
      walk_at "st"
      refine iteB (fun h => ?_) (fun h => ?_)
      · walk_at "st"
        refine iteB (fun h2 => ?_) (fun _ => q _ sD)
        exact (hz (dec_t h) (V.int.inj (dec_t h2))).elim
      · exact q _ sD

def sp_due (K : PySem.W.Frag) : Sp := fun vs H Q _ => ∃ (wt p total : Int), vs = [.int wt, .int p, .int total] ∧ (0 < wt ∧ wt ≤ 1000000000000000) ∧ (0 ≤ p ∧ p ≤ 100000) ∧ (0 < total ∧ total ≤ 100000000000000000) ∧ Q (.int (((p + 1) * total + wt - 1) / wt)) H
theorem ok_due (T : Txt K mg) : FnOk P w K mg base CX0 1 T.f_due T.d_due ["weight", "part", "total"] (sp_due K) := by
  refine T.F_due.ok sc_due (fun vs H Q E h => ?_) (fun cdv A outer s H vs Q E hr h => ?_)
  · obtain ⟨wt, p, total, rfl, _⟩ := h
    rfl
  · obtain ⟨wt, p, total, rfl, h1, h2, h3, q⟩ := h
    refine ⟨_, (pss_one (ps_ret (pe_op op_fdivW (pe_op op_sub (pe_op op_add (pe_op op_mul (pe_op op_add (pv 1) pe_int) (pv 2)) (pv 0)) pe_int) (pv 0)))), ?_⟩
    walk_at "st"
    refine ⟨wide_div (b := 64) h1.1 (by omega) (by decide) (by decide), q⟩
/-- the pairs of the eligible ones, of the first m -/
def dues (ws ps : List Int) (n : Int) (m : Nat) : List (Int × Int) := ((List.range m).filter fun k => decide (Elig ws ps ws.sum n k)).map fun (k : Nat) => (due ws ps ws.sum k, (k : Int))
theorem dues_succ (ws ps : List Int) (n : Int) (m : Nat) : dues ws ps n (m + 1) = if Elig ws ps ws.sum n m then dues ws ps n m ++ [(due ws ps ws.sum m, (m : Int))] else dues ws ps n m := by
  unfold dues
  rw [List.range_succ, List.filter_append]
  by_cases h : Elig ws ps ws.sum n m
  · rw [if_pos h, List.filter_cons_of_pos (by rw [decide_eq_true h]), List.filter_nil, List.map_append]
    rfl
  · rw [if_neg h, List.filter_cons_of_neg (by rw [decide_eq_false h]; exact Bool.false_ne_true), List.filter_nil, List.append_nil]
theorem dues_mem {ws ps : List Int} {n : Int} {m : Nat} {p : Int × Int} : p ∈ dues ws ps n m ↔ ∃ k : Nat, k < m ∧ Elig ws ps ws.sum n k ∧ p = (due ws ps ws.sum k, (k : Int)) := by
  unfold dues
  rw [List.mem_map]
  constructor
  · rintro ⟨k, hk, rfl⟩
    obtain ⟨h1, h2⟩ := List.mem_filter.mp hk
    exact ⟨k, List.mem_range.mp h1, of_decide_eq_true h2, rfl⟩
  · rintro ⟨k, h1, h2, rfl⟩
    exact ⟨k, List.mem_filter.mpr ⟨List.mem_range.mpr h1, decide_eq_true h2⟩, rfl⟩
/-- parts behind less than n cents -/
structure Pts (ws ps : List Int) (n : Int) : Prop where
  len : ps.length = ws.length
  nn : ∀ i, 0 ≤ at0 ps i
  sum : ps.sum + 1 = n
  top : n ≤ 9999
def sp_first_due (K : PySem.W.Frag) : Sp := fun vs H Q _ => ∃ (a b : Addr) (ws ps : List Int) (n : Int), vs = [.int n, .ref a, .ref b, .int ws.sum] ∧ SqL K H a (ws.map V.int) ∧ SqL K H b (ps.map V.int) ∧ Wts ws ∧ 0 < ws.sum ∧ Pts ws ps n ∧ ∀ H', Same H H' → Q (.int (ch ws ps n : Nat)) H'
theorem ok_first_due (T : Txt K mg) : FnOk P w K mg base CX0 2 T.f_first_due T.d_first_due ["number", "weights", "parts", "total"] (sp_first_due K) := by
  refine T.F_first_due.ok sc_first_due (fun vs H Q E h => ?_) (fun cdv A outer s H vs Q E hr h => ?_)
  · obtain ⟨a, b, ws, ps, n, rfl, _⟩ := h
    rfl
  · obtain ⟨a, b, ws, ps, n, rfl, ha, hb, hw, ht, hp, q⟩ := h
    have G_due : FnOk P w K mg base CX0 1 T.f_due T.d_due ["weight", "part", "total"] (sp_due K) := ok_due T
    have l0 := hw.l0
    have l1 := hw.l1
    have hsl := sum_le_mul ws _ hw.b1
    have hps := hp.len
    have hsum := hp.sum
    have htop := hp.top
    have hpn : ∀ x, x ∈ ps → 0 ≤ x := fun x hx => by
      obtain ⟨i, hi, rfl⟩ := List.mem_iff_getElem.mp hx
      have := hp.nn i
      rw [at0_of (List.getElem?_eq_getElem hi)] at this
      exact this
    have hple : ∀ i, at0 ps i ≤ ps.sum := fun i => at0_le_sum ps i hpn
    refine ⟨_, (pss_cons (ps_setLc (i := 4) (own := [("at", 5), ("weight", 6)]) rfl sc_first_due.nd rfl rfl (sw_true rfl rfl rfl (by decide +kernel)) (pi_enum (by rfl) T.z_enumerate (pa_cons (pv 1) pa_nil)) (blkOk_by (own := [("at", 5), ("weight", 6)]) (N := N_first_due) (sc := defScope s_first_due) (by decide +kernel)) (fun _ _ _ _ _ => (show PG _ _ (gTup K 2 (gCons (gName 5) (gCons (gName 6) gNil))) from (pg_tup rfl (pgs_cons (pg_name (i := 5) sc_first_due.nd rfl (Or.inl rfl)) (pgs_cons (pg_name (i := 6) sc_first_due.nd rfl (Or.inl rfl)) pgs_nil))))) (fun _ _ _ _ _ => pts_one (pt_cmpR op_lt (pe_op op_mul (pe_ix (show IxR _ (rIxL K) from ix_list) (pv 2) (pv 5) (fun _ _ => rfl)) (pv 3)) (pe_op op_mul (pv 0) (pv 6)) (nomark _))) (fun _ _ _ _ _ => (pe_tup (pa_cons (pe_call G_due hr (by rfl) T.m_due T.F_due.kp T.b_due .nil pass0 (pa_cons (pv 6) (pa_cons (pe_ix (show IxR _ (rIxL K) from ix_list) (pv 2) (pv 5) (fun _ _ => rfl)) (pa_cons (pv 3) pa_nil)))) (pa_cons (pv 5) pa_nil)))))
    (pss_one (ps_ret (pe_ix ix_tup (pe_callB (cr_minP rfl (in1_lt hr)) (by rfl) T.z_min (by decide +kernel) (pa_cons (pv 4) pa_nil)) pe_int (fun _ _ => rfl))))), ?_⟩
    walk_at "st"
    intro D nD
    refine lc_enum (K := K) (a := a) (xs := ws.map V.int) (fun i H' => ∃ ts : List (Addr × Int × Int), H' D = some (.lst (ts.map fun t => V.ref t.1)) ∧ (∀ t, t ∈ ts → H' t.1 = some (.tup [.int t.2.1, .int t.2.2])) ∧ ts.map (·.2) = dues ws ps n i ∧ ts.length ≤ i ∧ Same H H')
      ⟨[], upd_same, (fun _ ht => by cases ht), rfl, Nat.le_refl _, same_upd nD⟩ (fun i H' _ ⟨_, _, _, _, _, e⟩ => e.seq ha) ?_ ?_
    · rintro i x H' T' hx ⟨ts, hD, hts, hd, hlen, e⟩ nT
      obtain ⟨z, hz, rfl⟩ := ints_at hx
      have hi := (List.getElem?_eq_some_iff.mp hz).1
      have ez : at0 ws i = z := at0_of hz
      have eT := e.trans (same_upd (o := .tup [.int (i : Int), .int z]) nT)
      have hb2 := eT.seq hb
      have hat := atI_n (ws := ps) (j := i) (by omega)
      have w0 := hw.b0 z (List.mem_of_getElem? hz)
      have w1 := hw.b1 z (List.mem_of_getElem? hz)
      have p0 := hp.nn i
      have p1 := hple i
      have hD2 : (upd H' T' (.tup [.int (i : Int), .int z])) D = some (.lst (ts.map fun t => V.ref t.1)) := (upd_ne (ne_of_none hD nT)).trans hD
      have hts2 : ∀ t, t ∈ ts → (upd H' T' (.tup [.int (i : Int), .int z])) t.1 = some (.tup [.int t.2.1, .int t.2.2]) := fun t h => (upd_ne (ne_of_none (hts t h) nT)).trans (hts t h)
      refine ⟨T', [.int (i : Int), .int z], rfl, SqT.of upd_same, rfl, ?_⟩
      generalize upd H' T' (.tup [.int (i : Int), .int z]) = H2 at *
      refine ⟨_, _, rfl, _, _, rfl, rfl, rfl, ?_⟩
      walk_at "st"
      refine iteB (fun h => ?_) (fun h => ?_)
      · have hel : Elig ws ps ws.sum n i := by
          unfold Elig
          rw [ez]
          exact dec_t h
        have wz : 0 < z := by
          have := elig_pos (ws := ws) (ps := ps) (W := ws.sum) (n := n) (i := i) (at0_nonneg hw.b0 i) p0 ht hel
          omega
        walk_at "st"
        intro p np
        have npD : D ≠ p := ne_of_none hD2 np
        refine ⟨_, (upd_ne npD).trans hD2, ?_, ts ++ [(p, due ws ps ws.sum i, (i : Int))], ?_, fun t h => ?_, ?_, ?_, fun b o z' => ?_⟩
        · rw [List.length_map]
          exact small1000 (by omega)
        · rw [upd_same, List.map_append]
          rfl
        · have hnD : t.1 ≠ D := fun e' => by
            rcases List.mem_append.mp h with h | h
            · have := hts2 t h
              rw [e', hD2] at this
              cases this
            · rw [List.mem_singleton.mp h] at e'
              exact npD e'.symm
          rw [upd_ne hnD]
          rcases List.mem_append.mp h with h | h
          · rw [upd_ne (ne_of_none (hts2 t h) np)]
            exact hts2 t h
          · rw [List.mem_singleton.mp h, upd_same]
            unfold due
            rw [ez]
        · rw [List.map_append, hd, dues_succ, if_pos hel]
          rfl
        · rw [List.length_append]
          show ts.length + 1 ≤ i + 1
          omega
        · have hbD : b ≠ D := fun e' => by rw [e'] at z'; rw [z'] at nD; cases nD
          rw [upd_ne hbD, upd_ne (ne_of_none (eT _ _ z') np)]
          exact eT _ _ z'
      · have hel : ¬ Elig ws ps ws.sum n i := by
          unfold Elig
          rw [ez]
          exact dec_f h
        exact ⟨ts, hD2, hts2, by rw [hd, dues_succ, if_neg hel], by omega, eT⟩
    · rintro H' ⟨ts, hD, hts, hd, hlen, e⟩
      rw [List.length_map] at hd
      obtain ⟨_, hc1, hc2, hc3⟩ := ch_spec (n := n) hps ht (by omega)
      have hmem : ∀ p, p ∈ ts.map (·.2) ↔ ∃ k : Nat, k < ws.length ∧ Elig ws ps ws.sum n k ∧ p = (due ws ps ws.sum k, (k : Int)) := fun p => by rw [hd]; exact dues_mem
      have hne : 0 < ts.length := by
        obtain ⟨t, ht', _⟩ := List.mem_map.mp ((hmem _).mpr ⟨_, hc1, hc2, rfl⟩)
        exact List.length_pos_of_mem ht'
      walk_at "st"
      refine ⟨ts, rfl, SqL.of hD, hts, hne, fun t htm hmin => ?_⟩
      have et : t.2 = (due ws ps ws.sum (ch ws ps n), ((ch ws ps n : Nat) : Int)) := by
        obtain ⟨k, hk1, hk2, hk3⟩ := (hmem t.2).mp (List.mem_map.mpr ⟨t, htm, rfl⟩)
        obtain ⟨u, hu1, hu2⟩ := List.mem_map.mp ((hmem _).mpr ⟨_, hc1, hc2, rfl⟩)
        have h1 := hmin u hu1
        have hu2' : u.2 = (due ws ps ws.sum (ch ws ps n), ((ch ws ps n : Nat) : Int)) := hu2
        rw [hu2', hk3] at h1
        have h2 : ¬ (pLt (due ws ps ws.sum (ch ws ps n), ((ch ws ps n : Nat) : Int)) (due ws ps ws.sum k, (k : Int)) = true) := by rw [h1]; exact Bool.false_ne_true
        rw [pLt_iff] at h2
        dsimp only at h2
        have h3 := hc3 k hk1 hk2
        have hkc : k = ch ws ps n := by omega
        rw [hk3, hkc]
      have hT := hts t htm
      walk_at "st"
      rw [et]
      exact q H' e
theorem small_m {n : Nat} (h : n ≤ 100000) : n < sizeLine := Nat.lt_of_le_of_lt h (by decide)
/-- the order of N cents -/
def ordr (ws : List Int) (N : Nat) : List Nat := (List.range N).map fun n => ch ws (run ws n) ((n + 1 : Nat) : Int)
theorem ordr_succ (ws : List Int) (n : Nat) : ordr ws (n + 1) = ordr ws n ++ [ch ws (run ws n) ((n + 1 : Nat) : Int)] := by
  unfold ordr
  rw [List.range_succ, List.map_append]
  rfl
theorem ordr_len (ws : List Int) (n : Nat) : (ordr ws n).length = n := by
  unfold ordr
  rw [List.length_map, List.length_range]
theorem reps_zero (ws : List Int) : (List.replicate (ws.length : Int).toNat [V.int 0]).flatten = (run ws 0).map V.int := by
  rw [Int.toNat_natCast]
  have : ∀ (l : List Int), (List.replicate l.length [V.int 0]).flatten = (l.map fun _ => (0 : Int)).map V.int := by
    intro l
    induction l with
    | nil => rfl
    | cons x r ih =>
      rw [List.length_cons, List.replicate_succ, List.flatten_cons, ih]
      rfl
  exact this ws
def sp_deal_order (K : PySem.W.Frag) : Sp := fun vs H Q _ => ∃ (a : Addr) (ws : List Int) (N : Nat), vs = [.int (N : Int), .ref a] ∧ SqL K H a (ws.map V.int) ∧ Wts ws ∧ (0 < N → 0 < ws.sum) ∧ N ≤ 9999 ∧
  ∀ p H', Same H H' → H p = none → H' p = some (.lst (nats (ordr ws N))) → Q (.ref p) H'
theorem ok_deal_order (T : Txt K mg) : FnOk P w K mg base CX0 3 T.f_deal_order T.d_deal_order ["amount", "weights"] (sp_deal_order K) := by
  refine T.F_deal_order.ok sc_deal_order (fun vs H Q E h => ?_) (fun cdv A outer s H vs Q E hr h => ?_)
  · obtain ⟨a, ws, N, rfl, _⟩ := h
    rfl
  · obtain ⟨a, ws, N, rfl, hs, hw, hz, hN, q⟩ := h
    have G_check_amount : FnOk P w K mg base CX0 1 T.f_check_amount T.d_check_amount ["amount", "most"] (sp_check_amount K) := ok_check_amount T
    have G_check_weights : FnOk P w K mg base CX0 1 T.f_check_weights T.d_check_weights ["weights", "amount"] (sp_check_weights K) := ok_check_weights T
    have G_first_due : FnOk P w K mg base CX0 2 T.f_first_due T.d_first_due ["number", "weights", "parts", "total"] (sp_first_due K) := ok_first_due T
    have l0 := hw.l0
    have l1 := hw.l1
    have hz1 : 0 < (N : Int) → ws.sum ≠ 0 := fun h => by have := hz (by omega); omega
    refine ⟨_, (pss_cons (ps_expr (pe_call G_check_amount (hr.mono (by decide)) (by rfl) T.m_check_amount T.F_check_amount.kp T.b_check_amount .nil pass0 (pa_cons (pv 0) (pa_cons (pe_glob (v := .int 9999) rfl T.m_MOST_DEALT ⟨_, rfl⟩) pa_nil))))
    (pss_cons (ps_expr (pe_call G_check_weights (hr.mono (by decide)) (by rfl) T.m_check_weights T.F_check_weights.kp T.b_check_weights .nil pass0 (pa_cons (pv 1) (pa_cons (pv 0) pa_nil))))
    (pss_cons (ps_set (i := 2) sc_deal_order.nd rfl (Or.inl rfl) (pe_callB (cr_sum rfl) (by rfl) T.z_sum (by decide +kernel) (pa_cons (pv 1) pa_nil)))
    (pss_cons (ps_set (i := 3) sc_deal_order.nd rfl (Or.inl rfl) (pe_op op_rep (pe_lst (pa_cons pe_int pa_nil)) (pe_callB call_len_seq (by rfl) T.z_len PySem.boot_len (pa_cons (pv 1) pa_nil))))
    (pss_cons (ps_set (i := 4) sc_deal_order.nd rfl (Or.inl rfl) (pe_lst pa_nil))
    (pss_cons (ps_for PassesOwn.never rfl (pi_range2 (by rfl) T.z_range (pa_cons pe_int (pa_cons (pe_op op_add (pv 0) pe_int) pa_nil))) (pg_name (i := 5) sc_deal_order.nd rfl (Or.inl rfl))
      (pss_cons (ps_set (i := 6) sc_deal_order.nd rfl (Or.inl rfl) (pe_call G_first_due hr (by rfl) T.m_first_due T.F_first_due.kp T.b_first_due .nil pass0 (pa_cons (pv 5) (pa_cons (pv 1) (pa_cons (pv 3) (pa_cons (pv 2) pa_nil))))))
      (pss_cons (ps_augS (pv 3) (pv 6) pget_list pe_int ip_add set_list)
      (pss_one (ps_expr (pe_bm PySem.F.plainAttrs_list PySem.F.slot_list_append PySem.F.type_list_append mt_append (pv 4) (pa_cons (pv 6) pa_nil)))))))
    (pss_one (ps_ret (pv 4))))))))), ?_⟩
    walk_at "st"
    intro H1 e1
    have hs1 := e1.seq hs
    walk_at "st"
    intro Z nZ
    have e2 := e1.trans (same_upd (o := .lst [.int 0]) nZ)
    have hs2 := e2.seq hs
    have hZ : (upd H1 Z (.lst [.int 0])) Z = some (.lst [.int 0]) := upd_same
    generalize upd H1 Z (.lst [.int 0]) = H2 at *
    refine ⟨_, rfl, _, _, rfl, .inl hs2, ?_⟩
    rw [List.length_map]
    refine ⟨Z, _, [.int 0], rfl, rfl, hZ, by omega, by omega, ?_, fun p np => ?_⟩
    · refine Nat.le_of_lt (small1000 ?_)
      show 1 * (ws.length : Int).toNat ≤ 1000
      omega
    rw [reps_zero]
    have e3 := e2.trans (same_upd (o := .lst ((run ws 0).map V.int)) np)
    have hp3 : (upd H2 p (.lst ((run ws 0).map V.int))) p = some (.lst ((run ws 0).map V.int)) := upd_same
    have np0 := e2.free np
    generalize upd H2 p (.lst ((run ws 0).map V.int)) = H3 at *
    walk_at "st"
    intro o no
    have e4 := e3.trans (same_upd (o := .lst (nats (ordr ws 0))) no)
    have ho4 : (upd H3 o (.lst (nats (ordr ws 0)))) o = some (.lst (nats (ordr ws 0))) := upd_same
    have hp4 : (upd H3 o (.lst (nats (ordr ws 0)))) p = some (.lst ((run ws 0).map V.int)) := (upd_ne (ne_of_none hp3 no)).trans hp3
    have no0 := e3.free no
    have npo : p ≠ o := ne_of_none hp3 no
    have eo : (.lst [] : HO) = .lst (nats (ordr ws 0)) := rfl
    rw [eo]
    generalize upd H3 o (.lst (nats (ordr ws 0))) = H4 at *
    walk_at "st"
    refine for_range (lo := 1) (n := ((N : Int) + 1 - 1).toNat) (fun i σ H' => (∃ v5 v6, σ = [some (.int (N : Int)), some (.ref a), some (.int ws.sum), some (.ref p), some (.ref o), v5, v6]) ∧ Same H H' ∧ H' p = some (.lst ((run ws i).map V.int)) ∧ H' o = some (.lst (nats (ordr ws i)))) ⟨⟨none, none, rfl⟩, e4, hp4, ho4⟩ ?_ ?_
    · rintro i σ H5 hi ⟨⟨v5, v6, rfl⟩, e5, hp5, ho5⟩
      have hiN : i < N := by omega
      have ht : 0 < ws.sum := hz (by omega)
      rw [show (1 : Int) + i = ((i + 1 : Nat) : Int) by omega]
      have hs5 := e5.seq hs
      have hp5' : SqL K H5 p ((run ws i).map V.int) := SqL.of hp5
      have hpts : Pts ws (run ws i) ((i + 1 : Nat) : Int) := ⟨run_len ws i, run_nn ht i, by rw [run_sum ht]; omega, by omega⟩
      walk_at "st"
      intro H6 e6
      have hp6 := e6 _ _ hp5
      have ho6 := e6 _ _ ho5
      have hp6' : SqL K H6 p ((run ws i).map V.int) := SqL.of hp6
      obtain ⟨_, hc1, _⟩ := run_ch ht i
      have hat : ((run ws i).map V.int)[ch ws (run ws i) ((i + 1 : Nat) : Int)]? = some (.int (at0 (run ws i) (ch ws (run ws i) ((i + 1 : Nat) : Int)))) := by
        rw [List.getElem?_map, at0_lt (by rw [run_len]; exact hc1)]
        rfl
      have hix : ixN ((run ws i).map V.int).length ((ch ws (run ws i) ((i + 1 : Nat) : Int) : Nat) : Int) = some (ch ws (run ws i) ((i + 1 : Nat) : Int)) := ixN_nat (by rw [List.length_map, run_len]; exact hc1)
      have hos : (nats (ordr ws i)).length < sizeLine := by
        unfold nats
        rw [List.length_map, ordr_len]
        exact small_m (by omega)
      walk_at "st"
      refine ⟨.inl ⟨rfl, _, SqL.of ((upd_ne npo.symm).trans ho6)⟩, _, rfl, o, _, _, rfl, rfl, (upd_ne npo.symm).trans ho6, hos, ⟨_, _, rfl⟩, fun b z hb => ?_, ?_, ?_⟩
      · rw [upd_ne (ne_of_none hb no0), upd_ne (ne_of_none hb np0)]
        exact e6 _ _ (e5 _ _ hb)
      · rw [upd_ne npo, upd_same, ← List.map_set]
        rfl
      · rw [upd_same, ordr_succ]
        unfold nats
        rw [List.map_append]
        rfl
    · rintro σ H5 ⟨⟨v5, v6, rfl⟩, e5, hp5, ho5⟩
      walk_at "st"
      refine q o H5 e5 no0 ?_
      rw [ho5, show ((N : Int) + 1 - 1).toNat = N by omega]
theorem run_ordr {ws : List Int} (ht : 0 < ws.sum) : ∀ n, run ws n = (ordr ws n).foldl bump (run ws 0)
  | 0 => rfl
  | n + 1 => by
    rw [ordr_succ, List.foldl_append, ← run_ordr ht n]
    rfl
def sp_deal (K : PySem.W.Frag) : Sp := fun vs H Q _ => ∃ (a : Addr) (ws : List Int) (N : Nat), vs = [.int (N : Int), .ref a] ∧ SqL K H a (ws.map V.int) ∧ Wts ws ∧ (0 < N → 0 < ws.sum) ∧ N ≤ 9999 ∧
  ∀ p H', Same H H' → H p = none → H' p = some (.lst ((run ws N).map V.int)) → Q (.ref p) H'
theorem ok_deal (T : Txt K mg) : FnOk P w K mg base CX0 4 T.f_deal T.d_deal ["amount", "weights"] (sp_deal K) := by
  refine T.F_deal.ok sc_deal (fun vs H Q E h => ?_) (fun cdv A outer s H vs Q E hr h => ?_)
  · obtain ⟨a, ws, N, rfl, _⟩ := h
    rfl
  · obtain ⟨a, ws, N, rfl, hs, hw, hz, hN, q⟩ := h
    have G_deal_order : FnOk P w K mg base CX0 3 T.f_deal_order T.d_deal_order ["amount", "weights"] (sp_deal_order K) := ok_deal_order T
    have l0 := hw.l0
    have l1 := hw.l1
    refine ⟨_, (pss_cons (ps_set (i := 2) sc_deal.nd rfl (Or.inl rfl) (pe_op op_rep (pe_lst (pa_cons pe_int pa_nil)) (pe_callB call_len_seq (by rfl) T.z_len PySem.boot_len (pa_cons (pv 1) pa_nil))))
    (pss_cons (ps_for PassesOwn.never rfl (pi_list (pe_call G_deal_order hr (by rfl) T.m_deal_order T.F_deal_order.kp T.b_deal_order .nil pass0 (pa_cons (pv 0) (pa_cons (pv 1) pa_nil)))) (pg_name (i := 3) sc_deal.nd rfl (Or.inl rfl))
      (pss_one (ps_augS (pv 2) (pv 3) pget_list pe_int ip_add set_list)))
    (pss_one (ps_ret (pv 2))))), ?_⟩
    walk_at "st"
    intro Z nZ
    have e2 := same_upd (o := .lst [.int 0]) nZ
    have hs2 := e2.seq hs
    have hZ : (upd H Z (.lst [.int 0])) Z = some (.lst [.int 0]) := upd_same
    generalize upd H Z (.lst [.int 0]) = H2 at *
    refine ⟨_, rfl, _, _, rfl, .inl hs2, ?_⟩
    rw [List.length_map]
    refine ⟨Z, _, [.int 0], rfl, rfl, hZ, by omega, by omega, ?_, fun p np => ?_⟩
    · refine Nat.le_of_lt (small1000 ?_)
      show 1 * (ws.length : Int).toNat ≤ 1000
      omega
    rw [reps_zero]
    have e3 := e2.trans (same_upd (o := .lst ((run ws 0).map V.int)) np)
    have hp3 : (upd H2 p (.lst ((run ws 0).map V.int))) p = some (.lst ((run ws 0).map V.int)) := upd_same
    have np0 := e2.free np
    have hs3 := e3.seq hs
    generalize upd H2 p (.lst ((run ws 0).map V.int)) = H3 at *
    walk_at "st"
    intro o H4 e4 no ho4
    have hp4 := e4 _ _ hp3
    have npo : p ≠ o := ne_of_none hp3 no
    refine ⟨o, rfl, ⟨_, SqL.of ho4⟩, ?_⟩
    refine for_list (K := K) (a := o) (xs := nats (ordr ws N)) (fun i σ H' => (∃ v3, σ = [some (.int (N : Int)), some (.ref a), some (.ref p), v3]) ∧ Same H H' ∧ H' p = some (.lst ((run ws i).map V.int)) ∧ H' o = some (.lst (nats (ordr ws N)))) ⟨⟨none, rfl⟩, e3.trans e4, hp4, ho4⟩ (fun i σ H' _ ⟨_, _, _, e⟩ => SqL.of e) ?_ ?_
    · rintro i x σ H5 hx ⟨⟨v3, rfl⟩, e5, hp5, ho5⟩
      unfold nats ordr at hx
      rw [List.map_map, List.getElem?_map] at hx
      have hi : i < N := by
        by_cases h : i < N
        · exact h
        · rw [List.getElem?_eq_none (by rw [List.length_range]; omega)] at hx
          cases hx
      rw [List.getElem?_range hi] at hx
      have ex : V.int ((ch ws (run ws i) ((i + 1 : Nat) : Int) : Nat) : Int) = x := Option.some.inj hx
      subst ex
      obtain ⟨_, hc1, _⟩ := run_ch (hz (by omega)) i
      have hat : ((run ws i).map V.int)[ch ws (run ws i) ((i + 1 : Nat) : Int)]? = some (.int (at0 (run ws i) (ch ws (run ws i) ((i + 1 : Nat) : Int)))) := by
        rw [List.getElem?_map, at0_lt (by rw [run_len]; exact hc1)]
        rfl
      have hix : ixN ((run ws i).map V.int).length ((ch ws (run ws i) ((i + 1 : Nat) : Int) : Nat) : Int) = some (ch ws (run ws i) ((i + 1 : Nat) : Int)) := ixN_nat (by rw [List.length_map, run_len]; exact hc1)
      have hp5' : SqL K H5 p ((run ws i).map V.int) := SqL.of hp5
      walk_at "st"
      refine ⟨⟨_, rfl⟩, fun b z hb => ?_, ?_, ?_⟩
      · rw [upd_ne (ne_of_none hb np0)]
        exact e5 _ _ hb
      · rw [upd_same, ← List.map_set]
        rfl
      · rw [upd_ne npo.symm]
        exact ho5
    · rintro σ H5 ⟨⟨v3, rfl⟩, e5, hp5, ho5⟩
      walk_at "st"
      refine q p H5 e5 np0 ?_
      rw [hp5]
      unfold nats
      rw [List.length_map, ordr_len]

def sp_law_cell (K : PySem.W.Frag) : Sp := fun vs H Q _ => ∃ (a : Addr) (ns : List Int) (j : Nat), vs = [.ref a, .int j] ∧ SqL K H a (ns.map V.int) ∧ Q (.int (cellOf ns j)) H
theorem ok_law_cell (T : Txt K mg) : FnOk P w K mg base CX0 1 T.f_law_cell T.d_law_cell ["script", "k"] (sp_law_cell K) := by
  refine T.F_law_cell.ok sc_law_cell (fun vs H Q E h => ?_) (fun cdv A outer s H vs Q E hr h => ?_)
  · obtain ⟨a, ns, j, rfl, _⟩ := h
    rfl
  · obtain ⟨a, ns, j, rfl, hs, q⟩ := h
    refine ⟨_, (pss_cons (ps_if (pt_cmpR op_lt (pv 1) (pe_callB call_len_seq (by rfl) T.z_len PySem.boot_len (pa_cons (pv 0) pa_nil)) (nomark _))
      (pss_one (ps_ret (pe_ix ix_list (pv 0) (pv 1) (fun _ _ => rfl))))
      pss_nil)
    (pss_one (ps_ret pe_int))), ?_⟩
    walk_at "st"
    refine iteD (fun h => ?_) (fun h => ?_)
    · have hj : j < ns.length := by rw [List.length_map] at h; omega
      walk_at "st"
      exact ⟨atI_ints hj, q⟩
    · have hj : ¬ j < ns.length := by rw [List.length_map] at h; omega
      rw [cellOf_out hj] at q
      exact q

/-- what the draws are: only their number and their bounds matter -/
def sp_law_draws (K : PySem.W.Frag) : Sp := fun vs H Q _ => ∃ (cell : Int) (n : Nat) (size : Int), vs = [.int cell, .int (n : Int), .int size] ∧ n ≤ 1000 ∧ 0 < size ∧ size < 1073741824 ∧
  ∀ p H' (ds : List Int), Same H H' → H p = none → H' p = some (.lst (ds.map V.int)) → ds.length = n → (∀ d, d ∈ ds → 0 ≤ d ∧ d < size) → Q (.ref p) H'
theorem ok_law_draws (T : Txt K mg) : FnOk P w K mg base CX0 1 T.f_law_draws T.d_law_draws ["cell", "count", "size"] (sp_law_draws K) := by
  refine T.F_law_draws.ok sc_law_draws (fun vs H Q E h => ?_) (fun cdv A outer s H vs Q E hr h => ?_)
  · obtain ⟨cell, n, size, rfl, _⟩ := h
    rfl
  · obtain ⟨cell, n, size, rfl, hn, h0, h1, q⟩ := h
    refine ⟨_, (pss_cons (ps_set (i := 3) sc_law_draws.nd rfl (Or.inl rfl) (pe_lst pa_nil))
    (pss_cons (ps_set (i := 4) sc_law_draws.nd rfl (Or.inl rfl) (pe_callB call_abs (by rfl) T.z_abs (by decide +kernel) (pa_cons (pv 0) pa_nil)))
    (pss_cons (ps_if (pt_cmpR op_ge (pv 4) pe_int (nomark _))
      (pss_cons (ps_for PassesOwn.never rfl (pi_range1 (by rfl) T.z_range (pa_cons (pv 1) pa_nil)) (pg_name (i := 5) sc_law_draws.nd rfl (Or.inl rfl))
        (pss_cons (ps_expr (pe_bm PySem.F.plainAttrs_list PySem.F.slot_list_append PySem.F.type_list_append mt_append (pv 3) (pa_cons (pe_op op_mod (pe_callTy call_int_i (by rfl) T.z_int (by decide +kernel) (pa_cons (pv 4) pa_nil)) (pv 2)) pa_nil)))
        (pss_one (ps_set (i := 4) sc_law_draws.nd rfl (Or.inl rfl) (pe_op op_fdiv (pv 4) (pv 2))))))
      (pss_one (ps_ret (pv 3))))
      pss_nil)
    (pss_cons (ps_for PassesOwn.never rfl (pi_range1 (by rfl) T.z_range (pa_cons (pv 1) pa_nil)) (pg_name (i := 5) sc_law_draws.nd rfl (Or.inl rfl))
      (pss_cons (ps_set (i := 4) sc_law_draws.nd rfl (Or.inl rfl) (pe_op op_mod (pe_callTy call_int_i (by rfl) T.z_int (by decide +kernel) (pa_cons (pe_op op_add (pe_op op_add (pe_op op_mul (pv 4) pe_int) (pe_op op_mul (pv 5) pe_int)) pe_int) pa_nil)) pe_int))
      (pss_one (ps_expr (pe_bm PySem.F.plainAttrs_list PySem.F.slot_list_append PySem.F.type_list_append mt_append (pv 3) (pa_cons (pe_op op_mod (pe_op op_mod (pe_callTy call_int_i (by rfl) T.z_int (by decide +kernel) (pa_cons (pe_op op_add (pe_op op_mul (pv 4) pe_int) (pv 5)) pa_nil)) pe_int) (pv 2)) pa_nil))))))
    (pss_one (ps_ret (pv 3))))))), ?_⟩
    walk_at "st"
    intro D nD
    walk_at "st"
    generalize hrest : (if cell < 0 then -cell else cell) = rest
    have hrest0 : 0 ≤ rest := by rw [← hrest]; split <;> omega
    have eD : (upd H D (.lst [])) D = some (.lst (([] : List Int).map V.int)) := upd_same
    have s1 : Same H (upd H D (.lst [])) := same_upd nD
    generalize upd H D (.lst []) = H1 at eD s1
    refine iteB (fun h => ?_) (fun h => ?_)
    · walk_at "st"
      refine for_range (lo := 0) (n := ((n : Int)).toNat) (fun i σ H' => ∃ (v5 : Option V) (r : Int) (ds : List Int), σ = [some (.int cell), some (.int (n : Int)), some (.int size), some (.ref D), some (.int r), v5] ∧ 0 ≤ r ∧ H' D = some (.lst (ds.map V.int)) ∧ ds.length = i ∧ (∀ d, d ∈ ds → 0 ≤ d ∧ d < size) ∧ Same H H')
        ⟨none, rest, [], rfl, hrest0, eD, rfl, (fun _ hd => by cases hd), s1⟩ ?_ ?_
      · rintro i σ H' hi ⟨v5, r, ds, rfl, hr0, hD, hl, hb, e⟩
        have hlt : (ds.map V.int).length < sizeLine := small1000 (by rw [List.length_map]; omega)
        walk_at "st"
        refine ⟨some (.int (0 + (i : Int))), r / size, ds ++ [r % size], rfl, ?_, ?_, ?_, ?_, fun b o z => ?_⟩
        · exact Int.ediv_nonneg hr0 (by omega)
        · rw [upd_same, List.map_append]
          rfl
        · rw [List.length_append, hl]
          rfl
        · intro d hd
          rcases List.mem_append.mp hd with hd | hd
          · exact hb d hd
          · rw [List.mem_singleton.mp hd]
            exact ⟨Int.emod_nonneg _ (by omega), Int.emod_lt_of_pos _ h0⟩
        · rw [upd_ne (ne_of_none z nD)]
          exact e b o z
      · rintro σ H' ⟨v5, r, ds, rfl, hr0, hD, hl, hb, e⟩
        walk_at "st"
        exact q D H' ds e nD hD (by omega) hb
    · walk_at "st"
      refine for_range (lo := 0) (n := ((n : Int)).toNat) (fun i σ H' => ∃ (v5 : Option V) (r : Int) (ds : List Int), σ = [some (.int cell), some (.int (n : Int)), some (.int size), some (.ref D), some (.int r), v5] ∧ 0 ≤ r ∧ H' D = some (.lst (ds.map V.int)) ∧ ds.length = i ∧ (∀ d, d ∈ ds → 0 ≤ d ∧ d < size) ∧ Same H H')
        ⟨none, rest, [], rfl, hrest0, eD, rfl, (fun _ hd => by cases hd), s1⟩ ?_ ?_
      · rintro i σ H' hi ⟨v5, r, ds, rfl, hr0, hD, hl, hb, e⟩
        have hlt : (ds.map V.int).length < sizeLine := small1000 (by rw [List.length_map]; omega)
        walk_at "st"
        refine ⟨some (.int (0 + (i : Int))), (r * 48271 + (0 + (i : Int)) * 69621 + 11) % 2147483647, ds ++ [((r * 48271 + (0 + (i : Int)) * 69621 + 11) % 2147483647 * 16807 + (0 + (i : Int))) % 2147483629 % size], rfl, ?_, ?_, ?_, ?_, fun b o z => ?_⟩
        · exact Int.emod_nonneg _ (by decide)
        · rw [upd_same, List.map_append]
          rfl
        · rw [List.length_append, hl]
          rfl
        · intro d hd
          rcases List.mem_append.mp hd with hd | hd
          · exact hb d hd
          · rw [List.mem_singleton.mp hd]
            exact ⟨Int.emod_nonneg _ (by omega), Int.emod_lt_of_pos _ h0⟩
        · rw [upd_ne (ne_of_none z nD)]
          exact e b o z
      · rintro σ H' ⟨v5, r, ds, rfl, hr0, hD, hl, hb, e⟩
        walk_at "st"
        exact q D H' ds e nD hD (by omega) hb

def sp_law_is_integer (K : PySem.W.Frag) : Sp := fun vs H Q _ => ∃ x : Int, vs = [.int x] ∧ Q (.bl true) H
theorem ok_law_is_integer (T : Txt K mg) : FnOk P w K mg base CX0 1 T.f_law_is_integer T.d_law_is_integer ["actual"] (sp_law_is_integer K) := by
  refine T.F_law_is_integer.ok sc_law_is_integer (fun vs H Q E h => ?_) (fun cdv A outer s H vs Q E hr h => ?_)
  · obtain ⟨x, rfl, _⟩ := h
    rfl
  · obtain ⟨x, rfl, q⟩ := h
    refine ⟨_, (pss_one (ps_ret (pe_and (pe_callB call_isi (by rfl) T.z_isinstance (by decide +kernel) (pa_cons (pv 0) (pa_cons (pe_bltn (v := .ty "int") (u := .type "int") (by rfl) T.z_int (by decide +kernel) rfl) pa_nil))) (pe_one (pe_not (pe_callB call_isi (by rfl) T.z_isinstance (by decide +kernel) (pa_cons (pv 0) (pa_cons (pe_bltn (v := .ty "bool") (u := .type "bool") (by rfl) T.z_bool (by decide +kernel) rfl) pa_nil)))))))), ?_⟩
    refine ⟨_, rfl, ?_⟩
    refine ⟨_, _, _, _, true, rfl, .ty _, .base (.int _), kit_ty (by decide +kernel), ?_⟩
    refine ⟨true, rfl, iteT ?_⟩
    refine ⟨_, rfl, ?_⟩
    refine ⟨_, _, _, _, false, rfl, .ty _, .base (.int _), kit_ty (by decide +kernel), ?_⟩
    refine ⟨false, rfl, ?_⟩
    exact q

def sp_law_weights (K : PySem.W.Frag) : Sp := fun vs H Q _ => ∃ (cell shape : Int), vs = [.int cell, .int shape] ∧
  ∀ p H' (ws : List Int), Same H H' → H p = none → H' p = some (.lst (ws.map V.int)) → Wts ws → 0 < ws.sum → Q (.ref p) H'
theorem ok_law_weights (T : Txt K mg) : FnOk P w K mg base CX0 2 T.f_law_weights T.d_law_weights ["cell", "shape"] (sp_law_weights K) := by
  refine T.F_law_weights.ok sc_law_weights (fun vs H Q E h => ?_) (fun cdv A outer s H vs Q E hr h => ?_)
  · obtain ⟨cell, shape, rfl, _⟩ := h
    rfl
  · obtain ⟨cell, shape, rfl, q⟩ := h
    have G_law_draws : FnOk P w K mg base CX0 1 T.f_law_draws T.d_law_draws ["cell", "count", "size"] (sp_law_draws K) := ok_law_draws T
    refine ⟨_, (pss_cons (ps_set (i := 2) sc_law_weights.nd rfl (Or.inl rfl) (pe_op op_add pe_int (pe_op op_mod (pe_callB call_abs (by rfl) T.z_abs (by decide +kernel) (pa_cons (pv 1) pa_nil)) pe_int)))
    (C8.pss_cut (ps_if (pt_cmpR op_eq (pe_op op_mod (pe_op op_fdiv (pe_callTy call_int_i (by rfl) T.z_int (by decide +kernel) (pa_cons (pv 1) pa_nil)) pe_int) pe_int) pe_int (nomark _))
      (pss_one (ps_set (i := 2) sc_law_weights.nd rfl (Or.inl rfl) pe_int))
      pss_nil)
    (pss_cons (ps_set (i := 3) sc_law_weights.nd rfl (Or.inl rfl) (pe_ix ix_list (pe_lst (pa_cons pe_int (pa_cons pe_int (pa_cons pe_int (pa_cons pe_int pa_nil))))) (pe_op op_mod (pe_op op_fdiv (pe_callTy call_int_i (by rfl) T.z_int (by decide +kernel) (pa_cons (pv 1) pa_nil)) pe_int) pe_int) (fun _ _ => rfl)))
    (pss_cons (ps_set (i := 4) sc_law_weights.nd rfl (Or.inr rfl) (pe_call G_law_draws hr (by rfl) T.m_law_draws T.F_law_draws.kp T.b_law_draws .nil pass0 (pa_cons (pv 0) (pa_cons (pv 2) (pa_cons (pv 3) pa_nil)))))
    (C8.pss_cut (ps_if (pt_cmpR op_eq (pe_op op_mod (pe_op op_fdiv (pe_callTy call_int_i (by rfl) T.z_int (by decide +kernel) (pa_cons (pv 1) pa_nil)) pe_int) pe_int) pe_int (nomark _))
      (pss_one (ps_set (i := 4) sc_law_weights.nd rfl (Or.inr rfl) (pe_lc (own := [("weight", 5)]) (g := gName 5) (tt := tYes) rfl sc_law_weights.nd (pi_list (pv 4)) (blkOk_by (own := [("weight", 5)]) (N := N_law_weights) (sc := defScope s_law_weights) (by decide +kernel)) (fun _ _ _ _ _ => (pg_name (i := 5) sc_law_weights.nd rfl (Or.inl rfl))) (fun _ _ _ _ _ => pts_nil) (fun _ _ _ _ _ => (pe_ix (show IxR _ (rIxL K) from ix_list) (pv 4) pe_int (fun _ _ => rfl))))))
      pss_nil)
    (C8.pss_cut (ps_if (pt_cmpR op_eq (pe_callB (cr_sum rfl) (by rfl) T.z_sum (by decide +kernel) (pa_cons (pv 4) pa_nil)) pe_int (nomark _))
      (pss_one (ps_asg pe_int (pg_sub (pv 4) (pe_op op_mod (pe_op op_fdiv (pe_callTy call_int_i (by rfl) T.z_int (by decide +kernel) (pa_cons (pv 1) pa_nil)) pe_int) (pv 2)) set_list)))
      pss_nil)
    (pss_one (ps_ret (pv 4))))))))), ?_⟩
    walk_at "st"
    generalize (if shape < 0 then -shape else shape) = shp
    refine ⟨fun σ' H' => H' = H ∧ ∃ n : Nat, σ' = [some (.int cell), some (.int shape), some (.int (n : Int)), none, none, none] ∧ 1 ≤ n ∧ n ≤ 40, ?_, ?_⟩
    · walk_at "st"
      refine iteB (fun _ => ?_) (fun _ => ?_)
      · exact ⟨rfl, 40, rfl, by decide, by decide⟩
      · have h1 := Int.emod_nonneg shp (by decide : (9 : Int) ≠ 0)
        have h2 := Int.emod_lt_of_pos shp (by decide : (0 : Int) < 9)
        refine ⟨rfl, (1 + shp % 9).toNat, ?_, by omega, by omega⟩
        rw [Int.toNat_of_nonneg (by omega)]
        rfl
    · rintro σ' H' ⟨rfl, n, rfl, hn0, hn1⟩
      walk_at "st"
      intro L nL
      have sL := same_upd (o := .lst [.int 4, .int 12, .int 100, .int 1000000001]) nL
      obtain ⟨size, hat, hsz0, hsz1⟩ : ∃ size : Int, atI [V.int 4, V.int 12, V.int 100, V.int 1000000001] (shape / 63 % 4) = some (.int size) ∧ 0 < size ∧ size ≤ 1000000001 := by
        have h1 := Int.emod_nonneg (shape / 63) (by decide : (4 : Int) ≠ 0)
        have h2 := Int.emod_lt_of_pos (shape / 63) (by decide : (0 : Int) < 4)
        generalize shape / 63 % 4 = m at *
        rcases (by omega : m = 0 ∨ m = 1 ∨ m = 2 ∨ m = 3) with e | e | e | e
        · exact ⟨4, by rw [e]; rfl, by decide, by decide⟩
        · exact ⟨12, by rw [e]; rfl, by decide, by decide⟩
        · exact ⟨100, by rw [e]; rfl, by decide, by decide⟩
        · exact ⟨1000000001, by rw [e]; rfl, by decide, by decide⟩
      walk_at "st"
      intro p H2 ds e2 np hp hl hb
      have e02 : Same H' H2 := sL.trans e2
      have np0 : H' p = Option.none := sL.free np
      refine ⟨fun σ' H3 => ∃ (p : Addr) (ws : List Int), σ' = [some (.int cell), some (.int shape), some (.int (n : Int)), some (.int size), some (.ref p), none] ∧ Same H' H3 ∧ H' p = none ∧ H3 p = some (.lst (ws.map V.int)) ∧ ws.length = n ∧ ∀ d, d ∈ ws → 0 ≤ d ∧ d < 1073741824, ?_, ?_⟩
      · walk_at "st"
        refine iteB (fun _ => ?_) (fun _ => ?_)
        · walk_at "st"
          intro D nD
          refine lc_list (K := K) (a := p) (xs := ds.map V.int) (fun i H' => H' = upd H2 D (.lst ((List.replicate i (at0 ds 0)).map V.int))) rfl (fun i H' _ e => by rw [e]; exact (same_upd nD).seq (SqL.of hp)) ?_ ?_
          · rintro i x H4 hx rfl
            obtain ⟨z, hz, rfl⟩ := ints_at hx
            have hi := (List.getElem?_eq_some_iff.mp hz).1
            have hs4 : SqL K (upd H2 D (.lst ((List.replicate i (at0 ds 0)).map V.int))) p (ds.map V.int) := (same_upd nD).seq (SqL.of hp)
            have ha := atI_n (ws := ds) (j := 0) (by omega)
            refine ⟨rfl, ?_⟩
            walk_at "st"
            refine ⟨?_, ?_⟩
            · refine small1000 ?_
              rw [List.length_map, List.length_replicate]
              omega
            · rw [upd_upd, List.replicate_succ', List.map_append]
              rfl
          · rintro H4 rfl
            have hn0' : 0 < ds.length := by omega
            refine ⟨D, List.replicate (ds.map V.int).length (at0 ds 0), rfl, e02.trans (same_upd nD), e02.free nD, upd_same, by rw [List.length_replicate, List.length_map, hl], fun d hd => ?_⟩
            rw [List.eq_of_mem_replicate hd]
            have := hb _ (List.mem_of_getElem? (at0_lt hn0'))
            omega
        · exact ⟨p, ds, rfl, e02, np0, hp, hl, fun d hd => ⟨(hb d hd).1, by have := (hb d hd).2; omega⟩⟩
      · rintro σ' H3 ⟨p, ws, rfl, e3, np3, hp3, hl3, hb3⟩
        refine ⟨fun σ' H4 => ∃ (ws : List Int), σ' = [some (.int cell), some (.int shape), some (.int (n : Int)), some (.int size), some (.ref p), none] ∧ Same H' H4 ∧ H4 p = some (.lst (ws.map V.int)) ∧ ws.length = n ∧ (∀ d, d ∈ ws → 0 ≤ d ∧ d < 1073741824) ∧ 0 < ws.sum, ?_, ?_⟩
        · walk_at "st"
          have hs0 := sum_nonneg ws fun d hd => (hb3 d hd).1
          refine iteB (fun h => ?_) (fun h => ?_)
          · have hz := V.int.inj (dec_t h)
            have h1 := Int.emod_nonneg (shape / 1260) (by omega : (n : Int) ≠ 0)
            have h2 := Int.emod_lt_of_pos (shape / 1260) (by omega : (0 : Int) < n)
            obtain ⟨j, ej⟩ : ∃ j : Nat, shape / 1260 % (n : Int) = (j : Int) := ⟨(shape / 1260 % (n : Int)).toNat, by omega⟩
            walk_at "st"
            dsimp only
            rw [ej]
            have hj : j < ws.length := by omega
            have hj' : j < (ws.map V.int).length := by rw [List.length_map]; exact hj
            refine ⟨ixN_nat hj', ws.set j 1, rfl, fun b o e => ?_, ?_, by rw [List.length_set, hl3], fun d hd => ?_, ?_⟩
            · rw [upd_ne (ne_of_none e np3)]
              exact e3 b o e
            · rw [upd_same, List.map_set]
            · rcases List.mem_or_eq_of_mem_set hd with hd | hd
              · exact hb3 d hd
              · rw [hd]
                exact ⟨by decide, by decide⟩
            · rw [sum_set1 ws j 1 hj, hz]
              have hle := at0_le_sum ws j fun d hd => (hb3 d hd).1
              omega
          · have hz : ws.sum ≠ 0 := fun z => dec_f h (congrArg V.int z)
            exact ⟨ws, rfl, e3, hp3, hl3, hb3, by omega⟩
        · rintro σ' H4 ⟨ws, rfl, e4, hp4, hl4, hb4, hsum⟩
          walk_at "st"
          exact q p H4 ws e4 np3 hp4 ⟨by omega, by omega, fun w hw => (hb4 w hw).1, fun w hw => by have := (hb4 w hw).2; omega⟩ hsum

theorem nats_ints (G : List Nat) : nats G = (G.map fun (k : Nat) => (k : Int)).map V.int := by
  unfold nats
  rw [List.map_map]
  rfl
def oV : Option Nat → V
  | none => .non
  | some r => .int (r : Int)
def dV (ws ps : List Int) (W : Int) : Option Nat → Int
  | none => 0
  | some r => due ws ps W r
def sp_law_next (K : PySem.W.Frag) : Sp := fun vs H Q _ => ∃ (a b : Addr) (ws ps : List Int) (n : Int), vs = [.int n, .ref b, .ref a, .int ws.sum] ∧ SqL K H a (ws.map V.int) ∧ SqL K H b (ps.map V.int) ∧ Wts ws ∧ 0 < ws.sum ∧ Pts ws ps n ∧ Q (.int (ch ws ps n : Nat)) H
theorem ok_law_next (T : Txt K mg) : FnOk P w K mg base CX0 1 T.f_law_next T.d_law_next ["count", "parts", "weights", "total"] (sp_law_next K) := by
  refine T.F_law_next.ok sc_law_next (fun vs H Q E h => ?_) (fun cdv A outer s H vs Q E hr h => ?_)
  · obtain ⟨a, b, ws, ps, n, rfl, _⟩ := h
    rfl
  · obtain ⟨a, b, ws, ps, n, rfl, ha, hb, hw, ht, hp, q⟩ := h
    have l0 := hw.l0
    have l1 := hw.l1
    have hsl := sum_le_mul ws _ hw.b1
    have hps := hp.len
    have hsum := hp.sum
    have htop := hp.top
    have hpn : ∀ x, x ∈ ps → 0 ≤ x := fun x hx => by
      obtain ⟨i, hi, rfl⟩ := List.mem_iff_getElem.mp hx
      have := hp.nn i
      rw [at0_of (List.getElem?_eq_getElem hi)] at this
      exact this
    have hple : ∀ i, at0 ps i ≤ ps.sum := fun i => at0_le_sum ps i hpn
    refine ⟨_, (pss_cons (ps_set (i := 4) sc_law_next.nd rfl (Or.inl rfl) pe_non)
    (pss_cons (ps_set (i := 5) sc_law_next.nd rfl (Or.inl rfl) pe_int)
    (pss_cons (ps_for PassesOwn.never rfl (pi_range1 (by rfl) T.z_range (pa_cons (pe_callB call_len_seq (by rfl) T.z_len PySem.boot_len (pa_cons (pv 2) pa_nil)) pa_nil)) (pg_name (i := 6) sc_law_next.nd rfl (Or.inl rfl))
      (pss_one (ps_if (pt_cmpR op_lt (pe_op op_mul (pe_ix ix_list (pv 1) (pv 6) (fun _ _ => rfl)) (pv 3)) (pe_op op_mul (pv 0) (pe_ix ix_list (pv 2) (pv 6) (fun _ _ => rfl))) (nomark _))
        (pss_cons (ps_set (i := 7) sc_law_next.nd rfl (Or.inl rfl) (pe_op op_add (pe_op op_fdivW (pe_op op_sub (pe_op op_mul (pe_op op_add (pe_ix ix_list (pv 1) (pv 6) (fun _ _ => rfl)) pe_int) (pv 3)) pe_int) (pe_ix ix_list (pv 2) (pv 6) (fun _ _ => rfl))) pe_int))
        (pss_one (ps_if (PW.pt (pw_or (pt_cmpR op_isN (pv 4) pe_non (nomark _)) (pw_or1 (pt_cmpR op_lt (pv 7) (pv 5) (nomark _)))))
          (pss_cons (ps_set (i := 4) sc_law_next.nd rfl (Or.inl rfl) (pv 6))
          (pss_one (ps_set (i := 5) sc_law_next.nd rfl (Or.inl rfl) (pv 7))))
          pss_nil)))
        pss_nil)))
    (pss_one (ps_ret (pv 4)))))), ?_⟩
    walk_at "st"
    refine for_range (lo := 0) (n := (((ws.map V.int).length : Nat) : Int).toNat) (fun i σ H' => (∃ v6 v7, σ = [some (.int n), some (.ref b), some (.ref a), some (.int ws.sum), some (oV (nd ws ps ws.sum n i)), some (.int (dV ws ps ws.sum (nd ws ps ws.sum n i))), v6, v7]) ∧ H' = H) ⟨⟨none, none, rfl⟩, rfl⟩ ?_ ?_
    · rintro i σ H' hi ⟨⟨v6, v7, rfl⟩, rfl⟩
      rw [List.length_map] at hi
      have hi2 : i < ws.length := by omega
      rw [show (0 : Int) + i = ((i : Nat) : Int) by omega]
      have a1 := atI_n hi2
      have a2 := atI_n (ws := ps) (j := i) (by omega)
      have b1 := at0_nonneg hw.b0 i
      have b3 := hw.b1 _ (List.mem_of_getElem? (at0_lt hi2))
      have p0 := hp.nn i
      have p1 := hple i
      walk_at "st"
      refine iteB (fun h => ?_) (fun h => ?_)
      · have hel : Elig ws ps ws.sum n i := dec_t h
        have wz := elig_pos b1 p0 ht hel
        have ed : ((at0 ps i + 1) * ws.sum - 1) / at0 ws i + 1 = due ws ps ws.sum i := by
          unfold due
          rw [show (at0 ps i + 1) * ws.sum + at0 ws i - 1 = ((at0 ps i + 1) * ws.sum - 1) + at0 ws i by omega, Int.add_ediv_of_dvd_right (Int.dvd_refl _), Int.ediv_self (by omega)]
        walk_at "st"
        refine ⟨wide_div (b := 64) wz (by omega) (by decide) (by decide), ?_⟩
        walk_at "st"
        have hn : nd ws ps ws.sum n (i + 1) = (match nd ws ps ws.sum n i with | none => some i | some b => if due ws ps ws.sum i < due ws ps ws.sum b then some i else some b) := if_pos hel
        cases hb : nd ws ps ws.sum n i with
        | none =>
          rw [hb] at hn
          dsimp only at hn
          rw [hn]
          refine iteB (fun _ => ?_) (fun h => (dec_f h rfl).elim)
          walk_at "st"
          refine ⟨⟨some (.int (i : Int)), some (.int (due ws ps ws.sum i)), ?_⟩, rfl⟩
          dsimp only
          rw [ed]
          rfl
        | some r =>
          rw [hb] at hn
          dsimp only at hn
          rw [hn]
          refine iteB (fun h => ?_) (fun _ => ?_)
          · have := dec_t h
            cases this
          · walk_at "st"
            refine iteB (fun h => ?_) (fun h => ?_)
            · have h2 : due ws ps ws.sum i < due ws ps ws.sum r := by rw [← ed]; exact dec_t h
              rw [if_pos h2]
              walk_at "st"
              refine ⟨⟨some (.int (i : Int)), some (.int (due ws ps ws.sum i)), ?_⟩, rfl⟩
              dsimp only
              rw [ed]
              rfl
            · have h2 : ¬ due ws ps ws.sum i < due ws ps ws.sum r := by rw [← ed]; exact dec_f h
              rw [if_neg h2]
              exact ⟨⟨_, _, rfl⟩, rfl⟩
      · have hel : ¬ Elig ws ps ws.sum n i := dec_f h
        have e : nd ws ps ws.sum n (i + 1) = nd ws ps ws.sum n i := if_neg hel
        rw [e]
        exact ⟨⟨_, _, rfl⟩, rfl⟩
    · rintro σ H' ⟨⟨v6, v7, rfl⟩, rfl⟩
      rw [List.length_map, Int.toNat_natCast, (ch_spec (n := n) hps ht (by omega)).1]
      exact ⟨_, rfl, q⟩
def sp_law_order (K : PySem.W.Frag) : Sp := fun vs H Q _ => ∃ (o a : Addr) (ws : List Int) (N : Nat), vs = [.ref o, .int (N : Int), .ref a] ∧ H o = some (.lst (nats (ordr ws N))) ∧ SqL K H a (ws.map V.int) ∧ Wts ws ∧ 0 < ws.sum ∧ N ≤ 9999 ∧
  ∀ p H', Same H H' → H p = none → H' p = some (.lst ((run ws N).map V.int)) → Q (.ref p) H'
theorem ordr_at {ws : List Int} {N i : Nat} (h : i < N) : (ordr ws N)[i]? = some (ch ws (run ws i) ((i + 1 : Nat) : Int)) := by
  unfold ordr
  rw [List.getElem?_map, List.getElem?_range h]
  rfl
theorem ok_law_order (T : Txt K mg) : FnOk P w K mg base CX0 2 T.f_law_order T.d_law_order ["order", "amount", "weights"] (sp_law_order K) := by
  refine T.F_law_order.ok sc_law_order (fun vs H Q E h => ?_) (fun cdv A outer s H vs Q E hr h => ?_)
  · obtain ⟨o, a, ws, N, rfl, _⟩ := h
    rfl
  · obtain ⟨o, a, ws, N, rfl, ho, hs, hw, ht, hN, q⟩ := h
    have G_law_next : FnOk P w K mg base CX0 1 T.f_law_next T.d_law_next ["count", "parts", "weights", "total"] (sp_law_next K) := ok_law_next T
    have G_law_is_integer : FnOk P w K mg base CX0 1 T.f_law_is_integer T.d_law_is_integer ["actual"] (sp_law_is_integer K) := ok_law_is_integer T
    have l0 := hw.l0
    have l1 := hw.l1
    have hsl := sum_le_mul ws _ hw.b1
    have hol : (nats (ordr ws N)).length = N := by unfold nats; rw [List.length_map, ordr_len]
    refine ⟨_, (pss_cons (ps_if (PW.pt (pw_or (pt_not (pt_val (pe_callB call_isi (by rfl) T.z_isinstance (by decide +kernel) (pa_cons (pv 0) (pa_cons (pe_bltn (v := .ty "list") (u := .type "list") (by rfl) T.z_list (by decide +kernel) rfl) pa_nil))))) (pw_or1 (pt_cmpR op_ne (pe_callB call_len_seq (by rfl) T.z_len PySem.boot_len (pa_cons (pv 0) pa_nil)) (pv 1) (nomark _)))))
      (pss_one (ps_ret pe_non))
      pss_nil)
    (pss_cons (ps_set (i := 3) sc_law_order.nd rfl (Or.inl rfl) (pe_callB (cr_sum rfl) (by rfl) T.z_sum (by decide +kernel) (pa_cons (pv 2) pa_nil)))
    (pss_cons (ps_setLc (i := 4) (own := [("weight", 5)]) (g := gName 5) (tt := tYes) rfl sc_law_order.nd rfl rfl (sw_true rfl rfl rfl (by decide +kernel)) (pi_list (pv 2)) (blkOk_by (own := [("weight", 5)]) (N := N_law_order) (sc := defScope s_law_order) (by decide +kernel)) (fun _ _ _ _ _ => (pg_name (i := 5) sc_law_order.nd rfl (Or.inl rfl))) (fun _ _ _ _ _ => pts_nil) (fun _ _ _ _ _ => pe_int))
    (pss_cons (ps_for PassesOwn.never rfl (pi_range1 (by rfl) T.z_range (pa_cons (pv 1) pa_nil)) (pg_name (i := 6) sc_law_order.nd rfl (Or.inl rfl))
      (pss_cons (ps_if (PW.pt (pw_or (pt_not (pt_val (pe_call G_law_is_integer hr (by rfl) T.m_law_is_integer T.F_law_is_integer.kp T.b_law_is_integer .nil pass0 (pa_cons (pe_ix ix_list (pv 0) (pv 6) (fun _ _ => rfl)) pa_nil)))) (pw_or1 (pt_not (pt_chain op_le op_lt pe_int (pe_ix ix_list (pv 0) (pv 6) (fun _ _ => rfl)) (pe_callB call_len_seq (by rfl) T.z_len PySem.boot_len (pa_cons (pv 2) pa_nil)))))))
        (pss_one (ps_ret pe_non))
        pss_nil)
      (pss_cons (ps_if (pt_cmpR op_ne (pe_ix ix_list (pv 0) (pv 6) (fun _ _ => rfl)) (pe_call G_law_next hr (by rfl) T.m_law_next T.F_law_next.kp T.b_law_next .nil pass0 (pa_cons (pe_op op_add (pv 6) pe_int) (pa_cons (pv 4) (pa_cons (pv 2) (pa_cons (pv 3) pa_nil))))) (nomark _))
        (pss_one (ps_ret pe_non))
        pss_nil)
      (pss_cons (ps_asg (pe_op op_add (pe_ix ix_list (pv 4) (pe_ix ix_list (pv 0) (pv 6) (fun _ _ => rfl)) (fun _ _ => rfl)) pe_int) (pg_sub (pv 4) (pe_ix ix_list (pv 0) (pv 6) (fun _ _ => rfl)) set_list))
      (pss_one (ps_for PassesOwn.never rfl (pi_range1 (by rfl) T.z_range (pa_cons (pe_callB call_len_seq (by rfl) T.z_len PySem.boot_len (pa_cons (pv 2) pa_nil)) pa_nil)) (pg_name (i := 7) sc_law_order.nd rfl (Or.inl rfl))
        (pss_one (ps_if (pt_cmpR op_ge (pe_callB call_abs (by rfl) T.z_abs (by decide +kernel) (pa_cons (pe_op op_sub (pe_op op_mul (pe_ix ix_list (pv 4) (pv 7) (fun _ _ => rfl)) (pv 3)) (pe_op op_mul (pe_op op_add (pv 6) pe_int) (pe_ix ix_list (pv 2) (pv 7) (fun _ _ => rfl)))) pa_nil)) (pv 3) (nomark _))
          (pss_one (ps_ret pe_non))
          pss_nil))))))))
    (pss_one (ps_ret (pv 4))))))), ?_⟩
    refine ⟨_, rfl, ?_⟩
    refine ⟨_, _, _, _, true, rfl, .ty _, .base (.lst ho), kit_ty (by decide +kernel), ?_⟩
    refine ⟨_, rfl, iteF ?_⟩
    walk_at "st"
    refine iteB (fun h => (ndec_t h (congrArg V.int (by rw [hol]))).elim) (fun _ => ?_)
    walk_at "st"
    intro D nD
    refine lc_list (K := K) (a := a) (xs := ws.map V.int) (fun i H' => H' = upd H D (.lst (((ws.take i).map fun _ => (0 : Int)).map V.int))) rfl (fun i H' _ e => by rw [e]; exact (same_upd nD).seq hs) ?_ ?_
    · rintro i x H' hx rfl
      obtain ⟨z, hz, rfl⟩ := ints_at hx
      have hi := (List.getElem?_eq_some_iff.mp hz).1
      refine ⟨rfl, _, upd_same, ?_, ?_⟩
      · refine small1000 ?_
        rw [List.length_map, List.length_map, List.length_take]
        omega
      · rw [upd_upd, take_succ hz, List.map_append, List.map_append]
        rfl
    · rintro H' rfl
      rw [List.take_of_length_le (by rw [List.length_map]; exact Nat.le_refl _)]
      have e1 := same_upd (o := .lst ((run ws 0).map V.int)) nD
      have hD : (upd H D (.lst ((run ws 0).map V.int))) D = some (.lst ((run ws 0).map V.int)) := upd_same
      have er : (ws.map fun _ => (0 : Int)) = run ws 0 := rfl
      rw [er]
      generalize upd H D (.lst ((run ws 0).map V.int)) = H1 at *
      walk_at "st"
      refine for_range (lo := 0) (n := (N : Int).toNat) (fun i σ H' => (∃ v5 v6 v7, σ = [some (.ref o), some (.int (N : Int)), some (.ref a), some (.int ws.sum), some (.ref D), v5, v6, v7]) ∧ Same H H' ∧ H' D = some (.lst ((run ws i).map V.int))) ⟨⟨none, none, none, rfl⟩, e1, hD⟩ ?_ ?_
      · rintro i σ H5 hi ⟨⟨v5, v6, v7, rfl⟩, e5, hD5⟩
        have hi2 : i < N := by omega
        have ho5 := e5 _ _ ho
        have hs5 := e5.seq hs
        have hD5' : SqL K H5 D ((run ws i).map V.int) := SqL.of hD5
        obtain ⟨_, hc1, _⟩ := run_ch ht i
        have hpts : Pts ws (run ws i) ((i + 1 : Nat) : Int) := ⟨run_len ws i, run_nn ht i, by rw [run_sum ht]; omega, by omega⟩
        have hcat : atI (nats (ordr ws N)) (i : Int) = some (.int (ch ws (run ws i) ((i + 1 : Nat) : Int) : Nat)) := by
          refine at_of (j := i) rfl ?_
          unfold nats
          rw [List.getElem?_map, ordr_at hi2]
          rfl
        have hst : run ws (i + 1) = bump (run ws i) (ch ws (run ws i) ((i + 1 : Nat) : Int)) := rfl
        have hpl := run_len ws i
        rw [show (0 : Int) + i = ((i : Nat) : Int) by omega]
        have hup := fun k => run_upper (at0_nonneg hw.b0) ht (i + 1) k
        have hlo := fun k hk => run_lower (at0_nonneg hw.b0) ht (i + 1) k hk
        have hnn := fun k => run_nn ht (i + 1) k
        have hle : ∀ k, at0 (run ws (i + 1)) k ≤ ((i + 1 : Nat) : Int) := fun k => by
          have h1 := at0_le_sum (run ws (i + 1)) k fun x hx => by
            obtain ⟨j, hj, rfl⟩ := List.mem_iff_getElem.mp hx
            have := hnn j
            rw [at0_of (List.getElem?_eq_getElem hj)] at this
            exact this
          rw [run_sum ht] at h1
          exact h1
        have ei1 : ((i : Nat) : Int) + 1 = ((i + 1 : Nat) : Int) := by omega
        generalize hcc : ch ws (run ws i) ((i + 1 : Nat) : Int) = c at *
        have hpc := atI_n (ws := run ws i) (j := c) (by omega)
        have hix : ixN ((run ws i).map V.int).length (c : Int) = some c := ixN_nat (by rw [List.length_map]; omega)
        walk_at "st"
        have hcl : (c : Int) < ((ws.map V.int).length : Int) := by rw [List.length_map]; omega
        refine iteB (fun h => absurd hcl (ndec_t h)) (fun _ => ?_)
        walk_at "st"
        refine iteB (fun h => (ndec_t h (by rw [← hcc]; rfl)).elim) (fun _ => ?_)
        have e6 : ∀ x, Same H (upd H5 D x) := fun x b z hb => by
          rw [upd_ne (ne_of_none hb nD)]
          exact e5 _ _ hb
        walk_at "st"
        refine ⟨.inl ((e6 _).seq hs), ?_⟩
        have hset : (.lst (((run ws i).map V.int).set c (.int (at0 (run ws i) c + 1))) : HO) = .lst ((run ws (i + 1)).map V.int) := by
          rw [hst]
          unfold bump
          rw [List.map_set]
        generalize hH7 : upd H5 D _ = H7
        have e7 : Same H H7 := by rw [← hH7]; exact e6 _
        have hD7 : H7 D = some (.lst ((run ws (i + 1)).map V.int)) := by rw [← hH7, upd_same, ← hset]
        have hs7 := e7.seq hs
        have hD7' : SqL K H7 D ((run ws (i + 1)).map V.int) := SqL.of hD7
        walk_at "st"
        refine for_range (lo := 0) (n := (((ws.map V.int).length : Nat) : Int).toNat) (fun j σ H' => (∃ v7, σ = [some (.ref o), some (.int (N : Int)), some (.ref a), some (.int ws.sum), some (.ref D), v5, some (.int (i : Int)), v7]) ∧ H' = H7) ⟨⟨v7, rfl⟩, rfl⟩ ?_ ?_
        · rintro j σ H8 hj ⟨⟨v7, rfl⟩, rfl⟩
          rw [List.length_map] at hj
          have hj2 : j < ws.length := by omega
          rw [show (0 : Int) + j = ((j : Nat) : Int) by omega]
          have a1 := atI_n hj2
          have a2 := atI_n (ws := run ws (i + 1)) (j := j) (by rw [run_len]; exact hj2)
          have b1 := at0_nonneg hw.b0 j
          have b3 := hw.b1 _ (List.mem_of_getElem? (at0_lt hj2))
          have u1 := hup j
          have u2 := hlo j hj2
          have u3 := hnn j
          have u4 := hle j
          have em : (at0 (run ws (i + 1)) j + 1) * ws.sum = at0 (run ws (i + 1)) j * ws.sum + ws.sum := by rw [Int.add_mul, Int.one_mul]
          have habs : ¬ ws.sum ≤ (if at0 (run ws (i + 1)) j * ws.sum - ((i : Int) + 1) * at0 ws j < 0 then -(at0 (run ws (i + 1)) j * ws.sum - ((i : Int) + 1) * at0 ws j) else at0 (run ws (i + 1)) j * ws.sum - ((i : Int) + 1) * at0 ws j) := by
            rw [ei1]
            split <;> omega
          walk_at "st"
          refine iteB (fun h => absurd (dec_t h) habs) (fun _ => ?_)
          exact ⟨⟨_, rfl⟩, rfl⟩
        · rintro σ H8 ⟨⟨v7, rfl⟩, rfl⟩
          exact ⟨⟨_, _, _, rfl⟩, e7, hD7⟩
      · rintro σ H5 ⟨⟨v5, v6, v7, rfl⟩, e5, hD5⟩
        walk_at "st"
        refine q D H5 e5 nD ?_
        rw [hD5, Int.toNat_natCast]

theorem cut_ordr (ws : List Int) {f N : Nat} (h : f ≤ N) : cutV (nats (ordr ws N)) none (some (f : Int)) = nats (ordr ws f) := by
  unfold cutV
  have h1 : HT.sIx (nats (ordr ws N)).length 0 none = 0 := HT.sIx_none ..
  have hl : (nats (ordr ws N)).length = N := by unfold nats; rw [List.length_map, ordr_len]
  have h2 : HT.sIx (nats (ordr ws N)).length (nats (ordr ws N)).length (some (f : Int)) = f := by
    rw [HT.sIx_nat, hl]
    omega
  rw [h1, h2, List.drop_zero, Nat.sub_zero]
  unfold nats ordr
  rw [← List.map_take, ← List.map_take, List.take_range, Nat.min_eq_left h]
def sp_law (K : PySem.W.Frag) : Sp := fun vs H Q _ => ∃ (a : Addr) (ns : List Int), vs = [.ref a] ∧ SqL K H a (ns.map V.int) ∧ ns.length ≤ 63 ∧ ∀ H', Q (.bl true) H'
theorem ok_law {f : Addr} {fd : FuncData} (T : Txt K mg) (F : Fun K "law" "law" s_law f fd) : FnOk P w K mg base CX0 5 f fd ["script"] (sp_law K) := by
  refine F.ok sc_law (fun vs H Q E h => ?_) (fun cdv A outer s H vs Q E hr h => ?_)
  · obtain ⟨a, ns, rfl, _⟩ := h
    rfl
  · obtain ⟨a, ns, rfl, hs, hlen, q⟩ := h
    have G_law_weights : FnOk P w K mg base CX0 2 T.f_law_weights T.d_law_weights ["cell", "shape"] (sp_law_weights K) := ok_law_weights T
    have G_deal_order : FnOk P w K mg base CX0 3 T.f_deal_order T.d_deal_order ["amount", "weights"] (sp_deal_order K) := ok_deal_order T
    have G_law_order : FnOk P w K mg base CX0 2 T.f_law_order T.d_law_order ["order", "amount", "weights"] (sp_law_order K) := ok_law_order T
    have G_deal : FnOk P w K mg base CX0 4 T.f_deal T.d_deal ["amount", "weights"] (sp_deal K) := ok_deal T
    have G_law_cell : FnOk P w K mg base CX0 1 T.f_law_cell T.d_law_cell ["script", "k"] (sp_law_cell K) := ok_law_cell T
    refine ⟨_, (pss_cons (ps_set (i := 1) sc_law.nd rfl (Or.inl rfl) (pe_call G_law_weights (hr.mono (by decide)) (by rfl) T.m_law_weights T.F_law_weights.kp T.b_law_weights .nil pass0 (pa_cons (pe_call G_law_cell (hr.mono (by decide)) (by rfl) T.m_law_cell T.F_law_cell.kp T.b_law_cell .nil pass0 (pa_cons (pv 0) (pa_cons pe_int pa_nil))) (pa_cons (pe_call G_law_cell (hr.mono (by decide)) (by rfl) T.m_law_cell T.F_law_cell.kp T.b_law_cell .nil pass0 (pa_cons (pv 0) (pa_cons pe_int pa_nil))) pa_nil))))
    (pss_cons (ps_set (i := 2) sc_law.nd rfl (Or.inl rfl) (pe_op op_mod (pe_call G_law_cell (hr.mono (by decide)) (by rfl) T.m_law_cell T.F_law_cell.kp T.b_law_cell .nil pass0 (pa_cons (pv 0) (pa_cons pe_int pa_nil))) pe_int))
    (C8.pss_cut (ps_if (PW.pt (pw_and (pt_cmpR op_eq (pe_op op_mod (pe_call G_law_cell (hr.mono (by decide)) (by rfl) T.m_law_cell T.F_law_cell.kp T.b_law_cell .nil pass0 (pa_cons (pv 0) (pa_cons pe_int pa_nil))) pe_int) pe_int (nomark _)) (pw_and1 (pt_cmpR op_lt (pe_callB call_len_seq (by rfl) T.z_len PySem.boot_len (pa_cons (pv 1) pa_nil)) pe_int (nomark _)))))
      (pss_one (ps_set (i := 2) sc_law.nd rfl (Or.inl rfl) (pe_op op_mod (pe_call G_law_cell (hr.mono (by decide)) (by rfl) T.m_law_cell T.F_law_cell.kp T.b_law_cell .nil pass0 (pa_cons (pv 0) (pa_cons pe_int pa_nil))) pe_int)))
      pss_nil)
    (pss_cons (ps_set (i := 3) sc_law.nd rfl (Or.inl rfl) (pe_callTy call_list_of (by rfl) T.z_list (by decide +kernel) (pa_cons (pv 1) pa_nil)))
    (pss_cons (ps_set (i := 4) sc_law.nd rfl (Or.inl rfl) (pe_call G_deal_order (hr.mono (by decide)) (by rfl) T.m_deal_order T.F_deal_order.kp T.b_deal_order .nil pass0 (pa_cons (pv 2) (pa_cons (pv 1) pa_nil))))
    (pss_cons (ps_if (pt_cmpR (op_neD hr.units) (pv 1) (pv 3) (nomark _))
      (pss_one (ps_ret pe_bl))
      pss_nil)
    (pss_cons (ps_set (i := 5) sc_law.nd rfl (Or.inl rfl) (pe_call G_law_order (hr.mono (by decide)) (by rfl) T.m_law_order T.F_law_order.kp T.b_law_order .nil pass0 (pa_cons (pv 4) (pa_cons (pv 2) (pa_cons (pv 3) pa_nil)))))
    (pss_cons (ps_if (pt_cmpR op_isN (pv 5) pe_non (nomark _))
      (pss_one (ps_ret pe_bl))
      pss_nil)
    (pss_cons (ps_set (i := 6) sc_law.nd rfl (Or.inl rfl) (pe_call G_deal hr (by rfl) T.m_deal T.F_deal.kp T.b_deal .nil pass0 (pa_cons (pv 2) (pa_cons (pv 1) pa_nil))))
    (pss_cons (ps_if (PW.pt (pw_or (pt_not (pt_val (pe_callB call_isi (by rfl) T.z_isinstance (by decide +kernel) (pa_cons (pv 6) (pa_cons (pe_bltn (v := .ty "list") (u := .type "list") (by rfl) T.z_list (by decide +kernel) rfl) pa_nil))))) (pw_or (pt_cmpR (op_neD hr.units) (pv 6) (pv 5) (nomark _)) (pw_or1 (pt_cmpR (op_neD hr.units) (pv 1) (pv 3) (nomark _))))))
      (pss_one (ps_ret pe_bl))
      pss_nil)
    (pss_cons (ps_set (i := 7) sc_law.nd rfl (Or.inl rfl) (pe_op op_mod (pe_call G_law_cell (hr.mono (by decide)) (by rfl) T.m_law_cell T.F_law_cell.kp T.b_law_cell .nil pass0 (pa_cons (pv 0) (pa_cons pe_int pa_nil))) (pe_op op_add (pv 2) pe_int)))
    (pss_one (ps_ret (pe_cmpR (op_eqD hr.units) (pe_call G_deal_order (hr.mono (by decide)) (by rfl) T.m_deal_order T.F_deal_order.kp T.b_deal_order .nil pass0 (pa_cons (pv 7) (pa_cons (pe_callTy call_list_of (by rfl) T.z_list (by decide +kernel) (pa_cons (pv 3) pa_nil)) pa_nil))) (pe_slice sl_list (pv 4) po_none (po_some (pv 7))) (nomark _))))))))))))))), ?_⟩
    walk_at "st"
    intro p H1 ws e1 np hp hw ht
    have hs1 := e1.seq hs
    have hp1 : SqL K H1 p (ws.map V.int) := SqL.of hp
    have l0 := hw.l0
    have l1 := hw.l1
    walk_at "st"
    have hm0 := Int.emod_nonneg (cellOf ns 2) (by decide : (251 : Int) ≠ 0)
    have hm1 := Int.emod_lt_of_pos (cellOf ns 2) (by decide : (0 : Int) < 251)
    have hm2 := Int.emod_nonneg (cellOf ns 2) (by decide : (10000 : Int) ≠ 0)
    have hm3 := Int.emod_lt_of_pos (cellOf ns 2) (by decide : (0 : Int) < 10000)
    refine ⟨fun σ' H' => H' = H1 ∧ ∃ (_ : Unit) (N : Nat), σ' = [some (.ref a), some (.ref p), some (.int (N : Int)), none, none, none, none, none] ∧ N ≤ 9999, ?_, ?_⟩
    · walk_at "st"
      have fin1 : ∀ (v : Int), 0 ≤ v → v ≤ 9999 → (H1 = H1 ∧ ∃ (_ : Unit) (N : Nat), [some (V.ref a), some (.ref p), some (.int v), none, none, none, none, none] = [some (.ref a), some (.ref p), some (.int (N : Int)), none, none, none, none, none] ∧ N ≤ 9999) := by
        intro v h0 h1
        refine ⟨rfl, (), v.toNat, ?_, by omega⟩
        rw [Int.toNat_of_nonneg h0]
      refine iteB (fun _ => ?_) (fun _ => ?_)
      · walk_at "st"
        refine iteB (fun _ => ?_) (fun _ => ?_)
        · walk_at "st"
          exact (fin1 _ hm2 (by omega)).2
        · exact fin1 _ hm0 (by omega)
      · exact fin1 _ hm0 (by omega)
    · rintro σ' H' ⟨rfl, _, N, rfl, hN⟩
      walk_at "st"
      intro l nl
      have e2 := same_upd (o := .lst (ws.map V.int)) nl
      have hl : (upd H' l (.lst (ws.map V.int))) l = some (.lst (ws.map V.int)) := upd_same
      generalize upd H' l (.lst (ws.map V.int)) = H3 at e2 hl
      have hp3 := e2.seq hp1
      have hs3 := e2.seq hs1
      have hl3 : SqL K H3 l (ws.map V.int) := SqL.of hl
      walk_at "st"
      intro o H4 e4 no ho4
      have hp4 := e4.seq hp3
      have hs4 := e4.seq hs3
      have hl4 := e4.seq hl3
      walk_at "st"
      refine neD_ints hp4 hl4 ?_
      refine ⟨_, rfl, iteB (fun h => (ndec_t h rfl).elim) (fun _ => ?_)⟩
      walk_at "st"
      intro r H5 e5 nr hr5
      have ho5 := e5 _ _ ho4
      have hp5 := e5.seq hp4
      have hs5 := e5.seq hs4
      have hl5 := e5.seq hl4
      walk_at "st"
      intro d H6 e6 nd6 hd6
      have hr6 := e6 _ _ hr5
      have ho6 := e6 _ _ ho5
      have hp6 := e6.seq hp5
      have hs6 := e6.seq hs5
      have hl6 := e6.seq hl5
      refine ⟨_, rfl, ?_⟩
      refine ⟨_, _, _, _, true, rfl, .ty _, .base (.lst hd6), kit_ty (by decide +kernel), ?_⟩
      refine ⟨_, rfl, iteF ?_⟩
      walk_at "st"
      refine neD_ints (SqL.of hd6) (SqL.of hr6) ?_
      refine ⟨_, rfl, iteB (fun h => (ndec_t h rfl).elim) (fun _ => ?_)⟩
      walk_at "st"
      refine neD_ints hp6 hl6 ?_
      refine ⟨_, rfl, iteB (fun h => (ndec_t h rfl).elim) (fun _ => ?_)⟩
      have hf0 := Int.emod_nonneg (cellOf ns 4) (by omega : (N : Int) + 1 ≠ 0)
      have hf1 := Int.emod_lt_of_pos (cellOf ns 4) (by omega : (0 : Int) < (N : Int) + 1)
      obtain ⟨f, hf⟩ : ∃ f : Nat, cellOf ns 4 % ((N : Int) + 1) = (f : Int) := ⟨(cellOf ns 4 % ((N : Int) + 1)).toNat, by omega⟩
      walk_at "st"
      intro l2 nl2
      have e7 := same_upd (o := .lst (ws.map V.int)) nl2
      have hl7 : (upd H6 l2 (.lst (ws.map V.int))) l2 = some (.lst (ws.map V.int)) := upd_same
      have ho7 := e7 _ _ ho6
      generalize upd H6 l2 (.lst (ws.map V.int)) = H7 at e7 hl7 ho7
      refine ⟨l2, ws, f, ?_, SqL.of hl7, hw, fun _ => ht, by omega, fun t H8 e8 nt ht8 => ?_⟩
      · show [V.int (cellOf ns 4 % ((N : Int) + 1)), V.ref l2] = _
        rw [hf]
      have ho8 := e8 _ _ ho7
      have ho8' : SqL K H8 o (nats (ordr ws N)) := SqL.of ho8
      walk_at "st"
      intro c nc
      have e9 := same_upd (o := .lst (cutV (nats (ordr ws N)) none (some (cellOf ns 4 % ((N : Int) + 1))))) nc
      have ht9 := e9 _ _ ht8
      refine eqD_ints (xs := (ordr ws f).map fun (k : Nat) => (k : Int)) (ys := (ordr ws f).map fun (k : Nat) => (k : Int)) (SqL.of ?_) (SqL.of ?_) ?_
      · rw [← nats_ints]
        exact ht9
      · rw [← nats_ints, ← cut_ordr ws (by omega : f ≤ N), ← hf]
        exact upd_same
      · rw [decide_eq_true rfl]
        exact q _
end
theorem all_mk {l : PySem.W.OpenLaw} {w : World} {K : PySem.W.Frag} {h : Heap} {mg : Str → Option Value} {fa f1 f2 f3 f4 f5 f6 f7 f8 f9 f10 f11 f12 f13 : Addr} (X : K.In h) (G : h.Ns mainGlobals mg) (hfa : mg "law" = some (.ref fa))
    {od1 an1 od2 an2 od3 an3 od4 an4 od5 an5 od6 an6 od7 an7 od8 an8 od9 an9 od10 an10 od11 an11 od12 an12 od13 an13 : Option Addr} {sl1 sl2 sl3 sl4 sl5 sl6 sl7 sl8 sl9 sl10 sl11 sl12 sl13 : Array (Option Value)} {oc1 kV1 dc1 pm1 cd1 ct1 oc2 kV2 dc2 pm2 cd2 ct2 oc3 kV3 dc3 pm3 cd3 ct3 oc4 kV4 dc4 pm4 cd4 ct4 oc5 kV5 dc5 pm5 cd5 ct5 oc6 kV6 dc6 pm6 cd6 ct6 oc7 kV7 dc7 pm7 cd7 ct7 oc8 kV8 dc8 pm8 cd8 ct8 oc9 kV9 dc9 pm9 cd9 ct9 oc10 kV10 dc10 pm10 cd10 ct10 oc11 kV11 dc11 pm11 cd11 ct11 oc12 kV12 dc12 pm12 cd12 ct12 oc13 kV13 dc13 pm13 cd13 ct13 : Value}
    (a1 : PySem.W.nsIn K mainGlobals "_check_amount" = some (some (.ref f1)))
    (l1 : K.lookup f1 = some ⟨oc1, od1, .func (PySem.W.fnOf "_check_amount" "_check_amount" (defArgs s_check_amount) (defBody s_check_amount) (defScope s_check_amount) .none kV1 dc1 pm1 an1 cd1 ct1), sl1⟩) (c1 : PySem.W.codeIn K cd1 "_check_amount" = true) (k1 : PySem.W.keepIn K (.ref f1) = true)
    (a2 : PySem.W.nsIn K mainGlobals "_check_weights" = some (some (.ref f2)))
    (l2 : K.lookup f2 = some ⟨oc2, od2, .func (PySem.W.fnOf "_check_weights" "_check_weights" (defArgs s_check_weights) (defBody s_check_weights) (defScope s_check_weights) .none kV2 dc2 pm2 an2 cd2 ct2), sl2⟩) (c2 : PySem.W.codeIn K cd2 "_check_weights" = true) (k2 : PySem.W.keepIn K (.ref f2) = true)
    (a3 : PySem.W.nsIn K mainGlobals "deal_order" = some (some (.ref f3)))
    (l3 : K.lookup f3 = some ⟨oc3, od3, .func (PySem.W.fnOf "deal_order" "deal_order" (defArgs s_deal_order) (defBody s_deal_order) (defScope s_deal_order) .none kV3 dc3 pm3 an3 cd3 ct3), sl3⟩) (c3 : PySem.W.codeIn K cd3 "deal_order" = true) (k3 : PySem.W.keepIn K (.ref f3) = true)
    (a4 : PySem.W.nsIn K mainGlobals "_first_due" = some (some (.ref f4)))
    (l4 : K.lookup f4 = some ⟨oc4, od4, .func (PySem.W.fnOf "_first_due" "_first_due" (defArgs s_first_due) (defBody s_first_due) (defScope s_first_due) .none kV4 dc4 pm4 an4 cd4 ct4), sl4⟩) (c4 : PySem.W.codeIn K cd4 "_first_due" = true) (k4 : PySem.W.keepIn K (.ref f4) = true)
    (a5 : PySem.W.nsIn K mainGlobals "_due" = some (some (.ref f5)))
    (l5 : K.lookup f5 = some ⟨oc5, od5, .func (PySem.W.fnOf "_due" "_due" (defArgs s_due) (defBody s_due) (defScope s_due) .none kV5 dc5 pm5 an5 cd5 ct5), sl5⟩) (c5 : PySem.W.codeIn K cd5 "_due" = true) (k5 : PySem.W.keepIn K (.ref f5) = true)
    (a6 : PySem.W.nsIn K mainGlobals "deal" = some (some (.ref f6)))
    (l6 : K.lookup f6 = some ⟨oc6, od6, .func (PySem.W.fnOf "deal" "deal" (defArgs s_deal) (defBody s_deal) (defScope s_deal) .none kV6 dc6 pm6 an6 cd6 ct6), sl6⟩) (c6 : PySem.W.codeIn K cd6 "deal" = true) (k6 : PySem.W.keepIn K (.ref f6) = true)
    (a7 : PySem.W.nsIn K mainGlobals "_law_cell" = some (some (.ref f7)))
    (l7 : K.lookup f7 = some ⟨oc7, od7, .func (PySem.W.fnOf "_law_cell" "_law_cell" (defArgs s_law_cell) (defBody s_law_cell) (defScope s_law_cell) .none kV7 dc7 pm7 an7 cd7 ct7), sl7⟩) (c7 : PySem.W.codeIn K cd7 "_law_cell" = true) (k7 : PySem.W.keepIn K (.ref f7) = true)
    (a8 : PySem.W.nsIn K mainGlobals "_law_draws" = some (some (.ref f8)))
    (l8 : K.lookup f8 = some ⟨oc8, od8, .func (PySem.W.fnOf "_law_draws" "_law_draws" (defArgs s_law_draws) (defBody s_law_draws) (defScope s_law_draws) .none kV8 dc8 pm8 an8 cd8 ct8), sl8⟩) (c8 : PySem.W.codeIn K cd8 "_law_draws" = true) (k8 : PySem.W.keepIn K (.ref f8) = true)
    (a9 : PySem.W.nsIn K mainGlobals "_law_is_integer" = some (some (.ref f9)))
    (l9 : K.lookup f9 = some ⟨oc9, od9, .func (PySem.W.fnOf "_law_is_integer" "_law_is_integer" (defArgs s_law_is_integer) (defBody s_law_is_integer) (defScope s_law_is_integer) .none kV9 dc9 pm9 an9 cd9 ct9), sl9⟩) (c9 : PySem.W.codeIn K cd9 "_law_is_integer" = true) (k9 : PySem.W.keepIn K (.ref f9) = true)
    (a10 : PySem.W.nsIn K mainGlobals "_law_weights" = some (some (.ref f10)))
    (l10 : K.lookup f10 = some ⟨oc10, od10, .func (PySem.W.fnOf "_law_weights" "_law_weights" (defArgs s_law_weights) (defBody s_law_weights) (defScope s_law_weights) .none kV10 dc10 pm10 an10 cd10 ct10), sl10⟩) (c10 : PySem.W.codeIn K cd10 "_law_weights" = true) (k10 : PySem.W.keepIn K (.ref f10) = true)
    (a11 : PySem.W.nsIn K mainGlobals "_law_next" = some (some (.ref f11)))
    (l11 : K.lookup f11 = some ⟨oc11, od11, .func (PySem.W.fnOf "_law_next" "_law_next" (defArgs s_law_next) (defBody s_law_next) (defScope s_law_next) .none kV11 dc11 pm11 an11 cd11 ct11), sl11⟩) (c11 : PySem.W.codeIn K cd11 "_law_next" = true) (k11 : PySem.W.keepIn K (.ref f11) = true)
    (a12 : PySem.W.nsIn K mainGlobals "_law_order" = some (some (.ref f12)))
    (l12 : K.lookup f12 = some ⟨oc12, od12, .func (PySem.W.fnOf "_law_order" "_law_order" (defArgs s_law_order) (defBody s_law_order) (defScope s_law_order) .none kV12 dc12 pm12 an12 cd12 ct12), sl12⟩) (c12 : PySem.W.codeIn K cd12 "_law_order" = true) (k12 : PySem.W.keepIn K (.ref f12) = true)
    (a13 : PySem.W.nsIn K mainGlobals "law" = some (some (.ref f13)))
    (l13 : K.lookup f13 = some ⟨oc13, od13, .func (PySem.W.fnOf "law" "law" (defArgs s_law) (defBody s_law) (defScope s_law) .none kV13 dc13 pm13 an13 cd13 ct13), sl13⟩) (c13 : PySem.W.codeIn K cd13 "law" = true) (k13 : PySem.W.keepIn K (.ref f13) = true)
    (z_abs : PySem.W.nsIn K mainGlobals "abs" = some none)
    (z_all : PySem.W.nsIn K mainGlobals "all" = some none)
    (z_bool : PySem.W.nsIn K mainGlobals "bool" = some none)
    (z_enumerate : PySem.W.nsIn K mainGlobals "enumerate" = some none)
    (z_int : PySem.W.nsIn K mainGlobals "int" = some none)
    (z_isinstance : PySem.W.nsIn K mainGlobals "isinstance" = some none)
    (z_len : PySem.W.nsIn K mainGlobals "len" = some none)
    (z_list : PySem.W.nsIn K mainGlobals "list" = some none)
    (z_min : PySem.W.nsIn K mainGlobals "min" = some none)
    (z_range : PySem.W.nsIn K mainGlobals "range" = some none)
    (z_sum : PySem.W.nsIn K mainGlobals "sum" = some none)
    {t_MOST_DEALT t_MOST_WEIGHTS t_MOST_WEIGHT : Tok}
    (v_MOST_DEALT : PySem.W.nsIn K mainGlobals "MOST_DEALT" = some (some (.int 9999 t_MOST_DEALT)))
    (v_MOST_WEIGHTS : PySem.W.nsIn K mainGlobals "MOST_WEIGHTS" = some (some (.int 40 t_MOST_WEIGHTS)))
    (v_MOST_WEIGHT : PySem.W.nsIn K mainGlobals "MOST_WEIGHT" = some (some (.int 1000000000000000 t_MOST_WEIGHT))) :
    ∃ fd : FuncData, (∀ (s : Shared) (v : Value), BindsTo s fd ⟨[v], []⟩ [("script", v)]) ∧ ∀ base : Heap, K.In base → base.Ns mainGlobals mg → FnOk l.prog w K mg base CX0 5 fa fd ["script"] (sp_law K) := by
  have e := hfa.symm.trans (PySem.W.mg_of X G a13)
  cases e
  have F1 := fun_mk (st := s_check_amount) l1 c1 k1
  have b1 := F1.binds (ps := ["amount", "most"]) fun _ _ _ _ _ _ us hl => match us, hl with | [_, _], _ => rfl
  have F2 := fun_mk (st := s_check_weights) l2 c2 k2
  have b2 := F2.binds (ps := ["weights", "amount"]) fun _ _ _ _ _ _ us hl => match us, hl with | [_, _], _ => rfl
  have F3 := fun_mk (st := s_deal_order) l3 c3 k3
  have b3 := F3.binds (ps := ["amount", "weights"]) fun _ _ _ _ _ _ us hl => match us, hl with | [_, _], _ => rfl
  have F4 := fun_mk (st := s_first_due) l4 c4 k4
  have b4 := F4.binds (ps := ["number", "weights", "parts", "total"]) fun _ _ _ _ _ _ us hl => match us, hl with | [_, _, _, _], _ => rfl
  have F5 := fun_mk (st := s_due) l5 c5 k5
  have b5 := F5.binds (ps := ["weight", "part", "total"]) fun _ _ _ _ _ _ us hl => match us, hl with | [_, _, _], _ => rfl
  have F6 := fun_mk (st := s_deal) l6 c6 k6
  have b6 := F6.binds (ps := ["amount", "weights"]) fun _ _ _ _ _ _ us hl => match us, hl with | [_, _], _ => rfl
  have F7 := fun_mk (st := s_law_cell) l7 c7 k7
  have b7 := F7.binds (ps := ["script", "k"]) fun _ _ _ _ _ _ us hl => match us, hl with | [_, _], _ => rfl
  have F8 := fun_mk (st := s_law_draws) l8 c8 k8
  have b8 := F8.binds (ps := ["cell", "count", "size"]) fun _ _ _ _ _ _ us hl => match us, hl with | [_, _, _], _ => rfl
  have F9 := fun_mk (st := s_law_is_integer) l9 c9 k9
  have b9 := F9.binds (ps := ["actual"]) fun _ _ _ _ _ _ us hl => match us, hl with | [_], _ => rfl
  have F10 := fun_mk (st := s_law_weights) l10 c10 k10
  have b10 := F10.binds (ps := ["cell", "shape"]) fun _ _ _ _ _ _ us hl => match us, hl with | [_, _], _ => rfl
  have F11 := fun_mk (st := s_law_next) l11 c11 k11
  have b11 := F11.binds (ps := ["count", "parts", "weights", "total"]) fun _ _ _ _ _ _ us hl => match us, hl with | [_, _, _, _], _ => rfl
  have F12 := fun_mk (st := s_law_order) l12 c12 k12
  have b12 := F12.binds (ps := ["order", "amount", "weights"]) fun _ _ _ _ _ _ us hl => match us, hl with | [_, _, _], _ => rfl
  have F13 := fun_mk (st := s_law) l13 c13 k13
  have b13 := F13.binds (ps := ["script"]) fun _ _ _ _ _ _ us hl => match us, hl with | [_], _ => rfl
  have T : Txt K mg := ⟨f1, _, F1, PySem.W.mg_of X G a1, b1, f2, _, F2, PySem.W.mg_of X G a2, b2, f3, _, F3, PySem.W.mg_of X G a3, b3, f4, _, F4, PySem.W.mg_of X G a4, b4, f5, _, F5, PySem.W.mg_of X G a5, b5, f6, _, F6, PySem.W.mg_of X G a6, b6, f7, _, F7, PySem.W.mg_of X G a7, b7, f8, _, F8, PySem.W.mg_of X G a8, b8, f9, _, F9, PySem.W.mg_of X G a9, b9, f10, _, F10, PySem.W.mg_of X G a10, b10, f11, _, F11, PySem.W.mg_of X G a11, b11, f12, _, F12, PySem.W.mg_of X G a12, b12, PySem.W.mg_none_of X G z_abs, PySem.W.mg_none_of X G z_all, PySem.W.mg_none_of X G z_bool, PySem.W.mg_none_of X G z_enumerate, PySem.W.mg_none_of X G z_int, PySem.W.mg_none_of X G z_isinstance, PySem.W.mg_none_of X G z_len, PySem.W.mg_none_of X G z_list, PySem.W.mg_none_of X G z_min, PySem.W.mg_none_of X G z_range, PySem.W.mg_none_of X G z_sum, t_MOST_DEALT, PySem.W.mg_of X G v_MOST_DEALT, t_MOST_WEIGHTS, PySem.W.mg_of X G v_MOST_WEIGHTS, t_MOST_WEIGHT, PySem.W.mg_of X G v_MOST_WEIGHT⟩
  exact ⟨PySem.W.fnOf "law" "law" (defArgs s_law) (defBody s_law) (defScope s_law) .none kV13 dc13 pm13 an13 cd13 ct13, fun s v => .of_eq rfl, fun base _ _ => ok_law T F13⟩
end FB
open PySem PySem.W PyProof.Rows
set_option maxRecDepth 100000 in
set_option maxHeartbeats 0 in
theorem PySem.Challenge.cw_fairbourse_k13_deal_whole_within_a_cent_holds : PySem.Challenge.rw_fairbourse_k13_deal_whole_within_a_cent.Holds := by
  w_on; o_law; k_head; (case hw => w_witness2)
  k_fill
  refine L2.walk_of (l := PySem.Challenge.rw_fairbourse_k13_deal_whole_within_a_cent) (n := 63) (k := 5) (x := "script") (CX := fun _ => L2.CX0) (sp := fun w => FB.sp_law _) rfl (by decide) rfl ⟨rfl, by decide, by decide⟩ (fun w h Y => PySem.W.kIn_of Y) ?F (fun _ _ a ns hl _ hS => ⟨a, ns, rfl, hS, hl, fun _ => rfl⟩) (fun _ _ _ _ _ h => h)
  case F =>
    intro w mg fa h KX G hmg
    refine' FB.all_mk KX G hmg ?a1 ?l1 ?c1 ?k1 ?a2 ?l2 ?c2 ?k2 ?a3 ?l3 ?c3 ?k3 ?a4 ?l4 ?c4 ?k4 ?a5 ?l5 ?c5 ?k5 ?a6 ?l6 ?c6 ?k6 ?a7 ?l7 ?c7 ?k7 ?a8 ?l8 ?c8 ?k8 ?a9 ?l9 ?c9 ?k9 ?a10 ?l10 ?c10 ?k10 ?a11 ?l11 ?c11 ?k11 ?a12 ?l12 ?c12 ?k12 ?a13 ?l13 ?c13 ?k13 ?z_abs ?z_all ?z_bool ?z_enumerate ?z_int ?z_isinstance ?z_len ?z_list ?z_min ?z_range ?z_sum ?v_MOST_DEALT ?v_MOST_WEIGHTS ?v_MOST_WEIGHT
    (case a1 => k_is)
    (case l1 => k_is)
    (case c1 => k_is)
    (case k1 => k_is)
    (case a2 => k_is)
    (case l2 => k_is)
    (case c2 => k_is)
    (case k2 => k_is)
    (case a3 => k_is)
    (case l3 => k_is)
    (case c3 => k_is)
    (case k3 => k_is)
    (case a4 => k_is)
    (case l4 => k_is)
    (case c4 => k_is)
    (case k4 => k_is)
    (case a5 => k_is)
    (case l5 => k_is)
    (case c5 => k_is)
    (case k5 => k_is)
    (case a6 => k_is)
    (case l6 => k_is)
    (case c6 => k_is)
    (case k6 => k_is)
    (case a7 => k_is)
    (case l7 => k_is)
    (case c7 => k_is)
    (case k7 => k_is)
    (case a8 => k_is)
    (case l8 => k_is)
    (case c8 => k_is)
    (case k8 => k_is)
    (case a9 => k_is)
    (case l9 => k_is)
    (case c9 => k_is)
    (case k9 => k_is)
    (case a10 => k_is)
    (case l10 => k_is)
    (case c10 => k_is)
    (case k10 => k_is)
    (case a11 => k_is)
    (case l11 => k_is)
    (case c11 => k_is)
    (case k11 => k_is)
    (case a12 => k_is)
    (case l12 => k_is)
    (case c12 => k_is)
    (case k12 => k_is)
    (case a13 => k_is)
    (case l13 => k_is)
    (case c13 => k_is)
    (case k13 => k_is)
    (case z_abs => k_is)
    (case z_all => k_is)
    (case z_bool => k_is)
    (case z_enumerate => k_is)
    (case z_int => k_is)
    (case z_isinstance => k_is)
    (case z_len => k_is)
    (case z_list => k_is)
    (case z_min => k_is)
    (case z_range => k_is)
    (case z_sum => k_is)
    (case v_MOST_DEALT => k_is)
    (case v_MOST_WEIGHTS => k_is)
    (case v_MOST_WEIGHT => k_is)
#print axioms PySem.Challenge.cw_fairbourse_k13_deal_whole_within_a_cent_holds
