import PyProof.Rows.All
import Wide.All
import OpenK.AllK
import Wide.FinOn
import HandS.ForMost
import HandS.Defaults
import HandS.IsInst
import HandS.Wide
import HandS.Codes
import PySem.Challenge.RW_fairbourse_k63_two_losses_in_turn
set_option Elab.async false
set_option linter.all false
set_option maxRecDepth 100000
namespace FB
open PySem PySem.Spec PyProof.Rows L2
def topS (i : Nat) : Stmt := PySem.Challenge.pw_fairbourse_k63_two_losses_in_turn.main.body.getD i (.Pass ⟨0, 0, 0, 0⟩)
abbrev s_is_integral : Stmt := topS 5
abbrev N_is_integral : List Str := ["value"]
theorem sc_is_integral : FnScope N_is_integral ["value"] (defScope s_is_integral) := ⟨rfl, rfl, rfl, by decide +kernel, rfl, by decide +kernel, by decide +kernel⟩
abbrev s_is_within : Stmt := topS 6
abbrev N_is_within : List Str := ["least", "most", "value"]
theorem sc_is_within : FnScope N_is_within ["least", "most", "value"] (defScope s_is_within) := ⟨rfl, rfl, rfl, by decide +kernel, rfl, by decide +kernel, by decide +kernel⟩
abbrev s_check_amount : Stmt := topS 11
abbrev N_check_amount : List Str := ["amount", "most"]
theorem sc_check_amount : FnScope N_check_amount ["amount", "most"] (defScope s_check_amount) := ⟨rfl, rfl, rfl, by decide +kernel, rfl, by decide +kernel, by decide +kernel⟩
abbrev s_check_weights : Stmt := topS 12
abbrev N_check_weights : List Str := ["weights", "amount", "weight"]
theorem sc_check_weights : FnScope N_check_weights ["weights", "amount"] (defScope s_check_weights) := ⟨rfl, rfl, rfl, by decide +kernel, rfl, by decide +kernel, by decide +kernel⟩
abbrev s_split : Stmt := topS 13
abbrev N_split : List Str := ["amount", "weights", "total", "parts", "weight", "_"]
theorem sc_split : FnScope N_split ["amount", "weights"] (defScope s_split) := ⟨rfl, rfl, rfl, by decide +kernel, rfl, by decide +kernel, by decide +kernel⟩
abbrev s_greatest_quotient : Stmt := topS 14
abbrev N_greatest_quotient : List Str := ["weights", "parts", "best", "at"]
theorem sc_greatest_quotient : FnScope N_greatest_quotient ["weights", "parts"] (defScope s_greatest_quotient) := ⟨rfl, rfl, rfl, by decide +kernel, rfl, by decide +kernel, by decide +kernel⟩
abbrev s_bear : Stmt := topS 17
abbrev N_bear : List Str := ["loss", "tiers", "sizes", "borne", "left", "parts"]
theorem sc_bear : FnScope N_bear ["loss", "tiers"] (defScope s_bear) := ⟨rfl, rfl, rfl, by decide +kernel, rfl, by decide +kernel, by decide +kernel⟩
abbrev s_parts : Stmt := topS 18
abbrev N_parts : List Str := ["loss", "sizes"]
theorem sc_parts : FnScope N_parts ["loss", "sizes"] (defScope s_parts) := ⟨rfl, rfl, rfl, by decide +kernel, rfl, by decide +kernel, by decide +kernel⟩
abbrev s_check_sizes : Stmt := topS 19
abbrev N_check_sizes : List Str := ["sizes", "size"]
theorem sc_check_sizes : FnScope N_check_sizes ["sizes"] (defScope s_check_sizes) := ⟨rfl, rfl, rfl, by decide +kernel, rfl, by decide +kernel, by decide +kernel⟩
abbrev s_law_cell : Stmt := topS 21
abbrev N_law_cell : List Str := ["script", "k"]
theorem sc_law_cell : FnScope N_law_cell ["script", "k"] (defScope s_law_cell) := ⟨rfl, rfl, rfl, by decide +kernel, rfl, by decide +kernel, by decide +kernel⟩
abbrev s_law_draws : Stmt := topS 22
abbrev N_law_draws : List Str := ["cell", "count", "size", "draws", "rest", "k"]
theorem sc_law_draws : FnScope N_law_draws ["cell", "count", "size"] (defScope s_law_draws) := ⟨rfl, rfl, rfl, by decide +kernel, rfl, by decide +kernel, by decide +kernel⟩
abbrev s_law_is_integer : Stmt := topS 23
abbrev N_law_is_integer : List Str := ["actual"]
theorem sc_law_is_integer : FnScope N_law_is_integer ["actual"] (defScope s_law_is_integer) := ⟨rfl, rfl, rfl, by decide +kernel, rfl, by decide +kernel, by decide +kernel⟩
abbrev s_law_integers : Stmt := topS 24
abbrev N_law_integers : List Str := ["actual", "count", "part"]
theorem sc_law_integers : FnScope N_law_integers ["actual", "count"] (defScope s_law_integers) := ⟨rfl, rfl, rfl, by decide +kernel, rfl, by decide +kernel, by decide +kernel⟩
abbrev s_law_tiers : Stmt := topS 25
abbrev N_law_tiers : List Str := ["script", "tiers", "k", "count", "size"]
theorem sc_law_tiers : FnScope N_law_tiers ["script"] (defScope s_law_tiers) := ⟨rfl, rfl, rfl, by decide +kernel, rfl, by decide +kernel, by decide +kernel⟩
abbrev s_law_loss : Stmt := topS 26
abbrev N_law_loss : List Str := ["cell", "tiers", "most", "sizes"]
theorem sc_law_loss : FnScope N_law_loss ["cell", "tiers"] (defScope s_law_loss) := ⟨rfl, rfl, rfl, by decide +kernel, rfl, by decide +kernel, by decide +kernel⟩
abbrev s_law_borne : Stmt := topS 27
abbrev N_law_borne : List Str := ["actual", "tiers", "k", "at"]
theorem sc_law_borne : FnScope N_law_borne ["actual", "tiers"] (defScope s_law_borne) := ⟨rfl, rfl, rfl, by decide +kernel, rfl, by decide +kernel, by decide +kernel⟩
abbrev s_law : Stmt := topS 28
abbrev N_law : List Str := ["script", "tiers", "first", "one", "sizes", "rest", "k", "at", "most", "second", "two", "both"]
theorem sc_law : FnScope N_law ["script"] (defScope s_law) := ⟨rfl, rfl, rfl, by decide +kernel, rfl, by decide +kernel, by decide +kernel⟩
set_option maxHeartbeats 0 in
structure Txt (K : PySem.W.Frag) (mg : Str → Option Value) where
  f_is_integral : Addr
  d_is_integral : FuncData
  F_is_integral : Fun K "is_integral" "is_integral" s_is_integral f_is_integral d_is_integral
  m_is_integral : mg "is_integral" = some (.ref f_is_integral)
  b_is_integral : Binds K d_is_integral ["value"] []
  f_is_within : Addr
  d_is_within : FuncData
  F_is_within : Fun K "is_within" "is_within" s_is_within f_is_within d_is_within
  m_is_within : mg "is_within" = some (.ref f_is_within)
  b_is_within : Binds K d_is_within ["least", "most", "value"] []
  f_check_amount : Addr
  d_check_amount : FuncData
  F_check_amount : Fun K "_check_amount" "_check_amount" s_check_amount f_check_amount d_check_amount
  m_check_amount : mg "_check_amount" = some (.ref f_check_amount)
  b_check_amount : Binds K d_check_amount ["amount", "most"] []
  f_check_weights : Addr
  d_check_weights : FuncData
  F_check_weights : Fun K "_check_weights" "_check_weights" s_check_weights f_check_weights d_check_weights
  m_check_weights : mg "_check_weights" = some (.ref f_check_weights)
  b_check_weights : Binds K d_check_weights ["weights", "amount"] []
  f_split : Addr
  d_split : FuncData
  F_split : Fun K "split" "split" s_split f_split d_split
  m_split : mg "split" = some (.ref f_split)
  b_split : Binds K d_split ["amount", "weights"] []
  f_greatest_quotient : Addr
  d_greatest_quotient : FuncData
  F_greatest_quotient : Fun K "_greatest_quotient" "_greatest_quotient" s_greatest_quotient f_greatest_quotient d_greatest_quotient
  m_greatest_quotient : mg "_greatest_quotient" = some (.ref f_greatest_quotient)
  b_greatest_quotient : Binds K d_greatest_quotient ["weights", "parts"] []
  f_bear : Addr
  d_bear : FuncData
  F_bear : Fun K "bear" "bear" s_bear f_bear d_bear
  m_bear : mg "bear" = some (.ref f_bear)
  b_bear : Binds K d_bear ["loss", "tiers"] []
  f_parts : Addr
  d_parts : FuncData
  F_parts : Fun K "_parts" "_parts" s_parts f_parts d_parts
  m_parts : mg "_parts" = some (.ref f_parts)
  b_parts : Binds K d_parts ["loss", "sizes"] []
  f_check_sizes : Addr
  d_check_sizes : FuncData
  F_check_sizes : Fun K "_check_sizes" "_check_sizes" s_check_sizes f_check_sizes d_check_sizes
  m_check_sizes : mg "_check_sizes" = some (.ref f_check_sizes)
  b_check_sizes : Binds K d_check_sizes ["sizes"] []
  f_law_cell : Addr
  d_law_cell : FuncData
  F_law_cell : Fun K "_law_cell" "_law_cell" s_law_cell f_law_cell d_law_cell
  m_law_cell : mg "_law_cell" = some (.ref f_law_cell)
  b_law_cell : Binds K d_law_cell ["script", "k"] []
  f_law_draws : Addr
  d_law_draws : FuncData
  F_law_draws : Fun K "_law_draws" "_law_draws" s_law_draws f_law_draws d_law_draws
  m_law_draws : mg "_law_draws" = some (.ref f_law_draws)
  b_law_draws : Binds K d_law_draws ["cell", "count", "size"] []
  f_law_is_integer : Addr
  d_law_is_integer : FuncData
  F_law_is_integer : Fun K "_law_is_integer" "_law_is_integer" s_law_is_integer f_law_is_integer d_law_is_integer
  m_law_is_integer : mg "_law_is_integer" = some (.ref f_law_is_integer)
  b_law_is_integer : Binds K d_law_is_integer ["actual"] []
  f_law_integers : Addr
  d_law_integers : FuncData
  F_law_integers : Fun K "_law_integers" "_law_integers" s_law_integers f_law_integers d_law_integers
  m_law_integers : mg "_law_integers" = some (.ref f_law_integers)
  b_law_integers : Binds K d_law_integers ["actual", "count"] []
  f_law_tiers : Addr
  d_law_tiers : FuncData
  F_law_tiers : Fun K "_law_tiers" "_law_tiers" s_law_tiers f_law_tiers d_law_tiers
  m_law_tiers : mg "_law_tiers" = some (.ref f_law_tiers)
  b_law_tiers : Binds K d_law_tiers ["script"] []
  f_law_loss : Addr
  d_law_loss : FuncData
  F_law_loss : Fun K "_law_loss" "_law_loss" s_law_loss f_law_loss d_law_loss
  m_law_loss : mg "_law_loss" = some (.ref f_law_loss)
  b_law_loss : Binds K d_law_loss ["cell", "tiers"] []
  f_law_borne : Addr
  d_law_borne : FuncData
  F_law_borne : Fun K "_law_borne" "_law_borne" s_law_borne f_law_borne d_law_borne
  m_law_borne : mg "_law_borne" = some (.ref f_law_borne)
  b_law_borne : Binds K d_law_borne ["actual", "tiers"] []
  c_BourseError : Addr
  m_BourseError : mg "BourseError" = some (.ref c_BourseError)
  c_InvalidAmount : Addr
  m_InvalidAmount : mg "InvalidAmount" = some (.ref c_InvalidAmount)
  c_InvalidWeights : Addr
  m_InvalidWeights : mg "InvalidWeights" = some (.ref c_InvalidWeights)
  z_abs : mg "abs" = none
  z_all : mg "all" = none
  z_bool : mg "bool" = none
  z_int : mg "int" = none
  z_isinstance : mg "isinstance" = none
  z_len : mg "len" = none
  z_list : mg "list" = none
  z_min : mg "min" = none
  z_range : mg "range" = none
  z_sum : mg "sum" = none
  z_tuple : mg "tuple" = none
  t_MOST_AMOUNT : Tok
  m_MOST_AMOUNT : mg "MOST_AMOUNT" = some (.int 1000000000000000000 t_MOST_AMOUNT)
  t_MOST_WEIGHTS : Tok
  m_MOST_WEIGHTS : mg "MOST_WEIGHTS" = some (.int 40 t_MOST_WEIGHTS)
  t_MOST_WEIGHT : Tok
  m_MOST_WEIGHT : mg "MOST_WEIGHT" = some (.int 1000000000000000 t_MOST_WEIGHT)
  t_MOST_SIZE : Tok
  m_MOST_SIZE : mg "MOST_SIZE" = some (.int 1000000000000000 t_MOST_SIZE)
/-! own short words -/
theorem iteD {p A B : Prop} [Decidable p] (h1 : p → A) (h2 : ¬ p → B) : if decide p = true then A else B := by
  by_cases h : p
  · rw [decide_eq_true h, if_pos rfl]; exact h1 h
  · rw [decide_eq_false h, if_neg Bool.false_ne_true]; exact h2 h
theorem iteDN {p A B : Prop} [Decidable p] (h1 : ¬ p → A) (h2 : p → B) : if (!decide p) = true then A else B := by
  by_cases h : p
  · rw [decide_eq_true h]; exact iteF (h2 h)
  · rw [decide_eq_false h]; exact iteT (h1 h)
theorem len_le {n : Nat} (h : Nat.ble n 1000 = true) : n ≤ sizeLine := Nat.le_trans (Nat.le_of_ble_eq_true h) (by decide)
theorem iteB {b : Bool} {A B : Prop} (h1 : b = true → A) (h2 : b = false → B) : if b = true then A else B := by
  cases b with
  | true => exact iteT (h1 rfl)
  | false => exact iteF (h2 rfl)
theorem cmul_l {i j : Int} (h : -(2 ^ 64) < i) (h' : i < 2 ^ 64) : CMul i j := .inl ⟨h, h'⟩
theorem cmul_r {i j : Int} (h : -(2 ^ 64) < j) (h' : j < 2 ^ 64) : CMul i j := .inr ⟨h, h'⟩
theorem dec_t {p : Prop} [Decidable p] (h : decide p = true) : p := of_decide_eq_true h
theorem dec_f {p : Prop} [Decidable p] (h : decide p = false) : ¬ p := of_decide_eq_false h
theorem ndec_t {p : Prop} [Decidable p] (h : (!decide p) = true) : ¬ p := fun q => by rw [decide_eq_true q] at h; cases h
theorem ndec_f {p : Prop} [Decidable p] (h : (!decide p) = false) : p := by
  by_cases q : p
  · exact q
  · rw [decide_eq_false q] at h; cases h
theorem fld_lt {n : Nat} (h : Nat.ble (n + 1) 1000 = true) : n < 1000 := Nat.le_of_ble_eq_true h
def rLen (K : PySem.W.Frag) : List V → Hp → VK → Prop := fun xs H Q => ∃ p ys, xs = [.ref p] ∧ (SqL K H p ys ∨ SqT K H p ys) ∧ Q (.int ys.length) H
def rListOf (K : PySem.W.Frag) : List V → Hp → VK → Prop := fun xs H Q => ∃ p ys, xs = [.ref p] ∧ (SqL K H p ys ∨ SqT K H p ys) ∧ ∀ l, H l = none → Q (.ref l) (upd H l (.lst ys))
def rTupleOf (K : PySem.W.Frag) : List V → Hp → VK → Prop := fun xs H Q => ∃ p ys, xs = [.ref p] ∧ ((SqL K H p ys ∧ ∀ l, H l = none → Q (.ref l) (upd H l (.tup ys))) ∨ (SqT K H p ys ∧ Q (.ref p) H))
theorem len0 : ([] : List V).length ≤ sizeLine := len_le rfl
theorem len1 {a : V} : [a].length ≤ sizeLine := len_le rfl
theorem len2 {a b : V} : [a, b].length ≤ sizeLine := len_le rfl
theorem len3 {a b c : V} : [a, b, c].length ≤ sizeLine := len_le rfl
theorem len4 {a b c d : V} : [a, b, c, d].length ≤ sizeLine := len_le rfl
theorem len5 {a b c d e : V} : [a, b, c, d, e].length ≤ sizeLine := len_le rfl
local macro_rules | `(tactic| walk_at "st") => `(tactic| repeat (first
  | (apply Exists.intro (α := V))
  | (apply Exists.intro (α := Int))
  | (apply Exists.intro (α := Bool))
  | (apply Exists.intro (α := Addr))
  | (apply Exists.intro (α := List V))
  | (apply Exists.intro (α := List Int))
  | (apply Exists.intro (α := List (Str × V)))
  | (apply Exists.intro (α := Str))
  | (apply And.intro; focus (first | omega | (dsimp only; omega) | (simp only [List.length_map, List.length_replicate]; omega) | exact rfl | assumption | exact SqL.of (by assumption) | exact Or.inl (by assumption) | exact Or.inr (by assumption) | exact Or.inr (SqT.of (by assumption)) | exact Or.inl (Or.inl upd_same) | exact Or.inl (Or.inl (Or.inl upd_same)) | (with_reducible exact len0) | (with_reducible exact len1) | (with_reducible exact len2) | (with_reducible exact len3) | (with_reducible exact len4) | (with_reducible exact len5) | exact upd_same | exact ⟨_, Or.inl (Or.inl upd_same)⟩ | exact ⟨_, SqL.of (by assumption)⟩ | exact ⟨_, by assumption⟩ | exact Or.inl ⟨rfl, _, SqL.of (by assumption)⟩ | exact Or.inl ⟨rfl, _, SqL.of upd_same⟩ | exact cmul_l (by omega) (by omega) | exact cmul_r (by omega) (by omega) | exact ⟨by omega, by omega⟩ | (simp only [List.length_map, List.length_replicate]; omega) | exact Or.inl (SqL.of (by assumption)) | exact SqT.of (by assumption) | exact fld_lt rfl | exact Or.inl ⟨_, by assumption, rfl⟩))))
/-- the script's cell at j, 0 where there is none -/
def cellOf (ns : List Int) (j : Nat) : Int := ns.getD j 0
theorem atI_ints {ns : List Int} {j : Nat} (h : j < ns.length) : atI (ns.map V.int) (j : Int) = some (.int (cellOf ns j)) := by
  refine at_of (j := j) rfl ?_
  rw [List.getElem?_map, List.getElem?_eq_getElem h]
  unfold cellOf
  rw [List.getD_eq_getElem?_getD, List.getElem?_eq_getElem h]
  rfl
theorem cellOf_out {ns : List Int} {j : Nat} (h : ¬ j < ns.length) : cellOf ns j = 0 := by
  unfold cellOf
  rw [List.getD_eq_getElem?_getD, List.getElem?_eq_none (by omega)]
  rfl
theorem same_upd {H : Hp} {p : Addr} {o : HO} (h : H p = none) : Same H (upd H p o) := fun b x e => by
  rw [upd_ne (ne_of_none e h)]
  exact e
/-- a slice of a list of ints -/
def cutI (ns : List Int) (lo hi : Option Int) : List Int := (ns.drop (HT.sIx ns.length 0 lo)).take (HT.sIx ns.length ns.length hi - HT.sIx ns.length 0 lo)
theorem cutV_ints (ns : List Int) (lo hi : Option Int) : cutV (ns.map V.int) lo hi = (cutI ns lo hi).map V.int := by
  unfold cutV cutI
  rw [List.length_map, List.map_take, List.map_drop]
theorem cutI_len (ns : List Int) (lo hi : Option Int) : (cutI ns lo hi).length ≤ ns.length := by
  unfold cutI
  rw [List.length_take, List.length_drop]
  omega
theorem ints_at {ns : List Int} {i : Nat} {x : V} (h : (ns.map V.int)[i]? = some x) : ∃ z, ns[i]? = some z ∧ x = V.int z := by
  rw [List.getElem?_map] at h
  cases e : ns[i]? with
  | none => rw [e] at h; cases h
  | some z => rw [e] at h; exact ⟨z, rfl, (Option.some.inj h).symm⟩
theorem take_succ {α : Type} {xs : List α} {i : Nat} {x : α} (h : xs[i]? = some x) : xs.take (i + 1) = xs.take i ++ [x] := by
  rw [List.take_add_one, h]
  rfl
theorem sum_le_mul : ∀ (ws : List Int) (b : Int), (∀ w, w ∈ ws → w ≤ b) → ws.sum ≤ (ws.length : Int) * b
  | [], b, _ => by show (0 : Int) ≤ ((0 : Nat) : Int) * b; omega
  | w :: ws, b, h => by
    rw [List.sum_cons, List.length_cons, Int.natCast_add, Int.add_mul]
    have h1 := h w List.mem_cons_self
    have h2 := sum_le_mul ws b fun x hx => h x (List.mem_cons_of_mem _ hx)
    omega
theorem ixN_nat {n j : Nat} (h : j < n) : ixN n (j : Int) = some j := by
  unfold ixN
  rw [if_pos (by omega), if_pos (by omega), Int.toNat_natCast]
theorem call_int_i {X : Cx} : CallR X (.type "int") (fun xs H Q => ∃ i : Int, xs = [.int i] ∧ Q (.int i) H) := by
  intro pins s σ H xs us Q I r h
  obtain ⟨i, e, q⟩ := h
  exact call_int1 pins s σ H xs us Q I r (.inl ⟨i, e, q⟩)
theorem dpAll_ints {K : PySem.W.Frag} {H : Hp} : ∀ xs : List Int, DpAll K H (xs.map V.int) (xs.map PyData.int)
  | [] => .nil
  | x :: xs => .cons (.int x) (dpAll_ints xs)
theorem eqvAll_ints : ∀ xs ys : List Int, PyData.eqvAll (xs.map PyData.int) (ys.map PyData.int) = decide (xs = ys)
  | [], [] => by simp [PyData.eqvAll]
  | [], _ :: _ => by simp [PyData.eqvAll]
  | _ :: _, [] => by simp [PyData.eqvAll]
  | x :: xs, y :: ys => by
    rw [List.map_cons, List.map_cons]
    simp only [PyData.eqvAll, PyData.eqv]
    rw [eqvAll_ints xs ys]
    by_cases h : x = y <;> by_cases h2 : xs = ys <;> simp [h, h2]
theorem lay_ints : ∀ xs : List Int, PyData.canLayAll0 (xs.map PyData.int) = true
  | [] => rfl
  | x :: xs => by
    rw [List.map_cons]
    simp only [PyData.canLayAll0, PyData.canLay0, Bool.true_and]
    exact lay_ints xs
theorem depth_ints : ∀ xs : List Int, PyData.depthAll (xs.map PyData.int) = 0
  | [] => rfl
  | x :: xs => by
    rw [List.map_cons]
    simp only [PyData.depthAll, PyData.depth, depth_ints xs]
    rfl
theorem shaped_ints (xs : List Int) : SeqAt.shaped (.list (xs.map PyData.int)) = true := by
  unfold SeqAt.shaped
  simp only [PyData.canLay0, PyData.depth, lay_ints, depth_ints]
  rfl
theorem eqD_ints {K : PySem.W.Frag} {H : Hp} {a b : Addr} {xs ys : List Int} {Q : VK} (h1 : SqL K H a (xs.map V.int)) (h2 : SqL K H b (ys.map V.int)) (q : Q (.bl (decide (xs = ys))) H) : rEqD K (.ref a) (.ref b) H Q :=
  ⟨_, _, .lst h1 (dpAll_ints xs), .lst h2 (dpAll_ints ys), shaped_ints xs, shaped_ints ys, by rw [show PyData.eqv (.list (xs.map PyData.int)) (.list (ys.map PyData.int)) = decide (xs = ys) by simp only [PyData.eqv, eqvAll_ints]]; exact q⟩
theorem neD_ints {K : PySem.W.Frag} {H : Hp} {a b : Addr} {xs ys : List Int} {Q : VK} (h1 : SqL K H a (xs.map V.int)) (h2 : SqL K H b (ys.map V.int)) (q : Q (.bl (!decide (xs = ys))) H) : rNeD K (.ref a) (.ref b) H Q :=
  ⟨_, _, .lst h1 (dpAll_ints xs), .lst h2 (dpAll_ints ys), shaped_ints xs, shaped_ints ys, by rw [show PyData.eqv (.list (xs.map PyData.int)) (.list (ys.map PyData.int)) = decide (xs = ys) by simp only [PyData.eqv, eqvAll_ints]]; exact q⟩

theorem pget_list {X : Cx} : PGet X (fun x y H Q => ∃ (p : Addr) (xs : List V) (j : Nat) (z : V), x = .ref p ∧ y = .int (j : Int) ∧ SqL X.K H p xs ∧ xs[j]? = some z ∧ Q z H) := by
  intro pins s σ H x y v u Q I rx ry h
  obtain ⟨p, xs, j, z, rfl, rfl, hq, he, q⟩ := h
  cases rx
  obtain ⟨t, rfl⟩ := ry
  obtain ⟨its, r, pl, hz⟩ := I.list hq
  obtain ⟨w, ew, rw'⟩ := r.get he
  have hl := r.length
  have hn := line63
  have hj := (List.getElem?_eq_some_iff.mp he).1
  exact wpAny_getItem_list pl.isList (by omega) (by omega) (by simpa using ew) ⟨z, H, I, rw', q⟩

/-! the mathematics of split: the greatest quotient, steps, what makes a division the one it is -/
def at0 (ws : List Int) (i : Nat) : Int := ws.getD i 0
theorem at0_lt {ws : List Int} {i : Nat} (h : i < ws.length) : ws[i]? = some (at0 ws i) := by
  unfold at0
  rw [List.getD_eq_getElem?_getD, List.getElem?_eq_getElem h]
  rfl
theorem atI_n {ws : List Int} {j : Nat} (h : j < ws.length) : atI (ws.map V.int) (j : Int) = some (.int (at0 ws j)) := by
  refine at_of (j := j) rfl ?_
  rw [List.getElem?_map, at0_lt h]
  rfl
theorem at0_of {ws : List Int} {i : Nat} {x : Int} (h : ws[i]? = some x) : at0 ws i = x := by
  unfold at0
  rw [List.getD_eq_getElem?_getD, h]
  rfl
theorem at0_out {ws : List Int} {i : Nat} (h : ws.length ≤ i) : at0 ws i = 0 := by
  unfold at0
  rw [List.getD_eq_getElem?_getD, List.getElem?_eq_none h]
  rfl
theorem at0_ext {xs ys : List Int} (hl : xs.length = ys.length) (h : ∀ i, i < xs.length → at0 xs i = at0 ys i) : xs = ys := by
  refine List.ext_getElem? fun i => ?_
  by_cases hi : i < xs.length
  · rw [at0_lt hi, at0_lt (by omega), h i hi]
  · rw [List.getElem?_eq_none (by omega), List.getElem?_eq_none (by omega)]
theorem at0_set {ps : List Int} {k i : Nat} {x : Int} (hk : k < ps.length) : at0 (ps.set k x) i = if i = k then x else at0 ps i := by
  by_cases h : i = k
  · subst h
    rw [if_pos rfl]
    exact at0_of (List.getElem?_set_self hk)
  · rw [if_neg h]
    unfold at0
    rw [List.getD_eq_getElem?_getD, List.getD_eq_getElem?_getD, List.getElem?_set_ne (fun e => h e.symm)]
theorem at0_nonneg {ws : List Int} (h : ∀ w, w ∈ ws → 0 ≤ w) (i : Nat) : 0 ≤ at0 ws i := by
  by_cases hi : i < ws.length
  · exact h _ (List.mem_of_getElem? (at0_lt hi))
  · rw [at0_out (by omega)]; exact Int.le_refl 0

/-- one cent more at k -/
def bump (ps : List Int) (k : Nat) : List Int := ps.set k (at0 ps k + 1)
theorem bump_len (ps : List Int) (k : Nat) : (bump ps k).length = ps.length := List.length_set
theorem at0_bump {ps : List Int} {k i : Nat} (hk : k < ps.length) : at0 (bump ps k) i = if i = k then at0 ps k + 1 else at0 ps i := at0_set hk
theorem sum_set1 : ∀ (ps : List Int) (k : Nat) (x : Int), k < ps.length → (ps.set k x).sum = ps.sum + (x - at0 ps k)
  | [], _, _, h => absurd h (Nat.not_lt_zero _)
  | p :: ps, 0, x, _ => by
    show (x :: ps).sum = (p :: ps).sum + (x - p)
    rw [List.sum_cons, List.sum_cons]
    omega
  | p :: ps, k + 1, x, h => by
    show (p :: ps.set k x).sum = (p :: ps).sum + (x - at0 ps k)
    rw [List.sum_cons, List.sum_cons, sum_set1 ps k x (Nat.lt_of_succ_lt_succ h)]
    omega
theorem bump_sum {ps : List Int} {k : Nat} (h : k < ps.length) : (bump ps k).sum = ps.sum + 1 := by
  unfold bump
  rw [sum_set1 ps k _ h]
  omega
/-- the index with the greatest quotient among the first m -/
def gq (ws ps : List Int) : Nat → Nat
  | 0 => 0
  | m + 1 => if at0 ws (gq ws ps m) * (at0 ps m + 1) < at0 ws m * (at0 ps (gq ws ps m) + 1) then m else gq ws ps m
theorem gq_one (ws ps : List Int) : gq ws ps 1 = 0 := by
  show (if at0 ws 0 * (at0 ps 0 + 1) < at0 ws 0 * (at0 ps 0 + 1) then 0 else 0) = 0
  split <;> rfl
theorem gq_lt (ws ps : List Int) : ∀ m, 0 < m → gq ws ps m < m
  | 0, h => absurd h (Nat.lt_irrefl _)
  | 1, _ => by rw [gq_one]; exact Nat.one_pos
  | m + 2, _ => by
    have ih := gq_lt ws ps (m + 1) (Nat.succ_pos _)
    unfold gq
    split
    · exact Nat.lt_succ_self _
    · exact Nat.lt_succ_of_lt ih
theorem ratio_lt {a A b B c C : Int} (hA : 0 < A) (hB : 0 < B) (hC : 0 < C) (h1 : b * A < a * B) (h2 : c * B ≤ b * C) : c * A < a * C := by
  have e1 : b * A * C < a * B * C := Int.mul_lt_mul_of_pos_right h1 hC
  have e2 : c * B * A ≤ b * C * A := Int.mul_le_mul_of_nonneg_right h2 (by omega)
  have e3 : c * A * B < a * C * B := by grind
  exact Int.lt_of_mul_lt_mul_right e3 (by omega)
theorem ratio_le {a A b B c C : Int} (hA : 0 < A) (hB : 0 < B) (hC : 0 < C) (h1 : b * A ≤ a * B) (h2 : c * B < b * C) : c * A < a * C := by
  have e1 : b * A * C ≤ a * B * C := Int.mul_le_mul_of_nonneg_right h1 (by omega)
  have e2 : c * B * A < b * C * A := Int.mul_lt_mul_of_pos_right h2 hA
  have e3 : c * A * B < a * C * B := by grind
  exact Int.lt_of_mul_lt_mul_right e3 (by omega)
/-- (i, a) goes ahead of (k, b) -/
def Ahead (ws : List Int) (i : Nat) (a : Int) (k : Nat) (b : Int) : Prop := at0 ws k * a < at0 ws i * b ∨ (at0 ws k * a = at0 ws i * b ∧ i ≤ k)
theorem Ahead.le {ws : List Int} {i k : Nat} {a b : Int} (h : Ahead ws i a k b) : at0 ws k * a ≤ at0 ws i * b := by
  rcases h with h | ⟨h, _⟩
  · omega
  · omega
theorem gq_best {ws ps : List Int} (hp : ∀ i, 0 ≤ at0 ps i) : ∀ m k, k < m → Ahead ws (gq ws ps m) (at0 ps (gq ws ps m) + 1) k (at0 ps k + 1)
  | 0, k, h => absurd h (Nat.not_lt_zero _)
  | m + 1, k, h => by
    have hb := hp (gq ws ps m)
    have hm := hp m
    have hk := hp k
    by_cases e : at0 ws (gq ws ps m) * (at0 ps m + 1) < at0 ws m * (at0 ps (gq ws ps m) + 1)
    · have eg : gq ws ps (m + 1) = m := by
        show (if _ then _ else _) = _
        rw [if_pos e]
      rw [eg]
      by_cases hkm : k = m
      · subst hkm
        exact .inr ⟨rfl, Nat.le_refl _⟩
      · have ih := (gq_best (ws := ws) hp m k (by omega)).le
        exact .inl (ratio_lt (by omega) (by omega) (by omega) e ih)
    · have eg : gq ws ps (m + 1) = gq ws ps m := by
        show (if _ then _ else _) = _
        rw [if_neg e]
      rw [eg]
      by_cases hkm : k = m
      · subst hkm
        by_cases e2 : at0 ws k * (at0 ps (gq ws ps k) + 1) = at0 ws (gq ws ps k) * (at0 ps k + 1)
        · refine .inr ⟨e2, ?_⟩
          by_cases h0 : 0 < k
          · exact Nat.le_of_lt (gq_lt ws ps k h0)
          · have : k = 0 := by omega
            subst this
            exact Nat.le_refl _
        · exact .inl (by omega)
      · exact gq_best hp m k (by omega)
/-- n steps -/
def steps (ws : List Int) : Nat → List Int → List Int
  | 0, ps => ps
  | n + 1, ps => bump (steps ws n ps) (gq ws (steps ws n ps) ws.length)
def floors (amount total : Int) (ws : List Int) : List Int := ws.map fun w => amount * w / total
def splitOf (amount : Int) (ws : List Int) : List Int :=
  if ws.sum = 0 then ws.map fun _ => 0 else steps ws (amount - (floors amount ws.sum ws).sum).toNat (floors amount ws.sum ws)
theorem steps_len (ws : List Int) : ∀ n ps, (steps ws n ps).length = ps.length
  | 0, _ => rfl
  | n + 1, ps => by
    show (bump _ _).length = _
    rw [bump_len, steps_len ws n ps]
theorem floors_len (amount total : Int) (ws : List Int) : (floors amount total ws).length = ws.length := List.length_map ..
theorem splitOf_len (amount : Int) (ws : List Int) : (splitOf amount ws).length = ws.length := by
  unfold splitOf
  split
  · exact List.length_map ..
  · rw [steps_len, floors_len]
theorem at0_floors {amount total : Int} {ws : List Int} {i : Nat} (h : i < ws.length) : at0 (floors amount total ws) i = amount * at0 ws i / total := by
  refine at0_of ?_
  unfold floors
  rw [List.getElem?_map, at0_lt h]
  rfl
theorem sum_nonneg : ∀ (ws : List Int), (∀ w, w ∈ ws → 0 ≤ w) → 0 ≤ ws.sum
  | [], _ => Int.le_refl _
  | w :: ws, h => by
    rw [List.sum_cons]
    have h1 := h w List.mem_cons_self
    have h2 := sum_nonneg ws fun x hx => h x (List.mem_cons_of_mem _ hx)
    omega
theorem at0_le_sum : ∀ (ws : List Int) (i : Nat), (∀ w, w ∈ ws → 0 ≤ w) → at0 ws i ≤ ws.sum
  | [], i, _ => by rw [at0_out (Nat.zero_le _)]; exact Int.le_refl _
  | w :: ws, 0, h => by
    show w ≤ (w :: ws).sum
    rw [List.sum_cons]
    have h2 := sum_nonneg ws fun x hx => h x (List.mem_cons_of_mem _ hx)
    omega
  | w :: ws, i + 1, h => by
    show at0 ws i ≤ (w :: ws).sum
    rw [List.sum_cons]
    have h1 := h w List.mem_cons_self
    have h2 := at0_le_sum ws i fun x hx => h x (List.mem_cons_of_mem _ hx)
    omega
theorem floors_mul_le (amount total : Int) (ht : 0 < total) : ∀ ws : List Int, (floors amount total ws).sum * total ≤ amount * ws.sum
  | [] => by show (0 : Int) * total ≤ amount * 0; omega
  | w :: ws => by
    show ((amount * w / total) :: floors amount total ws).sum * total ≤ amount * (w :: ws).sum
    rw [List.sum_cons, List.sum_cons, Int.add_mul, Int.mul_add]
    have h1 := floors_mul_le amount total ht ws
    have h2 := Int.ediv_mul_le (amount * w) (by omega : total ≠ 0)
    omega
theorem floors_le {amount : Int} {ws : List Int} (ht : 0 < ws.sum) : (floors amount ws.sum ws).sum ≤ amount := by
  have h := floors_mul_le amount ws.sum ht ws
  exact Int.le_of_mul_le_mul_right h ht
theorem floors_gt (amount total : Int) (ht : 0 < total) : ∀ ws : List Int, amount * ws.sum ≤ (floors amount total ws).sum * total + (ws.length : Int) * (total - 1)
  | [] => by show amount * 0 ≤ (0 : Int) * total + ((0 : Nat) : Int) * (total - 1); omega
  | w :: ws => by
    show amount * (w :: ws).sum ≤ ((amount * w / total) :: floors amount total ws).sum * total + ((ws.length + 1 : Nat) : Int) * (total - 1)
    rw [List.sum_cons, List.sum_cons, Int.add_mul, Int.mul_add]
    have h1 := floors_gt amount total ht ws
    have h2 := Int.lt_ediv_add_one_mul_self (amount * w) ht
    rw [Int.add_mul, Int.one_mul] at h2
    have h3 : ((ws.length + 1 : Nat) : Int) * (total - 1) = (ws.length : Int) * (total - 1) + (total - 1) := by
      rw [Int.natCast_add, Int.add_mul]
      omega
    omega
/-- fewer steps than weights -/
theorem floors_rest {amount : Int} {ws : List Int} (ht : 0 < ws.sum) : amount - (floors amount ws.sum ws).sum < ws.length := by
  have h := floors_gt amount ws.sum ht ws
  have h2 : (amount - (floors amount ws.sum ws).sum) * ws.sum ≤ (ws.length : Int) * (ws.sum - 1) := by
    rw [Int.sub_mul]
    omega
  by_cases hl : (ws.length : Int) = 0
  · have : ws = [] := by
      cases ws with
      | nil => rfl
      | cons x r => rw [List.length_cons] at hl; omega
    subst this
    exact absurd ht (by decide)
  · refine Int.lt_of_mul_lt_mul_right (Int.lt_of_le_of_lt h2 ?_) (Int.le_of_lt ht)
    rw [Int.mul_sub]
    omega
theorem floors_nonneg {amount total : Int} {ws : List Int} (ha : 0 ≤ amount) (ht : 0 < total) (hw : ∀ w, w ∈ ws → 0 ≤ w) : ∀ p, p ∈ floors amount total ws → 0 ≤ p := by
  intro p hp
  obtain ⟨w, hm, rfl⟩ := List.mem_map.mp hp
  exact Int.ediv_nonneg (Int.mul_nonneg ha (hw w hm)) (by omega)
theorem steps_ge {ws : List Int} (hl : 0 < ws.length) : ∀ n ps, ps.length = ws.length → ∀ i, at0 ps i ≤ at0 (steps ws n ps) i
  | 0, _, _, _ => Int.le_refl _
  | n + 1, ps, h, i => by
    have ih := steps_ge hl n ps h i
    have hk : gq ws (steps ws n ps) ws.length < (steps ws n ps).length := by rw [steps_len, h]; exact gq_lt _ _ _ hl
    show at0 ps i ≤ at0 (bump _ _) i
    rw [at0_bump hk]
    split
    · rename_i e
      rw [← e]
      omega
    · exact ih
theorem steps_sum {ws : List Int} (hl : 0 < ws.length) : ∀ n ps, ps.length = ws.length → (steps ws n ps).sum = ps.sum + n
  | 0, ps, _ => by show ps.sum = ps.sum + ((0 : Nat) : Int); omega
  | n + 1, ps, h => by
    have hk : gq ws (steps ws n ps) ws.length < (steps ws n ps).length := by rw [steps_len, h]; exact gq_lt _ _ _ hl
    show (bump _ _).sum = _
    rw [bump_sum hk, steps_sum hl n ps h]
    omega
theorem len_pos {ws : List Int} (h : 0 < ws.sum) : 0 < ws.length := by
  cases ws with
  | nil => exact absurd h (by decide)
  | cons x r => rw [List.length_cons]; exact Nat.succ_pos _
theorem splitOf_sum {amount : Int} {ws : List Int} (ht : 0 < ws.sum) : (splitOf amount ws).sum = amount := by
  unfold splitOf
  rw [if_neg (by omega), steps_sum (len_pos ht) _ _ (floors_len ..)]
  have := floors_le (amount := amount) ht
  omega
theorem splitOf_ge {amount : Int} {ws : List Int} (ht : 0 < ws.sum) {i : Nat} (hi : i < ws.length) : amount * at0 ws i / ws.sum ≤ at0 (splitOf amount ws) i := by
  unfold splitOf
  rw [if_neg (by omega)]
  have h := steps_ge (len_pos ht) (amount - (floors amount ws.sum ws).sum).toNat (floors amount ws.sum ws) (floors_len ..) i
  rw [at0_floors hi] at h
  exact h
theorem sum_lt_ex : ∀ (ps ws : List Int), ps.length = ws.length → ps.sum < ws.sum → ∃ i, i < ws.length ∧ at0 ps i < at0 ws i
  | [], [], _, h => absurd h (by decide)
  | p :: ps, w :: ws, hl, h => by
    rw [List.sum_cons, List.sum_cons] at h
    by_cases e : p < w
    · exact ⟨0, Nat.succ_pos _, e⟩
    · obtain ⟨i, h1, h2⟩ := sum_lt_ex ps ws (by simpa using hl) (by omega)
      exact ⟨i + 1, Nat.succ_lt_succ h1, h2⟩
  | [], _ :: _, hl, _ => by simp at hl
  | _ :: _, [], hl, _ => by simp at hl
/-- while there are fewer cents than weights in all, nobody gets more than his weight -/
theorem steps_le {ws : List Int} (hw : ∀ w, w ∈ ws → 0 ≤ w) (hl : 0 < ws.length) : ∀ (n : Nat) (ps : List Int), ps.length = ws.length → (∀ i, 0 ≤ at0 ps i) → (∀ i, i < ws.length → at0 ps i ≤ at0 ws i) → ps.sum + (n : Int) ≤ ws.sum → ∀ i, i < ws.length → at0 (steps ws n ps) i ≤ at0 ws i
  | 0, _, _, _, h, _, i, hi => h i hi
  | n + 1, ps, h, h0, h1, h2, i, hi => by
    have ih := steps_le hw hl n ps h h0 h1 (by omega)
    have hn : ∀ i, 0 ≤ at0 (steps ws n ps) i := fun i => Int.le_trans (h0 i) (steps_ge hl n ps h i)
    have hk : gq ws (steps ws n ps) ws.length < (steps ws n ps).length := by rw [steps_len, h]; exact gq_lt _ _ _ hl
    have hs := steps_sum hl n ps h
    obtain ⟨k, hk1, hk2⟩ := sum_lt_ex (steps ws n ps) ws (by rw [steps_len, h]) (by omega)
    have hb := (gq_best (ws := ws) hn ws.length k hk1).le
    show at0 (bump _ _) i ≤ _
    rw [at0_bump hk]
    split
    · rename_i e
      rw [e]
      generalize gq ws (steps ws n ps) ws.length = b at *
      generalize steps ws n ps = qs at *
      have hkn := hn k
      have hbn := hn b
      have h5 : (at0 qs k + 1) * (at0 qs b + 1) ≤ at0 ws k * (at0 qs b + 1) := Int.mul_le_mul_of_nonneg_right (by omega) (by omega)
      have h6 : (at0 qs b + 1) * (at0 qs k + 1) ≤ at0 ws b * (at0 qs k + 1) := by
        rw [Int.mul_comm (at0 qs b + 1)]
        exact Int.le_trans h5 hb
      exact Int.le_of_mul_le_mul_right h6 (by omega)
    · exact ih i hi
theorem splitOf_le {amount : Int} {ws : List Int} (ha : 0 ≤ amount) (hw : ∀ w, w ∈ ws → 0 ≤ w) (ht : 0 < ws.sum) (hle : amount ≤ ws.sum) {i : Nat} (hi : i < ws.length) : at0 (splitOf amount ws) i ≤ at0 ws i := by
  unfold splitOf
  rw [if_neg (by omega)]
  have hf := floors_le (amount := amount) ht
  refine steps_le hw (len_pos ht) _ _ (floors_len ..) (fun i => at0_nonneg (floors_nonneg ha ht hw) i) (fun i hi => ?_) (by omega) i hi
  rw [at0_floors hi]
  have hwi := at0_nonneg hw i
  refine Int.ediv_le_of_le_mul ht ?_
  rw [Int.mul_comm]
  exact Int.mul_le_mul_of_nonneg_left hle hwi

/-- how items of one kind are told as data; equal data are equal items -/
structure LayD {α : Type} [DecidableEq α] (L : α → PyData) (k : Nat) (G : α → Prop) : Prop where
  lay : ∀ x, G x → (L x).canLay0 = true
  dep : ∀ x, (L x).depth ≤ k
  eqv : ∀ x y, PyData.eqv (L x) (L y) = decide (x = y)
theorem LayD.shaped {α : Type} [DecidableEq α] {L : α → PyData} {k : Nat} {G : α → Prop} (h : LayD L k G) (hk : k ≤ 64) {x : α} (g : G x) : SeqAt.shaped (L x) = true := by
  have h1 := h.lay x g
  have h2 := h.dep x
  unfold SeqAt.shaped
  rw [h1, Bool.true_and]
  exact decide_eq_true (by omega)
theorem layD_int : LayD PyData.int 0 (fun _ => True) := ⟨fun _ _ => rfl, fun _ => Nat.le_refl _, fun x y => by simp only [PyData.eqv]; exact (Bool.beq_eq_decide_eq x y)⟩
theorem layD_str : LayD PyData.str 0 (fun x => PyData.strOk x = true) := ⟨fun _ h => by simp only [PyData.canLay0]; exact h, fun _ => Nat.le_refl _, fun x y => by simp only [PyData.eqv]; exact (Bool.beq_eq_decide_eq x y)⟩
theorem decide_and2 {p q r : Prop} [Decidable p] [Decidable q] [Decidable r] (h : r ↔ p ∧ q) : (decide p && decide q) = decide r := by
  by_cases hp : p <;> by_cases hq : q <;> simp [h, hp, hq]
theorem layD_all {α : Type} [DecidableEq α] {L : α → PyData} {k : Nat} {G : α → Prop} (h : LayD L k G) : (∀ xs : List α, (∀ x, x ∈ xs → G x) → PyData.canLayAll0 (xs.map L) = true) ∧ (∀ xs : List α, PyData.depthAll (xs.map L) ≤ k) ∧ ∀ xs ys : List α, PyData.eqvAll (xs.map L) (ys.map L) = decide (xs = ys) := by
  refine ⟨fun xs => ?_, fun xs => ?_, fun xs => ?_⟩
  · induction xs with
    | nil => exact fun _ => rfl
    | cons x xs ih =>
      intro g
      rw [List.map_cons]
      simp only [PyData.canLayAll0, ih fun y hy => g y (List.mem_cons_of_mem _ hy), h.lay x (g x List.mem_cons_self)]
      rfl
  · induction xs with
    | nil => exact Nat.zero_le _
    | cons x xs ih => rw [List.map_cons]; simp only [PyData.depthAll]; exact Nat.max_le.mpr ⟨h.dep x, ih⟩
  · induction xs with
    | nil =>
      intro ys
      cases ys with
      | nil => rfl
      | cons y ys => simp [PyData.eqvAll]
    | cons x xs ih =>
      intro ys
      cases ys with
      | nil => simp [PyData.eqvAll]
      | cons y ys =>
        rw [List.map_cons, List.map_cons]
        simp only [PyData.eqvAll]
        rw [ih ys, h.eqv x y]
        exact decide_and2 (by rw [List.cons.injEq])
theorem LayD.list {α : Type} [DecidableEq α] {L : α → PyData} {k : Nat} {G : α → Prop} (h : LayD L k G) : LayD (fun xs : List α => PyData.list (xs.map L)) (k + 1) (fun xs => ∀ x, x ∈ xs → G x) := by
  obtain ⟨h1, h2, h3⟩ := layD_all h
  refine ⟨fun xs g => ?_, fun xs => ?_, fun xs ys => ?_⟩
  · simp only [PyData.canLay0]; exact h1 xs g
  · simp only [PyData.depth]; exact Nat.succ_le_succ (h2 xs)
  · simp only [PyData.eqv]; exact h3 xs ys
theorem LayD.tup2 {α β : Type} [DecidableEq α] [DecidableEq β] {L : α → PyData} {M : β → PyData} {k : Nat} {G : α → Prop} {G2 : β → Prop} (h : LayD L k G) (g : LayD M k G2) : LayD (fun x : α × β => PyData.tuple [L x.1, M x.2]) (k + 1) (fun x => G x.1 ∧ G2 x.2) := by
  refine ⟨fun x a => ?_, fun x => ?_, fun x y => ?_⟩
  · simp only [PyData.canLay0, PyData.canLayAll0, h.lay _ a.1, g.lay _ a.2, Bool.and_true]
  · simp only [PyData.depth, PyData.depthAll]
    have := h.dep x.1
    have := g.dep x.2
    omega
  · simp only [PyData.eqv, PyData.eqvAll, h.eqv, g.eqv, Bool.and_true]
    exact decide_and2 (by rw [Prod.ext_iff])
theorem LayD.tup3 {α β γ : Type} [DecidableEq α] [DecidableEq β] [DecidableEq γ] {L : α → PyData} {M : β → PyData} {N : γ → PyData} {k : Nat} {G : α → Prop} {G2 : β → Prop} {G3 : γ → Prop} (h : LayD L k G) (g : LayD M k G2) (e : LayD N k G3) : LayD (fun x : α × β × γ => PyData.tuple [L x.1, M x.2.1, N x.2.2]) (k + 1) (fun x => G x.1 ∧ G2 x.2.1 ∧ G3 x.2.2) := by
  refine ⟨fun x a => ?_, fun x => ?_, fun x y => ?_⟩
  · simp only [PyData.canLay0, PyData.canLayAll0, h.lay _ a.1, g.lay _ a.2.1, e.lay _ a.2.2, Bool.and_true]
  · simp only [PyData.depth, PyData.depthAll]
    have := h.dep x.1
    have := g.dep x.2.1
    have := e.dep x.2.2
    omega
  · simp only [PyData.eqv, PyData.eqvAll, h.eqv, g.eqv, e.eqv, Bool.and_true]
    rw [decide_and2 (r := x.2 = y.2) (by rw [Prod.ext_iff])]
    exact decide_and2 (by rw [Prod.ext_iff])
theorem LayD.tup4 {α β γ δ : Type} [DecidableEq α] [DecidableEq β] [DecidableEq γ] [DecidableEq δ] {L : α → PyData} {M : β → PyData} {N : γ → PyData} {O : δ → PyData} {k : Nat} {G : α → Prop} {G2 : β → Prop} {G3 : γ → Prop} {G4 : δ → Prop} (h : LayD L k G) (g : LayD M k G2) (e : LayD N k G3) (d : LayD O k G4) : LayD (fun x : α × β × γ × δ => PyData.tuple [L x.1, M x.2.1, N x.2.2.1, O x.2.2.2]) (k + 1) (fun x => G x.1 ∧ G2 x.2.1 ∧ G3 x.2.2.1 ∧ G4 x.2.2.2) := by
  refine ⟨fun x a => ?_, fun x => ?_, fun x y => ?_⟩
  · simp only [PyData.canLay0, PyData.canLayAll0, h.lay _ a.1, g.lay _ a.2.1, e.lay _ a.2.2.1, d.lay _ a.2.2.2, Bool.and_true]
  · simp only [PyData.depth, PyData.depthAll]
    have := h.dep x.1
    have := g.dep x.2.1
    have := e.dep x.2.2.1
    have := d.dep x.2.2.2
    omega
  · simp only [PyData.eqv, PyData.eqvAll, h.eqv, g.eqv, e.eqv, d.eqv, Bool.and_true]
    rw [decide_and2 (r := x.2.2 = y.2.2) (by rw [Prod.ext_iff]), decide_and2 (r := x.2 = y.2) (by rw [Prod.ext_iff])]
    exact decide_and2 (by rw [Prod.ext_iff])
theorem eqL {α : Type} [DecidableEq α] {L : α → PyData} {k : Nat} {G : α → Prop} (h : LayD L k G) (hk : k ≤ 64) {K : PySem.W.Frag} {H : Hp} {x y : V} {a b : α} {Q : VK} (ga : G a) (gb : G b) (h1 : Dp K H x (L a)) (h2 : Dp K H y (L b)) (q : Q (.bl (decide (a = b))) H) : rEqD K x y H Q :=
  ⟨_, _, h1, h2, h.shaped hk ga, h.shaped hk gb, by rw [h.eqv]; exact q⟩
theorem neL {α : Type} [DecidableEq α] {L : α → PyData} {k : Nat} {G : α → Prop} (h : LayD L k G) (hk : k ≤ 64) {K : PySem.W.Frag} {H : Hp} {x y : V} {a b : α} {Q : VK} (ga : G a) (gb : G b) (h1 : Dp K H x (L a)) (h2 : Dp K H y (L b)) (q : Q (.bl (!decide (a = b))) H) : rNeD K x y H Q :=
  ⟨_, _, h1, h2, h.shaped hk ga, h.shaped hk gb, by rw [h.eqv]; exact q⟩
theorem dpAll_refs {α : Type} {L : α → PyData} {K : PySem.W.Frag} {H : Hp} : ∀ {ps : List Addr} {xs : List α}, ps.length = xs.length → (∀ (i : Nat) (p : Addr) (x : α), ps[i]? = some p → xs[i]? = some x → Dp K H (.ref p) (L x)) → DpAll K H (ps.map V.ref) (xs.map L)
  | [], [], _, _ => .nil
  | [], _ :: _, h, _ => by cases h
  | _ :: _, [], h, _ => by cases h
  | p :: ps, x :: xs, h, e => .cons (e 0 p x rfl rfl) (dpAll_refs (Nat.succ.inj h) fun i p' x' h1 h2 => e (i + 1) p' x' h1 h2)

/-- for i, x in enumerate(xs): each turn a new pair -/
theorem for_enum {K : PySem.W.Frag} {a : Addr} {xs : List V} {g : TG} {tb : TS} {D : Ends} {σ : L2.St} {H : Hp} (Pv : Nat → L2.St → Hp → Prop) (h0 : Pv 0 σ H) (hl : ∀ i σ H, i ≤ xs.length → Pv i σ H → SqL K H a xs)
    (hs : ∀ (i : Nat) (x : V) (σ : L2.St) (H : Hp) (T : Addr), xs[i]? = some x → Pv i σ H → H T = none → g (.ref T) σ (upd H T (.tup [.int (i : Int), x])) fun σ2 H2 => tb { D with nx := Pv (i + 1), ct := Pv (i + 1), bk := D.nx } σ2 H2) (hd : ∀ σ H, Pv xs.length σ H → D.nx σ H) :
    ∃ W : Nat → Nat → L2.St → Hp → Prop, (∃ m, W 0 m σ H) ∧ ∀ i m σ H, W i m σ H →
      ((Ite K a).stop i H ∧ D.nx σ H) ∨ ((Ite K a).go i H ∧ ∃ N : L2.St → Hp → Prop, (∀ σ' H', N σ' H' → ∃ m', m' < m ∧ W (i + 1) m' σ' H') ∧ ∀ x H', (Ite K a).yld i H x H' → g x σ H' fun σ2 H2 => tb { D with nx := N, ct := N, bk := D.nx } σ2 H2) := by
  refine ⟨fun i m σ H => m + i = xs.length ∧ Pv i σ H, ⟨xs.length, rfl, h0⟩, ?_⟩
  rintro i m σ H ⟨em, p⟩
  have q := hl i σ H (by omega) p
  by_cases hlt : i < xs.length
  · refine .inr ⟨⟨xs, xs[i], q, List.getElem?_eq_getElem hlt⟩, Pv (i + 1), fun σ' H' p' => ⟨m - 1, by omega, by omega, p'⟩, fun x H' y => ?_⟩
    obtain ⟨T, z, rfl, nT, rfl, hz⟩ := y
    exact hs i z σ H T (hz xs q) p nT
  · have e : i = xs.length := by omega
    subst e
    exact .inl ⟨⟨xs, q, Nat.le_refl _⟩, hd σ H p⟩
theorem call_int_b {X : Cx} : CallR X (.type "int") (fun xs H Q => ∃ b : Bool, xs = [.bl b] ∧ Q (.int (if b = true then 1 else 0)) H) := by
  intro pins s σ H xs us Q I r h
  obtain ⟨i, e, q⟩ := h
  exact call_int1 pins s σ H xs us Q I r (.inr ⟨i, e, q⟩)

/-- the first n values of g -/
def rowI (n : Nat) (g : Nat → Int) : List Int := (List.range n).map g
theorem rowI_len (n : Nat) (g : Nat → Int) : (rowI n g).length = n := by
  unfold rowI
  rw [List.length_map, List.length_range]
theorem rowI_at {n : Nat} {g : Nat → Int} {i : Nat} (h : i < n) : (rowI n g)[i]? = some (g i) := by
  unfold rowI
  rw [List.getElem?_map, List.getElem?_range h]
  rfl
theorem atI_row {n : Nat} {g : Nat → Int} {i : Nat} (h : i < n) : atI ((rowI n g).map V.int) (i : Int) = some (.int (g i)) := by
  refine at_of (j := i) rfl ?_
  rw [List.getElem?_map, rowI_at h]
  rfl
theorem rowI_succ (n : Nat) (g : Nat → Int) : rowI (n + 1) g = rowI n g ++ [g n] := by
  unfold rowI
  rw [List.range_succ, List.map_append]
  rfl
theorem rowI_eq {n : Nat} {f g : Nat → Int} : rowI n f = rowI n g ↔ ∀ i, i < n → f i = g i := by
  unfold rowI
  rw [List.map_inj_left]
  exact ⟨fun h i hi => h i (List.mem_range.mpr hi), fun h i hi => h i (List.mem_range.mp hi)⟩
theorem rowI_of (ws : List Int) : rowI ws.length (at0 ws) = ws := by
  refine List.ext_getElem? fun i => ?_
  by_cases h : i < ws.length
  · rw [rowI_at h, at0_lt h]
  · rw [List.getElem?_eq_none (by rw [rowI_len]; omega), List.getElem?_eq_none (by omega)]
theorem rowI_mem {n : Nat} {g : Nat → Int} {x : Int} : x ∈ rowI n g ↔ ∃ i, i < n ∧ g i = x := by
  unfold rowI
  rw [List.mem_map]
  exact ⟨fun ⟨i, h, e⟩ => ⟨i, List.mem_range.mp h, e⟩, fun ⟨i, h, e⟩ => ⟨i, List.mem_range.mpr h, e⟩⟩
/-- the sum of the first n values of g -/
def sumI (n : Nat) (g : Nat → Int) : Int := (rowI n g).sum
theorem sumI_succ (n : Nat) (g : Nat → Int) : sumI (n + 1) g = sumI n g + g n := by
  unfold sumI
  rw [rowI_succ, List.sum_append, List.sum_cons, List.sum_nil]
  omega
theorem sumI_congr {n : Nat} {f g : Nat → Int} (h : ∀ i, i < n → f i = g i) : sumI n f = sumI n g := by
  unfold sumI
  rw [rowI_eq.mpr h]
theorem sumI_sub : ∀ (n : Nat) (f g : Nat → Int), sumI n (fun i => f i - g i) = sumI n f - sumI n g
  | 0, _, _ => rfl
  | n + 1, f, g => by rw [sumI_succ, sumI_succ, sumI_succ, sumI_sub n f g]; omega
theorem sumI_bound {n : Nat} {g : Nat → Int} {m : Int} (h : ∀ i, i < n → 0 ≤ g i ∧ g i ≤ m) : 0 ≤ sumI n g ∧ sumI n g ≤ n * m := by
  induction n with
  | zero => exact ⟨Int.le_refl 0, by show (0 : Int) ≤ ((0 : Nat) : Int) * m; omega⟩
  | succ n ih =>
    have h1 := ih fun i hi => h i (by omega)
    have h2 := h n (by omega)
    rw [sumI_succ]
    have e : ((n + 1 : Nat) : Int) * m = n * m + m := by rw [Int.natCast_add, Int.add_mul]; omega
    omega
/-- a square table of numbers, its rows at ps -/
structure Tab (H : Hp) (t : Addr) (ps : List Addr) (n : Nat) (f : Nat → Nat → Int) : Prop where
  lst : H t = some (.lst (ps.map V.ref))
  len : ps.length = n
  row : ∀ i p, ps[i]? = some p → H p = some (.lst ((rowI n (f i)).map V.int))
  nod : ps.Nodup
  out : t ∉ ps
theorem Tab.same {H H' : Hp} {t : Addr} {ps : List Addr} {n : Nat} {f : Nat → Nat → Int} (h : Tab H t ps n f) (e : Same H H') : Tab H' t ps n f :=
  ⟨e _ _ h.lst, h.len, fun i p hp => e _ _ (h.row i p hp), h.nod, h.out⟩
def tabL (n : Nat) (f : Nat → Nat → Int) : List (List Int) := (List.range n).map fun i => rowI n (f i)
theorem tabL_at {n : Nat} {f : Nat → Nat → Int} {i : Nat} (h : i < n) : (tabL n f)[i]? = some (rowI n (f i)) := by
  unfold tabL
  rw [List.getElem?_map, List.getElem?_range h]
  rfl
theorem tabL_eq {n : Nat} {f g : Nat → Nat → Int} : tabL n f = tabL n g ↔ ∀ i, i < n → ∀ j, j < n → f i j = g i j := by
  unfold tabL
  rw [List.map_inj_left]
  exact ⟨fun h i hi => rowI_eq.mp (h i (List.mem_range.mpr hi)), fun h i hi => rowI_eq.mpr (h i (List.mem_range.mp hi))⟩
theorem layD_tab : LayD (fun xs : List (List Int) => PyData.list (xs.map fun ys => PyData.list (ys.map PyData.int))) 2 (fun xs => ∀ x, x ∈ xs → ∀ y, y ∈ x → True) := layD_int.list.list
theorem Tab.dp {K : PySem.W.Frag} {H : Hp} {t : Addr} {ps : List Addr} {n : Nat} {f : Nat → Nat → Int} (h : Tab H t ps n f) : Dp K H (.ref t) (PyData.list ((tabL n f).map fun ys => PyData.list (ys.map PyData.int))) := by
  refine .lst (SqL.of h.lst) (dpAll_refs ?_ fun i p x h1 h2 => ?_)
  · rw [h.len]
    unfold tabL
    rw [List.length_map, List.length_range]
  · have hi := (List.getElem?_eq_some_iff.mp h1).1
    rw [h.len] at hi
    rw [tabL_at hi] at h2
    cases h2
    exact .lst (SqL.of (h.row i p h1)) (dpAll_ints _)
theorem refs_at {ps : List Addr} {i : Nat} {x : V} (h : (ps.map V.ref)[i]? = some x) : ∃ p, ps[i]? = some p ∧ x = V.ref p := by
  rw [List.getElem?_map] at h
  cases e : ps[i]? with
  | none => rw [e] at h; cases h
  | some z => rw [e] at h; exact ⟨z, rfl, (Option.some.inj h).symm⟩
theorem Tab.at {H : Hp} {t : Addr} {ps : List Addr} {n : Nat} {f : Nat → Nat → Int} (h : Tab H t ps n f) {i : Nat} (hi : i < n) : ∃ p, ps[i]? = some p ∧ atI (ps.map V.ref) (i : Int) = some (.ref p) ∧ H p = some (.lst ((rowI n (f i)).map V.int)) := by
  have hl : i < ps.length := by rw [h.len]; exact hi
  refine ⟨ps[i], List.getElem?_eq_getElem hl, at_of (j := i) rfl ?_, h.row i _ (List.getElem?_eq_getElem hl)⟩
  rw [List.getElem?_map, List.getElem?_eq_getElem hl]
  rfl

/-- a table that grows: m rows of n numbers -/
structure TabR (H : Hp) (t : Addr) (ps : List Addr) (m n : Nat) (f : Nat → Nat → Int) : Prop where
  lst : H t = some (.lst (ps.map V.ref))
  len : ps.length = m
  row : ∀ i p, ps[i]? = some p → H p = some (.lst ((rowI n (f i)).map V.int))
  nod : ps.Nodup
  out : t ∉ ps
theorem TabR.nil {H : Hp} {t : Addr} (n : Nat) (f : Nat → Nat → Int) (h : H t = some (.lst [])) : TabR H t [] 0 n f :=
  ⟨h, rfl, fun _ _ e => (by rw [List.getElem?_nil] at e; cases e), List.nodup_nil, fun h => (by cases h)⟩
theorem TabR.congr {H : Hp} {t : Addr} {ps : List Addr} {m n : Nat} {f g : Nat → Nat → Int} (h : TabR H t ps m n f) (e : ∀ i, i < m → ∀ j, j < n → f i j = g i j) : TabR H t ps m n g :=
  ⟨h.lst, h.len, fun i p hp => by
    have hi := (List.getElem?_eq_some_iff.mp hp).1
    rw [h.row i p hp, rowI_eq.mpr (e i (by rw [← h.len]; exact hi))], h.nod, h.out⟩
theorem TabR.push {H H' : Hp} {t p : Addr} {ps : List Addr} {m n : Nat} {f : Nat → Nat → Int} (h : TabR H t ps m n f) (e : Same H H') (np : H p = none) (hp : H' p = some (.lst ((rowI n (f m)).map V.int))) : TabR (upd H' t (.lst (ps.map V.ref ++ [V.ref p]))) t (ps ++ [p]) (m + 1) n f := by
  have hmem : ∀ q, q ∈ ps → ∃ o, H q = some o := fun q hq => by
    obtain ⟨i, hi⟩ := List.mem_iff_getElem?.mp hq
    exact ⟨_, h.row i q hi⟩
  have hpt : p ≠ t := fun z => by rw [z, h.lst] at np; cases np
  have hnp : p ∉ ps := fun z => by
    obtain ⟨o, ho⟩ := hmem p z
    rw [np] at ho
    cases ho
  refine ⟨?_, ?_, fun i q hq => ?_, ?_, ?_⟩
  · rw [upd_same, List.map_append]
    rfl
  · rw [List.length_append, h.len]
    rfl
  · by_cases hi : i < ps.length
    · rw [List.getElem?_append_left hi] at hq
      have hm := List.mem_of_getElem? hq
      rw [upd_ne (fun z => h.out (by rw [← z]; exact hm))]
      exact e _ _ (h.row i q hq)
    · rw [List.getElem?_append_right (by omega)] at hq
      have hi2 := (List.getElem?_eq_some_iff.mp hq).1
      have : i - ps.length = 0 := by
        rw [List.length_cons, List.length_nil] at hi2
        omega
      rw [this] at hq
      have hqp : p = q := Option.some.inj hq
      subst hqp
      rw [upd_ne hpt, hp]
      have : i = m := by have := h.len; omega
      rw [this]
  · rw [List.nodup_append]
    refine ⟨h.nod, List.nodup_cons.mpr ⟨fun z => (by cases z), List.nodup_nil⟩, fun a ha b hb z => ?_⟩
    rw [List.mem_singleton] at hb
    rw [hb] at z
    rw [z] at ha
    exact hnp ha
  · intro z
    rcases List.mem_append.mp z with z | z
    · exact h.out z
    · rw [List.mem_singleton] at z
      exact hpt z.symm
theorem TabR.tab {H : Hp} {t : Addr} {ps : List Addr} {n : Nat} {f : Nat → Nat → Int} (h : TabR H t ps n n f) : Tab H t ps n f := ⟨h.lst, h.len, h.row, h.nod, h.out⟩
theorem TabR.keep {H H0 : Hp} {t : Addr} {xs : List V} (s : Same H0 H) (nt : H0 t = none) : Same H0 (upd H t (.lst xs)) := fun b o e => by
  rw [upd_ne (ne_of_none e nt)]
  exact s b o e
/-- debts: one to thirteen houses, nobody owes itself -/
structure Debts (n : Nat) (f : Nat → Nat → Int) (m : Int) : Prop where
  n0 : 1 ≤ n
  n1 : n ≤ 13
  b : ∀ i, i < n → ∀ j, j < n → 0 ≤ f i j ∧ f i j ≤ m
  d : ∀ i, i < n → f i i = 0
theorem Debts.mono {n : Nat} {f : Nat → Nat → Int} {m k : Int} (h : Debts n f m) (e : m ≤ k) : Debts n f k := ⟨h.n0, h.n1, fun i hi j hj => ⟨(h.b i hi j hj).1, Int.le_trans (h.b i hi j hj).2 e⟩, h.d⟩

/-- a table of rows of any lengths: m rows -/
structure JagR (H : Hp) (t : Addr) (ps : List Addr) (m : Nat) (f : Nat → List Int) : Prop where
  lst : H t = some (.lst (ps.map V.ref))
  len : ps.length = m
  row : ∀ i p, ps[i]? = some p → H p = some (.lst ((f i).map V.int))
  nod : ps.Nodup
  out : t ∉ ps
theorem JagR.nil {H : Hp} {t : Addr} (f : Nat → List Int) (h : H t = some (.lst [])) : JagR H t [] 0 f :=
  ⟨h, rfl, fun _ _ e => (by rw [List.getElem?_nil] at e; cases e), List.nodup_nil, fun h => (by cases h)⟩
theorem JagR.congr {H : Hp} {t : Addr} {ps : List Addr} {m : Nat} {f g : Nat → List Int} (h : JagR H t ps m f) (e : ∀ i, i < m → f i = g i) : JagR H t ps m g :=
  ⟨h.lst, h.len, fun i p hp => by
    have hi := (List.getElem?_eq_some_iff.mp hp).1
    rw [h.row i p hp, e i (by rw [← h.len]; exact hi)], h.nod, h.out⟩
theorem JagR.push {H H' : Hp} {t p : Addr} {ps : List Addr} {m : Nat} {f : Nat → List Int} (h : JagR H t ps m f) (e : Same H H') (np : H p = none) (hp : H' p = some (.lst ((f m).map V.int))) : JagR (upd H' t (.lst (ps.map V.ref ++ [V.ref p]))) t (ps ++ [p]) (m + 1) f := by
  have hmem : ∀ q, q ∈ ps → ∃ o, H q = some o := fun q hq => by
    obtain ⟨i, hi⟩ := List.mem_iff_getElem?.mp hq
    exact ⟨_, h.row i q hi⟩
  have hpt : p ≠ t := fun z => by rw [z, h.lst] at np; cases np
  have hnp : p ∉ ps := fun z => by
    obtain ⟨o, ho⟩ := hmem p z
    rw [np] at ho
    cases ho
  refine ⟨?_, ?_, fun i q hq => ?_, ?_, ?_⟩
  · rw [upd_same, List.map_append]
    rfl
  · rw [List.length_append, h.len]
    rfl
  · by_cases hi : i < ps.length
    · rw [List.getElem?_append_left hi] at hq
      have hm := List.mem_of_getElem? hq
      rw [upd_ne (fun z => h.out (by rw [← z]; exact hm))]
      exact e _ _ (h.row i q hq)
    · rw [List.getElem?_append_right (by omega)] at hq
      have hi2 := (List.getElem?_eq_some_iff.mp hq).1
      have : i - ps.length = 0 := by
        rw [List.length_cons, List.length_nil] at hi2
        omega
      rw [this] at hq
      have hqp : p = q := Option.some.inj hq
      subst hqp
      rw [upd_ne hpt, hp]
      have : i = m := by have := h.len; omega
      rw [this]
  · rw [List.nodup_append]
    refine ⟨h.nod, List.nodup_cons.mpr ⟨fun z => (by cases z), List.nodup_nil⟩, fun a ha b hb z => ?_⟩
    rw [List.mem_singleton] at hb
    rw [hb] at z
    rw [z] at ha
    exact hnp ha
  · intro z
    rcases List.mem_append.mp z with z | z
    · exact h.out z
    · rw [List.mem_singleton] at z
      exact hpt z.symm
theorem JagR.same {H H' : Hp} {t : Addr} {ps : List Addr} {m : Nat} {f : Nat → List Int} (h : JagR H t ps m f) (e : Same H H') : JagR H' t ps m f :=
  ⟨e _ _ h.lst, h.len, fun i p hp => e _ _ (h.row i p hp), h.nod, h.out⟩
theorem JagR.at {H : Hp} {t : Addr} {ps : List Addr} {m : Nat} {f : Nat → List Int} (h : JagR H t ps m f) {i : Nat} (hi : i < m) : ∃ p, ps[i]? = some p ∧ atI (ps.map V.ref) (i : Int) = some (.ref p) ∧ H p = some (.lst ((f i).map V.int)) := by
  have hl : i < ps.length := by rw [h.len]; exact hi
  refine ⟨ps[i], List.getElem?_eq_getElem hl, at_of (j := i) rfl ?_, h.row i _ (List.getElem?_eq_getElem hl)⟩
  rw [List.getElem?_map, List.getElem?_eq_getElem hl]
  rfl
def jagL (m : Nat) (f : Nat → List Int) : List (List Int) := (List.range m).map f
theorem jagL_at {m : Nat} {f : Nat → List Int} {i : Nat} (h : i < m) : (jagL m f)[i]? = some (f i) := by
  unfold jagL
  rw [List.getElem?_map, List.getElem?_range h]
  rfl
theorem jagL_eq {m : Nat} {f g : Nat → List Int} (h : ∀ i, i < m → f i = g i) : jagL m f = jagL m g := by
  unfold jagL
  rw [List.map_inj_left]
  exact fun i hi => h i (List.mem_range.mp hi)
theorem JagR.dp {K : PySem.W.Frag} {H : Hp} {t : Addr} {ps : List Addr} {m : Nat} {f : Nat → List Int} (h : JagR H t ps m f) : Dp K H (.ref t) (PyData.list ((jagL m f).map fun ys => PyData.list (ys.map PyData.int))) := by
  refine .lst (SqL.of h.lst) (dpAll_refs ?_ fun i p x h1 h2 => ?_)
  · rw [h.len]
    unfold jagL
    rw [List.length_map, List.length_range]
  · have hi := (List.getElem?_eq_some_iff.mp h1).1
    rw [h.len] at hi
    rw [jagL_at hi] at h2
    cases h2
    exact .lst (SqL.of (h.row i p h1)) (dpAll_ints _)
/-- [list(row) for row in t]: copied -/
theorem lc_copyJ {K : PySem.W.Frag} {t : Addr} {ps : List Addr} {m : Nat} {f : Nat → List Int} {σ : L2.St} {H1 : Hp} {D : Addr} {j : Nat} {Qd : Hp → Prop} (ht : JagR H1 t ps m f) (hm : m ≤ 900) (nD : H1 D = none) (hj : Nat.ble (j + 1) σ.length = true)
    (q : ∀ H' qs, Same H1 H' → JagR H' D qs m f → (∀ q, q ∈ qs → H1 q = none) → Qd H') :
    ∃ W : Nat → Nat → Hp → Prop, (∃ m, W 0 m (upd H1 D (.lst []))) ∧ ∀ i m H, W i m H →
      ((Itl K t).stop i H ∧ Qd H) ∨ ((Itl K t).go i H ∧ ∃ Nx : Hp → Prop, (∀ H', Nx H' → ∃ m', m' < m ∧ W (i + 1) m' H') ∧ ∀ x H', (Itl K t).yld i H x H' → gName j x (wipe σ [j]) H' fun σ2 H2 => wipe σ2 [j] = wipe σ [j] ∧ tYes σ2 H2 fun b H3 =>
        if b = true then tCB (rListOf K) (tCons (tVar j) tNil) σ2 H3 fun y H4 => ∃ acc, H4 D = some (.lst acc) ∧ acc.length < sizeLine ∧ Nx (upd H4 D (.lst (acc ++ [y]))) else Nx H3) := by
  have hs : SqL K H1 t (ps.map V.ref) := SqL.of ht.lst
  have hj' : j < (wipe σ [j]).length := by rw [wipe_length]; exact Nat.le_of_ble_eq_true hj
  refine lc_list (K := K) (a := t) (xs := ps.map V.ref) (fun i H' => ∃ qs, JagR H' D qs i f ∧ Same H1 H' ∧ ∀ q, q ∈ qs → H1 q = none) ⟨[], .nil f upd_same, same_upd nD, fun _ h => by cases h⟩ (fun i H' _ ⟨_, _, e, _⟩ => e.seq hs) ?_ ?_
  · rintro i x H' hx ⟨qs, hT, e, hfree⟩
    obtain ⟨p, hp, rfl⟩ := refs_at hx
    have hi := (List.getElem?_eq_some_iff.mp hp).1
    rw [ht.len] at hi
    refine ⟨?_, ?_⟩
    · show ((wipe σ [j]).set j (some (V.ref p))).set j none = σ.set j none
      show ((σ.set j none).set j (some (V.ref p))).set j none = σ.set j none
      rw [List.set_set, List.set_set]
    · refine ⟨_, List.getElem?_set_self hj', p, (f i).map V.int, rfl, .inl (e.seq (SqL.of (ht.row i p hp))), fun l nl => ?_⟩
      have sl := same_upd (o := .lst ((f i).map V.int)) nl
      refine ⟨_, sl _ _ hT.lst, ?_, qs ++ [l], hT.push sl nl upd_same, TabR.keep (e.trans sl) nD, fun q hq => ?_⟩
      · refine small1000 ?_
        rw [List.length_map, hT.len]
        omega
      · rcases List.mem_append.mp hq with hq | hq
        · exact hfree q hq
        · rw [List.mem_singleton.mp hq]
          exact e.free nl
  · rintro H' ⟨qs, hT, e, hfree⟩
    rw [List.length_map, ht.len] at hT
    exact q H' qs e hT hfree
/-- [sum(row) for row in t] -/
theorem lc_sumJ {K : PySem.W.Frag} {t : Addr} {ps : List Addr} {m : Nat} {f : Nat → List Int} {σ : L2.St} {H1 : Hp} {D : Addr} {j : Nat} {Qd : Hp → Prop} (ht : JagR H1 t ps m f) (hm : m ≤ 900) (nD : H1 D = none) (hj : Nat.ble (j + 1) σ.length = true)
    (q : Qd (upd H1 D (.lst ((rowI m fun a => (f a).sum).map V.int)))) :
    ∃ W : Nat → Nat → Hp → Prop, (∃ m, W 0 m (upd H1 D (.lst []))) ∧ ∀ i m H, W i m H →
      ((Itl K t).stop i H ∧ Qd H) ∨ ((Itl K t).go i H ∧ ∃ Nx : Hp → Prop, (∀ H', Nx H' → ∃ m', m' < m ∧ W (i + 1) m' H') ∧ ∀ x H', (Itl K t).yld i H x H' → gName j x (wipe σ [j]) H' fun σ2 H2 => wipe σ2 [j] = wipe σ [j] ∧ tYes σ2 H2 fun b H3 =>
        if b = true then tCB (rSum K) (tCons (tVar j) tNil) σ2 H3 fun y H4 => ∃ acc, H4 D = some (.lst acc) ∧ acc.length < sizeLine ∧ Nx (upd H4 D (.lst (acc ++ [y]))) else Nx H3) := by
  have hs : SqL K H1 t (ps.map V.ref) := SqL.of ht.lst
  have hj' : j < (wipe σ [j]).length := by rw [wipe_length]; exact Nat.le_of_ble_eq_true hj
  refine lc_list (K := K) (a := t) (xs := ps.map V.ref) (fun i H' => H' = upd H1 D (.lst ((rowI i fun a => (f a).sum).map V.int))) rfl (fun i H' _ e => by rw [e]; exact (same_upd nD).seq hs) ?_ ?_
  · rintro i x H' hx rfl
    obtain ⟨p, hp, rfl⟩ := refs_at hx
    have hi := (List.getElem?_eq_some_iff.mp hp).1
    rw [ht.len] at hi
    refine ⟨?_, ?_⟩
    · show ((wipe σ [j]).set j (some (V.ref p))).set j none = σ.set j none
      show ((σ.set j none).set j (some (V.ref p))).set j none = σ.set j none
      rw [List.set_set, List.set_set]
    · refine ⟨_, List.getElem?_set_self hj', p, f i, rfl, (same_upd nD).seq (SqL.of (ht.row i p hp)), ?_⟩
      refine ⟨_, upd_same, ?_, ?_⟩
      · refine small1000 ?_
        rw [List.length_map, rowI_len]
        omega
      · rw [upd_upd, rowI_succ, List.map_append]
        rfl
  · rintro H' rfl
    rw [List.length_map, ht.len]
    exact q

/-- the sum of the sizes of the first k tiers -/
def sumsT (T : Nat → List Int) (k : Nat) : Int := sumI k fun i => (T i).sum
def leftT (loss : Int) (T : Nat → List Int) (k : Nat) : Int := max 0 (loss - sumsT T k)
/-- what the members of a tier bear of what is left -/
def partT (left : Int) (s : List Int) : List Int := if s = [] then [] else splitOf (min left s.sum) s
def sizesOk (s : List Int) : Prop := s.length ≤ 40 ∧ ∀ x, x ∈ s → 0 ≤ x ∧ x ≤ 1000000000000000
theorem sizesOk.nn {s : List Int} (h : sizesOk s) : 0 ≤ s.sum := sum_nonneg s fun x hx => (h.2 x hx).1
theorem partT_sum {left : Int} {s : List Int} (h0 : 0 ≤ left) (h : sizesOk s) : (partT left s).sum = min left s.sum := by
  have hs := h.nn
  unfold partT
  by_cases e : s = []
  · rw [if_pos e, e]
    show (0 : Int) = min left 0
    omega
  · rw [if_neg e]
    by_cases z : 0 < s.sum
    · exact splitOf_sum z
    · have z0 : s.sum = 0 := by omega
      unfold splitOf
      rw [if_pos z0, z0]
      have : ∀ l : List Int, (l.map fun _ => (0 : Int)).sum = 0 := by
        intro l
        induction l with
        | nil => rfl
        | cons x l ih => rw [List.map_cons, List.sum_cons, ih]; rfl
      rw [this]
      omega
theorem partT_len {left : Int} {s : List Int} : (partT left s).length = s.length := by
  unfold partT
  by_cases e : s = []
  · rw [if_pos e, e]
  · rw [if_neg e, splitOf_len]
theorem partT_le {left : Int} {s : List Int} (h0 : 0 ≤ left) (h : sizesOk s) {i : Nat} (hi : i < s.length) : 0 ≤ at0 (partT left s) i ∧ at0 (partT left s) i ≤ at0 s i := by
  have hs := h.nn
  have hw : ∀ w, w ∈ s → 0 ≤ w := fun w hw => (h.2 w hw).1
  unfold partT
  have e : s ≠ [] := fun e => by rw [e] at hi; exact absurd hi (Nat.not_lt_zero _)
  rw [if_neg e]
  by_cases z : 0 < s.sum
  · refine ⟨?_, splitOf_le (by omega) hw z (by omega) hi⟩
    have h1 := splitOf_ge (amount := min left s.sum) z hi
    have h2 := Int.ediv_nonneg (Int.mul_nonneg (show 0 ≤ min left s.sum by omega) (at0_nonneg hw i)) hs
    omega
  · have z0 : s.sum = 0 := by omega
    unfold splitOf
    rw [if_pos z0]
    have e0 : at0 (s.map fun _ => (0 : Int)) i = 0 := at0_of (by rw [List.getElem?_map, at0_lt hi]; rfl)
    rw [e0]
    exact ⟨Int.le_refl 0, at0_nonneg hw i⟩
theorem leftT_succ {loss : Int} {T : Nat → List Int} {k : Nat} (h : sizesOk (T k)) : leftT loss T (k + 1) = leftT loss T k - (partT (leftT loss T k) (T k)).sum := by
  have hs := h.nn
  rw [partT_sum (by unfold leftT; omega) h]
  unfold leftT sumsT
  rw [sumI_succ]
  omega
theorem leftT_nn (loss : Int) (T : Nat → List Int) (k : Nat) : 0 ≤ leftT loss T k := by
  unfold leftT
  omega
theorem leftT_zero {loss : Int} (h : 0 ≤ loss) (T : Nat → List Int) : leftT loss T 0 = loss := by
  unfold leftT sumsT
  show max 0 (loss - 0) = loss
  omega
theorem leftT_le {loss : Int} (h : 0 ≤ loss) {T : Nat → List Int} {k : Nat} (hT : ∀ i, i < k → sizesOk (T i)) : leftT loss T k ≤ loss := by
  have : 0 ≤ sumsT T k := by
    unfold sumsT
    induction k with
    | zero => exact Int.le_refl 0
    | succ k ih =>
      have h1 := (hT k (by omega)).nn
      have h2 := ih fun i hi => hT i (by omega)
      rw [sumI_succ]
      omega
  unfold leftT
  omega
/-- what the tiers bear -/
def borneT (loss : Int) (T : Nat → List Int) (k : Nat) : List Int := partT (leftT loss T k) (T k)
theorem rowI_take {m k : Nat} {g : Nat → Int} (h : k ≤ m) : (rowI m g).take k = rowI k g := by
  refine List.ext_getElem? fun i => ?_
  by_cases hi : i < k
  · rw [List.getElem?_take_of_lt hi, rowI_at (by omega), rowI_at hi]
  · rw [List.getElem?_eq_none (by rw [List.length_take, rowI_len]; omega), List.getElem?_eq_none (by rw [rowI_len]; omega)]
theorem cut_sum {m k : Nat} {g : Nat → Int} (h : k ≤ m) : (cutI (rowI m g) (some (k : Int)) none).sum = sumI m g - sumI k g := by
  have e : cutI (rowI m g) (some (k : Int)) none = (rowI m g).drop k := by
    unfold cutI
    rw [rowI_len]
    have e1 : HT.sIx m 0 (some (k : Int)) = k := by
      rw [HT.sIx_nat]
      omega
    have e2 : HT.sIx m m none = m := rfl
    rw [e1, e2, List.take_of_length_le (by rw [List.length_drop, rowI_len]; omega)]
  have e3 : (rowI m g).sum = ((rowI m g).take k).sum + ((rowI m g).drop k).sum := by rw [← List.sum_append, List.take_append_drop]
  rw [rowI_take h] at e3
  rw [e]
  unfold sumI
  omega
theorem borne_sum {loss : Int} {T : Nat → List Int} (h0 : 0 ≤ loss) (hT : ∀ i, sizesOk (T i)) : ∀ m, (sumI m fun k => (borneT loss T k).sum) + leftT loss T m = loss
  | 0 => by rw [leftT_zero h0]; show (0 : Int) + loss = loss; omega
  | m + 1 => by
    have h1 := borne_sum h0 hT m
    rw [sumI_succ, leftT_succ (hT m)]
    unfold borneT at h1 ⊢
    omega
theorem partT_split {left : Int} {s : List Int} (h0 : 0 ≤ left) (h : sizesOk s) : splitOf (partT left s).sum s = partT left s := by
  rw [partT_sum h0 h]
  unfold partT
  by_cases e : s = []
  · rw [if_pos e, e]
    rfl
  · rw [if_neg e]

/-- what the tiers keep of their sizes -/
def restT (loss : Int) (T : Nat → List Int) (k : Nat) : List Int := rowI (T k).length fun i => at0 (T k) i - at0 (borneT loss T k) i
theorem restT_sum {loss : Int} {T : Nat → List Int} (k : Nat) : (restT loss T k).sum = (T k).sum - (borneT loss T k).sum := by
  have h1 : (T k).sum = sumI (T k).length (at0 (T k)) := by unfold sumI; rw [rowI_of]
  have h2 : (borneT loss T k).sum = sumI (T k).length (at0 (borneT loss T k)) := by
    have : (borneT loss T k).length = (T k).length := partT_len
    unfold sumI
    rw [← this, rowI_of]
  rw [h1, h2, ← sumI_sub]
  rfl
theorem restT_ok {loss : Int} {T : Nat → List Int} {k : Nat} (h : sizesOk (T k)) : sizesOk (restT loss T k) := by
  refine ⟨by unfold restT; rw [rowI_len]; exact h.1, fun x hx => ?_⟩
  unfold restT at hx
  obtain ⟨i, hi, rfl⟩ := rowI_mem.mp hx
  have h1 := partT_le (leftT_nn loss T k) h hi
  have h2 := h.2 _ (List.mem_of_getElem? (at0_lt hi))
  unfold borneT
  omega
theorem sumsT_rest {loss : Int} {T : Nat → List Int} (h0 : 0 ≤ loss) (hT : ∀ i, sizesOk (T i)) (k : Nat) : sumsT (restT loss T) k = sumsT T k - (loss - leftT loss T k) := by
  have h := borne_sum h0 hT k
  unfold sumsT
  rw [sumI_congr (g := fun i => (T i).sum - (borneT loss T i).sum) fun i _ => restT_sum i, sumI_sub]
  omega
theorem left_two {f g : Int} {T : Nat → List Int} (h0 : 0 ≤ f) (h1 : 0 ≤ g) (hT : ∀ i, sizesOk (T i)) (k : Nat) : leftT f T k + leftT g (restT f T) k = leftT (f + g) T k := by
  have h := sumsT_rest h0 hT k
  unfold leftT at h ⊢
  omega

section
variable {P : Program} {w : World} {K : PySem.W.Frag} {mg : Str → Option Value} {base : Heap}
def sp_check_amount (K : PySem.W.Frag) : Sp := fun vs H Q _ => ∃ a m : Int, vs = [.int a, .int m] ∧ 0 ≤ a ∧ a ≤ m ∧ Q .non H
set_option maxHeartbeats 0 in
theorem ok_check_amount (T : Txt K mg) : FnOk P w K mg base CX0 1 T.f_check_amount T.d_check_amount ["amount", "most"] (sp_check_amount K) := by
  refine T.F_check_amount.ok sc_check_amount (fun vs H Q E h => ?_) (fun cdv A outer s H vs Q E hr h => ?_)
  · obtain ⟨a, m, rfl, _⟩ := h
    rfl
  · obtain ⟨a, m, rfl, h1, h2, q⟩ := h
    refine ⟨_, (pss_one (ps_if (pt_not (pt_chain op_le op_le pe_int (pv 0) (pv 1)))
      (pss_one ps_never)
      pss_nil)), ?_⟩
    walk_at "st"
    refine iteB (fun _ => ?_) (fun h => absurd h1 (dec_f h))
    walk_at "st"
    exact iteB (fun h => absurd h2 (ndec_t h)) (fun _ => q)

/-- good weights -/
structure Wts (ws : List Int) : Prop where
  l0 : 0 < ws.length
  l1 : ws.length ≤ 40
  b0 : ∀ w, w ∈ ws → 0 ≤ w
  b1 : ∀ w, w ∈ ws → w ≤ 1000000000000000
def sp_check_weights (K : PySem.W.Frag) : Sp := fun vs H Q _ => ∃ (a : Addr) (ws : List Int) (amount : Int), vs = [.ref a, .int amount] ∧ SqL K H a (ws.map V.int) ∧ Wts ws ∧ (0 < amount → ws.sum ≠ 0) ∧ ∀ H', Same H H' → Q .non H'
set_option maxHeartbeats 0 in
theorem ok_check_weights (T : Txt K mg) : FnOk P w K mg base CX0 1 T.f_check_weights T.d_check_weights ["weights", "amount"] (sp_check_weights K) := by
  refine T.F_check_weights.ok sc_check_weights (fun vs H Q E h => ?_) (fun cdv A outer s H vs Q E hr h => ?_)
  · obtain ⟨a, ws, amount, rfl, _⟩ := h
    rfl
  · obtain ⟨a, ws, amount, rfl, hs, hw, hz, q⟩ := h
    refine ⟨_, (pss_cons (ps_if (pt_not (pt_chain op_le op_le pe_int (pe_callB call_len_seq (by rfl) T.z_len PySem.boot_len (pa_cons (pv 0) pa_nil)) (pe_glob (v := .int 40) rfl T.m_MOST_WEIGHTS ⟨_, rfl⟩)))
      (pss_one ps_never)
      pss_nil)
    (pss_cons (ps_if (pt_not (pt_val (pe_callB (cr_all rfl) (by rfl) T.z_all (by decide +kernel) (pa_cons (pe_lc (own := [("weight", 2)]) (g := gName 2) (tt := tYes) rfl sc_check_weights.nd (pi_list (pv 0)) (blkOk_by (own := [("weight", 2)]) (N := N_check_weights) (sc := defScope s_check_weights) (by decide +kernel)) (fun _ _ _ _ _ => (pg_name (i := 2) sc_check_weights.nd rfl (Or.inl rfl))) (fun _ _ _ _ _ => pts_nil) (fun _ _ _ _ _ => (pe_chain op_le op_le pe_int (pv 2) (pe_glob (v := .int 1000000000000000) rfl T.m_MOST_WEIGHT ⟨_, rfl⟩)))) pa_nil))))
      (pss_one ps_never)
      pss_nil)
    (pss_one (ps_if (PW.pt (pw_and (pt_cmpR op_gt (pv 1) pe_int (nomark _)) (pw_and1 (pt_cmpR op_eq (pe_callB (cr_sum rfl) (by rfl) T.z_sum (by decide +kernel) (pa_cons (pv 0) pa_nil)) pe_int (nomark _)))))
      (pss_one ps_never)
      pss_nil)))), ?_⟩
    have l0 := hw.l0
    have l1 := hw.l1
    walk_at "st"
    refine iteB (fun _ => ?_) (fun h => absurd (dec_f h) (by rw [List.length_map]; omega))
    walk_at "st"
    refine iteB (fun h => absurd (ndec_t h) (by rw [List.length_map]; omega)) (fun _ => ?_)
    walk_at "st"
    intro D nD
    refine lc_list (K := K) (a := a) (xs := ws.map V.int) (fun i H' => H' = upd H D (.lst ((List.replicate i true).map V.bl))) rfl (fun i H' _ e => by rw [e]; exact (same_upd nD).seq hs) ?_ ?_
    · rintro i x H' hx rfl
      obtain ⟨z, hz', rfl⟩ := ints_at hx
      have hm := List.mem_of_getElem? hz'
      have hi := (List.getElem?_eq_some_iff.mp hz').1
      have z0 := hw.b0 z hm
      have z1 := hw.b1 z hm
      refine ⟨rfl, ?_⟩
      walk_at "st"
      refine iteB (fun _ => ?_) (fun h => absurd z0 (dec_f h))
      walk_at "st"
      refine ⟨?_, ?_⟩
      · refine small1000 ?_
        rw [List.length_map, List.length_replicate]
        omega
      · show upd (upd H D _) D (.lst (_ ++ [V.bl (decide (z ≤ 1000000000000000))])) = _
        rw [upd_upd, decide_eq_true z1, List.replicate_succ', List.map_append]
        rfl
    · rintro H' rfl
      have sD := same_upd (o := .lst ((List.replicate (ws.map V.int).length true).map V.bl)) nD
      have hs' := sD.seq hs
      walk_at "st"
      refine ⟨List.replicate (ws.map V.int).length true, rfl, .inl (.inl upd_same), ?_⟩
      have ea : (List.replicate (ws.map V.int).length true).all id = true := by
        rw [List.all_eq_true]
        intro b hb
        exact List.eq_of_mem_replicate hb
      rw [ea]
      walk_at "st"
      refine iteB (fun h => ?_) (fun h => ?_)
      · walk_at "st"
        refine iteB (fun h2 => ?_) (fun _ => q _ sD)
        exact (hz (dec_t h) (V.int.inj (dec_t h2))).elim
      · exact q _ sD

def sp_greatest_quotient (K : PySem.W.Frag) : Sp := fun vs H Q _ => ∃ (a b : Addr) (ws ps : List Int), vs = [.ref a, .ref b] ∧ SqL K H a (ws.map V.int) ∧ SqL K H b (ps.map V.int) ∧ Wts ws ∧ ps.length = ws.length ∧ Q (.int (gq ws ps ws.length)) H
set_option maxHeartbeats 0 in
theorem ok_greatest_quotient (T : Txt K mg) : FnOk P w K mg base CX0 1 T.f_greatest_quotient T.d_greatest_quotient ["weights", "parts"] (sp_greatest_quotient K) := by
  refine T.F_greatest_quotient.ok sc_greatest_quotient (fun vs H Q E h => ?_) (fun cdv A outer s H vs Q E hr h => ?_)
  · obtain ⟨a, b, ws, ps, rfl, _⟩ := h
    rfl
  · obtain ⟨a, b, ws, ps, rfl, hs, ht, hw, hl, q⟩ := h
    refine ⟨_, (pss_cons (ps_set (i := 2) sc_greatest_quotient.nd rfl (Or.inl rfl) pe_int)
    (pss_cons (ps_for PassesOwn.never rfl (pi_range2 (by rfl) T.z_range (pa_cons pe_int (pa_cons (pe_callB call_len_seq (by rfl) T.z_len PySem.boot_len (pa_cons (pv 0) pa_nil)) pa_nil))) (pg_name (i := 3) sc_greatest_quotient.nd rfl (Or.inl rfl))
      (pss_one (ps_if (pt_cmpR op_gt (pe_op op_mul (pe_ix ix_list (pv 0) (pv 3) (fun _ _ => rfl)) (pe_op op_add (pe_ix ix_list (pv 1) (pv 2) (fun _ _ => rfl)) pe_int)) (pe_op op_mul (pe_ix ix_list (pv 0) (pv 2) (fun _ _ => rfl)) (pe_op op_add (pe_ix ix_list (pv 1) (pv 3) (fun _ _ => rfl)) pe_int)) (nomark _))
        (pss_one (ps_set (i := 2) sc_greatest_quotient.nd rfl (Or.inl rfl) (pv 3)))
        pss_nil)))
    (pss_one (ps_ret (pv 2))))), ?_⟩
    have l0 := hw.l0
    have l1 := hw.l1
    walk_at "st"
    refine for_range (lo := 1) (n := (((ws.map V.int).length : Int) - 1).toNat) (fun i σ H' => H' = H ∧ ∃ v, σ = [some (.ref a), some (.ref b), some (.int ((gq ws ps (i + 1) : Nat) : Int)), v]) ⟨rfl, none, ?_⟩ ?_ ?_
    · rw [gq_one]
      rfl
    · rintro i σ H' hi ⟨rfl, v, rfl⟩
      rw [List.length_map] at hi
      have hi2 : i + 1 < ws.length := by omega
      have hg := gq_lt ws ps (i + 1) (Nat.succ_pos _)
      have hg2 : gq ws ps (i + 1) < ws.length := by omega
      rw [show (1 : Int) + i = ((i + 1 : Nat) : Int) by omega]
      have a1 := atI_n hi2
      have a2 := atI_n hg2
      have a3 := atI_n (ws := ps) (j := i + 1) (by omega)
      have a4 := atI_n (ws := ps) (j := gq ws ps (i + 1)) (by omega)
      have b1 := at0_nonneg hw.b0 (i + 1)
      have b2 := at0_nonneg hw.b0 (gq ws ps (i + 1))
      have b3 := hw.b1 _ (List.mem_of_getElem? (at0_lt hi2))
      have b4 := hw.b1 _ (List.mem_of_getElem? (at0_lt hg2))
      walk_at "st"
      refine iteB (fun h => ?_) (fun h => ?_)
      · have e : gq ws ps (i + 1 + 1) = i + 1 := if_pos (dec_t h)
        rw [e]
        exact ⟨_, rfl, rfl, _, rfl⟩
      · have e : gq ws ps (i + 1 + 1) = gq ws ps (i + 1) := if_neg (dec_f h)
        rw [e]
        exact ⟨rfl, _, rfl⟩
    · rintro σ H' ⟨rfl, v, rfl⟩
      rw [List.length_map, show (((ws.length : Int) - 1).toNat + 1) = ws.length by omega]
      walk_at "st"
      exact q
def sp_split (K : PySem.W.Frag) : Sp := fun vs H Q _ => ∃ (a : Addr) (ws : List Int) (amount : Int), vs = [.int amount, .ref a] ∧ SqL K H a (ws.map V.int) ∧ Wts ws ∧ (0 < amount → ws.sum ≠ 0) ∧ 0 ≤ amount ∧ amount ≤ 1000000000000000000 ∧
  ∀ p H', Same H H' → H p = none → H' p = some (.lst ((splitOf amount ws).map V.int)) → Q (.ref p) H'
set_option maxHeartbeats 0 in
theorem ok_split (T : Txt K mg) : FnOk P w K mg base CX0 2 T.f_split T.d_split ["amount", "weights"] (sp_split K) := by
  refine T.F_split.ok sc_split (fun vs H Q E h => ?_) (fun cdv A outer s H vs Q E hr h => ?_)
  · obtain ⟨a, ws, amount, rfl, _⟩ := h
    rfl
  · obtain ⟨a, ws, amount, rfl, hs, hw, hz, ha0, ha1, q⟩ := h
    have G_check_amount : FnOk P w K mg base CX0 1 T.f_check_amount T.d_check_amount ["amount", "most"] (sp_check_amount K) := ok_check_amount T
    have G_check_weights : FnOk P w K mg base CX0 1 T.f_check_weights T.d_check_weights ["weights", "amount"] (sp_check_weights K) := ok_check_weights T
    have G_greatest_quotient : FnOk P w K mg base CX0 1 T.f_greatest_quotient T.d_greatest_quotient ["weights", "parts"] (sp_greatest_quotient K) := ok_greatest_quotient T
    refine ⟨_, (pss_cons (ps_expr (pe_call G_check_amount hr (by rfl) T.m_check_amount T.F_check_amount.kp T.b_check_amount .nil pass0 (pa_cons (pv 0) (pa_cons (pe_glob (v := .int 1000000000000000000) rfl T.m_MOST_AMOUNT ⟨_, rfl⟩) pa_nil))))
    (pss_cons (ps_expr (pe_call G_check_weights hr (by rfl) T.m_check_weights T.F_check_weights.kp T.b_check_weights .nil pass0 (pa_cons (pv 1) (pa_cons (pv 0) pa_nil))))
    (pss_cons (ps_set (i := 2) sc_split.nd rfl (Or.inr rfl) (pe_callB (cr_sum rfl) (by rfl) T.z_sum (by decide +kernel) (pa_cons (pv 1) pa_nil)))
    (pss_cons (ps_if (pt_cmpR op_eq (pv 2) pe_int (nomark _))
      (pss_one (ps_ret (pe_op op_rep (pe_lst (pa_cons pe_int pa_nil)) (pe_callB call_len_seq (by rfl) T.z_len PySem.boot_len (pa_cons (pv 1) pa_nil)))))
      pss_nil)
    (pss_cons (ps_setLc (i := 3) (own := [("weight", 4)]) (g := gName 4) (tt := tYes) rfl sc_split.nd rfl rfl (sw_true rfl rfl rfl (by decide +kernel)) (pi_list (pv 1)) (blkOk_by (own := [("weight", 4)]) (N := N_split) (sc := defScope s_split) (by decide +kernel)) (fun _ _ _ _ _ => (pg_name (i := 4) sc_split.nd rfl (Or.inl rfl))) (fun _ _ _ _ _ => pts_nil) (fun _ _ _ _ _ => (pe_op op_fdivW (pe_op op_mul (pv 0) (pv 4)) (pv 2))))
    (pss_cons (ps_for PassesOwn.never rfl (pi_range1 (by rfl) T.z_range (pa_cons (pe_op op_sub (pv 0) (pe_callB (cr_sum rfl) (by rfl) T.z_sum (by decide +kernel) (pa_cons (pv 3) pa_nil))) pa_nil)) (pg_name (i := 5) sc_split.nd rfl (Or.inl rfl))
      (pss_one (ps_augS (pv 3) (pe_call G_greatest_quotient hr (by rfl) T.m_greatest_quotient T.F_greatest_quotient.kp T.b_greatest_quotient .nil pass0 (pa_cons (pv 1) (pa_cons (pv 3) pa_nil))) pget_list pe_int ip_add set_list)))
    (pss_one (ps_ret (pv 3))))))))), ?_⟩
    have l0 := hw.l0
    have l1 := hw.l1
    walk_at "st"
    intro H1 e1
    have hs1 := e1.seq hs
    walk_at "st"
    have hs0 := sum_nonneg ws hw.b0
    refine iteB (fun h => ?_) (fun h => ?_)
    · have hz0 : ws.sum = 0 := V.int.inj (dec_t h)
      walk_at "st"
      intro p np
      have e2 := e1.trans (same_upd (o := .lst [.int 0]) np)
      have hs2 := e2.seq hs
      refine ⟨_, rfl, _, _, rfl, .inl hs2, ?_⟩
      rw [List.length_map]
      refine ⟨p, _, [.int 0], rfl, rfl, upd_same, by omega, by omega, ?_, fun p2 np2 => ?_⟩
      · refine Nat.le_of_lt (small1000 ?_)
        show 1 * (ws.length : Int).toNat ≤ 1000
        omega
      refine q p2 _ (e2.trans (same_upd np2)) (e2.free np2) ?_
      rw [upd_same]
      refine congrArg (fun z => some (HO.lst z)) ?_
      unfold splitOf
      rw [if_pos hz0, List.map_map, Int.toNat_natCast]
      have : ∀ (l : List Int), (List.replicate l.length [V.int 0]).flatten = l.map (V.int ∘ fun _ => 0) := by
        intro l
        induction l with
        | nil => rfl
        | cons x r ih =>
          rw [List.length_cons, List.replicate_succ, List.flatten_cons, ih]
          rfl
      exact this ws
    · have hz0 : ws.sum ≠ 0 := fun z => dec_f h (congrArg V.int z)
      have ht : 0 < ws.sum := by omega
      have hsl := sum_le_mul ws _ hw.b1
      walk_at "st"
      intro D nD
      refine lc_list (K := K) (a := a) (xs := ws.map V.int) (fun i H' => H' = upd H1 D (.lst ((floors amount ws.sum (ws.take i)).map V.int))) rfl (fun i H' _ e => by rw [e]; exact (same_upd nD).seq hs1) ?_ ?_
      · rintro i x H' hx rfl
        obtain ⟨z, hz', rfl⟩ := ints_at hx
        have hm := List.mem_of_getElem? hz'
        have hi := (List.getElem?_eq_some_iff.mp hz').1
        refine ⟨rfl, ?_⟩
        walk_at "st"
        refine ⟨wide_div (b := 64) ht (by omega) (by decide) (by decide), ?_⟩
        walk_at "st"
        refine ⟨?_, ?_⟩
        · refine small1000 ?_
          rw [List.length_map, floors_len, List.length_take]
          omega
        · rw [upd_upd, take_succ hz']
          unfold floors
          rw [List.map_append, List.map_append]
          rfl
      · rintro H' rfl
        rw [List.take_of_length_le (by rw [List.length_map]; exact Nat.le_refl _)]
        have hD : (upd H1 D (.lst ((floors amount ws.sum ws).map V.int))) D = some (.lst ((floors amount ws.sum ws).map V.int)) := upd_same
        have e2 := e1.trans (same_upd (o := .lst ((floors amount ws.sum ws).map V.int)) nD)
        have nD0 := e1.free nD
        generalize upd H1 D (.lst ((floors amount ws.sum ws).map V.int)) = H2 at hD e2
        have f1 := floors_le (amount := amount) ht
        have f2 := floors_rest (amount := amount) ht
        have f3 := sum_nonneg _ (floors_nonneg ha0 ht hw.b0)
        walk_at "st"
        have hs2 := e2.seq hs
        refine for_range (lo := 0) (n := (amount - (floors amount ws.sum ws).sum).toNat) (fun i σ H' => (∃ v5, σ = [some (.int amount), some (.ref a), some (.int ws.sum), some (.ref D), none, v5]) ∧ Same H H' ∧ H' D = some (.lst ((steps ws i (floors amount ws.sum ws)).map V.int))) ⟨⟨none, rfl⟩, e2, hD⟩ ?_ ?_
        · rintro i σ H' hi ⟨⟨v5, rfl⟩, e3, hD3⟩
          have hs3 := e3.seq hs
          have hlen3 : (steps ws i (floors amount ws.sum ws)).length = ws.length := by rw [steps_len, floors_len]
          have hg := gq_lt ws (steps ws i (floors amount ws.sum ws)) ws.length l0
          have hat : ((steps ws i (floors amount ws.sum ws)).map V.int)[gq ws (steps ws i (floors amount ws.sum ws)) ws.length]? = some (.int (at0 (steps ws i (floors amount ws.sum ws)) (gq ws (steps ws i (floors amount ws.sum ws)) ws.length))) := by
            rw [List.getElem?_map, at0_lt (by omega)]
            rfl
          walk_at "st"
          refine ⟨ixN_nat (by rw [List.length_map]; omega), ⟨some (.int (0 + (i : Int))), rfl⟩, fun b o e => ?_, ?_⟩
          · rw [upd_ne (ne_of_none e nD0)]
            exact e3 b o e
          · rw [upd_same]
            refine congrArg (fun z => some (HO.lst z)) ?_
            rw [← List.map_set]
            rfl
        · rintro σ H' ⟨⟨v5, rfl⟩, e3, hD3⟩
          walk_at "st"
          refine q D H' e3 nD0 ?_
          rw [hD3]
          unfold splitOf
          rw [if_neg hz0]

def sp_is_integral (K : PySem.W.Frag) : Sp := fun vs H Q _ => ∃ x : Int, vs = [.int x] ∧ Q (.bl true) H
set_option maxHeartbeats 0 in
theorem ok_is_integral (T : Txt K mg) : FnOk P w K mg base CX0 1 T.f_is_integral T.d_is_integral ["value"] (sp_is_integral K) := by
  refine T.F_is_integral.ok sc_is_integral (fun vs H Q E h => ?_) (fun cdv A outer s H vs Q E hr h => ?_)
  · obtain ⟨x, rfl, _⟩ := h
    rfl
  · obtain ⟨x, rfl, q⟩ := h
    refine ⟨_, (pss_one (ps_ret (pe_and (pe_callB call_isi (by rfl) T.z_isinstance (by decide +kernel) (pa_cons (pv 0) (pa_cons (pe_bltn (v := .ty "int") (u := .type "int") (by rfl) T.z_int (by decide +kernel) rfl) pa_nil))) (pe_one (pe_not (pe_callB call_isi (by rfl) T.z_isinstance (by decide +kernel) (pa_cons (pv 0) (pa_cons (pe_bltn (v := .ty "bool") (u := .type "bool") (by rfl) T.z_bool (by decide +kernel) rfl) pa_nil)))))))), ?_⟩
    refine ⟨_, rfl, ?_⟩
    refine ⟨_, _, _, _, true, rfl, .ty _, .base (.int _), kit_ty (by decide +kernel), ?_⟩
    refine ⟨true, rfl, iteT ?_⟩
    refine ⟨_, rfl, ?_⟩
    refine ⟨_, _, _, _, false, rfl, .ty _, .base (.int _), kit_ty (by decide +kernel), ?_⟩
    refine ⟨false, rfl, ?_⟩
    exact q
def sp_is_within (K : PySem.W.Frag) : Sp := fun vs H Q _ => ∃ a b x : Int, vs = [.int a, .int b, .int x] ∧ Q (.bl (decide (a ≤ x ∧ x ≤ b))) H
set_option maxHeartbeats 0 in
theorem ok_is_within (T : Txt K mg) : FnOk P w K mg base CX0 2 T.f_is_within T.d_is_within ["least", "most", "value"] (sp_is_within K) := by
  refine T.F_is_within.ok sc_is_within (fun vs H Q E h => ?_) (fun cdv A outer s H vs Q E hr h => ?_)
  · obtain ⟨a, b, x, rfl, _⟩ := h
    rfl
  · obtain ⟨a, b, x, rfl, q⟩ := h
    have G_is_integral : FnOk P w K mg base CX0 1 T.f_is_integral T.d_is_integral ["value"] (sp_is_integral K) := ok_is_integral T
    refine ⟨_, (pss_one (ps_ret (pe_and (pe_call G_is_integral hr (by rfl) T.m_is_integral T.F_is_integral.kp T.b_is_integral .nil pass0 (pa_cons (pv 2) pa_nil)) (pe_one (pe_chain op_le op_le (pv 0) (pv 2) (pv 1)))))), ?_⟩
    walk_at "st"
    refine iteB (fun h => ?_) (fun h => ?_)
    · walk_at "st"
      rw [show (decide (a ≤ x ∧ x ≤ b)) = decide (x ≤ b) from decide_eq_decide.mpr ⟨fun z => z.2, fun z => ⟨dec_t h, z⟩⟩] at q
      exact q
    · rw [decide_eq_false (fun z => dec_f h z.1)] at q
      exact q

def sp_law_cell (K : PySem.W.Frag) : Sp := fun vs H Q _ => ∃ (a : Addr) (ns : List Int) (j : Nat), vs = [.ref a, .int j] ∧ SqL K H a (ns.map V.int) ∧ Q (.int (cellOf ns j)) H
set_option maxHeartbeats 0 in
theorem ok_law_cell (T : Txt K mg) : FnOk P w K mg base CX0 1 T.f_law_cell T.d_law_cell ["script", "k"] (sp_law_cell K) := by
  refine T.F_law_cell.ok sc_law_cell (fun vs H Q E h => ?_) (fun cdv A outer s H vs Q E hr h => ?_)
  · obtain ⟨a, ns, j, rfl, _⟩ := h
    rfl
  · obtain ⟨a, ns, j, rfl, hs, q⟩ := h
    refine ⟨_, (pss_cons (ps_if (pt_cmpR op_lt (pv 1) (pe_callB call_len_seq (by rfl) T.z_len PySem.boot_len (pa_cons (pv 0) pa_nil)) (nomark _))
      (pss_one (ps_ret (pe_ix ix_list (pv 0) (pv 1) (fun _ _ => rfl))))
      pss_nil)
    (pss_one (ps_ret pe_int))), ?_⟩
    walk_at "st"
    refine iteD (fun h => ?_) (fun h => ?_)
    · have hj : j < ns.length := by rw [List.length_map] at h; omega
      walk_at "st"
      exact ⟨atI_ints hj, q⟩
    · have hj : ¬ j < ns.length := by rw [List.length_map] at h; omega
      rw [cellOf_out hj] at q
      exact q

/-- the draws of a cell, one by one -/
def restB (size r : Int) : Nat → Int
  | 0 => r
  | k + 1 => restB size r k / size
def restS (r : Int) : Nat → Int
  | 0 => r
  | k + 1 => (restS r k * 48271 + (k : Int) * 69621 + 11) % 2147483647
def drawG (cell size : Int) (k : Nat) : Int :=
  if 1000000000000000000 ≤ (if cell < 0 then -cell else cell) then restB size (if cell < 0 then -cell else cell) k % size
  else (restS (if cell < 0 then -cell else cell) (k + 1) * 16807 + (k : Int)) % 2147483629 % size
theorem drawG_bound {cell size : Int} (h : 0 < size) (k : Nat) : 0 ≤ drawG cell size k ∧ drawG cell size k < size := by
  unfold drawG
  generalize (if cell < 0 then -cell else cell) = r
  split <;> exact ⟨Int.emod_nonneg _ (by omega), Int.emod_lt_of_pos _ h⟩
def sp_law_draws (K : PySem.W.Frag) : Sp := fun vs H Q _ => ∃ (cell : Int) (n : Nat) (size : Int), vs = [.int cell, .int (n : Int), .int size] ∧ n ≤ 1000 ∧ 0 < size ∧ size < 1073741824 ∧
  ∀ p H', Same H H' → H p = none → H' p = some (.lst ((rowI n (drawG cell size)).map V.int)) → Q (.ref p) H'
set_option maxHeartbeats 0 in
theorem ok_law_draws (T : Txt K mg) : FnOk P w K mg base CX0 1 T.f_law_draws T.d_law_draws ["cell", "count", "size"] (sp_law_draws K) := by
  refine T.F_law_draws.ok sc_law_draws (fun vs H Q E h => ?_) (fun cdv A outer s H vs Q E hr h => ?_)
  · obtain ⟨cell, n, size, rfl, _⟩ := h
    rfl
  · obtain ⟨cell, n, size, rfl, hn, h0, h1, q⟩ := h
    refine ⟨_, (pss_cons (ps_set (i := 3) sc_law_draws.nd rfl (Or.inl rfl) (pe_lst pa_nil))
    (pss_cons (ps_set (i := 4) sc_law_draws.nd rfl (Or.inl rfl) (pe_callB call_abs (by rfl) T.z_abs (by decide +kernel) (pa_cons (pv 0) pa_nil)))
    (pss_cons (ps_if (pt_cmpR op_ge (pv 4) pe_int (nomark _))
      (pss_cons (ps_for PassesOwn.never rfl (pi_range1 (by rfl) T.z_range (pa_cons (pv 1) pa_nil)) (pg_name (i := 5) sc_law_draws.nd rfl (Or.inl rfl))
        (pss_cons (ps_expr (pe_bm PySem.F.plainAttrs_list PySem.F.slot_list_append PySem.F.type_list_append mt_append (pv 3) (pa_cons (pe_op op_mod (pe_callTy call_int_i (by rfl) T.z_int (by decide +kernel) (pa_cons (pv 4) pa_nil)) (pv 2)) pa_nil)))
        (pss_one (ps_set (i := 4) sc_law_draws.nd rfl (Or.inl rfl) (pe_op op_fdiv (pv 4) (pv 2))))))
      (pss_one (ps_ret (pv 3))))
      pss_nil)
    (pss_cons (ps_for PassesOwn.never rfl (pi_range1 (by rfl) T.z_range (pa_cons (pv 1) pa_nil)) (pg_name (i := 5) sc_law_draws.nd rfl (Or.inl rfl))
      (pss_cons (ps_set (i := 4) sc_law_draws.nd rfl (Or.inl rfl) (pe_op op_mod (pe_callTy call_int_i (by rfl) T.z_int (by decide +kernel) (pa_cons (pe_op op_add (pe_op op_add (pe_op op_mul (pv 4) pe_int) (pe_op op_mul (pv 5) pe_int)) pe_int) pa_nil)) pe_int))
      (pss_one (ps_expr (pe_bm PySem.F.plainAttrs_list PySem.F.slot_list_append PySem.F.type_list_append mt_append (pv 3) (pa_cons (pe_op op_mod (pe_op op_mod (pe_callTy call_int_i (by rfl) T.z_int (by decide +kernel) (pa_cons (pe_op op_add (pe_op op_mul (pv 4) pe_int) (pv 5)) pa_nil)) pe_int) (pv 2)) pa_nil))))))
    (pss_one (ps_ret (pv 3))))))), ?_⟩
    walk_at "st"
    intro D nD
    walk_at "st"
    generalize hrest : (if cell < 0 then -cell else cell) = rest
    have hrest0 : 0 ≤ rest := by rw [← hrest]; split <;> omega
    have eD : (upd H D (.lst [])) D = some (.lst (([] : List Int).map V.int)) := upd_same
    have s1 : Same H (upd H D (.lst [])) := same_upd nD
    generalize upd H D (.lst []) = H1 at eD s1
    refine iteB (fun h => ?_) (fun h => ?_)
    · walk_at "st"
      refine for_range (lo := 0) (n := ((n : Int)).toNat) (fun i σ H' => ∃ (v5 : Option V) (r : Int), σ = [some (.int cell), some (.int (n : Int)), some (.int size), some (.ref D), some (.int r), v5] ∧ 0 ≤ r ∧ H' D = some (.lst ((rowI i (drawG cell size)).map V.int)) ∧ restB size rest i = r ∧ Same H H')
        ⟨none, rest, rfl, hrest0, eD, rfl, s1⟩ ?_ ?_
      · rintro i σ H' hi ⟨v5, r, rfl, hr0, hD, hrr, e⟩
        have hlt : ((rowI i (drawG cell size)).map V.int).length < sizeLine := small1000 (by rw [List.length_map, rowI_len]; omega)
        walk_at "st"
        refine ⟨some (.int (0 + (i : Int))), r / size, rfl, Int.ediv_nonneg hr0 (by omega), ?_, ?_, fun b o z => ?_⟩
        · have eg : drawG cell size i = r % size := by
            unfold drawG
            rw [hrest, if_pos (dec_t h), hrr]
          rw [upd_same, rowI_succ, List.map_append, eg]
          rfl
        · show restB size rest i / size = _
          rw [hrr]
        · rw [upd_ne (ne_of_none z nD)]
          exact e b o z
      · rintro σ H' ⟨v5, r, rfl, hr0, hD, hrr, e⟩
        walk_at "st"
        exact q D H' e nD (by rw [Int.toNat_natCast] at hD; exact hD)
    · walk_at "st"
      refine for_range (lo := 0) (n := ((n : Int)).toNat) (fun i σ H' => ∃ (v5 : Option V) (r : Int), σ = [some (.int cell), some (.int (n : Int)), some (.int size), some (.ref D), some (.int r), v5] ∧ 0 ≤ r ∧ H' D = some (.lst ((rowI i (drawG cell size)).map V.int)) ∧ restS rest i = r ∧ Same H H')
        ⟨none, rest, rfl, hrest0, eD, rfl, s1⟩ ?_ ?_
      · rintro i σ H' hi ⟨v5, r, rfl, hr0, hD, hrr, e⟩
        have hlt : ((rowI i (drawG cell size)).map V.int).length < sizeLine := small1000 (by rw [List.length_map, rowI_len]; omega)
        walk_at "st"
        refine ⟨some (.int (0 + (i : Int))), (r * 48271 + (0 + (i : Int)) * 69621 + 11) % 2147483647, rfl, Int.emod_nonneg _ (by decide), ?_, ?_, fun b o z => ?_⟩
        · have eg : drawG cell size i = ((r * 48271 + (0 + (i : Int)) * 69621 + 11) % 2147483647 * 16807 + (0 + (i : Int))) % 2147483629 % size := by
            unfold drawG
            rw [hrest, if_neg (dec_f h)]
            show ((restS rest i * 48271 + (i : Int) * 69621 + 11) % 2147483647 * 16807 + (i : Int)) % 2147483629 % size = _
            rw [hrr, Int.zero_add]
          rw [upd_same, rowI_succ, List.map_append, eg]
          rfl
        · show (restS rest i * 48271 + (i : Int) * 69621 + 11) % 2147483647 = _
          rw [hrr, Int.zero_add]
        · rw [upd_ne (ne_of_none z nD)]
          exact e b o z
      · rintro σ H' ⟨v5, r, rfl, hr0, hD, hrr, e⟩
        walk_at "st"
        exact q D H' e nD (by rw [Int.toNat_natCast] at hD; exact hD)

def sp_law_integers (K : PySem.W.Frag) : Sp := fun vs H Q _ => ∃ (a : Addr) (ns : List Int) (n : Int), vs = [.ref a, .int n] ∧ H a = some (.lst (ns.map V.int)) ∧ (ns.length : Int) = n ∧ Q (.bl true) H
set_option maxHeartbeats 0 in
theorem ok_law_integers (T : Txt K mg) : FnOk P w K mg base CX0 1 T.f_law_integers T.d_law_integers ["actual", "count"] (sp_law_integers K) := by
  refine T.F_law_integers.ok sc_law_integers (fun vs H Q E h => ?_) (fun cdv A outer s H vs Q E hr h => ?_)
  · obtain ⟨a, ns, n, rfl, _⟩ := h
    rfl
  · obtain ⟨a, ns, n, rfl, hs, hl, q⟩ := h
    refine ⟨_, (pss_cons (ps_if (PW.pt (pw_or (pt_not (pt_val (pe_callB call_isi (by rfl) T.z_isinstance (by decide +kernel) (pa_cons (pv 0) (pa_cons (pe_bltn (v := .ty "list") (u := .type "list") (by rfl) T.z_list (by decide +kernel) rfl) pa_nil))))) (pw_or1 (pt_cmpR op_ne (pe_callB call_len_seq (by rfl) T.z_len PySem.boot_len (pa_cons (pv 0) pa_nil)) (pv 1) (nomark _)))))
      (pss_one (ps_ret pe_bl))
      pss_nil)
    (pss_cons (ps_for PassesOwn.never rfl (pi_list (pv 0)) (pg_name (i := 2) sc_law_integers.nd rfl (Or.inl rfl))
      (pss_one (ps_if (PW.pt (pw_or (pt_not (pt_val (pe_callB call_isi (by rfl) T.z_isinstance (by decide +kernel) (pa_cons (pv 2) (pa_cons (pe_bltn (v := .ty "int") (u := .type "int") (by rfl) T.z_int (by decide +kernel) rfl) pa_nil))))) (pw_or1 (pt_val (pe_callB call_isi (by rfl) T.z_isinstance (by decide +kernel) (pa_cons (pv 2) (pa_cons (pe_bltn (v := .ty "bool") (u := .type "bool") (by rfl) T.z_bool (by decide +kernel) rfl) pa_nil)))))))
        (pss_one (ps_ret pe_bl))
        pss_nil)))
    (pss_one (ps_ret pe_bl)))), ?_⟩
    refine ⟨_, rfl, ?_⟩
    refine ⟨_, _, _, _, true, rfl, .ty _, .base (.lst hs), kit_ty (by decide +kernel), ?_⟩
    refine ⟨_, rfl, iteF ?_⟩
    walk_at "st"
    refine iteB (fun h => (ndec_t h (congrArg V.int (by rw [List.length_map]; exact hl))).elim) (fun _ => ?_)
    walk_at "st"
    refine for_list (K := K) (a := a) (xs := ns.map V.int) (fun i σ H' => (∃ v, σ = [some (.ref a), some (.int n), v]) ∧ H' = H) ⟨⟨none, rfl⟩, rfl⟩ (fun i σ H' _ ⟨_, e⟩ => by rw [e]; exact SqL.of hs) ?_ ?_
    · rintro i x σ H' hx ⟨⟨v, rfl⟩, rfl⟩
      obtain ⟨z, hz, rfl⟩ := ints_at hx
      refine ⟨_, rfl, ?_⟩
      refine ⟨_, _, _, _, true, rfl, .ty _, .base (.int _), kit_ty (by decide +kernel), ?_⟩
      refine ⟨_, rfl, iteF ?_⟩
      refine ⟨_, rfl, ?_⟩
      refine ⟨_, _, _, _, false, rfl, .ty _, .base (.int _), kit_ty (by decide +kernel), ?_⟩
      refine ⟨_, rfl, iteF ?_⟩
      exact ⟨⟨_, rfl⟩, rfl⟩
    · rintro σ H' ⟨⟨v, rfl⟩, rfl⟩
      exact q

def sp_law_is_integer (K : PySem.W.Frag) : Sp := fun vs H Q _ => ∃ x : Int, vs = [.int x] ∧ Q (.bl true) H
set_option maxHeartbeats 0 in
theorem ok_law_is_integer (T : Txt K mg) : FnOk P w K mg base CX0 1 T.f_law_is_integer T.d_law_is_integer ["actual"] (sp_law_is_integer K) := by
  refine T.F_law_is_integer.ok sc_law_is_integer (fun vs H Q E h => ?_) (fun cdv A outer s H vs Q E hr h => ?_)
  · obtain ⟨x, rfl, _⟩ := h
    rfl
  · obtain ⟨x, rfl, q⟩ := h
    refine ⟨_, (pss_one (ps_ret (pe_and (pe_callB call_isi (by rfl) T.z_isinstance (by decide +kernel) (pa_cons (pv 0) (pa_cons (pe_bltn (v := .ty "int") (u := .type "int") (by rfl) T.z_int (by decide +kernel) rfl) pa_nil))) (pe_one (pe_not (pe_callB call_isi (by rfl) T.z_isinstance (by decide +kernel) (pa_cons (pv 0) (pa_cons (pe_bltn (v := .ty "bool") (u := .type "bool") (by rfl) T.z_bool (by decide +kernel) rfl) pa_nil)))))))), ?_⟩
    refine ⟨_, rfl, ?_⟩
    refine ⟨_, _, _, _, true, rfl, .ty _, .base (.int _), kit_ty (by decide +kernel), ?_⟩
    refine ⟨true, rfl, iteT ?_⟩
    refine ⟨_, rfl, ?_⟩
    refine ⟨_, _, _, _, false, rfl, .ty _, .base (.int _), kit_ty (by decide +kernel), ?_⟩
    refine ⟨false, rfl, ?_⟩
    exact q

def sp_check_sizes (K : PySem.W.Frag) : Sp := fun vs H Q _ => ∃ (a : Addr) (ws : List Int), vs = [.ref a] ∧ SqL K H a (ws.map V.int) ∧ sizesOk ws ∧ ∀ H', Same H H' → Q .non H'
set_option maxHeartbeats 0 in
theorem ok_check_sizes (T : Txt K mg) : FnOk P w K mg base CX0 3 T.f_check_sizes T.d_check_sizes ["sizes"] (sp_check_sizes K) := by
  refine T.F_check_sizes.ok sc_check_sizes (fun vs H Q E h => ?_) (fun cdv A outer s H vs Q E hr h => ?_)
  · obtain ⟨a, ws, rfl, _⟩ := h
    rfl
  · obtain ⟨a, ws, rfl, hs, hw, q⟩ := h
    have G_is_within : FnOk P w K mg base CX0 2 T.f_is_within T.d_is_within ["least", "most", "value"] (sp_is_within K) := ok_is_within T
    have hl := hw.1
    refine ⟨_, (pss_one (ps_if (pt_not (pt_val (pe_callB (cr_all rfl) (by rfl) T.z_all (by decide +kernel) (pa_cons (pe_lc (own := [("size", 1)]) (g := gName 1) (tt := tYes) rfl sc_check_sizes.nd (pi_list (pv 0)) (blkOk_by (own := [("size", 1)]) (N := N_check_sizes) (sc := defScope s_check_sizes) (by decide +kernel)) (fun _ _ _ _ _ => (pg_name (i := 1) sc_check_sizes.nd rfl (Or.inl rfl))) (fun _ _ _ _ _ => pts_nil) (fun _ _ _ _ _ => (pe_call G_is_within hr (by rfl) T.m_is_within T.F_is_within.kp T.b_is_within .nil pass0 (pa_cons pe_int (pa_cons (pe_glob (v := .int 1000000000000000) rfl T.m_MOST_SIZE ⟨_, rfl⟩) (pa_cons (pv 1) pa_nil)))))) pa_nil))))
      (pss_one ps_never)
      pss_nil)), ?_⟩
    walk_at "st"
    intro D nD
    refine lc_list (K := K) (a := a) (xs := ws.map V.int) (fun i H' => H' = upd H D (.lst ((List.replicate i true).map V.bl))) rfl (fun i H' _ e => by rw [e]; exact (same_upd nD).seq hs) ?_ ?_
    · rintro i x H' hx rfl
      obtain ⟨z, hz', rfl⟩ := ints_at hx
      have hm := List.mem_of_getElem? hz'
      have hi := (List.getElem?_eq_some_iff.mp hz').1
      have z0 := hw.2 z hm
      refine ⟨rfl, ?_⟩
      walk_at "st"
      refine ⟨small1000 (by rw [List.length_map, List.length_replicate]; omega), ?_⟩
      rw [upd_upd, decide_eq_true z0, List.replicate_succ', List.map_append]
      rfl
    · rintro H' rfl
      have sD := same_upd (o := .lst ((List.replicate (ws.map V.int).length true).map V.bl)) nD
      have hs' := sD.seq hs
      refine ⟨D, List.replicate (ws.map V.int).length true, rfl, .inl (.inl upd_same), ?_⟩
      have ea : (List.replicate (ws.map V.int).length true).all id = true := by
        rw [List.all_eq_true]
        intro b hb
        exact List.eq_of_mem_replicate hb
      rw [ea]
      walk_at "st"
      exact q _ sD
def sp_parts (K : PySem.W.Frag) : Sp := fun vs H Q _ => ∃ (loss : Int) (a : Addr) (ws : List Int), vs = [.int loss, .ref a] ∧ SqL K H a (ws.map V.int) ∧ sizesOk ws ∧ 0 ≤ loss ∧ loss ≤ 1000000000000000 ∧
  ∀ p H', Same H H' → H p = none → H' p = some (.lst ((partT loss ws).map V.int)) → Q (.ref p) H'
set_option maxHeartbeats 0 in
theorem ok_parts (T : Txt K mg) : FnOk P w K mg base CX0 3 T.f_parts T.d_parts ["loss", "sizes"] (sp_parts K) := by
  refine T.F_parts.ok sc_parts (fun vs H Q E h => ?_) (fun cdv A outer s H vs Q E hr h => ?_)
  · obtain ⟨loss, a, ws, rfl, _⟩ := h
    rfl
  · obtain ⟨loss, a, ws, rfl, hs, hw, h0, h1, q⟩ := h
    have G_split : FnOk P w K mg base CX0 2 T.f_split T.d_split ["amount", "weights"] (sp_split K) := ok_split T
    have hnn := hw.nn
    refine ⟨_, (pss_cons (ps_if (pt_not (pt_truth (pv 1) (by intro _; rfl)))
      (pss_one (ps_ret (pe_lst pa_nil)))
      pss_nil)
    (pss_one (ps_ret (pe_call G_split hr (by rfl) T.m_split T.F_split.kp T.b_split .nil pass0 (pa_cons (pe_callB (call_min2 rfl) (by rfl) T.z_min (by decide +kernel) (pa_cons (pv 0) (pa_cons (pe_callB (cr_sum rfl) (by rfl) T.z_sum (by decide +kernel) (pa_cons (pv 1) pa_nil)) pa_nil))) (pa_cons (pv 1) pa_nil)))))), ?_⟩
    walk_at "st"
    refine iteB (fun h => ?_) (fun h => ?_)
    · have he : ws = [] := by
        cases ws with
        | nil => rfl
        | cons => cases h
      walk_at "st"
      intro p np
      refine q p _ (same_upd np) np ?_
      rw [upd_same, he]
      unfold partT
      rw [if_pos rfl]
      rfl
    · have he : ws ≠ [] := fun e => by rw [e] at h; cases h
      have hl : 0 < ws.length := List.length_pos_iff.mpr he
      have hW : Wts ws := ⟨hl, hw.1, fun w x => (hw.2 w x).1, fun w x => (hw.2 w x).2⟩
      have hmin : (if ws.sum < loss then ws.sum else loss) = min loss ws.sum := by split <;> omega
      walk_at "st"
      intro p H' e np hp
      refine q p H' e np ?_
      rw [hp, hmin]
      unfold partT
      rw [if_neg he]
def sp_bear (K : PySem.W.Frag) : Sp := fun vs H Q _ => ∃ (T : Nat → List Int) (loss : Int) (t : Addr) (ps : List Addr) (m : Nat), vs = [.int loss, .ref t] ∧ JagR H t ps m T ∧ m ≤ 100 ∧ (∀ i, i < m → sizesOk (T i)) ∧ 0 ≤ loss ∧ loss ≤ 1000000000000000 ∧
  ∀ r b bs H', Same H H' → H r = none → H' r = some (.tup [.ref b, .int (leftT loss T m)]) → JagR H' b bs m (borneT loss T) → Q (.ref r) H'
set_option maxHeartbeats 0 in
theorem ok_bear (T : Txt K mg) : FnOk P w K mg base CX0 4 T.f_bear T.d_bear ["loss", "tiers"] (sp_bear K) := by
  refine T.F_bear.ok sc_bear (fun vs H Q E h => ?_) (fun cdv A outer s H vs Q E hr h => ?_)
  · obtain ⟨T, loss, t, ps, m, rfl, _⟩ := h
    rfl
  · obtain ⟨T', loss, t, ps, m, rfl, ht, hm, hT, h0, h1, q⟩ := h
    have G_check_sizes : FnOk P w K mg base CX0 3 T.f_check_sizes T.d_check_sizes ["sizes"] (sp_check_sizes K) := ok_check_sizes T
    have G_parts : FnOk P w K mg base CX0 3 T.f_parts T.d_parts ["loss", "sizes"] (sp_parts K) := ok_parts T
    have hts : SqL K H t (ps.map V.ref) := SqL.of ht.lst
    refine ⟨_, (pss_cons (ps_expr (pe_call G_check_sizes hr (by rfl) T.m_check_sizes T.F_check_sizes.kp T.b_check_sizes .nil pass0 (pa_cons (pe_lst (pa_cons (pv 0) pa_nil)) pa_nil)))
    (pss_cons (ps_for PassesOwn.never rfl (pi_list (pv 1)) (pg_name (i := 2) sc_bear.nd rfl (Or.inl rfl))
      (pss_one (ps_expr (pe_call G_check_sizes hr (by rfl) T.m_check_sizes T.F_check_sizes.kp T.b_check_sizes .nil pass0 (pa_cons (pv 2) pa_nil)))))
    (pss_cons (ps_set (i := 3) sc_bear.nd rfl (Or.inl rfl) (pe_lst pa_nil))
    (pss_cons (ps_set (i := 4) sc_bear.nd rfl (Or.inl rfl) (pv 0))
    (pss_cons (ps_for PassesOwn.never rfl (pi_list (pv 1)) (pg_name (i := 2) sc_bear.nd rfl (Or.inl rfl))
      (pss_cons (ps_set (i := 5) sc_bear.nd rfl (Or.inl rfl) (pe_call G_parts hr (by rfl) T.m_parts T.F_parts.kp T.b_parts .nil pass0 (pa_cons (pv 4) (pa_cons (pv 2) pa_nil))))
      (pss_cons (ps_expr (pe_bm PySem.F.plainAttrs_list PySem.F.slot_list_append PySem.F.type_list_append mt_append (pv 3) (pa_cons (pv 5) pa_nil)))
      (pss_one (ps_aug (i := 4) sc_bear.nd rfl (Or.inl rfl) (pe_callB (cr_sum rfl) (by rfl) T.z_sum (by decide +kernel) (pa_cons (pv 5) pa_nil)) ip_sub)))))
    (pss_one (ps_ret (pe_tup (pa_cons (pv 3) (pa_cons (pv 4) pa_nil)))))))))), ?_⟩
    walk_at "st"
    intro O nO
    have sO := same_upd (o := .lst [.int loss]) nO
    have hO : SqL K (upd H O (.lst [.int loss])) O ([loss].map V.int) := SqL.of upd_same
    generalize upd H O _ = H1 at *
    walk_at "st"
    refine ⟨⟨by show 1 ≤ 40; decide, fun x hx => by rw [List.mem_singleton.mp hx]; exact ⟨h0, h1⟩⟩, fun H2 e2 => ?_⟩
    have e02 := sO.trans e2
    walk_at "st"
    have hts2 := e02.seq hts
    refine ⟨⟨_, hts2⟩, ?_⟩
    refine for_list (K := K) (a := t) (xs := ps.map V.ref) (fun i σ H' => (∃ v2 : Option V, σ = [some (.int loss), some (.ref t), v2, none, none, none]) ∧ Same H H') ⟨⟨none, rfl⟩, e02⟩ (fun i σ H' _ ⟨_, e⟩ => e.seq hts) ?_ ?_
    · rintro i x σ H3 hx ⟨⟨v2, rfl⟩, e3⟩
      obtain ⟨p, hp, rfl⟩ := refs_at hx
      have hi := (List.getElem?_eq_some_iff.mp hp).1
      rw [ht.len] at hi
      have hrow : SqL K H3 p ((T' i).map V.int) := e3.seq (SqL.of (ht.row i p hp))
      have hok := hT i hi
      walk_at "st"
      exact fun H4 e4 => ⟨⟨_, rfl⟩, e3.trans e4⟩
    · rintro σ H3 ⟨⟨v2, rfl⟩, e3⟩
      have hts3 := e3.seq hts
      walk_at "st"
      intro B nB
      have sB := same_upd (o := .lst []) nB
      have hB : upd H3 B (.lst []) B = some (.lst []) := upd_same
      have hts4 := sB.seq hts3
      generalize upd H3 B _ = H4 at *
      walk_at "st"
      refine for_list (K := K) (a := t) (xs := ps.map V.ref) (fun i σ H' => (∃ (v2 v5 : Option V) (bs : List Addr), σ = [some (.int loss), some (.ref t), v2, some (.ref B), some (.int (leftT loss T' i)), v5] ∧ JagR H' B bs i (borneT loss T')) ∧ Same H3 H') ⟨⟨_, none, [], by rw [leftT_zero h0]; rfl, .nil _ hB⟩, sB⟩ (fun i σ H' _ ⟨_, e⟩ => e.seq hts3) ?_ ?_
      · rintro i x σ H5 hx ⟨⟨v2, v5, bs, rfl, hJ⟩, e5⟩
        obtain ⟨p, hp, rfl⟩ := refs_at hx
        have hi := (List.getElem?_eq_some_iff.mp hp).1
        rw [ht.len] at hi
        have hrow : SqL K H5 p ((T' i).map V.int) := (e3.trans e5).seq (SqL.of (ht.row i p hp))
        have hok := hT i hi
        have l0 := leftT_nn loss T' i
        have l1 := leftT_le (k := i) h0 fun j hj => hT j (by omega)
        walk_at "st"
        intro q1 H6 e6 nq hq
        have hJ6 := hJ.push e6 nq hq
        have hB6 := e6 _ _ hJ.lst
        have nqB : q1 ≠ B := fun z => by rw [z, hJ.lst] at nq; cases nq
        have hsz : (bs.map V.ref).length < sizeLine := small1000 (by rw [List.length_map, hJ.len]; omega)
        have hq7 : SqL K (upd H6 B (.lst (bs.map V.ref ++ [V.ref q1]))) q1 ((partT (leftT loss T' i) (T' i)).map V.int) := SqL.of ((upd_ne nqB).trans hq)
        walk_at "st"
        refine ⟨⟨some (.ref p), some (.ref q1), bs ++ [q1], ?_, hJ6⟩, TabR.keep (e5.trans e6) nB⟩
        rw [leftT_succ hok]
        rfl
      · rintro σ H5 ⟨⟨v2, v5, bs, rfl, hJ⟩, e5⟩
        rw [List.length_map, ht.len] at hJ
        rw [List.length_map, ht.len]
        walk_at "st"
        exact fun r nr => q r B bs _ ((e3.trans e5).trans (same_upd nr)) ((e3.trans e5).free nr) upd_same (hJ.same (same_upd nr))

abbrev absI (x : Int) : Int := if x < 0 then -x else x
theorem absI_nn (x : Int) : 0 ≤ absI x := by
  unfold absI
  split <;> omega
def sz4 (m : Int) : Int := if m = 0 then 3 else if m = 1 then 50 else if m = 2 then 1000 else 1000000001
theorem sz4_at {m : Int} (h0 : 0 ≤ m) (h1 : m < 4) : atI [V.int 3, V.int 50, V.int 1000, V.int 1000000001] m = some (.int (sz4 m)) := by
  rcases (by omega : m = 0 ∨ m = 1 ∨ m = 2 ∨ m = 3) with e | e | e | e <;> (rw [e]; rfl)
theorem sz4_b (m : Int) : 0 < sz4 m ∧ sz4 m ≤ 1000000001 := by
  unfold sz4
  split
  · omega
  · split
    · omega
    · split <;> omega
def cntF (ns : List Int) (k : Nat) : Int := absI (cellOf ns 0) / (7 + (k : Int)) % 5
def sizF (ns : List Int) (k : Nat) : Int := sz4 (absI (cellOf ns 1) / (1 + (k : Int)) % 4)
def tierF (ns : List Int) (k : Nat) : List Int := rowI (cntF ns k).toNat (drawG (cellOf ns (2 + k)) (sizF ns k))
theorem cntF_b (ns : List Int) (k : Nat) : 0 ≤ cntF ns k ∧ cntF ns k ≤ 4 := by
  unfold cntF
  omega
theorem tierF_b (ns : List Int) (k : Nat) : (tierF ns k).length ≤ 4 ∧ ∀ x, x ∈ tierF ns k → 0 ≤ x ∧ x ≤ 1000000000 := by
  have h := cntF_b ns k
  unfold tierF
  refine ⟨by rw [rowI_len]; omega, fun x hx => ?_⟩
  obtain ⟨i, _, rfl⟩ := rowI_mem.mp hx
  have h1 := sz4_b (absI (cellOf ns 1) / (1 + (k : Int)) % 4)
  have h2 := drawG_bound (cell := cellOf ns (2 + k)) (size := sizF ns k) h1.1 i
  unfold sizF at h2
  unfold sizF
  omega
theorem tierF_ok (ns : List Int) (k : Nat) : sizesOk (tierF ns k) := ⟨by have := (tierF_b ns k).1; omega, fun x hx => by have := (tierF_b ns k).2 x hx; omega⟩
def sp_law_tiers (K : PySem.W.Frag) : Sp := fun vs H Q _ => ∃ (ns : List Int) (a : Addr), vs = [.ref a] ∧ SqL K H a (ns.map V.int) ∧ ∀ (t : Addr) (ps : List Addr) (m : Nat) (H' : Hp), (m : Int) = absI (cellOf ns 0) % 7 → Same H H' → H t = none → JagR H' t ps m (tierF ns) → Q (.ref t) H'
set_option maxHeartbeats 0 in
theorem ok_law_tiers (T : Txt K mg) : FnOk P w K mg base CX0 2 T.f_law_tiers T.d_law_tiers ["script"] (sp_law_tiers K) := by
  refine T.F_law_tiers.ok sc_law_tiers (fun vs H Q E h => ?_) (fun cdv A outer s H vs Q E hr h => ?_)
  · obtain ⟨ns, a, rfl, _⟩ := h
    rfl
  · obtain ⟨ns, a, rfl, hs, q⟩ := h
    have G_law_draws : FnOk P w K mg base CX0 1 T.f_law_draws T.d_law_draws ["cell", "count", "size"] (sp_law_draws K) := ok_law_draws T
    have G_law_cell : FnOk P w K mg base CX0 1 T.f_law_cell T.d_law_cell ["script", "k"] (sp_law_cell K) := ok_law_cell T
    refine ⟨_, (pss_cons (ps_set (i := 1) sc_law_tiers.nd rfl (Or.inl rfl) (pe_lst pa_nil))
    (pss_cons (ps_for PassesOwn.never rfl (pi_range1 (by rfl) T.z_range (pa_cons (pe_op op_mod (pe_callB call_abs (by rfl) T.z_abs (by decide +kernel) (pa_cons (pe_call G_law_cell hr (by rfl) T.m_law_cell T.F_law_cell.kp T.b_law_cell .nil pass0 (pa_cons (pv 0) (pa_cons pe_int pa_nil))) pa_nil)) pe_int) pa_nil)) (pg_name (i := 2) sc_law_tiers.nd rfl (Or.inl rfl))
      (pss_cons (ps_set (i := 3) sc_law_tiers.nd rfl (Or.inl rfl) (pe_op op_mod (pe_op op_fdiv (pe_callB call_abs (by rfl) T.z_abs (by decide +kernel) (pa_cons (pe_call G_law_cell hr (by rfl) T.m_law_cell T.F_law_cell.kp T.b_law_cell .nil pass0 (pa_cons (pv 0) (pa_cons pe_int pa_nil))) pa_nil)) (pe_op op_add pe_int (pv 2))) pe_int))
      (pss_cons (ps_set (i := 4) sc_law_tiers.nd rfl (Or.inl rfl) (pe_ix ix_list (pe_lst (pa_cons pe_int (pa_cons pe_int (pa_cons pe_int (pa_cons pe_int pa_nil))))) (pe_op op_mod (pe_op op_fdiv (pe_callB call_abs (by rfl) T.z_abs (by decide +kernel) (pa_cons (pe_call G_law_cell hr (by rfl) T.m_law_cell T.F_law_cell.kp T.b_law_cell .nil pass0 (pa_cons (pv 0) (pa_cons pe_int pa_nil))) pa_nil)) (pe_op op_add pe_int (pv 2))) pe_int) (fun _ _ => rfl)))
      (pss_one (ps_expr (pe_bm PySem.F.plainAttrs_list PySem.F.slot_list_append PySem.F.type_list_append mt_append (pv 1) (pa_cons (pe_call G_law_draws hr (by rfl) T.m_law_draws T.F_law_draws.kp T.b_law_draws .nil pass0 (pa_cons (pe_call G_law_cell hr (by rfl) T.m_law_cell T.F_law_cell.kp T.b_law_cell .nil pass0 (pa_cons (pv 0) (pa_cons (pe_op op_add pe_int (pv 2)) pa_nil))) (pa_cons (pv 3) (pa_cons (pv 4) pa_nil)))) pa_nil)))))))
    (pss_one (ps_ret (pv 1))))), ?_⟩
    obtain ⟨m, em, hm⟩ : ∃ m : Nat, absI (cellOf ns 0) % 7 = (m : Int) ∧ m ≤ 6 := ⟨(absI (cellOf ns 0) % 7).toNat, by omega, by omega⟩
    walk_at "st"
    intro t nt
    have st := same_upd (o := .lst []) nt
    have ht : upd H t (.lst []) t = some (.lst []) := upd_same
    have hs1 := st.seq hs
    generalize upd H t _ = H1 at *
    walk_at "st"
    refine for_range (lo := 0) (n := (absI (cellOf ns 0) % 7).toNat) (fun i σ H' => (∃ (v2 v3 v4 : Option V) (ps : List Addr), σ = [some (.ref a), some (.ref t), v2, v3, v4] ∧ JagR H' t ps i (tierF ns)) ∧ Same H H') ⟨⟨none, none, none, [], rfl, .nil _ ht⟩, st⟩ ?_ ?_
    · rintro i σ H2 hi ⟨⟨v2, v3, v4, ps, rfl, hJ⟩, e⟩
      rw [show (0 : Int) + i = ((i : Nat) : Int) by omega]
      have hs2 := e.seq hs
      have hm4 : 0 ≤ absI (cellOf ns 1) / (1 + (i : Int)) % 4 ∧ absI (cellOf ns 1) / (1 + (i : Int)) % 4 < 4 := by omega
      have hat := sz4_at hm4.1 hm4.2
      have hsb := sz4_b (absI (cellOf ns 1) / (1 + (i : Int)) % 4)
      have hcn : absI (cellOf ns 0) / (7 + (i : Int)) % 5 = (((cntF ns i).toNat : Nat) : Int) := by
        have := cntF_b ns i
        rw [Int.toNat_of_nonneg this.1]
        rfl
      have htl := hJ.lst
      walk_at "st"
      dsimp only
      rw [hcn]
      intro L nL
      have sL := same_upd (o := .lst [.int 3, .int 50, .int 1000, .int 1000000001]) nL
      have hL : SqL K (upd H2 L (.lst [.int 3, .int 50, .int 1000, .int 1000000001])) L [.int 3, .int 50, .int 1000, .int 1000000001] := SqL.of upd_same
      have hs3 := sL.seq hs2
      have htl3 := sL _ _ htl
      generalize upd H2 L _ = H3 at *
      walk_at "st"
      intro p H4 e4 np hp
      have hJ4 := (hJ.same sL).push e4 np (by
        rw [hp]
        rfl)
      have ht4 := e4 _ _ htl3
      have hsz : (ps.map V.ref).length < sizeLine := small1000 (by rw [List.length_map, hJ.len]; omega)
      walk_at "st"
      exact ⟨⟨_, _, _, ps ++ [p], rfl, hJ4⟩, TabR.keep (e.trans (sL.trans e4)) nt⟩
    · rintro σ H2 ⟨⟨v2, v3, v4, ps, rfl, hJ⟩, e⟩
      walk_at "st"
      exact q t ps _ H2 (by omega) e nt hJ
def sp_law_loss (K : PySem.W.Frag) : Sp := fun vs H Q _ => ∃ (T : Nat → List Int) (cell : Int) (t : Addr) (ps : List Addr) (m : Nat), vs = [.int cell, .ref t] ∧ JagR H t ps m T ∧ m ≤ 100 ∧ (∀ i, i < m → 0 ≤ (T i).sum) ∧
  ∀ x H', Same H H' → 0 ≤ x → x ≤ 1000000000 → Q (.int x) H'
set_option maxHeartbeats 0 in
theorem ok_law_loss (T : Txt K mg) : FnOk P w K mg base CX0 1 T.f_law_loss T.d_law_loss ["cell", "tiers"] (sp_law_loss K) := by
  refine T.F_law_loss.ok sc_law_loss (fun vs H Q E h => ?_) (fun cdv A outer s H vs Q E hr h => ?_)
  · obtain ⟨T, cell, t, ps, m, rfl, _⟩ := h
    rfl
  · obtain ⟨T', cell, t, ps, m, rfl, ht, hm, hT, q⟩ := h
    have hts := SqL.of (K := K) ht.lst
    have hsum : 0 ≤ (rowI m fun a => (T' a).sum).sum := sum_nonneg _ fun x hx => by
      obtain ⟨i, hi, rfl⟩ := rowI_mem.mp hx
      exact hT i hi
    refine ⟨_, (pss_cons (ps_set (i := 2) sc_law_loss.nd rfl (Or.inl rfl) (pe_callB (call_min2 rfl) (by rfl) T.z_min (by decide +kernel) (pa_cons pe_int (pa_cons (pe_op op_add (pe_callB (cr_sum rfl) (by rfl) T.z_sum (by decide +kernel) (pa_cons (pe_lc (own := [("sizes", 3)]) (g := gName 3) (tt := tYes) rfl sc_law_loss.nd (pi_list (pv 1)) (blkOk_by (own := [("sizes", 3)]) (N := N_law_loss) (sc := defScope s_law_loss) (by decide +kernel)) (fun _ _ _ _ _ => (pg_name (i := 3) sc_law_loss.nd rfl (Or.inl rfl))) (fun _ _ _ _ _ => pts_nil) (fun _ _ _ _ _ => (pe_callB (show CallR _ (.builtin "sum") (rSum K) from (cr_sum rfl)) (by rfl) T.z_sum (by decide +kernel) (pa_cons (pv 3) pa_nil)))) pa_nil)) pe_int) pa_nil))))
    (pss_one (ps_ret (pe_ix ix_list (pe_lst (pa_cons pe_int (pa_cons (pv 2) (pa_cons (pe_op op_mod (pe_op op_fdiv (pe_callB call_abs (by rfl) T.z_abs (by decide +kernel) (pa_cons (pv 0) pa_nil)) pe_int) (pe_op op_add (pv 2) pe_int)) (pa_cons (pe_op op_mod (pe_op op_fdiv (pe_callB call_abs (by rfl) T.z_abs (by decide +kernel) (pa_cons (pv 0) pa_nil)) pe_int) pe_int) pa_nil))))) (pe_op op_mod (pe_callB call_abs (by rfl) T.z_abs (by decide +kernel) (pa_cons (pv 0) pa_nil)) pe_int) (fun _ _ => rfl))))), ?_⟩
    walk_at "st"
    intro D nD
    refine lc_sumJ ht (by omega) nD rfl ?_
    have sD := same_upd (o := .lst ((rowI m fun a => (T' a).sum).map V.int)) nD
    have hD : SqL K (upd H D (.lst ((rowI m fun a => (T' a).sum).map V.int))) D ((rowI m fun a => (T' a).sum).map V.int) := SqL.of upd_same
    generalize upd H D _ = H1 at *
    obtain ⟨mo, emo, hmo0, hmo1⟩ : ∃ mo, (if (rowI m fun a => (T' a).sum).sum + 9 < 1000000000 then (rowI m fun a => (T' a).sum).sum + 9 else 1000000000) = mo ∧ 0 ≤ mo ∧ mo ≤ 1000000000 := by
      refine ⟨_, rfl, ?_, ?_⟩
      · split <;> omega
      · split <;> omega
    have hc := absI_nn cell
    have hc1 := Int.emod_nonneg (absI cell / 4) (by omega : mo + 1 ≠ 0)
    have hc2 := Int.emod_lt_of_pos (absI cell / 4) (by omega : 0 < mo + 1)
    obtain ⟨z, hat, hz0, hz1⟩ : ∃ z : Int, atI [V.int 0, V.int mo, V.int (absI cell / 4 % (mo + 1)), V.int (absI cell / 4 % 1000000001)] (absI cell % 4) = some (.int z) ∧ 0 ≤ z ∧ z ≤ 1000000000 := by
      generalize absI cell / 4 % (mo + 1) = u at *
      have h3 : 0 ≤ absI cell / 4 % 1000000001 ∧ absI cell / 4 % 1000000001 ≤ 1000000000 := by omega
      generalize absI cell / 4 % 1000000001 = v at *
      rcases (by omega : absI cell % 4 = 0 ∨ absI cell % 4 = 1 ∨ absI cell % 4 = 2 ∨ absI cell % 4 = 3) with e | e | e | e
      · exact ⟨0, by rw [e]; rfl, by decide, by decide⟩
      · exact ⟨mo, by rw [e]; rfl, hmo0, hmo1⟩
      · exact ⟨u, by rw [e]; rfl, by omega, by omega⟩
      · exact ⟨v, by rw [e]; rfl, h3.1, h3.2⟩
    walk_at "st"
    dsimp only
    rw [emo]
    intro L nL
    have sL := same_upd (o := .lst [.int 0, .int mo, .int (absI cell / 4 % (mo + 1)), .int (absI cell / 4 % 1000000001)]) nL
    have hL : SqL K (upd H1 L (.lst [.int 0, .int mo, .int (absI cell / 4 % (mo + 1)), .int (absI cell / 4 % 1000000001)])) L [.int 0, .int mo, .int (absI cell / 4 % (mo + 1)), .int (absI cell / 4 % 1000000001)] := SqL.of upd_same
    generalize upd H1 L _ = H2 at *
    walk_at "st"
    exact q z H2 (sD.trans sL) hz0 hz1
def sp_law_borne (K : PySem.W.Frag) : Sp := fun vs H Q _ => ∃ (T B : Nat → List Int) (left : Int) (r b t : Addr) (bs ps : List Addr) (m : Nat), vs = [.ref r, .ref t] ∧ H r = some (.tup [.ref b, .int left]) ∧ JagR H b bs m B ∧ JagR H t ps m T ∧ m ≤ 100 ∧
  (∀ k, k < m → (B k).length = (T k).length ∧ (T k).length ≤ 40) ∧ (∀ k, k < m → ∀ i, i < (T k).length → 0 ≤ at0 (B k) i ∧ at0 (B k) i ≤ at0 (T k) i) ∧ 0 ≤ left ∧ Q (.bl true) H
set_option maxHeartbeats 0 in
theorem ok_law_borne (T : Txt K mg) : FnOk P w K mg base CX0 2 T.f_law_borne T.d_law_borne ["actual", "tiers"] (sp_law_borne K) := by
  refine T.F_law_borne.ok sc_law_borne (fun vs H Q E h => ?_) (fun cdv A outer s H vs Q E hr h => ?_)
  · obtain ⟨T, B, left, r, b, t, bs, ps, m, rfl, _⟩ := h
    rfl
  · obtain ⟨T', B, left, r, b, t, bs, ps, m, rfl, hR, hb, ht, hm, hl, hbd, hleft, q⟩ := h
    have G_law_is_integer : FnOk P w K mg base CX0 1 T.f_law_is_integer T.d_law_is_integer ["actual"] (sp_law_is_integer K) := ok_law_is_integer T
    have G_law_integers : FnOk P w K mg base CX0 1 T.f_law_integers T.d_law_integers ["actual", "count"] (sp_law_integers K) := ok_law_integers T
    have hts := SqL.of (K := K) ht.lst
    have hbs := SqL.of (K := K) hb.lst
    have hrt := SqT.of (K := K) hR
    have hlb : (bs.map V.ref).length = m := by rw [List.length_map, hb.len]
    have hlt : (ps.map V.ref).length = m := by rw [List.length_map, ht.len]
    refine ⟨_, (pss_cons (ps_if (PW.pt (pw_or (pt_not (pt_val (pe_callB call_isi (by rfl) T.z_isinstance (by decide +kernel) (pa_cons (pv 0) (pa_cons (pe_bltn (v := .ty "tuple") (u := .type "tuple") (by rfl) T.z_tuple (by decide +kernel) rfl) pa_nil))))) (pw_or (pt_cmpR op_ne (pe_callB call_len_seq (by rfl) T.z_len PySem.boot_len (pa_cons (pv 0) pa_nil)) pe_int (nomark _)) (pw_or1 (pt_not (pt_val (pe_call G_law_is_integer hr (by rfl) T.m_law_is_integer T.F_law_is_integer.kp T.b_law_is_integer .nil pass0 (pa_cons (pe_ix ix_tup (pv 0) pe_int (fun _ _ => rfl)) pa_nil))))))))
      (pss_one (ps_ret pe_bl))
      pss_nil)
    (pss_cons (ps_if (PW.pt (pw_or (pt_not (pt_val (pe_callB call_isi (by rfl) T.z_isinstance (by decide +kernel) (pa_cons (pe_ix ix_tup (pv 0) pe_int (fun _ _ => rfl)) (pa_cons (pe_bltn (v := .ty "list") (u := .type "list") (by rfl) T.z_list (by decide +kernel) rfl) pa_nil))))) (pw_or1 (pt_cmpR op_ne (pe_callB call_len_seq (by rfl) T.z_len PySem.boot_len (pa_cons (pe_ix ix_tup (pv 0) pe_int (fun _ _ => rfl)) pa_nil)) (pe_callB call_len_seq (by rfl) T.z_len PySem.boot_len (pa_cons (pv 1) pa_nil)) (nomark _)))))
      (pss_one (ps_ret pe_bl))
      pss_nil)
    (pss_cons (ps_for PassesOwn.never rfl (pi_range1 (by rfl) T.z_range (pa_cons (pe_callB call_len_seq (by rfl) T.z_len PySem.boot_len (pa_cons (pv 1) pa_nil)) pa_nil)) (pg_name (i := 2) sc_law_borne.nd rfl (Or.inl rfl))
      (pss_cons (ps_if (pt_not (pt_val (pe_call G_law_integers hr (by rfl) T.m_law_integers T.F_law_integers.kp T.b_law_integers .nil pass0 (pa_cons (pe_ix ix_list (pe_ix ix_tup (pv 0) pe_int (fun _ _ => rfl)) (pv 2) (fun _ _ => rfl)) (pa_cons (pe_callB call_len_seq (by rfl) T.z_len PySem.boot_len (pa_cons (pe_ix ix_list (pv 1) (pv 2) (fun _ _ => rfl)) pa_nil)) pa_nil)))))
        (pss_one (ps_ret pe_bl))
        pss_nil)
      (pss_one (ps_for PassesOwn.never rfl (pi_range1 (by rfl) T.z_range (pa_cons (pe_callB call_len_seq (by rfl) T.z_len PySem.boot_len (pa_cons (pe_ix ix_list (pv 1) (pv 2) (fun _ _ => rfl)) pa_nil)) pa_nil)) (pg_name (i := 3) sc_law_borne.nd rfl (Or.inl rfl))
        (pss_one (ps_if (PW.pt (pw_or (pt_cmpR op_lt (pe_ix ix_list (pe_ix ix_list (pe_ix ix_tup (pv 0) pe_int (fun _ _ => rfl)) (pv 2) (fun _ _ => rfl)) (pv 3) (fun _ _ => rfl)) pe_int (nomark _)) (pw_or1 (pt_cmpR op_gt (pe_ix ix_list (pe_ix ix_list (pe_ix ix_tup (pv 0) pe_int (fun _ _ => rfl)) (pv 2) (fun _ _ => rfl)) (pv 3) (fun _ _ => rfl)) (pe_ix ix_list (pe_ix ix_list (pv 1) (pv 2) (fun _ _ => rfl)) (pv 3) (fun _ _ => rfl)) (nomark _)))))
          (pss_one (ps_ret pe_bl))
          pss_nil))))))
    (pss_one (ps_ret (pe_cmpR op_ge (pe_ix ix_tup (pv 0) pe_int (fun _ _ => rfl)) pe_int (nomark _))))))), ?_⟩
    refine ⟨_, rfl, ?_⟩
    refine ⟨_, _, _, _, true, rfl, .ty _, .base (.tup hR), kit_ty (by decide +kernel), ?_⟩
    refine ⟨_, rfl, iteF ?_⟩
    walk_at "st"
    refine ⟨_, _, true, rfl, .ty _, .base (.lst hb.lst), kit_ty (by decide +kernel), ?_⟩
    refine ⟨_, rfl, iteF ?_⟩
    walk_at "st"
    refine iteB (fun h => (ndec_t h (congrArg V.int (by omega))).elim) (fun _ => ?_)
    walk_at "st"
    refine for_range (lo := 0) (n := (((ps.map V.ref).length : Nat) : Int).toNat) (fun i σ H' => (∃ v2 v3 : Option V, σ = [some (.ref r), some (.ref t), v2, v3]) ∧ H' = H) ⟨⟨none, none, rfl⟩, rfl⟩ ?_ ?_
    · rintro k σ H' hk ⟨⟨v2, v3, rfl⟩, rfl⟩
      rw [hlt, Int.toNat_natCast] at hk
      rw [show (0 : Int) + k = ((k : Nat) : Int) by omega]
      obtain ⟨x1, hx1, hx2, hx3⟩ := hb.at hk
      obtain ⟨y1, hy1, hy2, hy3⟩ := ht.at hk
      have hx4 := SqL.of (K := K) hx3
      have hy4 := SqL.of (K := K) hy3
      obtain ⟨l1, l2⟩ := hl k hk
      have hle : (((B k).length : Nat) : Int) = ((((T' k).map V.int).length : Nat) : Int) := by rw [List.length_map, l1]
      walk_at "st"
      refine for_range (lo := 0) (n := ((((T' k).map V.int).length : Nat) : Int).toNat) (fun i σ H2 => (∃ v3 : Option V, σ = [some (.ref r), some (.ref t), some (.int (k : Int)), v3]) ∧ H2 = H') ⟨⟨_, rfl⟩, rfl⟩ ?_ ?_
      · rintro i σ H2 hi ⟨⟨v3, rfl⟩, rfl⟩
        rw [List.length_map, Int.toNat_natCast] at hi
        rw [show (0 : Int) + i = ((i : Nat) : Int) by omega]
        have c1 := atI_n (ws := B k) (j := i) (by omega)
        have c2 := atI_n (ws := T' k) (j := i) hi
        have hbi := hbd k hk i hi
        walk_at "st"
        refine iteB (fun h => absurd (dec_t h) (by omega)) (fun _ => ?_)
        walk_at "st"
        refine iteB (fun h => absurd (dec_t h) (by omega)) (fun _ => ?_)
        exact ⟨⟨_, rfl⟩, rfl⟩
      · rintro σ H2 ⟨⟨v3, rfl⟩, rfl⟩
        exact ⟨⟨_, _, rfl⟩, rfl⟩
    · rintro σ H' ⟨⟨v2, v3, rfl⟩, rfl⟩
      walk_at "st"
      show Q (V.bl (decide (0 ≤ left))) H'
      rw [decide_eq_true hleft]
      exact q

def sp_law (K : PySem.W.Frag) : Sp := fun vs H Q _ => ∃ (a : Addr) (ns : List Int), vs = [.ref a] ∧ SqL K H a (ns.map V.int) ∧ ns.length ≤ 63 ∧ ∀ H', Q (.bl true) H'
set_option maxHeartbeats 0 in
theorem ok_law {f : Addr} {fd : FuncData} (T : Txt K mg) (F : Fun K "law" "law" s_law f fd) : FnOk P w K mg base CX0 5 f fd ["script"] (sp_law K) := by
  refine F.ok sc_law (fun vs H Q E h => ?_) (fun cdv A outer s H vs Q E hr h => ?_)
  · obtain ⟨a, ns, rfl, _⟩ := h
    rfl
  · obtain ⟨a, ns, rfl, hs, hlen, q⟩ := h
    have G_law_tiers : FnOk P w K mg base CX0 2 T.f_law_tiers T.d_law_tiers ["script"] (sp_law_tiers K) := ok_law_tiers T
    have G_law_loss : FnOk P w K mg base CX0 1 T.f_law_loss T.d_law_loss ["cell", "tiers"] (sp_law_loss K) := ok_law_loss T
    have G_bear : FnOk P w K mg base CX0 4 T.f_bear T.d_bear ["loss", "tiers"] (sp_bear K) := ok_bear T
    have G_law_cell : FnOk P w K mg base CX0 1 T.f_law_cell T.d_law_cell ["script", "k"] (sp_law_cell K) := ok_law_cell T
    have G_law_borne : FnOk P w K mg base CX0 2 T.f_law_borne T.d_law_borne ["actual", "tiers"] (sp_law_borne K) := ok_law_borne T
    refine ⟨_, (pss_cons (ps_set (i := 1) sc_law.nd rfl (Or.inr rfl) (pe_call G_law_tiers (hr.mono (by decide)) (by rfl) T.m_law_tiers T.F_law_tiers.kp T.b_law_tiers .nil pass0 (pa_cons (pv 0) pa_nil)))
    (pss_cons (ps_set (i := 2) sc_law.nd rfl (Or.inl rfl) (pe_call G_law_loss (hr.mono (by decide)) (by rfl) T.m_law_loss T.F_law_loss.kp T.b_law_loss .nil pass0 (pa_cons (pe_call G_law_cell (hr.mono (by decide)) (by rfl) T.m_law_cell T.F_law_cell.kp T.b_law_cell .nil pass0 (pa_cons (pv 0) (pa_cons pe_int pa_nil))) (pa_cons (pv 1) pa_nil))))
    (pss_cons (ps_set (i := 3) sc_law.nd rfl (Or.inr rfl) (pe_call G_bear hr (by rfl) T.m_bear T.F_bear.kp T.b_bear .nil pass0 (pa_cons (pv 2) (pa_cons (pe_lc (own := [("sizes", 4)]) (g := gName 4) (tt := tYes) rfl sc_law.nd (pi_list (pv 1)) (blkOk_by (own := [("sizes", 4)]) (N := N_law) (sc := defScope s_law) (by decide +kernel)) (fun _ _ _ _ _ => (pg_name (i := 4) sc_law.nd rfl (Or.inl rfl))) (fun _ _ _ _ _ => pts_nil) (fun _ _ _ _ _ => (pe_callTy (show CallR _ (.type "list") (rListOf K) from call_list_of) (by rfl) T.z_list (by decide +kernel) (pa_cons (pv 4) pa_nil)))) pa_nil))))
    (pss_cons (ps_if (pt_not (pt_val (pe_call G_law_borne (hr.mono (by decide)) (by rfl) T.m_law_borne T.F_law_borne.kp T.b_law_borne .nil pass0 (pa_cons (pv 3) (pa_cons (pv 1) pa_nil)))))
      (pss_one (ps_ret pe_bl))
      pss_nil)
    (pss_cons (ps_set (i := 5) sc_law.nd rfl (Or.inl rfl) (pe_lst pa_nil))
    (pss_cons (ps_for PassesOwn.never rfl (pi_range1 (by rfl) T.z_range (pa_cons (pe_callB call_len_seq (by rfl) T.z_len PySem.boot_len (pa_cons (pv 1) pa_nil)) pa_nil)) (pg_name (i := 6) sc_law.nd rfl (Or.inr rfl))
      (pss_one (ps_expr (pe_bm PySem.F.plainAttrs_list PySem.F.slot_list_append PySem.F.type_list_append mt_append (pv 5) (pa_cons (pe_lc (own := [("at", 7)]) (g := gName 7) (tt := tYes) rfl sc_law.nd (pi_range1 (by rfl) T.z_range (pa_cons (pe_callB call_len_seq (by rfl) T.z_len PySem.boot_len (pa_cons (pe_ix ix_list (pv 1) (pv 6) (fun _ _ => rfl)) pa_nil)) pa_nil)) (blkOk_by (own := [("at", 7)]) (N := N_law) (sc := defScope s_law) (by decide +kernel)) (fun _ _ _ _ _ => (pg_name (i := 7) sc_law.nd rfl (Or.inl rfl))) (fun _ _ _ _ _ => pts_nil) (fun _ _ _ _ _ => (pe_op op_sub (pe_ix (show IxR _ (rIxL K) from ix_list) (pe_ix (show IxR _ (rIxL K) from ix_list) (pv 1) (pv 6) (fun _ _ => rfl)) (pv 7) (fun _ _ => rfl)) (pe_ix (show IxR _ (rIxL K) from ix_list) (pe_ix (show IxR _ (rIxL K) from ix_list) (pe_ix (show IxR _ (rIxT K) from ix_tup) (pv 3) pe_int (fun _ _ => rfl)) (pv 6) (fun _ _ => rfl)) (pv 7) (fun _ _ => rfl))))) pa_nil)))))
    (pss_cons (ps_set (i := 8) sc_law.nd rfl (Or.inl rfl) (pe_callB (call_min2 rfl) (by rfl) T.z_min (by decide +kernel) (pa_cons (pe_op op_sub pe_int (pv 2)) (pa_cons (pe_op op_add (pe_callB (cr_sum rfl) (by rfl) T.z_sum (by decide +kernel) (pa_cons (pe_lc (own := [("sizes", 4)]) (g := gName 4) (tt := tYes) rfl sc_law.nd (pi_list (pv 5)) (blkOk_by (own := [("sizes", 4)]) (N := N_law) (sc := defScope s_law) (by decide +kernel)) (fun _ _ _ _ _ => (pg_name (i := 4) sc_law.nd rfl (Or.inl rfl))) (fun _ _ _ _ _ => pts_nil) (fun _ _ _ _ _ => (pe_callB (show CallR _ (.builtin "sum") (rSum K) from (cr_sum rfl)) (by rfl) T.z_sum (by decide +kernel) (pa_cons (pv 4) pa_nil)))) pa_nil)) pe_int) pa_nil))))
    (pss_cons (ps_set (i := 9) sc_law.nd rfl (Or.inl rfl) (pe_op op_mod (pe_call G_law_cell (hr.mono (by decide)) (by rfl) T.m_law_cell T.F_law_cell.kp T.b_law_cell .nil pass0 (pa_cons (pv 0) (pa_cons pe_int pa_nil))) (pe_op op_add (pv 8) pe_int)))
    (pss_cons (ps_set (i := 10) sc_law.nd rfl (Or.inl rfl) (pe_call G_bear hr (by rfl) T.m_bear T.F_bear.kp T.b_bear .nil pass0 (pa_cons (pv 9) (pa_cons (pe_lc (own := [("sizes", 4)]) (g := gName 4) (tt := tYes) rfl sc_law.nd (pi_list (pv 5)) (blkOk_by (own := [("sizes", 4)]) (N := N_law) (sc := defScope s_law) (by decide +kernel)) (fun _ _ _ _ _ => (pg_name (i := 4) sc_law.nd rfl (Or.inl rfl))) (fun _ _ _ _ _ => pts_nil) (fun _ _ _ _ _ => (pe_callTy (show CallR _ (.type "list") (rListOf K) from call_list_of) (by rfl) T.z_list (by decide +kernel) (pa_cons (pv 4) pa_nil)))) pa_nil))))
    (pss_cons (ps_set (i := 11) sc_law.nd rfl (Or.inl rfl) (pe_call G_bear hr (by rfl) T.m_bear T.F_bear.kp T.b_bear .nil pass0 (pa_cons (pe_op op_add (pv 2) (pv 9)) (pa_cons (pe_lc (own := [("sizes", 4)]) (g := gName 4) (tt := tYes) rfl sc_law.nd (pi_list (pv 1)) (blkOk_by (own := [("sizes", 4)]) (N := N_law) (sc := defScope s_law) (by decide +kernel)) (fun _ _ _ _ _ => (pg_name (i := 4) sc_law.nd rfl (Or.inl rfl))) (fun _ _ _ _ _ => pts_nil) (fun _ _ _ _ _ => (pe_callTy (show CallR _ (.type "list") (rListOf K) from call_list_of) (by rfl) T.z_list (by decide +kernel) (pa_cons (pv 4) pa_nil)))) pa_nil))))
    (pss_cons (ps_if (PW.pt (pw_or (pt_not (pt_val (pe_call G_law_borne (hr.mono (by decide)) (by rfl) T.m_law_borne T.F_law_borne.kp T.b_law_borne .nil pass0 (pa_cons (pv 10) (pa_cons (pv 5) pa_nil))))) (pw_or1 (pt_not (pt_val (pe_call G_law_borne (hr.mono (by decide)) (by rfl) T.m_law_borne T.F_law_borne.kp T.b_law_borne .nil pass0 (pa_cons (pv 11) (pa_cons (pv 1) pa_nil))))))))
      (pss_one (ps_ret pe_bl))
      pss_nil)
    (pss_cons (ps_for PassesOwn.never rfl (pi_range1 (by rfl) T.z_range (pa_cons (pe_callB call_len_seq (by rfl) T.z_len PySem.boot_len (pa_cons (pv 1) pa_nil)) pa_nil)) (pg_name (i := 6) sc_law.nd rfl (Or.inr rfl))
      (pss_one (ps_if (pt_cmpR op_ne (pe_op op_add (pe_callB (cr_sum rfl) (by rfl) T.z_sum (by decide +kernel) (pa_cons (pe_ix ix_list (pe_ix ix_tup (pv 3) pe_int (fun _ _ => rfl)) (pv 6) (fun _ _ => rfl)) pa_nil)) (pe_callB (cr_sum rfl) (by rfl) T.z_sum (by decide +kernel) (pa_cons (pe_ix ix_list (pe_ix ix_tup (pv 10) pe_int (fun _ _ => rfl)) (pv 6) (fun _ _ => rfl)) pa_nil))) (pe_callB (cr_sum rfl) (by rfl) T.z_sum (by decide +kernel) (pa_cons (pe_ix ix_list (pe_ix ix_tup (pv 11) pe_int (fun _ _ => rfl)) (pv 6) (fun _ _ => rfl)) pa_nil)) (nomark _))
        (pss_one (ps_ret pe_bl))
        pss_nil)))
    (pss_one (ps_ret (pe_cmpR op_eq (pe_op op_add (pe_ix ix_tup (pv 3) pe_int (fun _ _ => rfl)) (pe_ix ix_tup (pv 10) pe_int (fun _ _ => rfl))) (pe_ix ix_tup (pv 11) pe_int (fun _ _ => rfl)) (nomark _)))))))))))))))), ?_⟩
    walk_at "st"
    intro t ps m H1 em e1 nt ht
    have hs1 := e1.seq hs
    have hm : m ≤ 6 := by omega
    walk_at "st"
    refine ⟨tierF ns, cellOf ns 9, t, ps, m, rfl, ht, by omega, fun i _ => (tierF_ok ns i).nn, fun f H2 e2 hf0 hf1 => ?_⟩
    have hs2 := e2.seq hs1
    have ht2 := ht.same e2
    have hts2 := SqL.of (K := K) ht2.lst
    walk_at "st"
    intro D nD
    refine lc_copyJ ht2 (by omega) nD rfl fun H3 cs e3 hC _ => ?_
    walk_at "st"
    refine ⟨tierF ns, f, D, cs, m, rfl, hC, by omega, fun i _ => tierF_ok ns i, hf0, by omega, fun r b bs H4 e4 nr hR hB => ?_⟩
    have hs4 := (e3.trans e4).seq hs2
    have ht4 := (ht2.same e3).same e4
    have hok := fun k => tierF_ok ns k
    walk_at "st"
    refine ⟨tierF ns, borneT f (tierF ns), leftT f (tierF ns) m, r, b, t, bs, ps, m, rfl, hR, hB, ht4, by omega, fun k _ => ⟨partT_len, (hok k).1⟩, fun k _ i hi => partT_le (leftT_nn _ _ _) (hok k) hi, leftT_nn _ _ _, ?_⟩
    walk_at "st"
    intro S nS
    have sS := same_upd (o := .lst []) nS
    have hS : upd H4 S (.lst []) S = some (.lst []) := upd_same
    have hts4 := SqL.of (K := K) ht4.lst
    have hts5 := sS.seq hts4
    have hlt : (ps.map V.ref).length = m := by rw [List.length_map, ht.len]
    generalize upd H4 S _ = H5 at *
    walk_at "st"
    refine for_range (lo := 0) (n := (((ps.map V.ref).length : Nat) : Int).toNat) (fun i σ H' => (∃ (v6 : Option V) (rs : List Addr), σ = [some (.ref a), some (.ref t), some (.int f), some (.ref r), none, some (.ref S), v6, none, none, none, none, none] ∧ JagR H' S rs i (restT f (tierF ns))) ∧ Same H4 H') ⟨⟨none, [], rfl, .nil _ hS⟩, sS⟩ ?_ ?_
    · rintro k σ H6 hk ⟨⟨v6, rs, rfl, hJ⟩, e6⟩
      rw [hlt, Int.toNat_natCast] at hk
      rw [show (0 : Int) + k = ((k : Nat) : Int) by omega]
      have ht6 := ht4.same e6
      have hts6 := SqL.of (K := K) ht6.lst
      have hB6 := hB.same e6
      obtain ⟨y1, hy1, hy2, hy3⟩ := ht6.at hk
      have hy4 := SqL.of (K := K) hy3
      have hS6 := hJ.lst
      have hyl := (tierF_b ns k).1
      walk_at "st"
      intro E nE
      refine lc_range (lo := 0) (n := ((((tierF ns k).map V.int).length : Nat) : Int).toNat) (fun i H' => H' = upd H6 E (.lst ((rowI i fun i => at0 (tierF ns k) i - at0 (borneT f (tierF ns) k) i).map V.int))) rfl ?_ ?_
      · rintro i H7 hi rfl
        rw [List.length_map, Int.toNat_natCast] at hi
        rw [show (0 : Int) + i = ((i : Nat) : Int) by omega]
        have sE := same_upd (o := .lst ((rowI i fun i => at0 (tierF ns k) i - at0 (borneT f (tierF ns) k) i).map V.int)) nE
        have hR7 := SqT.of (K := K) (sE _ _ (e6 _ _ hR))
        have ht7 := ht6.same sE
        have hB7 := hB6.same sE
        have hts7 := SqL.of (K := K) ht7.lst
        have hbs7 := SqL.of (K := K) hB7.lst
        obtain ⟨z1, hz1, hz2, hz3⟩ := hB7.at hk
        have hz4 := SqL.of (K := K) hz3
        have hy5 := sE.seq hy4
        have c1 := atI_n (ws := tierF ns k) (j := i) hi
        have c2 := atI_n (ws := borneT f (tierF ns) k) (j := i) (by unfold borneT; rw [partT_len]; exact hi)
        refine ⟨rfl, ?_⟩
        walk_at "st"
        refine ⟨small1000 (by rw [List.length_map, rowI_len]; omega), ?_⟩
        rw [upd_upd, rowI_succ, List.map_append]
        rfl
      · rintro H7 rfl
        rw [List.length_map, Int.toNat_natCast]
        have sE := same_upd (o := .lst ((rowI (tierF ns k).length fun i => at0 (tierF ns k) i - at0 (borneT f (tierF ns) k) i).map V.int)) nE
        have hJ7 := hJ.push (p := E) sE nE (by rw [upd_same]; rfl)
        have hS7 := sE _ _ hS6
        have hsz : (rs.map V.ref).length < sizeLine := small1000 (by rw [List.length_map, hJ.len]; omega)
        generalize upd H6 E _ = H7 at *
        walk_at "st"
        exact ⟨⟨some (.int (k : Int)), rs ++ [E], rfl, hJ7⟩, TabR.keep (e6.trans sE) nS⟩
    · rintro σ H6 ⟨⟨v6, rs, rfl, hJ⟩, e6⟩
      rw [hlt, Int.toNat_natCast] at hJ
      have hJs := SqL.of (K := K) hJ.lst
      have hs6 := e6.seq hs4
      have ht6 := ht4.same e6
      walk_at "st"
      intro E nE
      refine lc_sumJ hJ (by omega) nE rfl ?_
      have sE := same_upd (o := .lst ((rowI m fun a => (restT f (tierF ns) a).sum).map V.int)) nE
      have hE : SqL K (upd H6 E (.lst ((rowI m fun a => (restT f (tierF ns) a).sum).map V.int))) E ((rowI m fun a => (restT f (tierF ns) a).sum).map V.int) := SqL.of upd_same
      have hs7 := sE.seq hs6
      have hJ7 := hJ.same sE
      have ht7 := ht6.same sE
      have e47 := e6.trans sE
      generalize upd H6 E _ = H7 at *
      have hrok := fun k => restT_ok (loss := f) (hok k)
      have hsum : 0 ≤ (rowI m fun a => (restT f (tierF ns) a).sum).sum := sum_nonneg _ fun x hx => by
        obtain ⟨i, hi, rfl⟩ := rowI_mem.mp hx
        exact (hrok i).nn
      obtain ⟨mo, emo, hmo0, hmo1⟩ : ∃ mo, (if (rowI m fun a => (restT f (tierF ns) a).sum).sum + 9 < 1000000000 - f then (rowI m fun a => (restT f (tierF ns) a).sum).sum + 9 else 1000000000 - f) = mo ∧ 0 ≤ mo ∧ mo ≤ 1000000000 - f := by
        refine ⟨_, rfl, ?_, ?_⟩
        · split <;> omega
        · split <;> omega
      have hc1 := Int.emod_nonneg (cellOf ns 10) (by omega : mo + 1 ≠ 0)
      have hc2 := Int.emod_lt_of_pos (cellOf ns 10) (by omega : 0 < mo + 1)
      obtain ⟨g, eg⟩ : ∃ g, cellOf ns 10 % (mo + 1) = g := ⟨_, rfl⟩
      rw [eg] at hc1 hc2
      have hJs7 := SqL.of (K := K) hJ7.lst
      walk_at "st"
      dsimp only
      rw [emo, eg]
      intro F nF
      refine lc_copyJ hJ7 (by omega) nF rfl fun H8 fs e8 hF _ => ?_
      walk_at "st"
      refine ⟨restT f (tierF ns), g, F, fs, m, rfl, hF, by omega, fun i _ => hrok i, hc1, by omega, fun r2 b2 bs2 H9 e9 nr2 hR2 hB2 => ?_⟩
      have e49 := e47.trans (e8.trans e9)
      have ht9 := ht4.same e49
      have hts9 := SqL.of (K := K) ht9.lst
      have hJ9 := (hJ7.same e8).same e9
      walk_at "st"
      intro G nG
      refine lc_copyJ ht9 (by omega) nG rfl fun H10 gs e10 hG _ => ?_
      walk_at "st"
      refine ⟨tierF ns, f + g, G, gs, m, rfl, hG, by omega, fun i _ => hok i, by omega, by omega, fun r3 b3 bs3 H11 e11 nr3 hR3 hB3 => ?_⟩
      have e911 := e10.trans e11
      have hR2' := e911 _ _ hR2
      have hB2' := hB2.same e911
      have hJ11 := hJ9.same e911
      have ht11 := ht9.same e911
      have e411 := e49.trans e911
      have hR1' := e411 _ _ hR
      have hB1' := hB.same e411
      walk_at "st"
      refine ⟨restT f (tierF ns), borneT g (restT f (tierF ns)), leftT g (restT f (tierF ns)) m, r2, b2, S, bs2, rs, m, rfl, hR2', hB2', hJ11, by omega, fun k _ => ⟨partT_len, (hrok k).1⟩, fun k _ i hi => partT_le (leftT_nn _ _ _) (hrok k) hi, leftT_nn _ _ _, ?_⟩
      walk_at "st"
      refine ⟨tierF ns, borneT (f + g) (tierF ns), leftT (f + g) (tierF ns) m, r3, b3, t, bs3, ps, m, rfl, hR3, hB3, ht11, by omega, fun k _ => ⟨partT_len, (hok k).1⟩, fun k _ i hi => partT_le (leftT_nn _ _ _) (hok k) hi, leftT_nn _ _ _, ?_⟩
      have hts11 := SqL.of (K := K) ht11.lst
      have q1 := SqT.of (K := K) hR1'
      have q2 := SqT.of (K := K) hR2'
      have q3 := SqT.of (K := K) hR3
      have p1 := SqL.of (K := K) hB1'.lst
      have p2 := SqL.of (K := K) hB2'.lst
      have p3 := SqL.of (K := K) hB3.lst
      have two := left_two hf0 hc1 hok
      walk_at "st"
      refine for_range (lo := 0) (n := (((ps.map V.ref).length : Nat) : Int).toNat) (fun i σ H' => (∃ v6 : Option V, σ = [some (.ref a), some (.ref t), some (.int f), some (.ref r), none, some (.ref S), v6, none, some (.int mo), some (.int g), some (.ref r2), some (.ref r3)]) ∧ H' = H11) ⟨⟨_, rfl⟩, rfl⟩ ?_ ?_
      · rintro k σ H12 hk ⟨⟨v6, rfl⟩, rfl⟩
        rw [hlt, Int.toNat_natCast] at hk
        rw [show (0 : Int) + k = ((k : Nat) : Int) by omega]
        obtain ⟨x1, _, hx2, hx3⟩ := hB1'.at hk
        obtain ⟨y1, _, hy2, hy3⟩ := hB2'.at hk
        obtain ⟨z1, _, hz2, hz3⟩ := hB3.at hk
        have hx4 := SqL.of (K := K) hx3
        have hy4 := SqL.of (K := K) hy3
        have hz4 := SqL.of (K := K) hz3
        have a1 := leftT_succ (loss := f) (T := tierF ns) (hok k)
        have a2 := leftT_succ (loss := g) (T := restT f (tierF ns)) (hrok k)
        have a3 := leftT_succ (loss := f + g) (T := tierF ns) (hok k)
        have b1 := two k
        have b2 := two (k + 1)
        walk_at "st"
        refine iteB (fun h2 => (ndec_t h2 (congrArg V.int ?_)).elim) (fun _ => ?_)
        · unfold borneT
          omega
        · exact ⟨⟨_, rfl⟩, rfl⟩
      · rintro σ H12 ⟨⟨v6, rfl⟩, rfl⟩
        have b1 := two m
        walk_at "st"
        dsimp only
        rw [decide_eq_true (congrArg V.int b1)]
        exact q _
end
set_option maxHeartbeats 0 in
theorem all_mk {l : PySem.W.OpenLaw} {w : World} {K : PySem.W.Frag} {h : Heap} {mg : Str → Option Value} {fa f1 f2 f3 f4 f5 f6 f7 f8 f9 f10 f11 f12 f13 f14 f15 f16 f17 : Addr} (X : K.In h) (G : h.Ns mainGlobals mg) (hfa : mg "law" = some (.ref fa))
    {c_BourseError c_InvalidAmount c_InvalidWeights : Addr}
    {od1 an1 od2 an2 od3 an3 od4 an4 od5 an5 od6 an6 od7 an7 od8 an8 od9 an9 od10 an10 od11 an11 od12 an12 od13 an13 od14 an14 od15 an15 od16 an16 od17 an17 : Option Addr} {sl1 sl2 sl3 sl4 sl5 sl6 sl7 sl8 sl9 sl10 sl11 sl12 sl13 sl14 sl15 sl16 sl17 : Array (Option Value)} {oc1 kV1 dc1 pm1 cd1 ct1 oc2 kV2 dc2 pm2 cd2 ct2 oc3 kV3 dc3 pm3 cd3 ct3 oc4 kV4 dc4 pm4 cd4 ct4 oc5 kV5 dc5 pm5 cd5 ct5 oc6 kV6 dc6 pm6 cd6 ct6 oc7 kV7 dc7 pm7 cd7 ct7 oc8 kV8 dc8 pm8 cd8 ct8 oc9 kV9 dc9 pm9 cd9 ct9 oc10 kV10 dc10 pm10 cd10 ct10 oc11 kV11 dc11 pm11 cd11 ct11 oc12 kV12 dc12 pm12 cd12 ct12 oc13 kV13 dc13 pm13 cd13 ct13 oc14 kV14 dc14 pm14 cd14 ct14 oc15 kV15 dc15 pm15 cd15 ct15 oc16 kV16 dc16 pm16 cd16 ct16 oc17 kV17 dc17 pm17 cd17 ct17 : Value}
    (a1 : PySem.W.nsIn K mainGlobals "is_integral" = some (some (.ref f1)))
    (l1 : K.lookup f1 = some ⟨oc1, od1, .func (PySem.W.fnOf "is_integral" "is_integral" (defArgs s_is_integral) (defBody s_is_integral) (defScope s_is_integral) .none kV1 dc1 pm1 an1 cd1 ct1), sl1⟩) (c1 : PySem.W.codeIn K cd1 "is_integral" = true) (k1 : PySem.W.keepIn K (.ref f1) = true)
    (a2 : PySem.W.nsIn K mainGlobals "is_within" = some (some (.ref f2)))
    (l2 : K.lookup f2 = some ⟨oc2, od2, .func (PySem.W.fnOf "is_within" "is_within" (defArgs s_is_within) (defBody s_is_within) (defScope s_is_within) .none kV2 dc2 pm2 an2 cd2 ct2), sl2⟩) (c2 : PySem.W.codeIn K cd2 "is_within" = true) (k2 : PySem.W.keepIn K (.ref f2) = true)
    (a3 : PySem.W.nsIn K mainGlobals "_check_amount" = some (some (.ref f3)))
    (l3 : K.lookup f3 = some ⟨oc3, od3, .func (PySem.W.fnOf "_check_amount" "_check_amount" (defArgs s_check_amount) (defBody s_check_amount) (defScope s_check_amount) .none kV3 dc3 pm3 an3 cd3 ct3), sl3⟩) (c3 : PySem.W.codeIn K cd3 "_check_amount" = true) (k3 : PySem.W.keepIn K (.ref f3) = true)
    (a4 : PySem.W.nsIn K mainGlobals "_check_weights" = some (some (.ref f4)))
    (l4 : K.lookup f4 = some ⟨oc4, od4, .func (PySem.W.fnOf "_check_weights" "_check_weights" (defArgs s_check_weights) (defBody s_check_weights) (defScope s_check_weights) .none kV4 dc4 pm4 an4 cd4 ct4), sl4⟩) (c4 : PySem.W.codeIn K cd4 "_check_weights" = true) (k4 : PySem.W.keepIn K (.ref f4) = true)
    (a5 : PySem.W.nsIn K mainGlobals "split" = some (some (.ref f5)))
    (l5 : K.lookup f5 = some ⟨oc5, od5, .func (PySem.W.fnOf "split" "split" (defArgs s_split) (defBody s_split) (defScope s_split) .none kV5 dc5 pm5 an5 cd5 ct5), sl5⟩) (c5 : PySem.W.codeIn K cd5 "split" = true) (k5 : PySem.W.keepIn K (.ref f5) = true)
    (a6 : PySem.W.nsIn K mainGlobals "_greatest_quotient" = some (some (.ref f6)))
    (l6 : K.lookup f6 = some ⟨oc6, od6, .func (PySem.W.fnOf "_greatest_quotient" "_greatest_quotient" (defArgs s_greatest_quotient) (defBody s_greatest_quotient) (defScope s_greatest_quotient) .none kV6 dc6 pm6 an6 cd6 ct6), sl6⟩) (c6 : PySem.W.codeIn K cd6 "_greatest_quotient" = true) (k6 : PySem.W.keepIn K (.ref f6) = true)
    (a7 : PySem.W.nsIn K mainGlobals "bear" = some (some (.ref f7)))
    (l7 : K.lookup f7 = some ⟨oc7, od7, .func (PySem.W.fnOf "bear" "bear" (defArgs s_bear) (defBody s_bear) (defScope s_bear) .none kV7 dc7 pm7 an7 cd7 ct7), sl7⟩) (c7 : PySem.W.codeIn K cd7 "bear" = true) (k7 : PySem.W.keepIn K (.ref f7) = true)
    (a8 : PySem.W.nsIn K mainGlobals "_parts" = some (some (.ref f8)))
    (l8 : K.lookup f8 = some ⟨oc8, od8, .func (PySem.W.fnOf "_parts" "_parts" (defArgs s_parts) (defBody s_parts) (defScope s_parts) .none kV8 dc8 pm8 an8 cd8 ct8), sl8⟩) (c8 : PySem.W.codeIn K cd8 "_parts" = true) (k8 : PySem.W.keepIn K (.ref f8) = true)
    (a9 : PySem.W.nsIn K mainGlobals "_check_sizes" = some (some (.ref f9)))
    (l9 : K.lookup f9 = some ⟨oc9, od9, .func (PySem.W.fnOf "_check_sizes" "_check_sizes" (defArgs s_check_sizes) (defBody s_check_sizes) (defScope s_check_sizes) .none kV9 dc9 pm9 an9 cd9 ct9), sl9⟩) (c9 : PySem.W.codeIn K cd9 "_check_sizes" = true) (k9 : PySem.W.keepIn K (.ref f9) = true)
    (a10 : PySem.W.nsIn K mainGlobals "_law_cell" = some (some (.ref f10)))
    (l10 : K.lookup f10 = some ⟨oc10, od10, .func (PySem.W.fnOf "_law_cell" "_law_cell" (defArgs s_law_cell) (defBody s_law_cell) (defScope s_law_cell) .none kV10 dc10 pm10 an10 cd10 ct10), sl10⟩) (c10 : PySem.W.codeIn K cd10 "_law_cell" = true) (k10 : PySem.W.keepIn K (.ref f10) = true)
    (a11 : PySem.W.nsIn K mainGlobals "_law_draws" = some (some (.ref f11)))
    (l11 : K.lookup f11 = some ⟨oc11, od11, .func (PySem.W.fnOf "_law_draws" "_law_draws" (defArgs s_law_draws) (defBody s_law_draws) (defScope s_law_draws) .none kV11 dc11 pm11 an11 cd11 ct11), sl11⟩) (c11 : PySem.W.codeIn K cd11 "_law_draws" = true) (k11 : PySem.W.keepIn K (.ref f11) = true)
    (a12 : PySem.W.nsIn K mainGlobals "_law_is_integer" = some (some (.ref f12)))
    (l12 : K.lookup f12 = some ⟨oc12, od12, .func (PySem.W.fnOf "_law_is_integer" "_law_is_integer" (defArgs s_law_is_integer) (defBody s_law_is_integer) (defScope s_law_is_integer) .none kV12 dc12 pm12 an12 cd12 ct12), sl12⟩) (c12 : PySem.W.codeIn K cd12 "_law_is_integer" = true) (k12 : PySem.W.keepIn K (.ref f12) = true)
    (a13 : PySem.W.nsIn K mainGlobals "_law_integers" = some (some (.ref f13)))
    (l13 : K.lookup f13 = some ⟨oc13, od13, .func (PySem.W.fnOf "_law_integers" "_law_integers" (defArgs s_law_integers) (defBody s_law_integers) (defScope s_law_integers) .none kV13 dc13 pm13 an13 cd13 ct13), sl13⟩) (c13 : PySem.W.codeIn K cd13 "_law_integers" = true) (k13 : PySem.W.keepIn K (.ref f13) = true)
    (a14 : PySem.W.nsIn K mainGlobals "_law_tiers" = some (some (.ref f14)))
    (l14 : K.lookup f14 = some ⟨oc14, od14, .func (PySem.W.fnOf "_law_tiers" "_law_tiers" (defArgs s_law_tiers) (defBody s_law_tiers) (defScope s_law_tiers) .none kV14 dc14 pm14 an14 cd14 ct14), sl14⟩) (c14 : PySem.W.codeIn K cd14 "_law_tiers" = true) (k14 : PySem.W.keepIn K (.ref f14) = true)
    (a15 : PySem.W.nsIn K mainGlobals "_law_loss" = some (some (.ref f15)))
    (l15 : K.lookup f15 = some ⟨oc15, od15, .func (PySem.W.fnOf "_law_loss" "_law_loss" (defArgs s_law_loss) (defBody s_law_loss) (defScope s_law_loss) .none kV15 dc15 pm15 an15 cd15 ct15), sl15⟩) (c15 : PySem.W.codeIn K cd15 "_law_loss" = true) (k15 : PySem.W.keepIn K (.ref f15) = true)
    (a16 : PySem.W.nsIn K mainGlobals "_law_borne" = some (some (.ref f16)))
    (l16 : K.lookup f16 = some ⟨oc16, od16, .func (PySem.W.fnOf "_law_borne" "_law_borne" (defArgs s_law_borne) (defBody s_law_borne) (defScope s_law_borne) .none kV16 dc16 pm16 an16 cd16 ct16), sl16⟩) (c16 : PySem.W.codeIn K cd16 "_law_borne" = true) (k16 : PySem.W.keepIn K (.ref f16) = true)
    (a17 : PySem.W.nsIn K mainGlobals "law" = some (some (.ref f17)))
    (l17 : K.lookup f17 = some ⟨oc17, od17, .func (PySem.W.fnOf "law" "law" (defArgs s_law) (defBody s_law) (defScope s_law) .none kV17 dc17 pm17 an17 cd17 ct17), sl17⟩) (c17 : PySem.W.codeIn K cd17 "law" = true) (k17 : PySem.W.keepIn K (.ref f17) = true)
    (z_abs : PySem.W.nsIn K mainGlobals "abs" = some none)
    (z_all : PySem.W.nsIn K mainGlobals "all" = some none)
    (z_bool : PySem.W.nsIn K mainGlobals "bool" = some none)
    (z_int : PySem.W.nsIn K mainGlobals "int" = some none)
    (z_isinstance : PySem.W.nsIn K mainGlobals "isinstance" = some none)
    (z_len : PySem.W.nsIn K mainGlobals "len" = some none)
    (z_list : PySem.W.nsIn K mainGlobals "list" = some none)
    (z_min : PySem.W.nsIn K mainGlobals "min" = some none)
    (z_range : PySem.W.nsIn K mainGlobals "range" = some none)
    (z_sum : PySem.W.nsIn K mainGlobals "sum" = some none)
    (z_tuple : PySem.W.nsIn K mainGlobals "tuple" = some none)
    {t_MOST_AMOUNT t_MOST_WEIGHTS t_MOST_WEIGHT t_MOST_SIZE : Tok}
    (v_MOST_AMOUNT : PySem.W.nsIn K mainGlobals "MOST_AMOUNT" = some (some (.int 1000000000000000000 t_MOST_AMOUNT)))
    (v_MOST_WEIGHTS : PySem.W.nsIn K mainGlobals "MOST_WEIGHTS" = some (some (.int 40 t_MOST_WEIGHTS)))
    (v_MOST_WEIGHT : PySem.W.nsIn K mainGlobals "MOST_WEIGHT" = some (some (.int 1000000000000000 t_MOST_WEIGHT)))
    (v_MOST_SIZE : PySem.W.nsIn K mainGlobals "MOST_SIZE" = some (some (.int 1000000000000000 t_MOST_SIZE)))
    (g_BourseError : PySem.W.nsIn K mainGlobals "BourseError" = some (some (.ref c_BourseError)))
    (g_InvalidAmount : PySem.W.nsIn K mainGlobals "InvalidAmount" = some (some (.ref c_InvalidAmount)))
    (g_InvalidWeights : PySem.W.nsIn K mainGlobals "InvalidWeights" = some (some (.ref c_InvalidWeights))) :
    ∃ fd : FuncData, (∀ (s : Shared) (v : Value), BindsTo s fd ⟨[v], []⟩ [("script", v)]) ∧ ∀ base : Heap, K.In base → base.Ns mainGlobals mg → FnOk l.prog w K mg base CX0 5 fa fd ["script"] (sp_law K) := by
  have e := hfa.symm.trans (PySem.W.mg_of X G a17)
  cases e
  have F1 := fun_mk (st := s_is_integral) l1 c1 k1
  have b1 := F1.binds (ps := ["value"]) fun _ _ _ _ _ _ us hl => match us, hl with | [_], _ => rfl
  have F2 := fun_mk (st := s_is_within) l2 c2 k2
  have b2 := F2.binds (ps := ["least", "most", "value"]) fun _ _ _ _ _ _ us hl => match us, hl with | [_, _, _], _ => rfl
  have F3 := fun_mk (st := s_check_amount) l3 c3 k3
  have b3 := F3.binds (ps := ["amount", "most"]) fun _ _ _ _ _ _ us hl => match us, hl with | [_, _], _ => rfl
  have F4 := fun_mk (st := s_check_weights) l4 c4 k4
  have b4 := F4.binds (ps := ["weights", "amount"]) fun _ _ _ _ _ _ us hl => match us, hl with | [_, _], _ => rfl
  have F5 := fun_mk (st := s_split) l5 c5 k5
  have b5 := F5.binds (ps := ["amount", "weights"]) fun _ _ _ _ _ _ us hl => match us, hl with | [_, _], _ => rfl
  have F6 := fun_mk (st := s_greatest_quotient) l6 c6 k6
  have b6 := F6.binds (ps := ["weights", "parts"]) fun _ _ _ _ _ _ us hl => match us, hl with | [_, _], _ => rfl
  have F7 := fun_mk (st := s_bear) l7 c7 k7
  have b7 := F7.binds (ps := ["loss", "tiers"]) fun _ _ _ _ _ _ us hl => match us, hl with | [_, _], _ => rfl
  have F8 := fun_mk (st := s_parts) l8 c8 k8
  have b8 := F8.binds (ps := ["loss", "sizes"]) fun _ _ _ _ _ _ us hl => match us, hl with | [_, _], _ => rfl
  have F9 := fun_mk (st := s_check_sizes) l9 c9 k9
  have b9 := F9.binds (ps := ["sizes"]) fun _ _ _ _ _ _ us hl => match us, hl with | [_], _ => rfl
  have F10 := fun_mk (st := s_law_cell) l10 c10 k10
  have b10 := F10.binds (ps := ["script", "k"]) fun _ _ _ _ _ _ us hl => match us, hl with | [_, _], _ => rfl
  have F11 := fun_mk (st := s_law_draws) l11 c11 k11
  have b11 := F11.binds (ps := ["cell", "count", "size"]) fun _ _ _ _ _ _ us hl => match us, hl with | [_, _, _], _ => rfl
  have F12 := fun_mk (st := s_law_is_integer) l12 c12 k12
  have b12 := F12.binds (ps := ["actual"]) fun _ _ _ _ _ _ us hl => match us, hl with | [_], _ => rfl
  have F13 := fun_mk (st := s_law_integers) l13 c13 k13
  have b13 := F13.binds (ps := ["actual", "count"]) fun _ _ _ _ _ _ us hl => match us, hl with | [_, _], _ => rfl
  have F14 := fun_mk (st := s_law_tiers) l14 c14 k14
  have b14 := F14.binds (ps := ["script"]) fun _ _ _ _ _ _ us hl => match us, hl with | [_], _ => rfl
  have F15 := fun_mk (st := s_law_loss) l15 c15 k15
  have b15 := F15.binds (ps := ["cell", "tiers"]) fun _ _ _ _ _ _ us hl => match us, hl with | [_, _], _ => rfl
  have F16 := fun_mk (st := s_law_borne) l16 c16 k16
  have b16 := F16.binds (ps := ["actual", "tiers"]) fun _ _ _ _ _ _ us hl => match us, hl with | [_, _], _ => rfl
  have F17 := fun_mk (st := s_law) l17 c17 k17
  have b17 := F17.binds (ps := ["script"]) fun _ _ _ _ _ _ us hl => match us, hl with | [_], _ => rfl
  have T : Txt K mg := ⟨f1, _, F1, PySem.W.mg_of X G a1, b1, f2, _, F2, PySem.W.mg_of X G a2, b2, f3, _, F3, PySem.W.mg_of X G a3, b3, f4, _, F4, PySem.W.mg_of X G a4, b4, f5, _, F5, PySem.W.mg_of X G a5, b5, f6, _, F6, PySem.W.mg_of X G a6, b6, f7, _, F7, PySem.W.mg_of X G a7, b7, f8, _, F8, PySem.W.mg_of X G a8, b8, f9, _, F9, PySem.W.mg_of X G a9, b9, f10, _, F10, PySem.W.mg_of X G a10, b10, f11, _, F11, PySem.W.mg_of X G a11, b11, f12, _, F12, PySem.W.mg_of X G a12, b12, f13, _, F13, PySem.W.mg_of X G a13, b13, f14, _, F14, PySem.W.mg_of X G a14, b14, f15, _, F15, PySem.W.mg_of X G a15, b15, f16, _, F16, PySem.W.mg_of X G a16, b16, c_BourseError, PySem.W.mg_of X G g_BourseError, c_InvalidAmount, PySem.W.mg_of X G g_InvalidAmount, c_InvalidWeights, PySem.W.mg_of X G g_InvalidWeights, PySem.W.mg_none_of X G z_abs, PySem.W.mg_none_of X G z_all, PySem.W.mg_none_of X G z_bool, PySem.W.mg_none_of X G z_int, PySem.W.mg_none_of X G z_isinstance, PySem.W.mg_none_of X G z_len, PySem.W.mg_none_of X G z_list, PySem.W.mg_none_of X G z_min, PySem.W.mg_none_of X G z_range, PySem.W.mg_none_of X G z_sum, PySem.W.mg_none_of X G z_tuple, t_MOST_AMOUNT, PySem.W.mg_of X G v_MOST_AMOUNT, t_MOST_WEIGHTS, PySem.W.mg_of X G v_MOST_WEIGHTS, t_MOST_WEIGHT, PySem.W.mg_of X G v_MOST_WEIGHT, t_MOST_SIZE, PySem.W.mg_of X G v_MOST_SIZE⟩
  exact ⟨PySem.W.fnOf "law" "law" (defArgs s_law) (defBody s_law) (defScope s_law) .none kV17 dc17 pm17 an17 cd17 ct17, fun s v => .of_eq rfl, fun base _ _ => ok_law T F17⟩
end FB
open PySem PySem.W PyProof.Rows
set_option maxRecDepth 100000 in
set_option maxHeartbeats 0 in
theorem PySem.Challenge.cw_fairbourse_k63_two_losses_in_turn_holds : PySem.Challenge.rw_fairbourse_k63_two_losses_in_turn.Holds := by
  w_on; o_law; k_head; (case hw => w_witness2)
  k_fill
  refine L2.walk_of (l := PySem.Challenge.rw_fairbourse_k63_two_losses_in_turn) (n := 63) (k := 5) (x := "script") (CX := fun _ => L2.CX0) (sp := fun w => FB.sp_law _) rfl (by decide) rfl ⟨rfl, by decide, by decide⟩ (fun w h Y => PySem.W.kIn_of Y) ?F (fun _ _ a ns hl _ hS => ⟨a, ns, rfl, hS, hl, fun _ => rfl⟩) (fun _ _ _ _ _ h => h)
  case F =>
    intro w mg fa h KX G hmg
    refine' FB.all_mk KX G hmg ?a1 ?l1 ?c1 ?k1 ?a2 ?l2 ?c2 ?k2 ?a3 ?l3 ?c3 ?k3 ?a4 ?l4 ?c4 ?k4 ?a5 ?l5 ?c5 ?k5 ?a6 ?l6 ?c6 ?k6 ?a7 ?l7 ?c7 ?k7 ?a8 ?l8 ?c8 ?k8 ?a9 ?l9 ?c9 ?k9 ?a10 ?l10 ?c10 ?k10 ?a11 ?l11 ?c11 ?k11 ?a12 ?l12 ?c12 ?k12 ?a13 ?l13 ?c13 ?k13 ?a14 ?l14 ?c14 ?k14 ?a15 ?l15 ?c15 ?k15 ?a16 ?l16 ?c16 ?k16 ?a17 ?l17 ?c17 ?k17 ?z_abs ?z_all ?z_bool ?z_int ?z_isinstance ?z_len ?z_list ?z_min ?z_range ?z_sum ?z_tuple ?v_MOST_AMOUNT ?v_MOST_WEIGHTS ?v_MOST_WEIGHT ?v_MOST_SIZE ?g_BourseError ?g_InvalidAmount ?g_InvalidWeights
    (case g_BourseError => k_is)
    (case g_InvalidAmount => k_is)
    (case g_InvalidWeights => k_is)
    (case a1 => k_is)
    (case l1 => k_is)
    (case c1 => k_is)
    (case k1 => k_is)
    (case a2 => k_is)
    (case l2 => k_is)
    (case c2 => k_is)
    (case k2 => k_is)
    (case a3 => k_is)
    (case l3 => k_is)
    (case c3 => k_is)
    (case k3 => k_is)
    (case a4 => k_is)
    (case l4 => k_is)
    (case c4 => k_is)
    (case k4 => k_is)
    (case a5 => k_is)
    (case l5 => k_is)
    (case c5 => k_is)
    (case k5 => k_is)
    (case a6 => k_is)
    (case l6 => k_is)
    (case c6 => k_is)
    (case k6 => k_is)
    (case a7 => k_is)
    (case l7 => k_is)
    (case c7 => k_is)
    (case k7 => k_is)
    (case a8 => k_is)
    (case l8 => k_is)
    (case c8 => k_is)
    (case k8 => k_is)
    (case a9 => k_is)
    (case l9 => k_is)
    (case c9 => k_is)
    (case k9 => k_is)
    (case a10 => k_is)
    (case l10 => k_is)
    (case c10 => k_is)
    (case k10 => k_is)
    (case a11 => k_is)
    (case l11 => k_is)
    (case c11 => k_is)
    (case k11 => k_is)
    (case a12 => k_is)
    (case l12 => k_is)
    (case c12 => k_is)
    (case k12 => k_is)
    (case a13 => k_is)
    (case l13 => k_is)
    (case c13 => k_is)
    (case k13 => k_is)
    (case a14 => k_is)
    (case l14 => k_is)
    (case c14 => k_is)
    (case k14 => k_is)
    (case a15 => k_is)
    (case l15 => k_is)
    (case c15 => k_is)
    (case k15 => k_is)
    (case a16 => k_is)
    (case l16 => k_is)
    (case c16 => k_is)
    (case k16 => k_is)
    (case a17 => k_is)
    (case l17 => k_is)
    (case c17 => k_is)
    (case k17 => k_is)
    (case z_abs => k_is)
    (case z_all => k_is)
    (case z_bool => k_is)
    (case z_int => k_is)
    (case z_isinstance => k_is)
    (case z_len => k_is)
    (case z_list => k_is)
    (case z_min => k_is)
    (case z_range => k_is)
    (case z_sum => k_is)
    (case z_tuple => k_is)
    (case v_MOST_AMOUNT => k_is)
    (case v_MOST_WEIGHTS => k_is)
    (case v_MOST_WEIGHT => k_is)
    (case v_MOST_SIZE => k_is)
#print axioms PySem.Challenge.cw_fairbourse_k63_two_losses_in_turn_holds
