import PyProof.Rows.All
import Wide.All
import OpenK.AllK
import Wide.FinOn
import HandS.ForMost
import HandS.Defaults
import HandS.IsInst
import HandS.Wide
import HandS.Codes
import HandS.Conv
import HandS.ListItems
import HandS.SetFor
import KE.KDictZip
import PySem.Challenge.RW_fairbourse_k45_debts_without_rings
set_option Elab.async false
set_option linter.all false
set_option maxRecDepth 100000
namespace FB
open PySem PySem.Spec PyProof.Rows L2
def topS (i : Nat) : Stmt := PySem.Challenge.pw_fairbourse_k45_debts_without_rings.main.body.getD i (.Pass ⟨0, 0, 0, 0⟩)
abbrev s_is_integral : Stmt := topS 4
abbrev N_is_integral : List Str := ["value"]
theorem sc_is_integral : FnScope N_is_integral ["value"] (defScope s_is_integral) := ⟨rfl, rfl, rfl, by decide +kernel, rfl, by decide +kernel, by decide +kernel⟩
abbrev s_is_within : Stmt := topS 5
abbrev N_is_within : List Str := ["least", "most", "value"]
theorem sc_is_within : FnScope N_is_within ["least", "most", "value"] (defScope s_is_within) := ⟨rfl, rfl, rfl, by decide +kernel, rfl, by decide +kernel, by decide +kernel⟩
abbrev s_check_debts : Stmt := topS 9
abbrev N_check_debts : List Str := ["owed", "house", "row", "debt"]
theorem sc_check_debts : FnScope N_check_debts ["owed"] (defScope s_check_debts) := ⟨rfl, rfl, rfl, by decide +kernel, rfl, by decide +kernel, by decide +kernel⟩
abbrev s_unwind : Stmt := topS 10
abbrev N_unwind : List Str := ["owed", "debts", "row", "order", "waiting", "house"]
theorem sc_unwind : FnScope N_unwind ["owed"] (defScope s_unwind) := ⟨rfl, rfl, rfl, by decide +kernel, rfl, by decide +kernel, by decide +kernel⟩
abbrev s_first_unowed : Stmt := topS 11
abbrev N_first_unowed : List Str := ["debts", "houses", "house"]
theorem sc_first_unowed : FnScope N_first_unowed ["debts", "houses"] (defScope s_first_unowed) := ⟨rfl, rfl, rfl, by decide +kernel, rfl, by decide +kernel, by decide +kernel⟩
abbrev s_first_debtor : Stmt := topS 12
abbrev N_first_debtor : List Str := ["debts", "houses", "creditor", "debtor"]
theorem sc_first_debtor : FnScope N_first_debtor ["debts", "houses", "creditor"] (defScope s_first_debtor) := ⟨rfl, rfl, rfl, by decide +kernel, rfl, by decide +kernel, by decide +kernel⟩
abbrev s_ring_among : Stmt := topS 13
abbrev N_ring_among : List Str := ["debts", "houses", "path", "debtor", "ring"]
theorem sc_ring_among : FnScope N_ring_among ["debts", "houses"] (defScope s_ring_among) := ⟨rfl, rfl, rfl, by decide +kernel, rfl, by decide +kernel, by decide +kernel⟩
abbrev s_without_ring : Stmt := topS 14
abbrev N_without_ring : List Str := ["debts", "ring", "least", "debtor", "creditor", "reduced", "row"]
theorem sc_without_ring : FnScope N_without_ring ["debts", "ring"] (defScope s_without_ring) := ⟨rfl, rfl, rfl, by decide +kernel, rfl, by decide +kernel, by decide +kernel⟩
abbrev s_law_cell : Stmt := topS 16
abbrev N_law_cell : List Str := ["script", "k"]
theorem sc_law_cell : FnScope N_law_cell ["script", "k"] (defScope s_law_cell) := ⟨rfl, rfl, rfl, by decide +kernel, rfl, by decide +kernel, by decide +kernel⟩
abbrev s_law_draws : Stmt := topS 17
abbrev N_law_draws : List Str := ["cell", "count", "size", "draws", "rest", "k"]
theorem sc_law_draws : FnScope N_law_draws ["cell", "count", "size"] (defScope s_law_draws) := ⟨rfl, rfl, rfl, by decide +kernel, rfl, by decide +kernel, by decide +kernel⟩
abbrev s_law_integers : Stmt := topS 18
abbrev N_law_integers : List Str := ["actual", "count", "part"]
theorem sc_law_integers : FnScope N_law_integers ["actual", "count"] (defScope s_law_integers) := ⟨rfl, rfl, rfl, by decide +kernel, rfl, by decide +kernel, by decide +kernel⟩
abbrev s_law_table : Stmt := topS 19
abbrev N_law_table : List Str := ["actual", "count", "row"]
theorem sc_law_table : FnScope N_law_table ["actual", "count"] (defScope s_law_table) := ⟨rfl, rfl, rfl, by decide +kernel, rfl, by decide +kernel, by decide +kernel⟩
abbrev s_law_market_size : Stmt := topS 20
abbrev N_law_market_size : List Str := ["shape", "kind"]
theorem sc_law_market_size : FnScope N_law_market_size ["shape"] (defScope s_law_market_size) := ⟨rfl, rfl, rfl, by decide +kernel, rfl, by decide +kernel, by decide +kernel⟩
abbrev s_law_row : Stmt := topS 21
abbrev N_law_row : List Str := ["cell", "shape", "payer", "count", "size", "draws", "draw"]
theorem sc_law_row : FnScope N_law_row ["cell", "shape", "payer", "count", "size"] (defScope s_law_row) := ⟨rfl, rfl, rfl, by decide +kernel, rfl, by decide +kernel, by decide +kernel⟩
abbrev s_law_market : Stmt := topS 22
abbrev N_law_market : List Str := ["script", "shape", "count", "size", "k"]
theorem sc_law_market : FnScope N_law_market ["script"] (defScope s_law_market) := ⟨rfl, rfl, rfl, by decide +kernel, rfl, by decide +kernel, by decide +kernel⟩
abbrev s_law_net : Stmt := topS 23
abbrev N_law_net : List Str := ["owed", "house", "row"]
theorem sc_law_net : FnScope N_law_net ["owed", "house"] (defScope s_law_net) := ⟨rfl, rfl, rfl, by decide +kernel, rfl, by decide +kernel, by decide +kernel⟩
abbrev s_law : Stmt := topS 24
abbrev N_law : List Str := ["script", "owed", "count", "kept", "row", "actual", "debts", "order", "k", "a", "b", "again"]
theorem sc_law : FnScope N_law ["script"] (defScope s_law) := ⟨rfl, rfl, rfl, by decide +kernel, rfl, by decide +kernel, by decide +kernel⟩
set_option maxHeartbeats 0 in
structure Txt (K : PySem.W.Frag) (mg : Str → Option Value) where
  f_is_integral : Addr
  d_is_integral : FuncData
  F_is_integral : Fun K "is_integral" "is_integral" s_is_integral f_is_integral d_is_integral
  m_is_integral : mg "is_integral" = some (.ref f_is_integral)
  b_is_integral : Binds K d_is_integral ["value"] []
  f_is_within : Addr
  d_is_within : FuncData
  F_is_within : Fun K "is_within" "is_within" s_is_within f_is_within d_is_within
  m_is_within : mg "is_within" = some (.ref f_is_within)
  b_is_within : Binds K d_is_within ["least", "most", "value"] []
  f_check_debts : Addr
  d_check_debts : FuncData
  F_check_debts : Fun K "check_debts" "check_debts" s_check_debts f_check_debts d_check_debts
  m_check_debts : mg "check_debts" = some (.ref f_check_debts)
  b_check_debts : Binds K d_check_debts ["owed"] []
  f_unwind : Addr
  d_unwind : FuncData
  F_unwind : Fun K "unwind" "unwind" s_unwind f_unwind d_unwind
  m_unwind : mg "unwind" = some (.ref f_unwind)
  b_unwind : Binds K d_unwind ["owed"] []
  f_first_unowed : Addr
  d_first_unowed : FuncData
  F_first_unowed : Fun K "_first_unowed" "_first_unowed" s_first_unowed f_first_unowed d_first_unowed
  m_first_unowed : mg "_first_unowed" = some (.ref f_first_unowed)
  b_first_unowed : Binds K d_first_unowed ["debts", "houses"] []
  f_first_debtor : Addr
  d_first_debtor : FuncData
  F_first_debtor : Fun K "_first_debtor" "_first_debtor" s_first_debtor f_first_debtor d_first_debtor
  m_first_debtor : mg "_first_debtor" = some (.ref f_first_debtor)
  b_first_debtor : Binds K d_first_debtor ["debts", "houses", "creditor"] []
  f_ring_among : Addr
  d_ring_among : FuncData
  F_ring_among : Fun K "_ring_among" "_ring_among" s_ring_among f_ring_among d_ring_among
  m_ring_among : mg "_ring_among" = some (.ref f_ring_among)
  b_ring_among : Binds K d_ring_among ["debts", "houses"] []
  f_without_ring : Addr
  d_without_ring : FuncData
  F_without_ring : Fun K "_without_ring" "_without_ring" s_without_ring f_without_ring d_without_ring
  m_without_ring : mg "_without_ring" = some (.ref f_without_ring)
  b_without_ring : Binds K d_without_ring ["debts", "ring"] []
  f_law_cell : Addr
  d_law_cell : FuncData
  F_law_cell : Fun K "_law_cell" "_law_cell" s_law_cell f_law_cell d_law_cell
  m_law_cell : mg "_law_cell" = some (.ref f_law_cell)
  b_law_cell : Binds K d_law_cell ["script", "k"] []
  f_law_draws : Addr
  d_law_draws : FuncData
  F_law_draws : Fun K "_law_draws" "_law_draws" s_law_draws f_law_draws d_law_draws
  m_law_draws : mg "_law_draws" = some (.ref f_law_draws)
  b_law_draws : Binds K d_law_draws ["cell", "count", "size"] []
  f_law_integers : Addr
  d_law_integers : FuncData
  F_law_integers : Fun K "_law_integers" "_law_integers" s_law_integers f_law_integers d_law_integers
  m_law_integers : mg "_law_integers" = some (.ref f_law_integers)
  b_law_integers : Binds K d_law_integers ["actual", "count"] []
  f_law_table : Addr
  d_law_table : FuncData
  F_law_table : Fun K "_law_table" "_law_table" s_law_table f_law_table d_law_table
  m_law_table : mg "_law_table" = some (.ref f_law_table)
  b_law_table : Binds K d_law_table ["actual", "count"] []
  f_law_market_size : Addr
  d_law_market_size : FuncData
  F_law_market_size : Fun K "_law_market_size" "_law_market_size" s_law_market_size f_law_market_size d_law_market_size
  m_law_market_size : mg "_law_market_size" = some (.ref f_law_market_size)
  b_law_market_size : Binds K d_law_market_size ["shape"] []
  f_law_row : Addr
  d_law_row : FuncData
  F_law_row : Fun K "_law_row" "_law_row" s_law_row f_law_row d_law_row
  m_law_row : mg "_law_row" = some (.ref f_law_row)
  b_law_row : Binds K d_law_row ["cell", "shape", "payer", "count", "size"] []
  f_law_market : Addr
  d_law_market : FuncData
  F_law_market : Fun K "_law_market" "_law_market" s_law_market f_law_market d_law_market
  m_law_market : mg "_law_market" = some (.ref f_law_market)
  b_law_market : Binds K d_law_market ["script"] []
  f_law_net : Addr
  d_law_net : FuncData
  F_law_net : Fun K "_law_net" "_law_net" s_law_net f_law_net d_law_net
  m_law_net : mg "_law_net" = some (.ref f_law_net)
  b_law_net : Binds K d_law_net ["owed", "house"] []
  c_BourseError : Addr
  m_BourseError : mg "BourseError" = some (.ref c_BourseError)
  c_InvalidTrade : Addr
  m_InvalidTrade : mg "InvalidTrade" = some (.ref c_InvalidTrade)
  z_abs : mg "abs" = none
  z_all : mg "all" = none
  z_bool : mg "bool" = none
  z_enumerate : mg "enumerate" = none
  z_int : mg "int" = none
  z_isinstance : mg "isinstance" = none
  z_len : mg "len" = none
  z_list : mg "list" = none
  z_min : mg "min" = none
  z_range : mg "range" = none
  z_sorted : mg "sorted" = none
  z_sum : mg "sum" = none
  z_tuple : mg "tuple" = none
  z_zip : mg "zip" = none
  t_MOST_HOUSES : Tok
  m_MOST_HOUSES : mg "MOST_HOUSES" = some (.int 13 t_MOST_HOUSES)
  t_MOST_DEBT : Tok
  m_MOST_DEBT : mg "MOST_DEBT" = some (.int 1000000000000000 t_MOST_DEBT)
/-! own short words -/
theorem iteD {p A B : Prop} [Decidable p] (h1 : p → A) (h2 : ¬ p → B) : if decide p = true then A else B := by
  by_cases h : p
  · rw [decide_eq_true h, if_pos rfl]; exact h1 h
  · rw [decide_eq_false h, if_neg Bool.false_ne_true]; exact h2 h
theorem iteDN {p A B : Prop} [Decidable p] (h1 : ¬ p → A) (h2 : p → B) : if (!decide p) = true then A else B := by
  by_cases h : p
  · rw [decide_eq_true h]; exact iteF (h2 h)
  · rw [decide_eq_false h]; exact iteT (h1 h)
theorem len_le {n : Nat} (h : Nat.ble n 1000 = true) : n ≤ sizeLine := Nat.le_trans (Nat.le_of_ble_eq_true h) (by decide)
theorem iteB {b : Bool} {A B : Prop} (h1 : b = true → A) (h2 : b = false → B) : if b = true then A else B := by
  cases b with
  | true => exact iteT (h1 rfl)
  | false => exact iteF (h2 rfl)
theorem cmul_l {i j : Int} (h : -(2 ^ 64) < i) (h' : i < 2 ^ 64) : CMul i j := .inl ⟨h, h'⟩
theorem cmul_r {i j : Int} (h : -(2 ^ 64) < j) (h' : j < 2 ^ 64) : CMul i j := .inr ⟨h, h'⟩
theorem dec_t {p : Prop} [Decidable p] (h : decide p = true) : p := of_decide_eq_true h
theorem dec_f {p : Prop} [Decidable p] (h : decide p = false) : ¬ p := of_decide_eq_false h
theorem ndec_t {p : Prop} [Decidable p] (h : (!decide p) = true) : ¬ p := fun q => by rw [decide_eq_true q] at h; cases h
theorem ndec_f {p : Prop} [Decidable p] (h : (!decide p) = false) : p := by
  by_cases q : p
  · exact q
  · rw [decide_eq_false q] at h; cases h
theorem fld_lt {n : Nat} (h : Nat.ble (n + 1) 1000 = true) : n < 1000 := Nat.le_of_ble_eq_true h
def rLen (K : PySem.W.Frag) : List V → Hp → VK → Prop := fun xs H Q => ∃ p ys, xs = [.ref p] ∧ (SqL K H p ys ∨ SqT K H p ys) ∧ Q (.int ys.length) H
def rListOf (K : PySem.W.Frag) : List V → Hp → VK → Prop := fun xs H Q => ∃ p ys, xs = [.ref p] ∧ (SqL K H p ys ∨ SqT K H p ys) ∧ ∀ l, H l = none → Q (.ref l) (upd H l (.lst ys))
def rTupleOf (K : PySem.W.Frag) : List V → Hp → VK → Prop := fun xs H Q => ∃ p ys, xs = [.ref p] ∧ ((SqL K H p ys ∧ ∀ l, H l = none → Q (.ref l) (upd H l (.tup ys))) ∨ (SqT K H p ys ∧ Q (.ref p) H))
theorem len0 : ([] : List V).length ≤ sizeLine := len_le rfl
theorem len1 {a : V} : [a].length ≤ sizeLine := len_le rfl
theorem len2 {a b : V} : [a, b].length ≤ sizeLine := len_le rfl
theorem len3 {a b c : V} : [a, b, c].length ≤ sizeLine := len_le rfl
theorem len4 {a b c d : V} : [a, b, c, d].length ≤ sizeLine := len_le rfl
theorem len5 {a b c d e : V} : [a, b, c, d, e].length ≤ sizeLine := len_le rfl
local macro_rules | `(tactic| walk_at "st") => `(tactic| repeat (first
  | (apply Exists.intro (α := V))
  | (apply Exists.intro (α := Int))
  | (apply Exists.intro (α := Bool))
  | (apply Exists.intro (α := Addr))
  | (apply Exists.intro (α := List V))
  | (apply Exists.intro (α := List Int))
  | (apply Exists.intro (α := List (Str × V)))
  | (apply Exists.intro (α := Str))
  | (apply And.intro; focus (first | omega | (dsimp only; omega) | (simp only [List.length_map, List.length_replicate]; omega) | exact rfl | assumption | exact SqL.of (by assumption) | exact Or.inl (by assumption) | exact Or.inr (by assumption) | exact Or.inr (SqT.of (by assumption)) | exact Or.inl (Or.inl upd_same) | exact Or.inl (Or.inl (Or.inl upd_same)) | (with_reducible exact len0) | (with_reducible exact len1) | (with_reducible exact len2) | (with_reducible exact len3) | (with_reducible exact len4) | (with_reducible exact len5) | exact upd_same | exact ⟨_, Or.inl (Or.inl upd_same)⟩ | exact ⟨_, SqL.of (by assumption)⟩ | exact ⟨_, by assumption⟩ | exact Or.inl ⟨rfl, _, SqL.of (by assumption)⟩ | exact Or.inl ⟨rfl, _, SqL.of upd_same⟩ | exact cmul_l (by omega) (by omega) | exact cmul_r (by omega) (by omega) | exact ⟨by omega, by omega⟩ | (simp only [List.length_map, List.length_replicate]; omega) | exact Or.inl (SqL.of (by assumption)) | exact SqT.of (by assumption) | exact fld_lt rfl | exact Or.inl ⟨_, by assumption, rfl⟩))))
/-- the script's cell at j, 0 where there is none -/
def cellOf (ns : List Int) (j : Nat) : Int := ns.getD j 0
theorem atI_ints {ns : List Int} {j : Nat} (h : j < ns.length) : atI (ns.map V.int) (j : Int) = some (.int (cellOf ns j)) := by
  refine at_of (j := j) rfl ?_
  rw [List.getElem?_map, List.getElem?_eq_getElem h]
  unfold cellOf
  rw [List.getD_eq_getElem?_getD, List.getElem?_eq_getElem h]
  rfl
theorem cellOf_out {ns : List Int} {j : Nat} (h : ¬ j < ns.length) : cellOf ns j = 0 := by
  unfold cellOf
  rw [List.getD_eq_getElem?_getD, List.getElem?_eq_none (by omega)]
  rfl
theorem same_upd {H : Hp} {p : Addr} {o : HO} (h : H p = none) : Same H (upd H p o) := fun b x e => by
  rw [upd_ne (ne_of_none e h)]
  exact e
/-- a slice of a list of ints -/
def cutI (ns : List Int) (lo hi : Option Int) : List Int := (ns.drop (HT.sIx ns.length 0 lo)).take (HT.sIx ns.length ns.length hi - HT.sIx ns.length 0 lo)
theorem cutV_ints (ns : List Int) (lo hi : Option Int) : cutV (ns.map V.int) lo hi = (cutI ns lo hi).map V.int := by
  unfold cutV cutI
  rw [List.length_map, List.map_take, List.map_drop]
theorem cutI_len (ns : List Int) (lo hi : Option Int) : (cutI ns lo hi).length ≤ ns.length := by
  unfold cutI
  rw [List.length_take, List.length_drop]
  omega
theorem ints_at {ns : List Int} {i : Nat} {x : V} (h : (ns.map V.int)[i]? = some x) : ∃ z, ns[i]? = some z ∧ x = V.int z := by
  rw [List.getElem?_map] at h
  cases e : ns[i]? with
  | none => rw [e] at h; cases h
  | some z => rw [e] at h; exact ⟨z, rfl, (Option.some.inj h).symm⟩
theorem take_succ {α : Type} {xs : List α} {i : Nat} {x : α} (h : xs[i]? = some x) : xs.take (i + 1) = xs.take i ++ [x] := by
  rw [List.take_add_one, h]
  rfl
theorem sum_le_mul : ∀ (ws : List Int) (b : Int), (∀ w, w ∈ ws → w ≤ b) → ws.sum ≤ (ws.length : Int) * b
  | [], b, _ => by show (0 : Int) ≤ ((0 : Nat) : Int) * b; omega
  | w :: ws, b, h => by
    rw [List.sum_cons, List.length_cons, Int.natCast_add, Int.add_mul]
    have h1 := h w List.mem_cons_self
    have h2 := sum_le_mul ws b fun x hx => h x (List.mem_cons_of_mem _ hx)
    omega
theorem ixN_nat {n j : Nat} (h : j < n) : ixN n (j : Int) = some j := by
  unfold ixN
  rw [if_pos (by omega), if_pos (by omega), Int.toNat_natCast]
theorem call_int_i {X : Cx} : CallR X (.type "int") (fun xs H Q => ∃ i : Int, xs = [.int i] ∧ Q (.int i) H) := by
  intro pins s σ H xs us Q I r h
  obtain ⟨i, e, q⟩ := h
  exact call_int1 pins s σ H xs us Q I r (.inl ⟨i, e, q⟩)
theorem dpAll_ints {K : PySem.W.Frag} {H : Hp} : ∀ xs : List Int, DpAll K H (xs.map V.int) (xs.map PyData.int)
  | [] => .nil
  | x :: xs => .cons (.int x) (dpAll_ints xs)
theorem eqvAll_ints : ∀ xs ys : List Int, PyData.eqvAll (xs.map PyData.int) (ys.map PyData.int) = decide (xs = ys)
  | [], [] => by simp [PyData.eqvAll]
  | [], _ :: _ => by simp [PyData.eqvAll]
  | _ :: _, [] => by simp [PyData.eqvAll]
  | x :: xs, y :: ys => by
    rw [List.map_cons, List.map_cons]
    simp only [PyData.eqvAll, PyData.eqv]
    rw [eqvAll_ints xs ys]
    by_cases h : x = y <;> by_cases h2 : xs = ys <;> simp [h, h2]
theorem lay_ints : ∀ xs : List Int, PyData.canLayAll0 (xs.map PyData.int) = true
  | [] => rfl
  | x :: xs => by
    rw [List.map_cons]
    simp only [PyData.canLayAll0, PyData.canLay0, Bool.true_and]
    exact lay_ints xs
theorem depth_ints : ∀ xs : List Int, PyData.depthAll (xs.map PyData.int) = 0
  | [] => rfl
  | x :: xs => by
    rw [List.map_cons]
    simp only [PyData.depthAll, PyData.depth, depth_ints xs]
    rfl
theorem shaped_ints (xs : List Int) : SeqAt.shaped (.list (xs.map PyData.int)) = true := by
  unfold SeqAt.shaped
  simp only [PyData.canLay0, PyData.depth, lay_ints, depth_ints]
  rfl
theorem eqD_ints {K : PySem.W.Frag} {H : Hp} {a b : Addr} {xs ys : List Int} {Q : VK} (h1 : SqL K H a (xs.map V.int)) (h2 : SqL K H b (ys.map V.int)) (q : Q (.bl (decide (xs = ys))) H) : rEqD K (.ref a) (.ref b) H Q :=
  ⟨_, _, .lst h1 (dpAll_ints xs), .lst h2 (dpAll_ints ys), shaped_ints xs, shaped_ints ys, by rw [show PyData.eqv (.list (xs.map PyData.int)) (.list (ys.map PyData.int)) = decide (xs = ys) by simp only [PyData.eqv, eqvAll_ints]]; exact q⟩
theorem neD_ints {K : PySem.W.Frag} {H : Hp} {a b : Addr} {xs ys : List Int} {Q : VK} (h1 : SqL K H a (xs.map V.int)) (h2 : SqL K H b (ys.map V.int)) (q : Q (.bl (!decide (xs = ys))) H) : rNeD K (.ref a) (.ref b) H Q :=
  ⟨_, _, .lst h1 (dpAll_ints xs), .lst h2 (dpAll_ints ys), shaped_ints xs, shaped_ints ys, by rw [show PyData.eqv (.list (xs.map PyData.int)) (.list (ys.map PyData.int)) = decide (xs = ys) by simp only [PyData.eqv, eqvAll_ints]]; exact q⟩

def at0 (ws : List Int) (i : Nat) : Int := ws.getD i 0
theorem at0_lt {ws : List Int} {i : Nat} (h : i < ws.length) : ws[i]? = some (at0 ws i) := by
  unfold at0
  rw [List.getD_eq_getElem?_getD, List.getElem?_eq_getElem h]
  rfl
theorem atI_n {ws : List Int} {j : Nat} (h : j < ws.length) : atI (ws.map V.int) (j : Int) = some (.int (at0 ws j)) := by
  refine at_of (j := j) rfl ?_
  rw [List.getElem?_map, at0_lt h]
  rfl
theorem at0_of {ws : List Int} {i : Nat} {x : Int} (h : ws[i]? = some x) : at0 ws i = x := by
  unfold at0
  rw [List.getD_eq_getElem?_getD, h]
  rfl
theorem at0_out {ws : List Int} {i : Nat} (h : ws.length ≤ i) : at0 ws i = 0 := by
  unfold at0
  rw [List.getD_eq_getElem?_getD, List.getElem?_eq_none h]
  rfl
theorem at0_ext {xs ys : List Int} (hl : xs.length = ys.length) (h : ∀ i, i < xs.length → at0 xs i = at0 ys i) : xs = ys := by
  refine List.ext_getElem? fun i => ?_
  by_cases hi : i < xs.length
  · rw [at0_lt hi, at0_lt (by omega), h i hi]
  · rw [List.getElem?_eq_none (by omega), List.getElem?_eq_none (by omega)]
theorem at0_set {ps : List Int} {k i : Nat} {x : Int} (hk : k < ps.length) : at0 (ps.set k x) i = if i = k then x else at0 ps i := by
  by_cases h : i = k
  · subst h
    rw [if_pos rfl]
    exact at0_of (List.getElem?_set_self hk)
  · rw [if_neg h]
    unfold at0
    rw [List.getD_eq_getElem?_getD, List.getD_eq_getElem?_getD, List.getElem?_set_ne (fun e => h e.symm)]
theorem at0_nonneg {ws : List Int} (h : ∀ w, w ∈ ws → 0 ≤ w) (i : Nat) : 0 ≤ at0 ws i := by
  by_cases hi : i < ws.length
  · exact h _ (List.mem_of_getElem? (at0_lt hi))
  · rw [at0_out (by omega)]; exact Int.le_refl 0

/-- how items of one kind are told as data; equal data are equal items -/
structure LayD {α : Type} [DecidableEq α] (L : α → PyData) (k : Nat) (G : α → Prop) : Prop where
  lay : ∀ x, G x → (L x).canLay0 = true
  dep : ∀ x, (L x).depth ≤ k
  eqv : ∀ x y, PyData.eqv (L x) (L y) = decide (x = y)
theorem LayD.shaped {α : Type} [DecidableEq α] {L : α → PyData} {k : Nat} {G : α → Prop} (h : LayD L k G) (hk : k ≤ 64) {x : α} (g : G x) : SeqAt.shaped (L x) = true := by
  have h1 := h.lay x g
  have h2 := h.dep x
  unfold SeqAt.shaped
  rw [h1, Bool.true_and]
  exact decide_eq_true (by omega)
theorem layD_int : LayD PyData.int 0 (fun _ => True) := ⟨fun _ _ => rfl, fun _ => Nat.le_refl _, fun x y => by simp only [PyData.eqv]; exact (Bool.beq_eq_decide_eq x y)⟩
theorem layD_str : LayD PyData.str 0 (fun x => PyData.strOk x = true) := ⟨fun _ h => by simp only [PyData.canLay0]; exact h, fun _ => Nat.le_refl _, fun x y => by simp only [PyData.eqv]; exact (Bool.beq_eq_decide_eq x y)⟩
theorem decide_and2 {p q r : Prop} [Decidable p] [Decidable q] [Decidable r] (h : r ↔ p ∧ q) : (decide p && decide q) = decide r := by
  by_cases hp : p <;> by_cases hq : q <;> simp [h, hp, hq]
theorem layD_all {α : Type} [DecidableEq α] {L : α → PyData} {k : Nat} {G : α → Prop} (h : LayD L k G) : (∀ xs : List α, (∀ x, x ∈ xs → G x) → PyData.canLayAll0 (xs.map L) = true) ∧ (∀ xs : List α, PyData.depthAll (xs.map L) ≤ k) ∧ ∀ xs ys : List α, PyData.eqvAll (xs.map L) (ys.map L) = decide (xs = ys) := by
  refine ⟨fun xs => ?_, fun xs => ?_, fun xs => ?_⟩
  · induction xs with
    | nil => exact fun _ => rfl
    | cons x xs ih =>
      intro g
      rw [List.map_cons]
      simp only [PyData.canLayAll0, ih fun y hy => g y (List.mem_cons_of_mem _ hy), h.lay x (g x List.mem_cons_self)]
      rfl
  · induction xs with
    | nil => exact Nat.zero_le _
    | cons x xs ih => rw [List.map_cons]; simp only [PyData.depthAll]; exact Nat.max_le.mpr ⟨h.dep x, ih⟩
  · induction xs with
    | nil =>
      intro ys
      cases ys with
      | nil => rfl
      | cons y ys => simp [PyData.eqvAll]
    | cons x xs ih =>
      intro ys
      cases ys with
      | nil => simp [PyData.eqvAll]
      | cons y ys =>
        rw [List.map_cons, List.map_cons]
        simp only [PyData.eqvAll]
        rw [ih ys, h.eqv x y]
        exact decide_and2 (by rw [List.cons.injEq])
theorem LayD.list {α : Type} [DecidableEq α] {L : α → PyData} {k : Nat} {G : α → Prop} (h : LayD L k G) : LayD (fun xs : List α => PyData.list (xs.map L)) (k + 1) (fun xs => ∀ x, x ∈ xs → G x) := by
  obtain ⟨h1, h2, h3⟩ := layD_all h
  refine ⟨fun xs g => ?_, fun xs => ?_, fun xs ys => ?_⟩
  · simp only [PyData.canLay0]; exact h1 xs g
  · simp only [PyData.depth]; exact Nat.succ_le_succ (h2 xs)
  · simp only [PyData.eqv]; exact h3 xs ys
theorem LayD.tup2 {α β : Type} [DecidableEq α] [DecidableEq β] {L : α → PyData} {M : β → PyData} {k : Nat} {G : α → Prop} {G2 : β → Prop} (h : LayD L k G) (g : LayD M k G2) : LayD (fun x : α × β => PyData.tuple [L x.1, M x.2]) (k + 1) (fun x => G x.1 ∧ G2 x.2) := by
  refine ⟨fun x a => ?_, fun x => ?_, fun x y => ?_⟩
  · simp only [PyData.canLay0, PyData.canLayAll0, h.lay _ a.1, g.lay _ a.2, Bool.and_true]
  · simp only [PyData.depth, PyData.depthAll]
    have := h.dep x.1
    have := g.dep x.2
    omega
  · simp only [PyData.eqv, PyData.eqvAll, h.eqv, g.eqv, Bool.and_true]
    exact decide_and2 (by rw [Prod.ext_iff])
theorem LayD.tup3 {α β γ : Type} [DecidableEq α] [DecidableEq β] [DecidableEq γ] {L : α → PyData} {M : β → PyData} {N : γ → PyData} {k : Nat} {G : α → Prop} {G2 : β → Prop} {G3 : γ → Prop} (h : LayD L k G) (g : LayD M k G2) (e : LayD N k G3) : LayD (fun x : α × β × γ => PyData.tuple [L x.1, M x.2.1, N x.2.2]) (k + 1) (fun x => G x.1 ∧ G2 x.2.1 ∧ G3 x.2.2) := by
  refine ⟨fun x a => ?_, fun x => ?_, fun x y => ?_⟩
  · simp only [PyData.canLay0, PyData.canLayAll0, h.lay _ a.1, g.lay _ a.2.1, e.lay _ a.2.2, Bool.and_true]
  · simp only [PyData.depth, PyData.depthAll]
    have := h.dep x.1
    have := g.dep x.2.1
    have := e.dep x.2.2
    omega
  · simp only [PyData.eqv, PyData.eqvAll, h.eqv, g.eqv, e.eqv, Bool.and_true]
    rw [decide_and2 (r := x.2 = y.2) (by rw [Prod.ext_iff])]
    exact decide_and2 (by rw [Prod.ext_iff])
theorem LayD.tup4 {α β γ δ : Type} [DecidableEq α] [DecidableEq β] [DecidableEq γ] [DecidableEq δ] {L : α → PyData} {M : β → PyData} {N : γ → PyData} {O : δ → PyData} {k : Nat} {G : α → Prop} {G2 : β → Prop} {G3 : γ → Prop} {G4 : δ → Prop} (h : LayD L k G) (g : LayD M k G2) (e : LayD N k G3) (d : LayD O k G4) : LayD (fun x : α × β × γ × δ => PyData.tuple [L x.1, M x.2.1, N x.2.2.1, O x.2.2.2]) (k + 1) (fun x => G x.1 ∧ G2 x.2.1 ∧ G3 x.2.2.1 ∧ G4 x.2.2.2) := by
  refine ⟨fun x a => ?_, fun x => ?_, fun x y => ?_⟩
  · simp only [PyData.canLay0, PyData.canLayAll0, h.lay _ a.1, g.lay _ a.2.1, e.lay _ a.2.2.1, d.lay _ a.2.2.2, Bool.and_true]
  · simp only [PyData.depth, PyData.depthAll]
    have := h.dep x.1
    have := g.dep x.2.1
    have := e.dep x.2.2.1
    have := d.dep x.2.2.2
    omega
  · simp only [PyData.eqv, PyData.eqvAll, h.eqv, g.eqv, e.eqv, d.eqv, Bool.and_true]
    rw [decide_and2 (r := x.2.2 = y.2.2) (by rw [Prod.ext_iff]), decide_and2 (r := x.2 = y.2) (by rw [Prod.ext_iff])]
    exact decide_and2 (by rw [Prod.ext_iff])
theorem eqL {α : Type} [DecidableEq α] {L : α → PyData} {k : Nat} {G : α → Prop} (h : LayD L k G) (hk : k ≤ 64) {K : PySem.W.Frag} {H : Hp} {x y : V} {a b : α} {Q : VK} (ga : G a) (gb : G b) (h1 : Dp K H x (L a)) (h2 : Dp K H y (L b)) (q : Q (.bl (decide (a = b))) H) : rEqD K x y H Q :=
  ⟨_, _, h1, h2, h.shaped hk ga, h.shaped hk gb, by rw [h.eqv]; exact q⟩
theorem neL {α : Type} [DecidableEq α] {L : α → PyData} {k : Nat} {G : α → Prop} (h : LayD L k G) (hk : k ≤ 64) {K : PySem.W.Frag} {H : Hp} {x y : V} {a b : α} {Q : VK} (ga : G a) (gb : G b) (h1 : Dp K H x (L a)) (h2 : Dp K H y (L b)) (q : Q (.bl (!decide (a = b))) H) : rNeD K x y H Q :=
  ⟨_, _, h1, h2, h.shaped hk ga, h.shaped hk gb, by rw [h.eqv]; exact q⟩
theorem dpAll_refs {α : Type} {L : α → PyData} {K : PySem.W.Frag} {H : Hp} : ∀ {ps : List Addr} {xs : List α}, ps.length = xs.length → (∀ (i : Nat) (p : Addr) (x : α), ps[i]? = some p → xs[i]? = some x → Dp K H (.ref p) (L x)) → DpAll K H (ps.map V.ref) (xs.map L)
  | [], [], _, _ => .nil
  | [], _ :: _, h, _ => by cases h
  | _ :: _, [], h, _ => by cases h
  | p :: ps, x :: xs, h, e => .cons (e 0 p x rfl rfl) (dpAll_refs (Nat.succ.inj h) fun i p' x' h1 h2 => e (i + 1) p' x' h1 h2)

/-- for i, x in enumerate(xs): each turn a new pair -/
theorem for_enum {K : PySem.W.Frag} {a : Addr} {xs : List V} {g : TG} {tb : TS} {D : Ends} {σ : L2.St} {H : Hp} (Pv : Nat → L2.St → Hp → Prop) (h0 : Pv 0 σ H) (hl : ∀ i σ H, i ≤ xs.length → Pv i σ H → SqL K H a xs)
    (hs : ∀ (i : Nat) (x : V) (σ : L2.St) (H : Hp) (T : Addr), xs[i]? = some x → Pv i σ H → H T = none → g (.ref T) σ (upd H T (.tup [.int (i : Int), x])) fun σ2 H2 => tb { D with nx := Pv (i + 1), ct := Pv (i + 1), bk := D.nx } σ2 H2) (hd : ∀ σ H, Pv xs.length σ H → D.nx σ H) :
    ∃ W : Nat → Nat → L2.St → Hp → Prop, (∃ m, W 0 m σ H) ∧ ∀ i m σ H, W i m σ H →
      ((Ite K a).stop i H ∧ D.nx σ H) ∨ ((Ite K a).go i H ∧ ∃ N : L2.St → Hp → Prop, (∀ σ' H', N σ' H' → ∃ m', m' < m ∧ W (i + 1) m' σ' H') ∧ ∀ x H', (Ite K a).yld i H x H' → g x σ H' fun σ2 H2 => tb { D with nx := N, ct := N, bk := D.nx } σ2 H2) := by
  refine ⟨fun i m σ H => m + i = xs.length ∧ Pv i σ H, ⟨xs.length, rfl, h0⟩, ?_⟩
  rintro i m σ H ⟨em, p⟩
  have q := hl i σ H (by omega) p
  by_cases hlt : i < xs.length
  · refine .inr ⟨⟨xs, xs[i], q, List.getElem?_eq_getElem hlt⟩, Pv (i + 1), fun σ' H' p' => ⟨m - 1, by omega, by omega, p'⟩, fun x H' y => ?_⟩
    obtain ⟨T, z, rfl, nT, rfl, hz⟩ := y
    exact hs i z σ H T (hz xs q) p nT
  · have e : i = xs.length := by omega
    subst e
    exact .inl ⟨⟨xs, q, Nat.le_refl _⟩, hd σ H p⟩
theorem call_int_b {X : Cx} : CallR X (.type "int") (fun xs H Q => ∃ b : Bool, xs = [.bl b] ∧ Q (.int (if b = true then 1 else 0)) H) := by
  intro pins s σ H xs us Q I r h
  obtain ⟨i, e, q⟩ := h
  exact call_int1 pins s σ H xs us Q I r (.inr ⟨i, e, q⟩)

/-- the first n values of g -/
def rowI (n : Nat) (g : Nat → Int) : List Int := (List.range n).map g
theorem rowI_len (n : Nat) (g : Nat → Int) : (rowI n g).length = n := by
  unfold rowI
  rw [List.length_map, List.length_range]
theorem rowI_at {n : Nat} {g : Nat → Int} {i : Nat} (h : i < n) : (rowI n g)[i]? = some (g i) := by
  unfold rowI
  rw [List.getElem?_map, List.getElem?_range h]
  rfl
theorem atI_row {n : Nat} {g : Nat → Int} {i : Nat} (h : i < n) : atI ((rowI n g).map V.int) (i : Int) = some (.int (g i)) := by
  refine at_of (j := i) rfl ?_
  rw [List.getElem?_map, rowI_at h]
  rfl
theorem rowI_succ (n : Nat) (g : Nat → Int) : rowI (n + 1) g = rowI n g ++ [g n] := by
  unfold rowI
  rw [List.range_succ, List.map_append]
  rfl
theorem rowI_eq {n : Nat} {f g : Nat → Int} : rowI n f = rowI n g ↔ ∀ i, i < n → f i = g i := by
  unfold rowI
  rw [List.map_inj_left]
  exact ⟨fun h i hi => h i (List.mem_range.mpr hi), fun h i hi => h i (List.mem_range.mp hi)⟩
theorem rowI_of (ws : List Int) : rowI ws.length (at0 ws) = ws := by
  refine List.ext_getElem? fun i => ?_
  by_cases h : i < ws.length
  · rw [rowI_at h, at0_lt h]
  · rw [List.getElem?_eq_none (by rw [rowI_len]; omega), List.getElem?_eq_none (by omega)]
theorem rowI_mem {n : Nat} {g : Nat → Int} {x : Int} : x ∈ rowI n g ↔ ∃ i, i < n ∧ g i = x := by
  unfold rowI
  rw [List.mem_map]
  exact ⟨fun ⟨i, h, e⟩ => ⟨i, List.mem_range.mp h, e⟩, fun ⟨i, h, e⟩ => ⟨i, List.mem_range.mpr h, e⟩⟩
/-- the sum of the first n values of g -/
def sumI (n : Nat) (g : Nat → Int) : Int := (rowI n g).sum
theorem sumI_succ (n : Nat) (g : Nat → Int) : sumI (n + 1) g = sumI n g + g n := by
  unfold sumI
  rw [rowI_succ, List.sum_append, List.sum_cons, List.sum_nil]
  omega
theorem sumI_congr {n : Nat} {f g : Nat → Int} (h : ∀ i, i < n → f i = g i) : sumI n f = sumI n g := by
  unfold sumI
  rw [rowI_eq.mpr h]
theorem sumI_sub : ∀ (n : Nat) (f g : Nat → Int), sumI n (fun i => f i - g i) = sumI n f - sumI n g
  | 0, _, _ => rfl
  | n + 1, f, g => by rw [sumI_succ, sumI_succ, sumI_succ, sumI_sub n f g]; omega
theorem sumI_bound {n : Nat} {g : Nat → Int} {m : Int} (h : ∀ i, i < n → 0 ≤ g i ∧ g i ≤ m) : 0 ≤ sumI n g ∧ sumI n g ≤ n * m := by
  induction n with
  | zero => exact ⟨Int.le_refl 0, by show (0 : Int) ≤ ((0 : Nat) : Int) * m; omega⟩
  | succ n ih =>
    have h1 := ih fun i hi => h i (by omega)
    have h2 := h n (by omega)
    rw [sumI_succ]
    have e : ((n + 1 : Nat) : Int) * m = n * m + m := by rw [Int.natCast_add, Int.add_mul]; omega
    omega
/-- a square table of numbers, its rows at ps -/
structure Tab (H : Hp) (t : Addr) (ps : List Addr) (n : Nat) (f : Nat → Nat → Int) : Prop where
  lst : H t = some (.lst (ps.map V.ref))
  len : ps.length = n
  row : ∀ i p, ps[i]? = some p → H p = some (.lst ((rowI n (f i)).map V.int))
  nod : ps.Nodup
  out : t ∉ ps
theorem Tab.same {H H' : Hp} {t : Addr} {ps : List Addr} {n : Nat} {f : Nat → Nat → Int} (h : Tab H t ps n f) (e : Same H H') : Tab H' t ps n f :=
  ⟨e _ _ h.lst, h.len, fun i p hp => e _ _ (h.row i p hp), h.nod, h.out⟩
def tabL (n : Nat) (f : Nat → Nat → Int) : List (List Int) := (List.range n).map fun i => rowI n (f i)
theorem tabL_at {n : Nat} {f : Nat → Nat → Int} {i : Nat} (h : i < n) : (tabL n f)[i]? = some (rowI n (f i)) := by
  unfold tabL
  rw [List.getElem?_map, List.getElem?_range h]
  rfl
theorem tabL_eq {n : Nat} {f g : Nat → Nat → Int} : tabL n f = tabL n g ↔ ∀ i, i < n → ∀ j, j < n → f i j = g i j := by
  unfold tabL
  rw [List.map_inj_left]
  exact ⟨fun h i hi => rowI_eq.mp (h i (List.mem_range.mpr hi)), fun h i hi => rowI_eq.mpr (h i (List.mem_range.mp hi))⟩
theorem layD_tab : LayD (fun xs : List (List Int) => PyData.list (xs.map fun ys => PyData.list (ys.map PyData.int))) 2 (fun xs => ∀ x, x ∈ xs → ∀ y, y ∈ x → True) := layD_int.list.list
theorem Tab.dp {K : PySem.W.Frag} {H : Hp} {t : Addr} {ps : List Addr} {n : Nat} {f : Nat → Nat → Int} (h : Tab H t ps n f) : Dp K H (.ref t) (PyData.list ((tabL n f).map fun ys => PyData.list (ys.map PyData.int))) := by
  refine .lst (SqL.of h.lst) (dpAll_refs ?_ fun i p x h1 h2 => ?_)
  · rw [h.len]
    unfold tabL
    rw [List.length_map, List.length_range]
  · have hi := (List.getElem?_eq_some_iff.mp h1).1
    rw [h.len] at hi
    rw [tabL_at hi] at h2
    cases h2
    exact .lst (SqL.of (h.row i p h1)) (dpAll_ints _)
theorem refs_at {ps : List Addr} {i : Nat} {x : V} (h : (ps.map V.ref)[i]? = some x) : ∃ p, ps[i]? = some p ∧ x = V.ref p := by
  rw [List.getElem?_map] at h
  cases e : ps[i]? with
  | none => rw [e] at h; cases h
  | some z => rw [e] at h; exact ⟨z, rfl, (Option.some.inj h).symm⟩
theorem Tab.at {H : Hp} {t : Addr} {ps : List Addr} {n : Nat} {f : Nat → Nat → Int} (h : Tab H t ps n f) {i : Nat} (hi : i < n) : ∃ p, ps[i]? = some p ∧ atI (ps.map V.ref) (i : Int) = some (.ref p) ∧ H p = some (.lst ((rowI n (f i)).map V.int)) := by
  have hl : i < ps.length := by rw [h.len]; exact hi
  refine ⟨ps[i], List.getElem?_eq_getElem hl, at_of (j := i) rfl ?_, h.row i _ (List.getElem?_eq_getElem hl)⟩
  rw [List.getElem?_map, List.getElem?_eq_getElem hl]
  rfl

/-- a table that grows: m rows of n numbers -/
structure TabR (H : Hp) (t : Addr) (ps : List Addr) (m n : Nat) (f : Nat → Nat → Int) : Prop where
  lst : H t = some (.lst (ps.map V.ref))
  len : ps.length = m
  row : ∀ i p, ps[i]? = some p → H p = some (.lst ((rowI n (f i)).map V.int))
  nod : ps.Nodup
  out : t ∉ ps
theorem TabR.nil {H : Hp} {t : Addr} (n : Nat) (f : Nat → Nat → Int) (h : H t = some (.lst [])) : TabR H t [] 0 n f :=
  ⟨h, rfl, fun _ _ e => (by rw [List.getElem?_nil] at e; cases e), List.nodup_nil, fun h => (by cases h)⟩
theorem TabR.congr {H : Hp} {t : Addr} {ps : List Addr} {m n : Nat} {f g : Nat → Nat → Int} (h : TabR H t ps m n f) (e : ∀ i, i < m → ∀ j, j < n → f i j = g i j) : TabR H t ps m n g :=
  ⟨h.lst, h.len, fun i p hp => by
    have hi := (List.getElem?_eq_some_iff.mp hp).1
    rw [h.row i p hp, rowI_eq.mpr (e i (by rw [← h.len]; exact hi))], h.nod, h.out⟩
theorem TabR.push {H H' : Hp} {t p : Addr} {ps : List Addr} {m n : Nat} {f : Nat → Nat → Int} (h : TabR H t ps m n f) (e : Same H H') (np : H p = none) (hp : H' p = some (.lst ((rowI n (f m)).map V.int))) : TabR (upd H' t (.lst (ps.map V.ref ++ [V.ref p]))) t (ps ++ [p]) (m + 1) n f := by
  have hmem : ∀ q, q ∈ ps → ∃ o, H q = some o := fun q hq => by
    obtain ⟨i, hi⟩ := List.mem_iff_getElem?.mp hq
    exact ⟨_, h.row i q hi⟩
  have hpt : p ≠ t := fun z => by rw [z, h.lst] at np; cases np
  have hnp : p ∉ ps := fun z => by
    obtain ⟨o, ho⟩ := hmem p z
    rw [np] at ho
    cases ho
  refine ⟨?_, ?_, fun i q hq => ?_, ?_, ?_⟩
  · rw [upd_same, List.map_append]
    rfl
  · rw [List.length_append, h.len]
    rfl
  · by_cases hi : i < ps.length
    · rw [List.getElem?_append_left hi] at hq
      have hm := List.mem_of_getElem? hq
      rw [upd_ne (fun z => h.out (by rw [← z]; exact hm))]
      exact e _ _ (h.row i q hq)
    · rw [List.getElem?_append_right (by omega)] at hq
      have hi2 := (List.getElem?_eq_some_iff.mp hq).1
      have : i - ps.length = 0 := by
        rw [List.length_cons, List.length_nil] at hi2
        omega
      rw [this] at hq
      have hqp : p = q := Option.some.inj hq
      subst hqp
      rw [upd_ne hpt, hp]
      have : i = m := by have := h.len; omega
      rw [this]
  · rw [List.nodup_append]
    refine ⟨h.nod, List.nodup_cons.mpr ⟨fun z => (by cases z), List.nodup_nil⟩, fun a ha b hb z => ?_⟩
    rw [List.mem_singleton] at hb
    rw [hb] at z
    rw [z] at ha
    exact hnp ha
  · intro z
    rcases List.mem_append.mp z with z | z
    · exact h.out z
    · rw [List.mem_singleton] at z
      exact hpt z.symm
theorem TabR.tab {H : Hp} {t : Addr} {ps : List Addr} {n : Nat} {f : Nat → Nat → Int} (h : TabR H t ps n n f) : Tab H t ps n f := ⟨h.lst, h.len, h.row, h.nod, h.out⟩
theorem TabR.keep {H H0 : Hp} {t : Addr} {xs : List V} (s : Same H0 H) (nt : H0 t = none) : Same H0 (upd H t (.lst xs)) := fun b o e => by
  rw [upd_ne (ne_of_none e nt)]
  exact s b o e
/-- debts: one to thirteen houses, nobody owes itself -/
structure Debts (n : Nat) (f : Nat → Nat → Int) (m : Int) : Prop where
  n0 : 1 ≤ n
  n1 : n ≤ 13
  b : ∀ i, i < n → ∀ j, j < n → 0 ≤ f i j ∧ f i j ≤ m
  d : ∀ i, i < n → f i i = 0
theorem Debts.mono {n : Nat} {f : Nat → Nat → Int} {m k : Int} (h : Debts n f m) (e : m ≤ k) : Debts n f k := ⟨h.n0, h.n1, fun i hi j hj => ⟨(h.b i hi j hj).1, Int.le_trans (h.b i hi j hj).2 e⟩, h.d⟩

/-- [row[h] for row in t]: a column of a table -/
theorem lc_col {K : PySem.W.Frag} {t : Addr} {ps : List Addr} {n : Nat} {f : Nat → Nat → Int} {σ : L2.St} {H1 : Hp} {D : Addr} {j l h : Nat} {Qd : Hp → Prop} (ht : Tab H1 t ps n f) (hn : n ≤ 1000) (hh : h < n) (nD : H1 D = none) (hj : Nat.ble (j + 1) σ.length = true) (hlj : l ≠ j) (hl : σ[l]? = some (some (.int (h : Int))))
    (q : Qd (upd H1 D (.lst ((rowI n fun a => f a h).map V.int)))) :
    ∃ W : Nat → Nat → Hp → Prop, (∃ m, W 0 m (upd H1 D (.lst []))) ∧ ∀ i m H, W i m H →
      ((Itl K t).stop i H ∧ Qd H) ∨ ((Itl K t).go i H ∧ ∃ Nx : Hp → Prop, (∀ H', Nx H' → ∃ m', m' < m ∧ W (i + 1) m' H') ∧ ∀ x H', (Itl K t).yld i H x H' → gName j x (wipe σ [j]) H' fun σ2 H2 => wipe σ2 [j] = wipe σ [j] ∧ tYes σ2 H2 fun b H3 =>
        if b = true then tOp (rIxL K) (tVar j) (tVar l) σ2 H3 fun y H4 => ∃ acc, H4 D = some (.lst acc) ∧ acc.length < sizeLine ∧ Nx (upd H4 D (.lst (acc ++ [y]))) else Nx H3) := by
  have hs : SqL K H1 t (ps.map V.ref) := SqL.of ht.lst
  have hj' : j < (wipe σ [j]).length := by rw [wipe_length]; exact Nat.le_of_ble_eq_true hj
  refine lc_list (K := K) (a := t) (xs := ps.map V.ref) (fun i H' => H' = upd H1 D (.lst ((rowI i fun a => f a h).map V.int))) rfl (fun i H' _ e => by rw [e]; exact (same_upd nD).seq hs) ?_ ?_
  · rintro i x H' hx rfl
    obtain ⟨p, hp, rfl⟩ := refs_at hx
    have hi := (List.getElem?_eq_some_iff.mp hp).1
    rw [ht.len] at hi
    refine ⟨?_, ?_⟩
    · show ((wipe σ [j]).set j (some (V.ref p))).set j none = σ.set j none
      show ((σ.set j none).set j (some (V.ref p))).set j none = σ.set j none
      rw [List.set_set, List.set_set]
    · refine ⟨_, List.getElem?_set_self hj', _, ?_, p, (rowI n (f i)).map V.int, (h : Int), _, rfl, rfl, (same_upd nD).seq (SqL.of (ht.row i p hp)), atI_row hh, ?_⟩
      · show ((wipe σ [j]).set j (some (V.ref p)))[l]? = some (some (V.int (h : Int)))
        rw [List.getElem?_set_ne (fun e => hlj e.symm)]
        show (σ.set j none)[l]? = _
        rw [List.getElem?_set_ne (fun e => hlj e.symm)]
        exact hl
      · refine ⟨_, upd_same, ?_, ?_⟩
        · refine small1000 ?_
          rw [List.length_map, rowI_len]
          omega
        · rw [upd_upd, rowI_succ, List.map_append]
          rfl
  · rintro H' rfl
    rw [List.length_map, ht.len]
    exact q
/-- [t[b][h] for b in range(n)]: the same column -/
theorem lc_colR {K : PySem.W.Frag} {t : Addr} {ps : List Addr} {n : Nat} {f : Nat → Nat → Int} {σ : L2.St} {H1 : Hp} {D : Addr} {j l u h m : Nat} {Qd : Hp → Prop} (ht : Tab H1 t ps n f) (hn : n ≤ 1000) (hh : h < n) (nD : H1 D = none) (hm : m = n) (hj : Nat.ble (j + 1) σ.length = true) (hlj : l ≠ j) (huj : u ≠ j) (hl : σ[l]? = some (some (.int (h : Int)))) (hu : σ[u]? = some (some (.ref t)))
    (q : Qd (upd H1 D (.lst ((rowI n fun a => f a h).map V.int)))) :
    ∃ W : Nat → Nat → Hp → Prop, (∃ m, W 0 m (upd H1 D (.lst []))) ∧ ∀ i k H, W i k H →
      ((Itr 0 m).stop i H ∧ Qd H) ∨ ((Itr 0 m).go i H ∧ ∃ Nx : Hp → Prop, (∀ H', Nx H' → ∃ m', m' < k ∧ W (i + 1) m' H') ∧ ∀ x H', (Itr 0 m).yld i H x H' → gName j x (wipe σ [j]) H' fun σ2 H2 => wipe σ2 [j] = wipe σ [j] ∧ tYes σ2 H2 fun b H3 =>
        if b = true then tOp (rIxL K) (tOp (rIxL K) (tVar u) (tVar j)) (tVar l) σ2 H3 fun y H4 => ∃ acc, H4 D = some (.lst acc) ∧ acc.length < sizeLine ∧ Nx (upd H4 D (.lst (acc ++ [y]))) else Nx H3) := by
  subst hm
  have hj' : j < (wipe σ [j]).length := by rw [wipe_length]; exact Nat.le_of_ble_eq_true hj
  have keep : ∀ (y : V) (i : Nat) (x : Option V), i ≠ j → σ[i]? = some x → ((wipe σ [j]).set j (some y))[i]? = some x := fun y i x e z => by
    rw [List.getElem?_set_ne fun w => e w.symm]
    show (σ.set j none)[i]? = _
    rw [List.getElem?_set_ne fun w => e w.symm]
    exact z
  refine lc_range (lo := 0) (n := m) (fun i H' => H' = upd H1 D (.lst ((rowI i fun a => f a h).map V.int))) rfl ?_ ?_
  · rintro i H' hi rfl
    rw [show (0 : Int) + i = ((i : Nat) : Int) by omega]
    have s1 : Same H1 (upd H1 D (.lst ((rowI i fun a => f a h).map V.int))) := same_upd nD
    obtain ⟨p, hp, ha, hr⟩ := (ht.same s1).at hi
    refine ⟨?_, ?_⟩
    · show ((wipe σ [j]).set j (some (V.int (i : Int)))).set j none = σ.set j none
      show ((σ.set j none).set j (some (V.int (i : Int)))).set j none = σ.set j none
      rw [List.set_set, List.set_set]
    · refine ⟨_, keep _ _ _ huj hu, _, List.getElem?_set_self hj', t, ps.map V.ref, (i : Int), _, rfl, rfl, SqL.of (ht.same s1).lst, ha, _, keep _ _ _ hlj hl, p, (rowI m (f i)).map V.int, (h : Int), _, rfl, rfl, SqL.of hr, atI_row hh, ?_⟩
      refine ⟨_, upd_same, ?_, ?_⟩
      · refine small1000 ?_
        rw [List.length_map, rowI_len]
        omega
      · rw [upd_upd, rowI_succ, List.map_append]
        rfl
  · rintro H' rfl
    exact q
/-- [list(row) for row in t]: a table copied -/
theorem lc_copy {K : PySem.W.Frag} {t : Addr} {ps : List Addr} {n : Nat} {f : Nat → Nat → Int} {σ : L2.St} {H1 : Hp} {D : Addr} {j : Nat} {Qd : Hp → Prop} (ht : Tab H1 t ps n f) (hn : n ≤ 1000) (nD : H1 D = none) (hj : Nat.ble (j + 1) σ.length = true)
    (q : ∀ H' qs, Same H1 H' → Tab H' D qs n f → (∀ q, q ∈ qs → H1 q = none) → Qd H') :
    ∃ W : Nat → Nat → Hp → Prop, (∃ m, W 0 m (upd H1 D (.lst []))) ∧ ∀ i m H, W i m H →
      ((Itl K t).stop i H ∧ Qd H) ∨ ((Itl K t).go i H ∧ ∃ Nx : Hp → Prop, (∀ H', Nx H' → ∃ m', m' < m ∧ W (i + 1) m' H') ∧ ∀ x H', (Itl K t).yld i H x H' → gName j x (wipe σ [j]) H' fun σ2 H2 => wipe σ2 [j] = wipe σ [j] ∧ tYes σ2 H2 fun b H3 =>
        if b = true then tCB (rListOf K) (tCons (tVar j) tNil) σ2 H3 fun y H4 => ∃ acc, H4 D = some (.lst acc) ∧ acc.length < sizeLine ∧ Nx (upd H4 D (.lst (acc ++ [y]))) else Nx H3) := by
  have hs : SqL K H1 t (ps.map V.ref) := SqL.of ht.lst
  have hj' : j < (wipe σ [j]).length := by rw [wipe_length]; exact Nat.le_of_ble_eq_true hj
  refine lc_list (K := K) (a := t) (xs := ps.map V.ref) (fun i H' => ∃ qs, TabR H' D qs i n f ∧ Same H1 H' ∧ ∀ q, q ∈ qs → H1 q = none) ⟨[], .nil n f upd_same, same_upd nD, fun _ h => by cases h⟩ (fun i H' _ ⟨_, _, e, _⟩ => e.seq hs) ?_ ?_
  · rintro i x H' hx ⟨qs, hT, e, hfree⟩
    obtain ⟨p, hp, rfl⟩ := refs_at hx
    have hi := (List.getElem?_eq_some_iff.mp hp).1
    rw [ht.len] at hi
    refine ⟨?_, ?_⟩
    · show ((wipe σ [j]).set j (some (V.ref p))).set j none = σ.set j none
      show ((σ.set j none).set j (some (V.ref p))).set j none = σ.set j none
      rw [List.set_set, List.set_set]
    · refine ⟨_, List.getElem?_set_self hj', p, (rowI n (f i)).map V.int, rfl, .inl (e.seq (SqL.of (ht.row i p hp))), fun l nl => ?_⟩
      have sl := same_upd (o := .lst ((rowI n (f i)).map V.int)) nl
      refine ⟨_, sl _ _ hT.lst, ?_, qs ++ [l], hT.push sl nl upd_same, TabR.keep (e.trans sl) nD, fun q hq => ?_⟩
      · refine small1000 ?_
        rw [List.length_map, hT.len]
        omega
      · rcases List.mem_append.mp hq with hq | hq
        · exact hfree q hq
        · rw [List.mem_singleton.mp hq]
          exact e.free nl
  · rintro H' ⟨qs, hT, e, hfree⟩
    rw [List.length_map, ht.len] at hT
    exact q H' qs e hT.tab hfree
/-- [sum(row) for row in t] -/
theorem lc_sums {K : PySem.W.Frag} {t : Addr} {ps : List Addr} {n : Nat} {f : Nat → Nat → Int} {σ : L2.St} {H1 : Hp} {D : Addr} {j : Nat} {Qd : Hp → Prop} (ht : Tab H1 t ps n f) (hn : n ≤ 1000) (nD : H1 D = none) (hj : Nat.ble (j + 1) σ.length = true)
    (q : Qd (upd H1 D (.lst ((rowI n fun a => sumI n (f a)).map V.int)))) :
    ∃ W : Nat → Nat → Hp → Prop, (∃ m, W 0 m (upd H1 D (.lst []))) ∧ ∀ i m H, W i m H →
      ((Itl K t).stop i H ∧ Qd H) ∨ ((Itl K t).go i H ∧ ∃ Nx : Hp → Prop, (∀ H', Nx H' → ∃ m', m' < m ∧ W (i + 1) m' H') ∧ ∀ x H', (Itl K t).yld i H x H' → gName j x (wipe σ [j]) H' fun σ2 H2 => wipe σ2 [j] = wipe σ [j] ∧ tYes σ2 H2 fun b H3 =>
        if b = true then tCB (rSum K) (tCons (tVar j) tNil) σ2 H3 fun y H4 => ∃ acc, H4 D = some (.lst acc) ∧ acc.length < sizeLine ∧ Nx (upd H4 D (.lst (acc ++ [y]))) else Nx H3) := by
  have hs : SqL K H1 t (ps.map V.ref) := SqL.of ht.lst
  have hj' : j < (wipe σ [j]).length := by rw [wipe_length]; exact Nat.le_of_ble_eq_true hj
  refine lc_list (K := K) (a := t) (xs := ps.map V.ref) (fun i H' => H' = upd H1 D (.lst ((rowI i fun a => sumI n (f a)).map V.int))) rfl (fun i H' _ e => by rw [e]; exact (same_upd nD).seq hs) ?_ ?_
  · rintro i x H' hx rfl
    obtain ⟨p, hp, rfl⟩ := refs_at hx
    have hi := (List.getElem?_eq_some_iff.mp hp).1
    rw [ht.len] at hi
    refine ⟨?_, ?_⟩
    · show ((wipe σ [j]).set j (some (V.ref p))).set j none = σ.set j none
      show ((σ.set j none).set j (some (V.ref p))).set j none = σ.set j none
      rw [List.set_set, List.set_set]
    · refine ⟨_, List.getElem?_set_self hj', p, rowI n (f i), rfl, (same_upd nD).seq (SqL.of (ht.row i p hp)), ?_⟩
      refine ⟨_, upd_same, ?_, ?_⟩
      · refine small1000 ?_
        rw [List.length_map, rowI_len]
        omega
      · rw [upd_upd, rowI_succ, List.map_append]
        rfl
  · rintro H' rfl
    rw [List.length_map, ht.len]
    exact q

/-- a list of tuples: the tuple of each item -/
structure Tups {α : Type} (enc : α → List V) (H : Hp) (l : Addr) (ps : List Addr) (xs : List α) : Prop where
  lst : H l = some (.lst (ps.map V.ref))
  len : ps.length = xs.length
  row : ∀ (i : Nat) (p : Addr) (x : α), ps[i]? = some p → xs[i]? = some x → H p = some (.tup (enc x))
theorem Tups.nil {α : Type} {enc : α → List V} {H : Hp} {l : Addr} (h : H l = some (.lst [])) : Tups enc H l [] ([] : List α) :=
  ⟨h, rfl, fun _ _ _ e => (by rw [List.getElem?_nil] at e; cases e)⟩
theorem Tups.same {α : Type} {enc : α → List V} {H H' : Hp} {l : Addr} {ps : List Addr} {xs : List α} (h : Tups enc H l ps xs) (e : Same H H') : Tups enc H' l ps xs :=
  ⟨e _ _ h.lst, h.len, fun i p x a b => e _ _ (h.row i p x a b)⟩
theorem Tups.at {α : Type} {enc : α → List V} {H : Hp} {l : Addr} {ps : List Addr} {xs : List α} (h : Tups enc H l ps xs) {i : Nat} {x : α} (e : xs[i]? = some x) : ∃ p, ps[i]? = some p ∧ atI (ps.map V.ref) (i : Int) = some (.ref p) ∧ H p = some (.tup (enc x)) := by
  have hi := (List.getElem?_eq_some_iff.mp e).1
  have hl : i < ps.length := by rw [h.len]; exact hi
  refine ⟨ps[i], List.getElem?_eq_getElem hl, at_of (j := i) rfl ?_, h.row i _ x (List.getElem?_eq_getElem hl) e⟩
  rw [List.getElem?_map, List.getElem?_eq_getElem hl]
  rfl
theorem Tups.item {α : Type} {enc : α → List V} {H : Hp} {l : Addr} {ps : List Addr} {xs : List α} (h : Tups enc H l ps xs) {i : Nat} {v : V} (e : (ps.map V.ref)[i]? = some v) : ∃ p x, ps[i]? = some p ∧ xs[i]? = some x ∧ v = .ref p ∧ H p = some (.tup (enc x)) := by
  obtain ⟨p, hp, rfl⟩ := refs_at e
  have hi := (List.getElem?_eq_some_iff.mp hp).1
  rw [h.len] at hi
  exact ⟨p, xs[i], hp, List.getElem?_eq_getElem hi, rfl, h.row i p _ hp (List.getElem?_eq_getElem hi)⟩
theorem Tups.push {α : Type} {enc : α → List V} {H H' : Hp} {l p : Addr} {ps : List Addr} {xs : List α} {x : α} (h : Tups enc H l ps xs) (e : Same H H') (np : H p = none) (hp : H' p = some (.tup (enc x))) : Tups enc (upd H' l (.lst (ps.map V.ref ++ [V.ref p]))) l (ps ++ [p]) (xs ++ [x]) := by
  have hpl : p ≠ l := fun z => by rw [z, h.lst] at np; cases np
  refine ⟨?_, ?_, fun i q y hq hy => ?_⟩
  · rw [upd_same, List.map_append]
    rfl
  · rw [List.length_append, List.length_append, h.len]
    rfl
  · by_cases hi : i < ps.length
    · rw [List.getElem?_append_left hi] at hq
      rw [List.getElem?_append_left (by rw [← h.len]; exact hi)] at hy
      have hq2 := h.row i q y hq hy
      rw [upd_ne (fun z => by rw [z, h.lst] at hq2; cases hq2)]
      exact e _ _ hq2
    · rw [List.getElem?_append_right (by omega)] at hq
      rw [List.getElem?_append_right (by have := h.len; omega)] at hy
      have h1 := (List.getElem?_eq_some_iff.mp hq).1
      rw [List.length_cons, List.length_nil] at h1
      have e0 : i - ps.length = 0 := by omega
      have e1 : i - xs.length = 0 := by have := h.len; omega
      rw [e0] at hq
      rw [e1] at hy
      have z1 : p = q := Option.some.inj hq
      have z2 : x = y := Option.some.inj hy
      rw [← z1, ← z2, upd_ne hpl]
      exact hp
theorem Tups.dp {α : Type} {enc : α → List V} {L : α → PyData} {K : PySem.W.Frag} {H : Hp} {l : Addr} {ps : List Addr} {xs : List α} (h : Tups enc H l ps xs) (he : ∀ x (p : Addr), H p = some (.tup (enc x)) → Dp K H (.ref p) (L x)) : Dp K H (.ref l) (PyData.list (xs.map L)) :=
  .lst (SqL.of h.lst) (dpAll_refs h.len fun i p x h1 h2 => he x p (h.row i p x h1 h2))
def enc2 (x : Int × Int) : List V := [.int x.1, .int x.2]
def enc3 (x : Int × Int × Int) : List V := [.int x.1, .int x.2.1, .int x.2.2]
def lay3 (x : Int × Int × Int) : PyData := .tuple [.int x.1, .int x.2.1, .int x.2.2]
theorem layD_3 : LayD lay3 1 (fun x => True ∧ True ∧ True) := layD_int.tup3 layD_int layD_int
theorem dp3 {K : PySem.W.Frag} {H : Hp} (x : Int × Int × Int) (p : Addr) (h : H p = some (.tup (enc3 x))) : Dp K H (.ref p) (lay3 x) :=
  .tup (SqT.of h) (.cons (.int _) (.cons (.int _) (.cons (.int _) .nil)))
theorem Tups.push2 {α : Type} {enc : α → List V} {H : Hp} {l p : Addr} {ps : List Addr} {xs : List α} {x : α} (h : Tups enc H l ps xs) (hp : H p = some (.tup (enc x))) : Tups enc (upd H l (.lst (ps.map V.ref ++ [V.ref p]))) l (ps ++ [p]) (xs ++ [x]) := by
  have hpl : p ≠ l := fun z => by rw [z, h.lst] at hp; cases hp
  refine ⟨?_, ?_, fun i q y hq hy => ?_⟩
  · rw [upd_same, List.map_append]
    rfl
  · rw [List.length_append, List.length_append, h.len]
    rfl
  · by_cases hi : i < ps.length
    · rw [List.getElem?_append_left hi] at hq
      rw [List.getElem?_append_left (by rw [← h.len]; exact hi)] at hy
      have hq2 := h.row i q y hq hy
      rw [upd_ne (fun z => by rw [z, h.lst] at hq2; cases hq2)]
      exact hq2
    · rw [List.getElem?_append_right (by omega)] at hq
      rw [List.getElem?_append_right (by have := h.len; omega)] at hy
      have h1 := (List.getElem?_eq_some_iff.mp hq).1
      rw [List.length_cons, List.length_nil] at h1
      have e0 : i - ps.length = 0 := by omega
      have e1 : i - xs.length = 0 := by have := h.len; omega
      rw [e0] at hq
      rw [e1] at hy
      have z1 : p = q := Option.some.inj hq
      have z2 : x = y := Option.some.inj hy
      rw [← z1, ← z2, upd_ne hpl]
      exact hp
theorem Tups.copy {α : Type} {enc : α → List V} {H H' : Hp} {l l2 : Addr} {ps : List Addr} {xs : List α} (h : Tups enc H l ps xs) (e : Same H H') (h2 : H' l2 = some (.lst (ps.map V.ref))) : Tups enc H' l2 ps xs :=
  ⟨h2, h.len, fun i p x a b => e _ _ (h.row i p x a b)⟩
theorem Tups.other {α : Type} {enc : α → List V} {H : Hp} {l A : Addr} {ps : List Addr} {xs : List α} {ys zs : List V} (h : Tups enc H l ps xs) (hA : H A = some (.lst ys)) (ne : l ≠ A) : Tups enc (upd H A (.lst zs)) l ps xs :=
  ⟨by rw [upd_ne ne]; exact h.lst, h.len, fun i p x a b => by
    have hp := h.row i p x a b
    rw [upd_ne (fun z => by rw [z, hA] at hp; cases hp)]
    exact hp⟩

theorem in1_lt {k : Nat} {A : Around} (hr : Room k A) : A.in1.units < cLine := by
  have := hr.un
  simp only [Around.in1_units]
  omega
/-- a comprehension over enumerate(xs) -/
theorem lc_enum {K : PySem.W.Frag} {a : Addr} {xs : List V} {g : TG} {tt : TT} {te : TE} {vs : List Nat} {σ : L2.St} {H1 : Hp} {D : Addr} {Qd : Hp → Prop} (Pv : Nat → Hp → Prop) (h0 : Pv 0 (upd H1 D (.lst []))) (hl : ∀ i H, i ≤ xs.length → Pv i H → SqL K H a xs)
    (hs : ∀ (i : Nat) (x : V) (H : Hp) (T : Addr), xs[i]? = some x → Pv i H → H T = none → g (.ref T) (wipe σ vs) (upd H T (.tup [.int (i : Int), x])) fun σ2 H2 => wipe σ2 vs = wipe σ vs ∧ tt σ2 H2 fun b H3 =>
      if b = true then te σ2 H3 fun y H4 => ∃ acc, H4 D = some (.lst acc) ∧ acc.length < sizeLine ∧ Pv (i + 1) (upd H4 D (.lst (acc ++ [y]))) else Pv (i + 1) H3) (hd : ∀ H, Pv xs.length H → Qd H) :
    ∃ W : Nat → Nat → Hp → Prop, (∃ m, W 0 m (upd H1 D (.lst []))) ∧ ∀ i m H, W i m H →
      ((Ite K a).stop i H ∧ Qd H) ∨ ((Ite K a).go i H ∧ ∃ Nx : Hp → Prop, (∀ H', Nx H' → ∃ m', m' < m ∧ W (i + 1) m' H') ∧ ∀ x H', (Ite K a).yld i H x H' → g x (wipe σ vs) H' fun σ2 H2 => wipe σ2 vs = wipe σ vs ∧ tt σ2 H2 fun b H3 =>
        if b = true then te σ2 H3 fun y H4 => ∃ acc, H4 D = some (.lst acc) ∧ acc.length < sizeLine ∧ Nx (upd H4 D (.lst (acc ++ [y]))) else Nx H3) := by
  refine ⟨fun i m H => m + i = xs.length ∧ Pv i H, ⟨xs.length, rfl, h0⟩, ?_⟩
  rintro i m H ⟨em, p⟩
  have q := hl i H (by omega) p
  by_cases hlt : i < xs.length
  · refine .inr ⟨⟨xs, xs[i], q, List.getElem?_eq_getElem hlt⟩, Pv (i + 1), fun H' p' => ⟨m - 1, by omega, by omega, p'⟩, fun x H' y => ?_⟩
    obtain ⟨T, z, rfl, nT, rfl, hz⟩ := y
    exact hs i z H T (hz xs q) p nT
  · have e : i = xs.length := by omega
    subst e
    exact .inl ⟨⟨xs, q, Nat.le_refl _⟩, hd H p⟩

theorem pget_list {X : Cx} : PGet X (fun x y H Q => ∃ (p : Addr) (xs : List V) (j : Nat) (z : V), x = .ref p ∧ y = .int (j : Int) ∧ SqL X.K H p xs ∧ xs[j]? = some z ∧ Q z H) := by
  intro pins s σ H x y v u Q I rx ry h
  obtain ⟨p, xs, j, z, rfl, rfl, hq, he, q⟩ := h
  cases rx
  obtain ⟨t, rfl⟩ := ry
  obtain ⟨its, r, pl, hz⟩ := I.list hq
  obtain ⟨w, ew, rw'⟩ := r.get he
  have hl := r.length
  have hn := line63
  have hj := (List.getElem?_eq_some_iff.mp he).1
  exact wpAny_getItem_list pl.isList (by omega) (by omega) (by simpa using ew) ⟨z, H, I, rw', q⟩

section
variable {P : Program} {w : World} {K : PySem.W.Frag} {mg : Str → Option Value} {base : Heap}
def sp_law_cell (K : PySem.W.Frag) : Sp := fun vs H Q _ => ∃ (a : Addr) (ns : List Int) (j : Nat), vs = [.ref a, .int j] ∧ SqL K H a (ns.map V.int) ∧ Q (.int (cellOf ns j)) H
set_option maxHeartbeats 0 in
theorem ok_law_cell (T : Txt K mg) : FnOk P w K mg base CX0 1 T.f_law_cell T.d_law_cell ["script", "k"] (sp_law_cell K) := by
  refine T.F_law_cell.ok sc_law_cell (fun vs H Q E h => ?_) (fun cdv A outer s H vs Q E hr h => ?_)
  · obtain ⟨a, ns, j, rfl, _⟩ := h
    rfl
  · obtain ⟨a, ns, j, rfl, hs, q⟩ := h
    refine ⟨_, (pss_cons (ps_if (pt_cmpR op_lt (pv 1) (pe_callB call_len_seq (by rfl) T.z_len PySem.boot_len (pa_cons (pv 0) pa_nil)) (nomark _))
      (pss_one (ps_ret (pe_ix ix_list (pv 0) (pv 1) (fun _ _ => rfl))))
      pss_nil)
    (pss_one (ps_ret pe_int))), ?_⟩
    walk_at "st"
    refine iteD (fun h => ?_) (fun h => ?_)
    · have hj : j < ns.length := by rw [List.length_map] at h; omega
      walk_at "st"
      exact ⟨atI_ints hj, q⟩
    · have hj : ¬ j < ns.length := by rw [List.length_map] at h; omega
      rw [cellOf_out hj] at q
      exact q

/-- what the draws are: only their number and their bounds matter -/
def sp_law_draws (K : PySem.W.Frag) : Sp := fun vs H Q _ => ∃ (cell : Int) (n : Nat) (size : Int), vs = [.int cell, .int (n : Int), .int size] ∧ n ≤ 1000 ∧ 0 < size ∧ size < 1073741824 ∧
  ∀ p H' (ds : List Int), Same H H' → H p = none → H' p = some (.lst (ds.map V.int)) → ds.length = n → (∀ d, d ∈ ds → 0 ≤ d ∧ d < size) → Q (.ref p) H'
set_option maxHeartbeats 0 in
theorem ok_law_draws (T : Txt K mg) : FnOk P w K mg base CX0 1 T.f_law_draws T.d_law_draws ["cell", "count", "size"] (sp_law_draws K) := by
  refine T.F_law_draws.ok sc_law_draws (fun vs H Q E h => ?_) (fun cdv A outer s H vs Q E hr h => ?_)
  · obtain ⟨cell, n, size, rfl, _⟩ := h
    rfl
  · obtain ⟨cell, n, size, rfl, hn, h0, h1, q⟩ := h
    refine ⟨_, (pss_cons (ps_set (i := 3) sc_law_draws.nd rfl (Or.inl rfl) (pe_lst pa_nil))
    (pss_cons (ps_set (i := 4) sc_law_draws.nd rfl (Or.inl rfl) (pe_callB call_abs (by rfl) T.z_abs (by decide +kernel) (pa_cons (pv 0) pa_nil)))
    (pss_cons (ps_if (pt_cmpR op_ge (pv 4) pe_int (nomark _))
      (pss_cons (ps_for PassesOwn.never rfl (pi_range1 (by rfl) T.z_range (pa_cons (pv 1) pa_nil)) (pg_name (i := 5) sc_law_draws.nd rfl (Or.inl rfl))
        (pss_cons (ps_expr (pe_bm PySem.F.plainAttrs_list PySem.F.slot_list_append PySem.F.type_list_append mt_append (pv 3) (pa_cons (pe_op op_mod (pe_callTy call_int_i (by rfl) T.z_int (by decide +kernel) (pa_cons (pv 4) pa_nil)) (pv 2)) pa_nil)))
        (pss_one (ps_set (i := 4) sc_law_draws.nd rfl (Or.inl rfl) (pe_op op_fdiv (pv 4) (pv 2))))))
      (pss_one (ps_ret (pv 3))))
      pss_nil)
    (pss_cons (ps_for PassesOwn.never rfl (pi_range1 (by rfl) T.z_range (pa_cons (pv 1) pa_nil)) (pg_name (i := 5) sc_law_draws.nd rfl (Or.inl rfl))
      (pss_cons (ps_set (i := 4) sc_law_draws.nd rfl (Or.inl rfl) (pe_op op_mod (pe_callTy call_int_i (by rfl) T.z_int (by decide +kernel) (pa_cons (pe_op op_add (pe_op op_add (pe_op op_mul (pv 4) pe_int) (pe_op op_mul (pv 5) pe_int)) pe_int) pa_nil)) pe_int))
      (pss_one (ps_expr (pe_bm PySem.F.plainAttrs_list PySem.F.slot_list_append PySem.F.type_list_append mt_append (pv 3) (pa_cons (pe_op op_mod (pe_op op_mod (pe_callTy call_int_i (by rfl) T.z_int (by decide +kernel) (pa_cons (pe_op op_add (pe_op op_mul (pv 4) pe_int) (pv 5)) pa_nil)) pe_int) (pv 2)) pa_nil))))))
    (pss_one (ps_ret (pv 3))))))), ?_⟩
    walk_at "st"
    intro D nD
    walk_at "st"
    generalize hrest : (if cell < 0 then -cell else cell) = rest
    have hrest0 : 0 ≤ rest := by rw [← hrest]; split <;> omega
    have eD : (upd H D (.lst [])) D = some (.lst (([] : List Int).map V.int)) := upd_same
    have s1 : Same H (upd H D (.lst [])) := same_upd nD
    generalize upd H D (.lst []) = H1 at eD s1
    refine iteB (fun h => ?_) (fun h => ?_)
    · walk_at "st"
      refine for_range (lo := 0) (n := ((n : Int)).toNat) (fun i σ H' => ∃ (v5 : Option V) (r : Int) (ds : List Int), σ = [some (.int cell), some (.int (n : Int)), some (.int size), some (.ref D), some (.int r), v5] ∧ 0 ≤ r ∧ H' D = some (.lst (ds.map V.int)) ∧ ds.length = i ∧ (∀ d, d ∈ ds → 0 ≤ d ∧ d < size) ∧ Same H H')
        ⟨none, rest, [], rfl, hrest0, eD, rfl, (fun _ hd => by cases hd), s1⟩ ?_ ?_
      · rintro i σ H' hi ⟨v5, r, ds, rfl, hr0, hD, hl, hb, e⟩
        have hlt : (ds.map V.int).length < sizeLine := small1000 (by rw [List.length_map]; omega)
        walk_at "st"
        refine ⟨some (.int (0 + (i : Int))), r / size, ds ++ [r % size], rfl, ?_, ?_, ?_, ?_, fun b o z => ?_⟩
        · exact Int.ediv_nonneg hr0 (by omega)
        · rw [upd_same, List.map_append]
          rfl
        · rw [List.length_append, hl]
          rfl
        · intro d hd
          rcases List.mem_append.mp hd with hd | hd
          · exact hb d hd
          · rw [List.mem_singleton.mp hd]
            exact ⟨Int.emod_nonneg _ (by omega), Int.emod_lt_of_pos _ h0⟩
        · rw [upd_ne (ne_of_none z nD)]
          exact e b o z
      · rintro σ H' ⟨v5, r, ds, rfl, hr0, hD, hl, hb, e⟩
        walk_at "st"
        exact q D H' ds e nD hD (by omega) hb
    · walk_at "st"
      refine for_range (lo := 0) (n := ((n : Int)).toNat) (fun i σ H' => ∃ (v5 : Option V) (r : Int) (ds : List Int), σ = [some (.int cell), some (.int (n : Int)), some (.int size), some (.ref D), some (.int r), v5] ∧ 0 ≤ r ∧ H' D = some (.lst (ds.map V.int)) ∧ ds.length = i ∧ (∀ d, d ∈ ds → 0 ≤ d ∧ d < size) ∧ Same H H')
        ⟨none, rest, [], rfl, hrest0, eD, rfl, (fun _ hd => by cases hd), s1⟩ ?_ ?_
      · rintro i σ H' hi ⟨v5, r, ds, rfl, hr0, hD, hl, hb, e⟩
        have hlt : (ds.map V.int).length < sizeLine := small1000 (by rw [List.length_map]; omega)
        walk_at "st"
        refine ⟨some (.int (0 + (i : Int))), (r * 48271 + (0 + (i : Int)) * 69621 + 11) % 2147483647, ds ++ [((r * 48271 + (0 + (i : Int)) * 69621 + 11) % 2147483647 * 16807 + (0 + (i : Int))) % 2147483629 % size], rfl, ?_, ?_, ?_, ?_, fun b o z => ?_⟩
        · exact Int.emod_nonneg _ (by decide)
        · rw [upd_same, List.map_append]
          rfl
        · rw [List.length_append, hl]
          rfl
        · intro d hd
          rcases List.mem_append.mp hd with hd | hd
          · exact hb d hd
          · rw [List.mem_singleton.mp hd]
            exact ⟨Int.emod_nonneg _ (by omega), Int.emod_lt_of_pos _ h0⟩
        · rw [upd_ne (ne_of_none z nD)]
          exact e b o z
      · rintro σ H' ⟨v5, r, ds, rfl, hr0, hD, hl, hb, e⟩
        walk_at "st"
        exact q D H' ds e nD hD (by omega) hb

def sp_law_integers (K : PySem.W.Frag) : Sp := fun vs H Q _ => ∃ (a : Addr) (ns : List Int) (n : Int), vs = [.ref a, .int n] ∧ H a = some (.lst (ns.map V.int)) ∧ (ns.length : Int) = n ∧ Q (.bl true) H
set_option maxHeartbeats 0 in
theorem ok_law_integers (T : Txt K mg) : FnOk P w K mg base CX0 1 T.f_law_integers T.d_law_integers ["actual", "count"] (sp_law_integers K) := by
  refine T.F_law_integers.ok sc_law_integers (fun vs H Q E h => ?_) (fun cdv A outer s H vs Q E hr h => ?_)
  · obtain ⟨a, ns, n, rfl, _⟩ := h
    rfl
  · obtain ⟨a, ns, n, rfl, hs, hl, q⟩ := h
    refine ⟨_, (pss_cons (ps_if (PW.pt (pw_or (pt_not (pt_val (pe_callB call_isi (by rfl) T.z_isinstance (by decide +kernel) (pa_cons (pv 0) (pa_cons (pe_bltn (v := .ty "list") (u := .type "list") (by rfl) T.z_list (by decide +kernel) rfl) pa_nil))))) (pw_or1 (pt_cmpR op_ne (pe_callB call_len_seq (by rfl) T.z_len PySem.boot_len (pa_cons (pv 0) pa_nil)) (pv 1) (nomark _)))))
      (pss_one (ps_ret pe_bl))
      pss_nil)
    (pss_cons (ps_for PassesOwn.never rfl (pi_list (pv 0)) (pg_name (i := 2) sc_law_integers.nd rfl (Or.inl rfl))
      (pss_one (ps_if (PW.pt (pw_or (pt_not (pt_val (pe_callB call_isi (by rfl) T.z_isinstance (by decide +kernel) (pa_cons (pv 2) (pa_cons (pe_bltn (v := .ty "int") (u := .type "int") (by rfl) T.z_int (by decide +kernel) rfl) pa_nil))))) (pw_or1 (pt_val (pe_callB call_isi (by rfl) T.z_isinstance (by decide +kernel) (pa_cons (pv 2) (pa_cons (pe_bltn (v := .ty "bool") (u := .type "bool") (by rfl) T.z_bool (by decide +kernel) rfl) pa_nil)))))))
        (pss_one (ps_ret pe_bl))
        pss_nil)))
    (pss_one (ps_ret pe_bl)))), ?_⟩
    refine ⟨_, rfl, ?_⟩
    refine ⟨_, _, _, _, true, rfl, .ty _, .base (.lst hs), kit_ty (by decide +kernel), ?_⟩
    refine ⟨_, rfl, iteF ?_⟩
    walk_at "st"
    refine iteB (fun h => (ndec_t h (congrArg V.int (by rw [List.length_map]; exact hl))).elim) (fun _ => ?_)
    walk_at "st"
    refine for_list (K := K) (a := a) (xs := ns.map V.int) (fun i σ H' => (∃ v, σ = [some (.ref a), some (.int n), v]) ∧ H' = H) ⟨⟨none, rfl⟩, rfl⟩ (fun i σ H' _ ⟨_, e⟩ => by rw [e]; exact SqL.of hs) ?_ ?_
    · rintro i x σ H' hx ⟨⟨v, rfl⟩, rfl⟩
      obtain ⟨z, hz, rfl⟩ := ints_at hx
      refine ⟨_, rfl, ?_⟩
      refine ⟨_, _, _, _, true, rfl, .ty _, .base (.int _), kit_ty (by decide +kernel), ?_⟩
      refine ⟨_, rfl, iteF ?_⟩
      refine ⟨_, rfl, ?_⟩
      refine ⟨_, _, _, _, false, rfl, .ty _, .base (.int _), kit_ty (by decide +kernel), ?_⟩
      refine ⟨_, rfl, iteF ?_⟩
      exact ⟨⟨_, rfl⟩, rfl⟩
    · rintro σ H' ⟨⟨v, rfl⟩, rfl⟩
      exact q

def sp_law_market_size (K : PySem.W.Frag) : Sp := fun vs H Q _ => ∃ shape : Int, vs = [.int shape] ∧ ∀ p H' (n : Nat) (size : Int), Same H H' → H p = none → H' p = some (.tup [.int (n : Int), .int size]) → 1 ≤ n → n ≤ 12 → 0 < size → size ≤ 9999 → Q (.ref p) H'
set_option maxHeartbeats 0 in
theorem ok_law_market_size (T : Txt K mg) : FnOk P w K mg base CX0 1 T.f_law_market_size T.d_law_market_size ["shape"] (sp_law_market_size K) := by
  refine T.F_law_market_size.ok sc_law_market_size (fun vs H Q E h => ?_) (fun cdv A outer s H vs Q E hr h => ?_)
  · obtain ⟨shape, rfl, _⟩ := h
    rfl
  · obtain ⟨shape, rfl, q⟩ := h
    refine ⟨_, (pss_cons (ps_set (i := 1) sc_law_market_size.nd rfl (Or.inl rfl) (pe_op op_mod (pe_callB call_abs (by rfl) T.z_abs (by decide +kernel) (pa_cons (pv 0) pa_nil)) pe_int))
    (pss_cons (ps_if (pt_cmpR op_eq (pv 1) pe_int (nomark _))
      (pss_one (ps_ret (pe_tup (pa_cons (pe_op op_add pe_int (pe_op op_mod (pe_op op_fdiv (pe_callB call_abs (by rfl) T.z_abs (by decide +kernel) (pa_cons (pv 0) pa_nil)) pe_int) pe_int)) (pa_cons pe_int pa_nil)))))
      pss_nil)
    (pss_cons (ps_if (pt_cmpR op_eq (pv 1) pe_int (nomark _))
      (pss_one (ps_ret (pe_tup (pa_cons pe_int (pa_cons pe_int pa_nil)))))
      pss_nil)
    (pss_one (ps_ret (pe_tup (pa_cons (pe_op op_add pe_int (pe_op op_mod (pe_op op_fdiv (pe_callB call_abs (by rfl) T.z_abs (by decide +kernel) (pa_cons (pv 0) pa_nil)) pe_int) pe_int)) (pa_cons (pe_ix ix_list (pe_lst (pa_cons pe_int (pa_cons pe_int (pa_cons pe_int pa_nil)))) (pe_op op_mod (pe_op op_fdiv (pe_callB call_abs (by rfl) T.z_abs (by decide +kernel) (pa_cons (pv 0) pa_nil)) pe_int) pe_int) (fun _ _ => rfl)) pa_nil)))))))), ?_⟩
    walk_at "st"
    obtain ⟨s, hs⟩ : ∃ s, (if shape < 0 then -shape else shape) = s := ⟨_, rfl⟩
    have h1 := Int.emod_nonneg (s / 5) (by decide : (2 : Int) ≠ 0)
    have h2 := Int.emod_lt_of_pos (s / 5) (by decide : (0 : Int) < 2)
    have h3 := Int.emod_nonneg (s / 5) (by decide : (6 : Int) ≠ 0)
    have h4 := Int.emod_lt_of_pos (s / 5) (by decide : (0 : Int) < 6)
    rw [hs]
    refine iteB (fun _ => ?_) (fun _ => ?_)
    · walk_at "st"
      rw [hs]
      intro p np
      obtain ⟨n, en⟩ : ∃ n : Nat, 2 + s / 5 % 2 = (n : Int) := ⟨(2 + s / 5 % 2).toNat, by omega⟩
      refine q p _ n 9999 (same_upd np) np ?_ (by omega) (by omega) (by decide) (by decide)
      rw [← en]
      dsimp only
      exact upd_same
    · walk_at "st"
      refine iteB (fun _ => ?_) (fun _ => ?_)
      · walk_at "st"
        intro p np
        exact q p _ 12 30 (same_upd np) np upd_same (by decide) (by decide) (by decide) (by decide)
      · obtain ⟨size, hat, hsz0, hsz1⟩ : ∃ size : Int, atI [V.int 400, V.int 3, V.int 40] ((if shape < 0 then -shape else shape) / 30 % 3) = some (.int size) ∧ 0 < size ∧ size ≤ 9999 := by
          rw [hs]
          have h1 := Int.emod_nonneg (s / 30) (by decide : (3 : Int) ≠ 0)
          have h2 := Int.emod_lt_of_pos (s / 30) (by decide : (0 : Int) < 3)
          generalize s / 30 % 3 = m at *
          rcases (by omega : m = 0 ∨ m = 1 ∨ m = 2) with e | e | e
          · exact ⟨400, by rw [e]; rfl, by decide, by decide⟩
          · exact ⟨3, by rw [e]; rfl, by decide, by decide⟩
          · exact ⟨40, by rw [e]; rfl, by decide, by decide⟩
        walk_at "st"
        intro L nL
        walk_at "st"
        intro p np
        obtain ⟨n, en⟩ : ∃ n : Nat, 1 + s / 5 % 6 = (n : Int) := ⟨(1 + s / 5 % 6).toNat, by omega⟩
        refine q p _ n size ((same_upd nL).trans (same_upd np)) ((same_upd nL).free np) ?_ (by omega) (by omega) hsz0 hsz1
        rw [← en]
        dsimp only
        rw [hs]
        exact upd_same
def sp_law_row (K : PySem.W.Frag) : Sp := fun vs H Q _ => ∃ (cell shape : Int) (k n : Nat) (size : Int), vs = [.int cell, .int shape, .int (k : Int), .int (n : Int), .int size] ∧ k < n ∧ n ≤ 12 ∧ 0 < size ∧ size ≤ 9999 ∧
  ∀ p H' (ds : List Int), Same H H' → H p = none → H' p = some (.lst (ds.map V.int)) → ds.length = n → (∀ d, d ∈ ds → 0 ≤ d ∧ d ≤ size) → at0 ds k = 0 → Q (.ref p) H'
set_option maxHeartbeats 0 in
theorem ok_law_row (T : Txt K mg) : FnOk P w K mg base CX0 2 T.f_law_row T.d_law_row ["cell", "shape", "payer", "count", "size"] (sp_law_row K) := by
  refine T.F_law_row.ok sc_law_row (fun vs H Q E h => ?_) (fun cdv A outer s H vs Q E hr h => ?_)
  · obtain ⟨cell, shape, k, n, size, rfl, _⟩ := h
    rfl
  · obtain ⟨cell, shape, k, n, size, rfl, hk, hn, hz0, hz1, q⟩ := h
    have G_law_draws : FnOk P w K mg base CX0 1 T.f_law_draws T.d_law_draws ["cell", "count", "size"] (sp_law_draws K) := ok_law_draws T
    refine ⟨_, (pss_cons (ps_set (i := 5) sc_law_row.nd rfl (Or.inl rfl) (pe_call G_law_draws hr (by rfl) T.m_law_draws T.F_law_draws.kp T.b_law_draws .nil pass0 (pa_cons (pv 0) (pa_cons (pv 3) (pa_cons (pe_op op_add (pv 4) pe_int) pa_nil)))))
    (C8.pss_cut (ps_if (pt_cmpR op_eq (pe_op op_mod (pe_callB call_abs (by rfl) T.z_abs (by decide +kernel) (pa_cons (pv 1) pa_nil)) pe_int) pe_int (nomark _))
      (pss_cons (ps_setLc (i := 5) (own := [("draw", 6)]) (g := gName 6) (tt := tYes) rfl sc_law_row.nd rfl rfl (sw_true rfl rfl rfl (by decide +kernel)) (pi_list (pv 5)) (blkOk_by (own := [("draw", 6)]) (N := N_law_row) (sc := defScope s_law_row) (by decide +kernel)) (fun _ _ _ _ _ => (pg_name (i := 6) sc_law_row.nd rfl (Or.inl rfl))) (fun _ _ _ _ _ => pts_nil) (fun _ _ _ _ _ => (pe_op op_mod (pe_callTy call_int_i (by rfl) T.z_int (by decide +kernel) (pa_cons (pv 6) pa_nil)) pe_int)))
      (pss_one (ps_asg (pv 4) (pg_sub (pv 5) (pe_op op_mod (pe_callTy call_int_i (by rfl) T.z_int (by decide +kernel) (pa_cons (pe_op op_add (pv 2) pe_int) pa_nil)) (pv 3)) set_list))))
      pss_nil)
    (C8.pss_cut (ps_if (pt_cmpR op_eq (pe_op op_mod (pe_callB call_abs (by rfl) T.z_abs (by decide +kernel) (pa_cons (pv 1) pa_nil)) pe_int) pe_int (nomark _))
      (pss_one (ps_setLc (i := 5) (own := [("draw", 6)]) (g := gName 6) (tt := tYes) rfl sc_law_row.nd rfl rfl (sw_true rfl rfl rfl (by decide +kernel)) (pi_list (pv 5)) (blkOk_by (own := [("draw", 6)]) (N := N_law_row) (sc := defScope s_law_row) (by decide +kernel)) (fun _ _ _ _ _ => (pg_name (i := 6) sc_law_row.nd rfl (Or.inl rfl))) (fun _ _ _ _ _ => pts_nil) (fun _ _ _ _ _ => (pe_op op_mul (pv 6) (pe_callTy call_int_b (by rfl) T.z_int (by decide +kernel) (pa_cons (pe_cmpR op_eq (pe_op op_mod (pv 6) pe_int) pe_int (nomark _)) pa_nil))))))
      pss_nil)
    (pss_cons (ps_asg pe_int (pg_sub (pv 5) (pv 2) set_list))
    (pss_one (ps_ret (pv 5))))))), ?_⟩
    walk_at "st"
    intro p H1 ds e1 np hp hl hb
    walk_at "st"
    obtain ⟨s, hs⟩ : ∃ s, (if shape < 0 then -shape else shape) = s := ⟨_, rfl⟩
    have hp1 : SqL K H1 p (ds.map V.int) := SqL.of hp
    refine ⟨fun σ' H' => ∃ (p : Addr) (ds : List Int), σ' = [some (.int cell), some (.int shape), some (.int (k : Int)), some (.int (n : Int)), some (.int size), some (.ref p), none] ∧ Same H H' ∧ H p = none ∧ H' p = some (.lst (ds.map V.int)) ∧ ds.length = n ∧ ∀ d, d ∈ ds → 0 ≤ d ∧ d ≤ size, ?_, ?_⟩
    · walk_at "st"
      refine iteB (fun _ => ?_) (fun _ => ?_)
      · walk_at "st"
        intro D nD
        refine lc_list (K := K) (a := p) (xs := ds.map V.int) (fun i H' => ∃ es : List Int, H' = upd H1 D (.lst (es.map V.int)) ∧ es.length = i ∧ ∀ d, d ∈ es → 0 ≤ d ∧ d ≤ size) ⟨[], rfl, rfl, fun _ h => by cases h⟩ (fun i H' _ ⟨es, e, _⟩ => by rw [e]; exact (same_upd nD).seq hp1) ?_ ?_
        · rintro i x H' hx ⟨es, rfl, le, be⟩
          obtain ⟨z, hz, rfl⟩ := ints_at hx
          have hi := (List.getElem?_eq_some_iff.mp hz).1
          have hm1 := Int.emod_nonneg z (by decide : (2 : Int) ≠ 0)
          have hm2 := Int.emod_lt_of_pos z (by decide : (0 : Int) < 2)
          refine ⟨rfl, ?_⟩
          walk_at "st"
          refine ⟨small1000 (by rw [List.length_map]; omega), es ++ [z % 2], ?_, by rw [List.length_append, le]; rfl, fun d hd => ?_⟩
          · rw [upd_upd, List.map_append]
            rfl
          · rcases List.mem_append.mp hd with hd | hd
            · exact be d hd
            · rw [List.mem_singleton.mp hd]
              omega
        · rintro H' ⟨es, rfl, le, be⟩
          rw [List.length_map, hl] at le
          obtain ⟨j, ej, hj⟩ : ∃ j : Nat, ((k : Int) + 1) % (n : Int) = (j : Int) ∧ j < n := by
            have h1 := Int.emod_nonneg ((k : Int) + 1) (by omega : (n : Int) ≠ 0)
            have h2 := Int.emod_lt_of_pos ((k : Int) + 1) (by omega : (0 : Int) < n)
            exact ⟨(((k : Int) + 1) % (n : Int)).toNat, by omega, by omega⟩
          walk_at "st"
          dsimp only
          rw [ej]
          have hj' : j < (es.map V.int).length := by rw [List.length_map, le]; exact hj
          refine ⟨ixN_nat hj', D, es.set j size, rfl, fun b o e => ?_, e1.free nD, ?_, by rw [List.length_set, le], fun d hd => ?_⟩
          · rw [upd_ne (ne_of_none e (e1.free nD)), upd_ne (ne_of_none e (e1.free nD))]
            exact e1 b o e
          · rw [upd_same, List.map_set]
          · rcases List.mem_or_eq_of_mem_set hd with hd | hd
            · exact be d hd
            · rw [hd]
              omega
      · exact ⟨p, ds, rfl, e1, np, hp, hl, fun d hd => by have := hb d hd; omega⟩
    · rintro σ' H' ⟨p, ds, rfl, e1, np, hp, hl, hb⟩
      refine ⟨fun σ' H' => ∃ (p : Addr) (ds : List Int), σ' = [some (.int cell), some (.int shape), some (.int (k : Int)), some (.int (n : Int)), some (.int size), some (.ref p), none] ∧ Same H H' ∧ H p = none ∧ H' p = some (.lst (ds.map V.int)) ∧ ds.length = n ∧ ∀ d, d ∈ ds → 0 ≤ d ∧ d ≤ size, ?_, ?_⟩
      · have hp1 : SqL K H' p (ds.map V.int) := SqL.of hp
        walk_at "st"
        refine iteB (fun _ => ?_) (fun _ => ?_)
        · walk_at "st"
          intro D nD
          refine lc_list (K := K) (a := p) (xs := ds.map V.int) (fun i H2 => ∃ es : List Int, H2 = upd H' D (.lst (es.map V.int)) ∧ es.length = i ∧ ∀ d, d ∈ es → 0 ≤ d ∧ d ≤ size) ⟨[], rfl, rfl, fun _ h => by cases h⟩ (fun i H2 _ ⟨es, e, _⟩ => by rw [e]; exact (same_upd nD).seq hp1) ?_ ?_
          · rintro i x H2 hx ⟨es, rfl, le, be⟩
            obtain ⟨z, hz, rfl⟩ := ints_at hx
            have hi := (List.getElem?_eq_some_iff.mp hz).1
            have hzb := hb z (List.mem_of_getElem? hz)
            refine ⟨rfl, ?_⟩
            walk_at "st"
            refine ⟨small1000 (by rw [List.length_map]; omega), es ++ [z * (if decide (V.int (z % 3) = V.int 1) = true then 1 else 0)], ?_, by rw [List.length_append, le]; rfl, fun d hd => ?_⟩
            · rw [upd_upd, List.map_append]
              rfl
            · rcases List.mem_append.mp hd with hd | hd
              · exact be d hd
              · rw [List.mem_singleton.mp hd]
                split
                · omega
                · omega
          · rintro H2 ⟨es, rfl, le, be⟩
            rw [List.length_map, hl] at le
            refine ⟨D, es, rfl, e1.trans (same_upd nD), e1.free nD, upd_same, le, be⟩
        · exact ⟨p, ds, rfl, e1, np, hp, hl, hb⟩
      · rintro σ' H' ⟨p, ds, rfl, e1, np, hp, hl, hb⟩
        have hp1 : SqL K H' p (ds.map V.int) := SqL.of hp
        have hk' : k < (ds.map V.int).length := by rw [List.length_map]; omega
        walk_at "st"
        refine ⟨ixN_nat hk', ?_⟩
        walk_at "st"
        refine q p _ (ds.set k 0) (fun b o e => ?_) np ?_ (by rw [List.length_set, hl]) (fun d hd => ?_) ?_
        · rw [upd_ne (ne_of_none e np)]
          exact e1 b o e
        · rw [upd_same, List.map_set]
        · rcases List.mem_or_eq_of_mem_set hd with hd | hd
          · exact hb d hd
          · rw [hd]
            omega
        · rw [at0_set (by omega), if_pos rfl]
def sp_law_market (K : PySem.W.Frag) : Sp := fun vs H Q _ => ∃ (a : Addr) (ns : List Int), vs = [.ref a] ∧ SqL K H a (ns.map V.int) ∧
  ∀ t H' ps n f, Same H H' → H t = none → Tab H' t ps n f → Debts n f 9999 → n ≤ 12 → Q (.ref t) H'
set_option maxHeartbeats 0 in
theorem ok_law_market (T : Txt K mg) : FnOk P w K mg base CX0 3 T.f_law_market T.d_law_market ["script"] (sp_law_market K) := by
  refine T.F_law_market.ok sc_law_market (fun vs H Q E h => ?_) (fun cdv A outer s H vs Q E hr h => ?_)
  · obtain ⟨a, ns, rfl, _⟩ := h
    rfl
  · obtain ⟨a, ns, rfl, hs, q⟩ := h
    have G_law_cell : FnOk P w K mg base CX0 1 T.f_law_cell T.d_law_cell ["script", "k"] (sp_law_cell K) := ok_law_cell T
    have G_law_market_size : FnOk P w K mg base CX0 1 T.f_law_market_size T.d_law_market_size ["shape"] (sp_law_market_size K) := ok_law_market_size T
    have G_law_row : FnOk P w K mg base CX0 2 T.f_law_row T.d_law_row ["cell", "shape", "payer", "count", "size"] (sp_law_row K) := ok_law_row T
    refine ⟨_, (pss_cons (ps_set (i := 1) sc_law_market.nd rfl (Or.inr rfl) (pe_call G_law_cell (hr.mono (by decide)) (by rfl) T.m_law_cell T.F_law_cell.kp T.b_law_cell .nil pass0 (pa_cons (pv 0) (pa_cons pe_int pa_nil))))
    (pss_cons (ps_asg (pe_call G_law_market_size (hr.mono (by decide)) (by rfl) T.m_law_market_size T.F_law_market_size.kp T.b_law_market_size .nil pass0 (pa_cons (pv 1) pa_nil)) (pg_tup rfl (pgs_cons (pg_name (i := 2) sc_law_market.nd rfl (Or.inr rfl)) (pgs_cons (pg_name (i := 3) sc_law_market.nd rfl (Or.inr rfl)) pgs_nil))))
    (pss_one (ps_ret (pe_lc (own := [("k", 4)]) (g := gName 4) (tt := tYes) rfl sc_law_market.nd (pi_range1 (by rfl) T.z_range (pa_cons (pv 2) pa_nil)) (blkOk_by (own := [("k", 4)]) (N := N_law_market) (sc := defScope s_law_market) (by decide +kernel)) (fun _ _ _ _ _ => (pg_name (i := 4) sc_law_market.nd rfl (Or.inl rfl))) (fun _ _ _ _ _ => pts_nil) (fun _ _ _ _ _ => (pe_call G_law_row hr (by rfl) T.m_law_row T.F_law_row.kp T.b_law_row .nil pass0 (pa_cons (pe_call G_law_cell (hr.mono (by decide)) (by rfl) T.m_law_cell T.F_law_cell.kp T.b_law_cell .nil pass0 (pa_cons (pv 0) (pa_cons (pe_op op_add pe_int (pv 4)) pa_nil))) (pa_cons (pv 1) (pa_cons (pv 4) (pa_cons (pv 2) (pa_cons (pv 3) pa_nil)))))))))))), ?_⟩
    walk_at "st"
    intro p H1 n size e1 np hp hn0 hn1 hz0 hz1
    have hp1 : SqT K H1 p [.int (n : Int), .int size] := SqT.of hp
    have hs1 := e1.seq hs
    walk_at "st"
    intro D nD
    refine lc_range (lo := 0) (n := (n : Int).toNat) (fun i H' => ∃ (_ : Unit) (ps : List Addr) (f : Nat → Nat → Int), TabR H' D ps i n f ∧ (∀ a, a < i → ∀ b, b < n → 0 ≤ f a b ∧ f a b ≤ 9999) ∧ (∀ a, a < i → f a a = 0) ∧ Same H1 H') ⟨(), [], fun _ _ => 0, .nil n _ upd_same, (fun a h => by omega), (fun a h => by omega), same_upd nD⟩ ?_ ?_
    · rintro i H' hi ⟨_, ps, f, ht, hb', hd, e2⟩
      have hs2 := e2.seq hs1
      have hi2 : i < n := by omega
      rw [show (0 : Int) + i = ((i : Nat) : Int) by omega]
      refine ⟨rfl, ?_⟩
      walk_at "st"
      intro p H2 ds e3 np hp hl hb2 hd2
      have hg : rowI n (at0 ds) = ds := by rw [← hl]; exact rowI_of ds
      have hlt : ∀ b, b < n → 0 ≤ at0 ds b ∧ at0 ds b ≤ 9999 := fun b hb => by
        have := hb2 _ (List.mem_of_getElem? (at0_lt (by omega : b < ds.length)))
        omega
      have ht' := TabR.push (ht.congr (g := fun a => if a = i then at0 ds else f a) fun a ha b hb => by rw [if_neg (by omega)]) e3 np (by rw [if_pos rfl, hg]; exact hp)
      refine ⟨_, e3 _ _ ht.lst, small1000 (by rw [List.length_map, ht.len]; omega), (), _, _, ht', fun a ha b hb => ?_, fun a ha => ?_, TabR.keep (e2.trans e3) nD⟩
      · by_cases h : a = i
        · rw [if_pos h]
          exact hlt b hb
        · rw [if_neg h]
          exact hb' a (by omega) b hb
      · by_cases h : a = i
        · rw [if_pos h, h]
          exact hd2
        · rw [if_neg h]
          exact hd a (by omega)
    · rintro H' ⟨_, ps, f, ht, hb, hd, e2⟩
      rw [Int.toNat_natCast] at ht hb hd
      refine q D H' ps n f (e1.trans e2) (e1.free nD) ht.tab ⟨hn0, by omega, hb, hd⟩ hn1

def sp_is_integral (K : PySem.W.Frag) : Sp := fun vs H Q _ => ∃ x : Int, vs = [.int x] ∧ Q (.bl true) H
set_option maxHeartbeats 0 in
theorem ok_is_integral (T : Txt K mg) : FnOk P w K mg base CX0 1 T.f_is_integral T.d_is_integral ["value"] (sp_is_integral K) := by
  refine T.F_is_integral.ok sc_is_integral (fun vs H Q E h => ?_) (fun cdv A outer s H vs Q E hr h => ?_)
  · obtain ⟨x, rfl, _⟩ := h
    rfl
  · obtain ⟨x, rfl, q⟩ := h
    refine ⟨_, (pss_one (ps_ret (pe_and (pe_callB call_isi (by rfl) T.z_isinstance (by decide +kernel) (pa_cons (pv 0) (pa_cons (pe_bltn (v := .ty "int") (u := .type "int") (by rfl) T.z_int (by decide +kernel) rfl) pa_nil))) (pe_one (pe_not (pe_callB call_isi (by rfl) T.z_isinstance (by decide +kernel) (pa_cons (pv 0) (pa_cons (pe_bltn (v := .ty "bool") (u := .type "bool") (by rfl) T.z_bool (by decide +kernel) rfl) pa_nil)))))))), ?_⟩
    refine ⟨_, rfl, ?_⟩
    refine ⟨_, _, _, _, true, rfl, .ty _, .base (.int _), kit_ty (by decide +kernel), ?_⟩
    refine ⟨true, rfl, iteT ?_⟩
    refine ⟨_, rfl, ?_⟩
    refine ⟨_, _, _, _, false, rfl, .ty _, .base (.int _), kit_ty (by decide +kernel), ?_⟩
    refine ⟨false, rfl, ?_⟩
    exact q
def sp_is_within (K : PySem.W.Frag) : Sp := fun vs H Q _ => ∃ a b x : Int, vs = [.int a, .int b, .int x] ∧ Q (.bl (decide (a ≤ x ∧ x ≤ b))) H
set_option maxHeartbeats 0 in
theorem ok_is_within (T : Txt K mg) : FnOk P w K mg base CX0 2 T.f_is_within T.d_is_within ["least", "most", "value"] (sp_is_within K) := by
  refine T.F_is_within.ok sc_is_within (fun vs H Q E h => ?_) (fun cdv A outer s H vs Q E hr h => ?_)
  · obtain ⟨a, b, x, rfl, _⟩ := h
    rfl
  · obtain ⟨a, b, x, rfl, q⟩ := h
    have G_is_integral : FnOk P w K mg base CX0 1 T.f_is_integral T.d_is_integral ["value"] (sp_is_integral K) := ok_is_integral T
    refine ⟨_, (pss_one (ps_ret (pe_and (pe_call G_is_integral hr (by rfl) T.m_is_integral T.F_is_integral.kp T.b_is_integral .nil pass0 (pa_cons (pv 2) pa_nil)) (pe_one (pe_chain op_le op_le (pv 0) (pv 2) (pv 1)))))), ?_⟩
    walk_at "st"
    refine iteB (fun h => ?_) (fun h => ?_)
    · walk_at "st"
      rw [show (decide (a ≤ x ∧ x ≤ b)) = decide (x ≤ b) from decide_eq_decide.mpr ⟨fun z => z.2, fun z => ⟨dec_t h, z⟩⟩] at q
      exact q
    · rw [decide_eq_false (fun z => dec_f h z.1)] at q
      exact q
def sp_check_debts (K : PySem.W.Frag) : Sp := fun vs H Q _ => ∃ (t : Addr) (ps : List Addr) (n : Nat) (f : Nat → Nat → Int), vs = [.ref t] ∧ Tab H t ps n f ∧ Debts n f 1000000000000000 ∧ ∀ H', Same H H' → Q .non H'
set_option maxHeartbeats 0 in
theorem ok_check_debts (T : Txt K mg) : FnOk P w K mg base CX0 3 T.f_check_debts T.d_check_debts ["owed"] (sp_check_debts K) := by
  refine T.F_check_debts.ok sc_check_debts (fun vs H Q E h => ?_) (fun cdv A outer s H vs Q E hr h => ?_)
  · obtain ⟨t, ps, n, f, rfl, _⟩ := h
    rfl
  · obtain ⟨t, ps, n, f, rfl, ht, hd, q⟩ := h
    have G_is_within : FnOk P w K mg base CX0 2 T.f_is_within T.d_is_within ["least", "most", "value"] (sp_is_within K) := ok_is_within T
    have l0 := hd.n0
    have l1 := hd.n1
    have hl := ht.len
    have hs : SqL K H t (ps.map V.ref) := SqL.of ht.lst
    refine ⟨_, (pss_cons (ps_if (pt_not (pt_chain op_le op_le pe_int (pe_callB call_len_seq (by rfl) T.z_len PySem.boot_len (pa_cons (pv 0) pa_nil)) (pe_glob (v := .int 13) rfl T.m_MOST_HOUSES ⟨_, rfl⟩)))
      (pss_one ps_never)
      pss_nil)
    (pss_one (ps_for PassesOwn.never rfl (pi_enum (by rfl) T.z_enumerate (pa_cons (pv 0) pa_nil)) (pg_tup rfl (pgs_cons (pg_name (i := 1) sc_check_debts.nd rfl (Or.inl rfl)) (pgs_cons (pg_name (i := 2) sc_check_debts.nd rfl (Or.inl rfl)) pgs_nil)))
      (pss_cons (ps_if (pt_cmpR op_ne (pe_callB call_len_seq (by rfl) T.z_len PySem.boot_len (pa_cons (pv 2) pa_nil)) (pe_callB call_len_seq (by rfl) T.z_len PySem.boot_len (pa_cons (pv 0) pa_nil)) (nomark _))
        (pss_one ps_never)
        pss_nil)
      (pss_cons (ps_if (pt_not (pt_val (pe_callB (cr_all rfl) (by rfl) T.z_all (by decide +kernel) (pa_cons (pe_lc (own := [("debt", 3)]) (g := gName 3) (tt := tYes) rfl sc_check_debts.nd (pi_list (pv 2)) (blkOk_by (own := [("debt", 3)]) (N := N_check_debts) (sc := defScope s_check_debts) (by decide +kernel)) (fun _ _ _ _ _ => (pg_name (i := 3) sc_check_debts.nd rfl (Or.inl rfl))) (fun _ _ _ _ _ => pts_nil) (fun _ _ _ _ _ => (pe_call G_is_within hr (by rfl) T.m_is_within T.F_is_within.kp T.b_is_within .nil pass0 (pa_cons pe_int (pa_cons (pe_glob (v := .int 1000000000000000) rfl T.m_MOST_DEBT ⟨_, rfl⟩) (pa_cons (pv 3) pa_nil)))))) pa_nil))))
        (pss_one ps_never)
        pss_nil)
      (pss_one (ps_if (pt_cmpR op_ne (pe_ix ix_list (pv 2) (pv 1) (fun _ _ => rfl)) pe_int (nomark _))
        (pss_one ps_never)
        pss_nil))))))), ?_⟩
    walk_at "st"
    refine iteB (fun _ => ?_) (fun h => absurd (dec_f h) (by rw [List.length_map]; omega))
    walk_at "st"
    refine iteB (fun h => absurd (ndec_t h) (by rw [List.length_map]; omega)) (fun _ => ?_)
    walk_at "st"
    refine for_enum (K := K) (a := t) (xs := ps.map V.ref) (fun i σ H' => ∃ v1 v2 : Option V, σ = [some (.ref t), v1, v2, none] ∧ Same H H') ⟨none, none, rfl, Same.refl H⟩ (fun i σ H' _ ⟨_, _, _, e⟩ => e.seq hs) ?_ ?_
    · rintro i x σ H' T hx ⟨v1, v2, rfl, e⟩ nT
      obtain ⟨p, hp, rfl⟩ := refs_at hx
      have hi := (List.getElem?_eq_some_iff.mp hp).1
      have eT := e.trans (same_upd (o := .tup [.int (i : Int), .ref p]) nT)
      have hrow : SqL K (upd H' T (.tup [.int (i : Int), .ref p])) p ((rowI n (f i)).map V.int) := eT.seq (SqL.of (ht.row i p hp))
      have hst := eT.seq hs
      have hT : upd H' T (.tup [.int (i : Int), .ref p]) T = some (.tup [.int (i : Int), .ref p]) := upd_same
      have hT2 : SqT K (upd H' T (.tup [.int (i : Int), .ref p])) T [.int (i : Int), .ref p] := SqT.of hT
      generalize upd H' T (.tup [.int (i : Int), .ref p]) = H2 at *
      walk_at "st"
      refine iteB (fun h => (ndec_t h (congrArg V.int (by rw [List.length_map, rowI_len, List.length_map, hl]))).elim) (fun _ => ?_)
      walk_at "st"
      intro D nD
      refine lc_list (K := K) (a := p) (xs := (rowI n (f i)).map V.int) (fun j H' => H' = upd H2 D (.lst ((List.replicate j true).map V.bl))) rfl (fun j H' _ e => by rw [e]; exact (same_upd nD).seq hrow) ?_ ?_
      · rintro j x H' hx rfl
        obtain ⟨z, hz', rfl⟩ := ints_at hx
        have hm := List.mem_of_getElem? hz'
        have hj := (List.getElem?_eq_some_iff.mp hz').1
        rw [rowI_len] at hj
        rw [rowI_at hj] at hz'
        cases hz'
        have hb := hd.b i (by omega) j hj
        refine ⟨rfl, ?_⟩
        walk_at "st"
        refine ⟨?_, ?_⟩
        · refine small1000 ?_
          rw [List.length_map, List.length_replicate]
          omega
        · rw [upd_upd, List.replicate_succ', List.map_append]
          have e0 : decide ((0 : Int) ≤ f i j ∧ f i j ≤ 1000000000000000) = true := decide_eq_true hb
          rw [e0]
          rfl
      · rintro H' rfl
        have sD := same_upd (o := .lst ((List.replicate ((rowI n (f i)).map V.int).length true).map V.bl)) nD
        have hs' := sD.seq hrow
        have at1 := atI_row (g := f i) (n := n) (i := i) (by omega)
        have e3 := eT.trans sD
        walk_at "st"
        refine ⟨List.replicate ((rowI n (f i)).map V.int).length true, rfl, .inl (.inl upd_same), ?_⟩
        have ea : (List.replicate ((rowI n (f i)).map V.int).length true).all id = true := by
          rw [List.all_eq_true]
          intro b hb
          exact List.eq_of_mem_replicate hb
        rw [ea]
        walk_at "st"
        refine iteB (fun h => (ndec_t h (congrArg V.int (hd.d i (by omega)))).elim) (fun _ => ?_)
        exact ⟨_, _, rfl, e3⟩
    · rintro σ H' ⟨v1, v2, rfl, e⟩
      exact q _ e
/-- what each house is owed less what it owes -/
def netF (n : Nat) (f : Nat → Nat → Int) (h : Nat) : Int := sumI n (fun a => f a h) - sumI n (f h)

def sp_law_table (K : PySem.W.Frag) : Sp := fun vs H Q _ => ∃ (t : Addr) (ps : List Addr) (n : Nat) (f : Nat → Nat → Int), vs = [.ref t, .int (n : Int)] ∧ Tab H t ps n f ∧ Q (.bl true) H
set_option maxHeartbeats 0 in
theorem ok_law_table (T : Txt K mg) : FnOk P w K mg base CX0 2 T.f_law_table T.d_law_table ["actual", "count"] (sp_law_table K) := by
  refine T.F_law_table.ok sc_law_table (fun vs H Q E h => ?_) (fun cdv A outer s H vs Q E hr h => ?_)
  · obtain ⟨t, ps, n, f, rfl, _⟩ := h
    rfl
  · obtain ⟨t, ps, n, f, rfl, ht, q⟩ := h
    have G_law_integers : FnOk P w K mg base CX0 1 T.f_law_integers T.d_law_integers ["actual", "count"] (sp_law_integers K) := ok_law_integers T
    have hs : SqL K H t (ps.map V.ref) := SqL.of ht.lst
    have hl := ht.len
    refine ⟨_, (pss_cons (ps_if (PW.pt (pw_or (pt_not (pt_val (pe_callB call_isi (by rfl) T.z_isinstance (by decide +kernel) (pa_cons (pv 0) (pa_cons (pe_bltn (v := .ty "list") (u := .type "list") (by rfl) T.z_list (by decide +kernel) rfl) pa_nil))))) (pw_or1 (pt_cmpR op_ne (pe_callB call_len_seq (by rfl) T.z_len PySem.boot_len (pa_cons (pv 0) pa_nil)) (pv 1) (nomark _)))))
      (pss_one (ps_ret pe_bl))
      pss_nil)
    (pss_cons (ps_for PassesOwn.never rfl (pi_list (pv 0)) (pg_name (i := 2) sc_law_table.nd rfl (Or.inl rfl))
      (pss_one (ps_if (pt_not (pt_val (pe_call G_law_integers hr (by rfl) T.m_law_integers T.F_law_integers.kp T.b_law_integers .nil pass0 (pa_cons (pv 2) (pa_cons (pv 1) pa_nil)))))
        (pss_one (ps_ret pe_bl))
        pss_nil)))
    (pss_one (ps_ret pe_bl)))), ?_⟩
    refine ⟨_, rfl, ?_⟩
    refine ⟨_, _, _, _, true, rfl, .ty _, .base (.lst ht.lst), kit_ty (by decide +kernel), ?_⟩
    refine ⟨_, rfl, iteF ?_⟩
    walk_at "st"
    refine iteB (fun h => (ndec_t h (congrArg V.int (by rw [List.length_map, hl]))).elim) (fun _ => ?_)
    walk_at "st"
    refine for_list (K := K) (a := t) (xs := ps.map V.ref) (fun i σ H' => (∃ v, σ = [some (.ref t), some (.int (n : Int)), v]) ∧ H' = H) ⟨⟨none, rfl⟩, rfl⟩ (fun i σ H' _ ⟨_, e⟩ => by rw [e]; exact hs) ?_ ?_
    · rintro i x σ H' hx ⟨⟨v, rfl⟩, rfl⟩
      obtain ⟨p, hp, rfl⟩ := refs_at hx
      have hr := ht.row i p hp
      walk_at "st"
      refine ⟨congrArg _ (rowI_len n (f i)), ?_⟩
      walk_at "st"
      exact ⟨⟨_, rfl⟩, rfl⟩
    · rintro σ H' ⟨⟨v, rfl⟩, rfl⟩
      exact q

def optN : Option Nat → V
  | none => .non
  | some c => .int (c : Int)

/-! ### who owes whom among some houses -/
def intsN (ws : List Nat) : List V := ws.map fun (k : Nat) => V.int (k : Int)
def debF (f : Nat → Nat → Int) (ws : List Nat) (c : Nat) : Option Nat := ws.find? fun d => decide (0 < f d c)
def unF (f : Nat → Nat → Int) (ws : List Nat) : Option Nat := ws.find? fun h => (debF f ws h).isNone
theorem intsN_at {ws : List Nat} {i : Nat} {x : V} (h : (intsN ws)[i]? = some x) : ∃ k, ws[i]? = some k ∧ x = V.int (k : Int) := by
  unfold intsN at h
  rw [List.getElem?_map] at h
  cases e : ws[i]? with
  | none => rw [e] at h; cases h
  | some k => rw [e] at h; exact ⟨k, rfl, (Option.some.inj h).symm⟩
theorem find_here {α : Type} {p : α → Bool} {ws : List α} {i : Nat} {x : α} (h : ws[i]? = some x) (hp : p x = true) (hn : ∀ y, y ∈ ws.take i → p y = false) : ws.find? p = some x := by
  rw [← List.take_append_drop i ws, List.find?_append]
  have e : (ws.take i).find? p = none := by
    rw [List.find?_eq_none]
    intro y hy
    rw [hn y hy]
    exact Bool.false_ne_true
  rw [e, Option.none_or, List.drop_eq_getElem_cons (List.getElem?_eq_some_iff.mp h).1, (List.getElem?_eq_some_iff.mp h).2, List.find?_cons, hp]
def sp_first_debtor (K : PySem.W.Frag) : Sp := fun vs H Q _ => ∃ (t l : Addr) (ps : List Addr) (n : Nat) (f : Nat → Nat → Int) (ws : List Nat) (c : Nat), vs = [.ref t, .ref l, .int (c : Int)] ∧ Tab H t ps n f ∧ H l = some (.lst (intsN ws)) ∧ (∀ w, w ∈ ws → w < n) ∧ c < n ∧ Q (optN (debF f ws c)) H
set_option maxHeartbeats 0 in
theorem ok_first_debtor (T : Txt K mg) : FnOk P w K mg base CX0 1 T.f_first_debtor T.d_first_debtor ["debts", "houses", "creditor"] (sp_first_debtor K) := by
  refine T.F_first_debtor.ok sc_first_debtor (fun vs H Q E h => ?_) (fun cdv A outer s H vs Q E hr h => ?_)
  · obtain ⟨t, l, ps, n, f, ws, c, rfl, _⟩ := h
    rfl
  · obtain ⟨t, l, ps, n, f, ws, c, rfl, ht, hl, hw, hc, q⟩ := h
    
    refine ⟨_, (pss_cons (ps_for PassesOwn.never rfl (pi_list (pv 1)) (pg_name (i := 3) sc_first_debtor.nd rfl (Or.inl rfl))
      (pss_one (ps_if (pt_cmpR op_gt (pe_ix ix_list (pe_ix ix_list (pv 0) (pv 3) (fun _ _ => rfl)) (pv 2) (fun _ _ => rfl)) pe_int (nomark _))
        (pss_one (ps_ret (pv 3)))
        pss_nil)))
    (pss_one (ps_ret pe_non))), ?_⟩
    have hls := SqL.of (K := K) hl
    have hts := SqL.of (K := K) ht.lst
    walk_at "st"
    refine for_list (K := K) (a := l) (xs := intsN ws) (fun i σ H' => ∃ v3 : Option V, σ = [some (.ref t), some (.ref l), some (.int (c : Int)), v3] ∧ H' = H ∧ ∀ d, d ∈ ws.take i → (decide (0 < f d c)) = false)
      ⟨none, rfl, rfl, fun d hd => by rw [List.take_zero] at hd; cases hd⟩ (fun i σ H' _ ⟨_, _, e, _⟩ => by rw [e]; exact hls) ?_ ?_
    · rintro i y σ H' hy ⟨v3, rfl, rfl, hno⟩
      obtain ⟨d, hd, rfl⟩ := intsN_at hy
      have hdn := hw d (List.mem_of_getElem? hd)
      obtain ⟨p, hp, hpa, hpr⟩ := ht.at hdn
      have hprs := SqL.of (K := K) hpr
      have hat := atI_row (n := n) (g := f d) hc
      walk_at "st"
      refine iteD (fun h => ?_) (fun h => ?_)
      · walk_at "st"
        have e : debF f ws c = some d := find_here hd (decide_eq_true h) hno
        rw [e] at q
        exact q
      · refine ⟨_, rfl, rfl, fun w hw2 => ?_⟩
        rw [take_succ hd] at hw2
        rcases List.mem_append.mp hw2 with z | z
        · exact hno w z
        · rw [List.mem_singleton.mp z]
          exact decide_eq_false h
    · rintro σ H' ⟨v3, rfl, rfl, hno⟩
      have hlen : (intsN ws).length = ws.length := by unfold intsN; rw [List.length_map]
      rw [hlen, List.take_of_length_le (Nat.le_refl _)] at hno
      have e : debF f ws c = none := by
        unfold debF
        rw [List.find?_eq_none]
        intro w hw2
        rw [hno w hw2]
        exact Bool.false_ne_true
      rw [e] at q
      walk_at "st"
      exact q
def sp_first_unowed (K : PySem.W.Frag) : Sp := fun vs H Q _ => ∃ (t l : Addr) (ps : List Addr) (n : Nat) (f : Nat → Nat → Int) (ws : List Nat), vs = [.ref t, .ref l] ∧ Tab H t ps n f ∧ H l = some (.lst (intsN ws)) ∧ (∀ w, w ∈ ws → w < n) ∧ Q (optN (unF f ws)) H
set_option maxHeartbeats 0 in
theorem ok_first_unowed (T : Txt K mg) : FnOk P w K mg base CX0 2 T.f_first_unowed T.d_first_unowed ["debts", "houses"] (sp_first_unowed K) := by
  refine T.F_first_unowed.ok sc_first_unowed (fun vs H Q E h => ?_) (fun cdv A outer s H vs Q E hr h => ?_)
  · obtain ⟨t, l, ps, n, f, ws, rfl, _⟩ := h
    rfl
  · obtain ⟨t, l, ps, n, f, ws, rfl, ht, hl, hw, q⟩ := h
    have G_first_debtor : FnOk P w K mg base CX0 1 T.f_first_debtor T.d_first_debtor ["debts", "houses", "creditor"] (sp_first_debtor K) := ok_first_debtor T
    refine ⟨_, (pss_cons (ps_for PassesOwn.never rfl (pi_list (pv 1)) (pg_name (i := 2) sc_first_unowed.nd rfl (Or.inl rfl))
      (pss_one (ps_if (pt_cmpR op_isN (pe_call G_first_debtor hr (by rfl) T.m_first_debtor T.F_first_debtor.kp T.b_first_debtor .nil pass0 (pa_cons (pv 0) (pa_cons (pv 1) (pa_cons (pv 2) pa_nil)))) pe_non (nomark _))
        (pss_one (ps_ret (pv 2)))
        pss_nil)))
    (pss_one (ps_ret pe_non))), ?_⟩
    have hls := SqL.of (K := K) hl
    walk_at "st"
    refine for_list (K := K) (a := l) (xs := intsN ws) (fun i σ H' => ∃ v2 : Option V, σ = [some (.ref t), some (.ref l), v2] ∧ H' = H ∧ ∀ d, d ∈ ws.take i → (debF f ws d).isNone = false)
      ⟨none, rfl, rfl, fun d hd => by rw [List.take_zero] at hd; cases hd⟩ (fun i σ H' _ ⟨_, _, e, _⟩ => by rw [e]; exact hls) ?_ ?_
    · rintro i y σ H' hy ⟨v2, rfl, rfl, hno⟩
      obtain ⟨d, hd, rfl⟩ := intsN_at hy
      have hdn := hw d (List.mem_of_getElem? hd)
      walk_at "st"
      refine ⟨ps, n, f, ws, d, rfl, ht, hl, hw, hdn, ?_⟩
      cases hf : debF f ws d with
      | none =>
        walk_at "st"
        have e : unF f ws = some d := find_here hd (by rw [hf]; rfl) hno
        rw [e] at q
        exact q
      | some w =>
        walk_at "st"
        refine ⟨_, rfl, rfl, fun w hw2 => ?_⟩
        rw [take_succ hd] at hw2
        rcases List.mem_append.mp hw2 with z | z
        · exact hno w z
        · rw [List.mem_singleton.mp z, hf]
          rfl
    · rintro σ H' ⟨v2, rfl, rfl, hno⟩
      have hlen : (intsN ws).length = ws.length := by unfold intsN; rw [List.length_map]
      rw [hlen, List.take_of_length_le (Nat.le_refl _)] at hno
      have e : unF f ws = none := by
        unfold unF
        rw [List.find?_eq_none]
        intro w hw2
        rw [hno w hw2]
        exact Bool.false_ne_true
      rw [e] at q
      walk_at "st"
      exact q

theorem sumI_add (n : Nat) (f g : Nat → Int) : sumI n (fun b => f b + g b) = sumI n f + sumI n g := by
  induction n with
  | zero => rfl
  | succ n ih => rw [sumI_succ, sumI_succ, sumI_succ, ih]; omega
theorem sumI_zero (n : Nat) : sumI n (fun _ => (0 : Int)) = 0 := by
  induction n with
  | zero => rfl
  | succ n ih => rw [sumI_succ, ih]; rfl
theorem sumI_one {n p : Nat} {c : Int} (h : p < n) : sumI n (fun a => if a = p then c else 0) = c := by
  induction n with
  | zero => omega
  | succ n ih =>
    rw [sumI_succ]
    by_cases z : p = n
    · rw [if_pos z.symm, sumI_congr (g := fun _ => 0) fun i hi => by rw [if_neg (by omega)], sumI_zero]
      omega
    · rw [ih (by omega), if_neg (by omega)]
      omega
theorem rowI_set {n p : Nat} {g : Nat → Int} {x : Int} (h : p < n) : (rowI n g).set p x = rowI n fun a => if a = p then x else g a := by
  refine List.ext_getElem? fun i => ?_
  by_cases hi : i < n
  · rw [rowI_at hi]
    by_cases z : i = p
    · rw [z, List.getElem?_set_self (by rw [rowI_len]; exact h), if_pos rfl]
    · rw [List.getElem?_set_ne (fun e => z e.symm), rowI_at hi, if_neg z]
  · rw [List.getElem?_eq_none (by rw [List.length_set, rowI_len]; omega), List.getElem?_eq_none (by rw [rowI_len]; omega)]

/-- one number of a table changed -/
def setF2 (f : Nat → Nat → Int) (i j : Nat) (x : Int) : Nat → Nat → Int := fun a b => if a = i ∧ b = j then x else f a b
theorem Tab.set {H : Hp} {t p : Addr} {ps : List Addr} {n i j : Nat} {f : Nat → Nat → Int} {x : Int} (h : Tab H t ps n f) (hp : ps[i]? = some p) (hj : j < n) : Tab (upd H p (.lst (((rowI n (f i)).map V.int).set j (.int x)))) t ps n (setF2 f i j x) := by
  have hm := List.mem_of_getElem? hp
  refine ⟨?_, h.len, fun a q hq => ?_, h.nod, h.out⟩
  · rw [upd_ne (fun z => h.out (by rw [z]; exact hm))]
    exact h.lst
  · by_cases z : a = i
    · subst z
      rw [hp] at hq
      cases hq
      rw [upd_same, ← List.map_set, rowI_set hj]
      refine congrArg (fun z => some (HO.lst (List.map V.int z))) (rowI_eq.mpr fun b hb => ?_)
      unfold setF2
      by_cases c : b = j
      · rw [if_pos c, if_pos ⟨rfl, c⟩]
      · rw [if_neg c, if_neg fun e => c e.2]
    · have hne : q ≠ p := fun e => by
        rw [e] at hq
        have h1 := List.getElem?_eq_some_iff.mp hq
        have h2 := List.getElem?_eq_some_iff.mp hp
        exact z ((List.getElem_inj h.nod).mp (h1.2.trans h2.2.symm))
      rw [upd_ne hne, h.row a q hq]
      refine congrArg (fun z => some (HO.lst (List.map V.int z))) (rowI_eq.mpr fun b hb => ?_)
      unfold setF2
      rw [if_neg fun e => z e.1]
theorem sumI_set {n j : Nat} {g : Nat → Int} {x : Int} (h : j < n) : sumI n (fun b => if b = j then x else g b) = sumI n g + (x - g j) := by
  rw [← sumI_one (n := n) (p := j) (c := x - g j) h, ← sumI_add]
  refine sumI_congr fun b _ => ?_
  by_cases z : b = j
  · rw [if_pos z, if_pos z, z]; omega
  · rw [if_neg z, if_neg z]; omega
/-- the nets after i owes j some cents more -/
theorem netF_set {n i j : Nat} {f : Nat → Nat → Int} {c : Int} (hi : i < n) (hj : j < n) (h : Nat) : netF n (setF2 f i j (f i j + c)) h = netF n f h + (if h = j then c else 0) - (if h = i then c else 0) := by
  have e1 : sumI n (fun a => setF2 f i j (f i j + c) a h) = sumI n (fun a => f a h) + (if h = j then c else 0) := by
    by_cases z : h = j
    · subst z
      rw [if_pos rfl, show (fun a => setF2 f i h (f i h + c) a h) = fun a => if a = i then f i h + c else f a h from funext fun a => by unfold setF2; by_cases w : a = i <;> simp [w], sumI_set hi (g := fun a => f a h)]
      omega
    · rw [if_neg z, show (fun a => setF2 f i j (f i j + c) a h) = fun a => f a h from funext fun a => by unfold setF2; rw [if_neg fun e => z e.2]]
      omega
  have e2 : sumI n (setF2 f i j (f i j + c) h) = sumI n (f h) + (if h = i then c else 0) := by
    by_cases z : h = i
    · subst z
      rw [if_pos rfl, show setF2 f h j (f h j + c) h = fun b => if b = j then f h j + c else f h b from funext fun b => by unfold setF2; by_cases w : b = j <;> simp [w], sumI_set hj]
      omega
    · rw [if_neg z, show setF2 f i j (f i j + c) h = f h from funext fun b => by unfold setF2; rw [if_neg fun e => z e.1]]
      omega
  unfold netF
  rw [e1, e2]
  omega
/-- no debt below 0, none to oneself -/
structure NN (n : Nat) (f : Nat → Nat → Int) : Prop where
  nn : ∀ i, i < n → ∀ j, j < n → 0 ≤ f i j
  d : ∀ i, i < n → f i i = 0
theorem NN.add {n i j : Nat} {f : Nat → Nat → Int} {c : Int} (h : NN n f) (hi : i < n) (hj : j < n) (hc : 0 ≤ c) (hne : i ≠ j) : NN n (setF2 f i j (f i j + c)) := by
  refine ⟨fun a ha b hb => ?_, fun a ha => ?_⟩
  · unfold setF2
    split
    · have := h.nn i hi j hj
      omega
    · exact h.nn a ha b hb
  · unfold setF2
    rw [if_neg fun e => hne (e.1.symm.trans e.2)]
    exact h.d a ha
theorem NN.debts {n : Nat} {f : Nat → Nat → Int} {m : Int} (h : NN n f) (h0 : 1 ≤ n) (h1 : n ≤ 13) (hm : ∀ i, i < n → ∀ j, j < n → f i j ≤ m) : Debts n f m := ⟨h0, h1, fun i hi j hj => ⟨h.nn i hi j hj, hm i hi j hj⟩, h.d⟩
theorem Debts.nn {n : Nat} {f : Nat → Nat → Int} {m : Int} (h : Debts n f m) : NN n f := ⟨fun i hi j hj => (h.b i hi j hj).1, h.d⟩

/-! ### a ring is taken out -/
def redF (f : Nat → Nat → Int) (m : Int) (ring : List (Nat × Nat)) : Nat → Nat → Int := ring.foldl (fun g p => setF2 g p.1 p.2 (g p.1 p.2 - m)) f
def hitC (h : Nat) (xs : List Nat) (m : Int) : Int := (xs.map fun x => if h = x then m else 0).sum
theorem hitC_perm {h : Nat} {m : Int} {xs ys : List Nat} (p : xs.Perm ys) : hitC h xs m = hitC h ys m := by
  induction p with
  | nil => rfl
  | cons x _ ih =>
    show (if h = x then m else 0) + hitC h _ m = (if h = x then m else 0) + hitC h _ m
    rw [ih]
  | swap x y l =>
    show (if h = y then m else 0) + ((if h = x then m else 0) + hitC h l m) = (if h = x then m else 0) + ((if h = y then m else 0) + hitC h l m)
    omega
  | trans _ _ h1 h2 => exact h1.trans h2
theorem net_red {n : Nat} {m : Int} {h : Nat} : ∀ {ring : List (Nat × Nat)} {f : Nat → Nat → Int}, (∀ p, p ∈ ring → p.1 < n ∧ p.2 < n) → netF n (redF f m ring) h = netF n f h - hitC h (ring.map (·.2)) m + hitC h (ring.map (·.1)) m
  | [], f, _ => by
    show netF n f h = netF n f h - 0 + 0
    omega
  | p :: r, f, hp => by
    obtain ⟨h1, h2⟩ := hp p List.mem_cons_self
    show netF n (redF (setF2 f p.1 p.2 (f p.1 p.2 - m)) m r) h = _
    rw [net_red fun q hq => hp q (List.mem_cons_of_mem _ hq)]
    have e := netF_set (f := f) (c := -m) h1 h2 h
    have e2 : f p.1 p.2 + -m = f p.1 p.2 - m := by omega
    rw [e2] at e
    rw [e]
    show _ = netF n f h - ((if h = p.2 then m else 0) + hitC h (r.map (·.2)) m) + ((if h = p.1 then m else 0) + hitC h (r.map (·.1)) m)
    split <;> split <;> omega
theorem red_at {m : Int} {a b : Nat} : ∀ {ring : List (Nat × Nat)} {f : Nat → Nat → Int}, (ring.map (·.2)).Nodup → redF f m ring a b = if (a, b) ∈ ring then f a b - m else f a b
  | [], f, _ => by
    rw [if_neg fun z => by cases z]
    rfl
  | p :: r, f, hn => by
    obtain ⟨h1, h2⟩ := List.nodup_cons.mp (show (p.2 :: r.map (·.2)).Nodup from hn)
    show redF (setF2 f p.1 p.2 (f p.1 p.2 - m)) m r a b = _
    rw [red_at h2]
    unfold setF2
    by_cases hp : a = p.1 ∧ b = p.2
    · have hnr : (a, b) ∉ r := fun z => h1 (List.mem_map.mpr ⟨(a, b), z, hp.2⟩)
      have hin : (a, b) ∈ p :: r := by rw [show (a, b) = p from Prod.ext hp.1 hp.2]; exact List.mem_cons_self
      rw [if_neg hnr, if_pos hin, if_pos hp, hp.1, hp.2]
    · have hiff : (a, b) ∈ p :: r ↔ (a, b) ∈ r := ⟨fun z => (List.mem_cons.mp z).resolve_left fun e => hp ⟨congrArg Prod.fst e, congrArg Prod.snd e⟩, List.mem_cons_of_mem _⟩
      by_cases hr : (a, b) ∈ r
      · rw [if_pos hr, if_pos (hiff.mpr hr), if_neg hp]
      · rw [if_neg hr, if_neg fun z => hr (hiff.mp z), if_neg hp]
/-- all that is owed -/
def totF (n : Nat) (f : Nat → Nat → Int) : Int := sumI n fun a => sumI n (f a)
theorem tot_set {n i j : Nat} {f : Nat → Nat → Int} {x : Int} (hi : i < n) (hj : j < n) : totF n (setF2 f i j x) = totF n f + (x - f i j) := by
  unfold totF
  have e : ∀ a, sumI n (setF2 f i j x a) = if a = i then sumI n (f i) + (x - f i j) else sumI n (f a) := fun a => by
    by_cases h : a = i
    · rw [if_pos h, h, ← sumI_set (g := f i) hj]
      refine sumI_congr fun b _ => ?_
      unfold setF2
      by_cases hb : b = j
      · rw [if_pos ⟨rfl, hb⟩, if_pos hb]
      · rw [if_neg fun z => hb z.2, if_neg hb]
    · rw [if_neg h]
      refine sumI_congr fun b _ => ?_
      unfold setF2
      rw [if_neg fun z => h z.1]
  rw [sumI_congr fun a _ => e a, sumI_set (g := fun a => sumI n (f a)) hi]
  omega
theorem tot_red {n : Nat} {m : Int} : ∀ {ring : List (Nat × Nat)} {f : Nat → Nat → Int}, (∀ p, p ∈ ring → p.1 < n ∧ p.2 < n) → totF n (redF f m ring) = totF n f - m * (ring.length : Int)
  | [], f, _ => by
    show totF n f = totF n f - m * ((0 : Nat) : Int)
    rw [Int.natCast_zero, Int.mul_zero]
    omega
  | p :: r, f, hp => by
    obtain ⟨h1, h2⟩ := hp p List.mem_cons_self
    show totF n (redF (setF2 f p.1 p.2 (f p.1 p.2 - m)) m r) = _
    rw [tot_red fun q hq => hp q (List.mem_cons_of_mem _ hq), tot_set h1 h2, List.length_cons, Int.natCast_add, Int.mul_add]
    show _ = _ - (m * (r.length : Int) + m * 1)
    omega
theorem tot_nn {n : Nat} {f : Nat → Nat → Int} (h : ∀ a, a < n → ∀ b, b < n → 0 ≤ f a b) : 0 ≤ totF n f := by
  have key : ∀ k, k ≤ n → ∀ g : Nat → Int, (∀ i, i < n → 0 ≤ g i) → 0 ≤ sumI k g := by
    intro k
    induction k with
    | zero => intro _ g _; exact Int.le_refl _
    | succ k ih =>
      intro hk g hg
      rw [sumI_succ]
      have := ih (by omega) g hg
      have := hg k (by omega)
      omega
  exact key n (Nat.le_refl _) _ fun a ha => key n (Nat.le_refl _) _ fun b hb => h a ha b hb
/-! ### the ring of a path -/
def cycL (r : List Nat) : List (Nat × Nat) := (r.drop 1 ++ r.take 1).zip r
theorem cyc_len (r : List Nat) : (r.drop 1 ++ r.take 1).length = r.length := by
  rw [List.length_append, List.length_drop, List.length_take]
  omega
theorem cyc_fst (r : List Nat) : (cycL r).map (·.1) = r.drop 1 ++ r.take 1 := List.map_fst_zip (Nat.le_of_eq (cyc_len r))
theorem cyc_snd (r : List Nat) : (cycL r).map (·.2) = r := List.map_snd_zip (Nat.le_of_eq (cyc_len r).symm)
theorem cyc_perm (r : List Nat) : ((cycL r).map (·.1)).Perm ((cycL r).map (·.2)) := by
  rw [cyc_fst, cyc_snd]
  have h := List.perm_append_comm (l₁ := r.drop 1) (l₂ := r.take 1)
  rw [List.take_append_drop] at h
  exact h
theorem net_cyc {n : Nat} {m : Int} {h : Nat} {r : List Nat} {f : Nat → Nat → Int} (hr : ∀ x, x ∈ r → x < n) : netF n (redF f m (cycL r)) h = netF n f h := by
  rw [net_red fun p hp => ⟨hr _ ?_, hr _ ?_⟩, hitC_perm (cyc_perm r)]
  · omega
  · have := (cyc_perm r).subset (List.mem_map.mpr ⟨p, hp, rfl⟩)
    rw [cyc_snd] at this
    exact this
  · have : p.2 ∈ (cycL r).map (·.2) := List.mem_map.mpr ⟨p, hp, rfl⟩
    rw [cyc_snd] at this
    exact this
/-- houses none of which is unowed owe in no order -/
theorem no_rank {f : Nat → Nat → Int} {ws : List Nat} {rk : Nat → Nat} (hu : unF f ws = none) (hw : ws ≠ []) (hr : ∀ a, a ∈ ws → ∀ b, b ∈ ws → 0 < f a b → rk a < rk b) : False := by
  have step : ∀ h, h ∈ ws → ∃ d, d ∈ ws ∧ rk d < rk h := fun h hh => by
    unfold unF at hu
    have h1 := List.find?_eq_none.mp hu h hh
    cases hd : debF f ws h with
    | none => rw [hd] at h1; exact absurd rfl h1
    | some d =>
      have h2 : (fun d => decide (0 < f d h)) d = true := List.find?_some (p := fun d => decide (0 < f d h)) hd
      exact ⟨d, List.mem_of_find?_eq_some hd, hr d (List.mem_of_find?_eq_some hd) h hh (of_decide_eq_true h2)⟩
  have desc : ∀ k h, h ∈ ws → rk h < k → False := by
    intro k
    induction k with
    | zero => intro h _ z; omega
    | succ k ih =>
      intro h hh hk
      obtain ⟨d, hd, hlt⟩ := step h hh
      exact ih d hd (by omega)
  cases ws with
  | nil => exact hw rfl
  | cons h r => exact desc (rk h + 1) h List.mem_cons_self (by omega)

def encP (p : Nat × Nat) : List V := [.int (p.1 : Int), .int (p.2 : Int)]
def sp_without_ring (K : PySem.W.Frag) : Sp := fun vs H Q _ => ∃ (t l : Addr) (ps : List Addr) (n : Nat) (f : Nat → Nat → Int) (rps : List Addr) (ring : List (Nat × Nat)), vs = [.ref t, .ref l] ∧ Tab H t ps n f ∧ n ≤ 13 ∧ Tups encP H l rps ring ∧ (∀ p, p ∈ ring → p.1 < n ∧ p.2 < n) ∧ ring ≠ [] ∧ ring.length ≤ 100 ∧
  ∀ (t' : Addr) (H' : Hp) (qs : List Addr) (m : Int), Same H H' → H t' = none → Tab H' t' qs n (redF f m ring) → (∀ p, p ∈ ring → m ≤ f p.1 p.2) → (∃ p, p ∈ ring ∧ m = f p.1 p.2) → (∀ x, x ∈ qs → H x = none) → Q (.ref t') H'
set_option maxHeartbeats 0 in
theorem ok_without_ring (T : Txt K mg) : FnOk P w K mg base CX0 1 T.f_without_ring T.d_without_ring ["debts", "ring"] (sp_without_ring K) := by
  refine T.F_without_ring.ok sc_without_ring (fun vs H Q E h => ?_) (fun cdv A outer s H vs Q E hr h => ?_)
  · obtain ⟨t, l, ps, n, f, rps, ring, rfl, _⟩ := h
    rfl
  · obtain ⟨t, l, ps, n, f, rps, ring, rfl, ht, hn, hr, hin, hne, hrl, q⟩ := h
    
    refine ⟨_, (pss_cons (ps_set (i := 2) sc_without_ring.nd rfl (Or.inl rfl) (pe_callB (cr_min rfl) (by rfl) T.z_min (by decide +kernel) (pa_cons (pe_lc (own := [("debtor", 3), ("creditor", 4)]) (tt := tYes) rfl sc_without_ring.nd (pi_list (pv 1)) (blkOk_by (own := [("debtor", 3), ("creditor", 4)]) (N := N_without_ring) (sc := defScope s_without_ring) (by decide +kernel)) (fun _ _ _ _ _ => (show PG _ _ (gTup K 2 (gCons (gName 3) (gCons (gName 4) gNil))) from (pg_tup rfl (pgs_cons (pg_name (i := 3) sc_without_ring.nd rfl (Or.inl rfl)) (pgs_cons (pg_name (i := 4) sc_without_ring.nd rfl (Or.inl rfl)) pgs_nil))))) (fun _ _ _ _ _ => pts_nil) (fun _ _ _ _ _ => (pe_ix (show IxR _ (rIxL K) from ix_list) (pe_ix (show IxR _ (rIxL K) from ix_list) (pv 0) (pv 3) (fun _ _ => rfl)) (pv 4) (fun _ _ => rfl)))) pa_nil)))
    (pss_cons (ps_setLc (i := 5) (own := [("row", 6)]) (g := gName 6) (tt := tYes) rfl sc_without_ring.nd rfl rfl (sw_true rfl rfl rfl (by decide +kernel)) (pi_list (pv 0)) (blkOk_by (own := [("row", 6)]) (N := N_without_ring) (sc := defScope s_without_ring) (by decide +kernel)) (fun _ _ _ _ _ => (pg_name (i := 6) sc_without_ring.nd rfl (Or.inl rfl))) (fun _ _ _ _ _ => pts_nil) (fun _ _ _ _ _ => (pe_callTy (show CallR _ (.type "list") (rListOf K) from call_list_of) (by rfl) T.z_list (by decide +kernel) (pa_cons (pv 6) pa_nil))))
    (pss_cons (ps_for PassesOwn.never rfl (pi_list (pv 1)) (pg_tup rfl (pgs_cons (pg_name (i := 3) sc_without_ring.nd rfl (Or.inl rfl)) (pgs_cons (pg_name (i := 4) sc_without_ring.nd rfl (Or.inl rfl)) pgs_nil)))
      (pss_one (ps_augS (pe_ix ix_list (pv 5) (pv 3) (fun _ _ => rfl)) (pv 4) pget_list (pv 2) ip_sub set_list)))
    (pss_one (ps_ret (pv 5)))))), ?_⟩
    have hls := SqL.of (K := K) hr.lst
    have hts := SqL.of (K := K) ht.lst
    walk_at "st"
    intro C nC
    refine lc_list (K := K) (a := l) (xs := rps.map V.ref) (fun j H1 => H1 = upd H C (.lst (((ring.take j).map fun p => f p.1 p.2).map V.int)))
      rfl (fun j H1 _ e => by rw [e]; exact (same_upd nC).seq hls) ?_ ?_
    · rintro j y H1 hy rfl
      obtain ⟨rp, p, hrp, hpj, rfl, hpr⟩ := hr.item hy
      have hj := (List.getElem?_eq_some_iff.mp hpj).1
      obtain ⟨h1, h2⟩ := hin p (List.mem_of_getElem? hpj)
      have sC := same_upd (o := HO.lst (((ring.take j).map fun p => f p.1 p.2).map V.int)) nC
      have hps := SqT.of (K := K) (sC _ _ hpr)
      unfold encP at hps
      have htC := ht.same sC
      have htCs := SqL.of (K := K) htC.lst
      obtain ⟨rw_, hrw, hra, hrr⟩ := htC.at h1
      have hrrs := SqL.of (K := K) hrr
      have hat := atI_row (n := n) (g := f p.1) h2
      have hlt : (((ring.take j).map fun p => f p.1 p.2).map V.int).length < sizeLine := small1000 (by rw [List.length_map, List.length_map, List.length_take]; omega)
      walk_at "st"
      rw [upd_upd, take_succ hpj, List.map_append, List.map_append]
      rfl
    · rintro H1 rfl
      rw [List.length_map, hr.len, List.take_of_length_le (Nat.le_refl _)]
      have hC := SqL.of (K := K) (H := upd H C (.lst ((ring.map fun p => f p.1 p.2).map V.int))) (a := C) upd_same
      have sC := same_upd (o := HO.lst ((ring.map fun p => f p.1 p.2).map V.int)) nC
      generalize upd H C _ = H1 at *
      have hpos : 0 < (ring.map fun p => f p.1 p.2).length := by
        rw [List.length_map]
        exact List.length_pos_iff.mpr hne
      walk_at "st"
      intro m hm1 hm2
      have ht1 := ht.same sC
      have hts1 := SqL.of (K := K) ht1.lst
      have hr1 := hr.same sC
      walk_at "st"
      intro D nD
      refine lc_copy (K := K) ht1 (by omega) nD rfl fun H2 qs e2 hT2 hfree => ?_
      have hls2 := e2.seq (SqL.of (K := K) hr1.lst)
      walk_at "st"
      refine for_list (K := K) (a := l) (xs := rps.map V.ref) (fun j σ H3 => ∃ v3 v4 v6 : Option V, σ = [some (.ref t), some (.ref l), some (.int m), v3, v4, some (.ref D), v6] ∧ Tab H3 D qs n (redF f m (ring.take j)) ∧ Same H1 H3)
        ⟨_, _, _, rfl, by rw [List.take_zero]; exact hT2, e2⟩ (fun j σ H3 _ ⟨_, _, _, _, _, e⟩ => e.seq (SqL.of hr1.lst)) ?_ ?_
      · rintro j y σ H3 hy ⟨v3, v4, v6, rfl, hT3, e3⟩
        obtain ⟨rp, p, hrp, hpj, rfl, hpr⟩ := (hr1.same e3).item hy
        have hj := (List.getElem?_eq_some_iff.mp hpj).1
        obtain ⟨h1, h2⟩ := hin p (List.mem_of_getElem? hpj)
        have hps := SqT.of (K := K) hpr
        unfold encP at hps
        obtain ⟨rw_, hrw, hra, hrr⟩ := hT3.at h1
        have hTl := SqL.of (K := K) hT3.lst
        have hrrs := SqL.of (K := K) hrr
        have hat := atI_row (n := n) (g := redF f m (ring.take j) p.1) h2
        have hix : ixN ((rowI n (redF f m (ring.take j) p.1)).map V.int).length (p.2 : Int) = some p.2 := ixN_nat (by rw [List.length_map, rowI_len]; exact h2)
        have hnx := hT3.set (x := redF f m (ring.take j) p.1 p.2 - m) hrw h2
        have hred : redF f m (ring.take (j + 1)) = setF2 (redF f m (ring.take j)) p.1 p.2 (redF f m (ring.take j) p.1 p.2 - m) := by
          rw [take_succ hpj]
          unfold redF
          rw [List.foldl_append]
          rfl
        rw [hred]
        have hf1 := hfree rw_ (List.mem_of_getElem? hrw)
        have hgi : ((rowI n (redF f m (ring.take j) p.1)).map V.int)[p.2]? = some (V.int (redF f m (ring.take j) p.1 p.2)) := by rw [List.getElem?_map, rowI_at h2]; rfl
        walk_at "st"
        refine ⟨_, _, _, rfl, hnx, fun z o hz => ?_⟩
        rw [upd_ne (ne_of_none hz hf1)]
        exact e3 _ _ hz
      · rintro σ H3 ⟨v3, v4, v6, rfl, hT3, e3⟩
        rw [List.length_map, hr.len, List.take_of_length_le (Nat.le_refl _)] at hT3
        walk_at "st"
        refine q D H3 qs m (sC.trans e3) (sC.free nD) hT3 (fun p hp => hm2 _ (List.mem_map.mpr ⟨p, hp, rfl⟩)) ?_ fun x hx => sC.free (hfree x hx)
        obtain ⟨p, hp, hpm⟩ := List.mem_map.mp hm1
        exact ⟨p, hp, hpm.symm⟩

theorem flat_ints : ∀ xs : List Int, (xs.map V.int).all flatV = true
  | [] => rfl
  | x :: xs => by
    rw [List.map_cons, List.all_cons, flat_ints xs]
    rfl
theorem eqV_ints (x y : Int) : eqV (V.int x) (V.int y) = decide (x = y) := by
  show (x == y) = _
  exact Bool.beq_eq_decide_eq x y
theorem inV_ints (x : Int) : ∀ xs : List Int, inV (V.int x) (xs.map V.int) = decide (x ∈ xs)
  | [] => rfl
  | y :: xs => by
    have ih := inV_ints x xs
    unfold inV at ih ⊢
    rw [List.map_cons, List.any_cons, ih, eqV_ints]
    by_cases h : y = x
    · rw [decide_eq_true h, Bool.true_or, decide_eq_true (by rw [h]; exact List.mem_cons_self)]
    · rw [decide_eq_false h, Bool.false_or]
      exact decide_eq_decide.mpr ⟨fun z => List.mem_cons_of_mem _ z, fun z => (List.mem_cons.mp z).resolve_left fun e => h e.symm⟩

/-! ### list(zip(xs, ys)) -/
/-- fresh pairs laid at the end -/
def putP : Hp → List Addr → List (V × V) → Hp
  | H, t :: ts, q :: qs => putP (upd H t (.tup [q.1, q.2])) ts qs
  | H, _, _ => H
theorem putP_off {c : Addr} : ∀ (ts : List Addr) (qs : List (V × V)) (H : Hp), c ∉ ts → putP H ts qs c = H c
  | [], _, _, _ => rfl
  | _ :: _, [], _, _ => rfl
  | t :: ts, q :: qs, H, h => by
    show putP (upd H t (.tup [q.1, q.2])) ts qs c = H c
    rw [putP_off ts qs _ fun z => h (List.mem_cons_of_mem _ z), upd_ne fun z => h (by rw [z]; exact List.mem_cons_self)]
theorem putP_at : ∀ (ts : List Addr) (qs : List (V × V)) (H : Hp), ts.length = qs.length → ts.Nodup → Paired (fun (t : Addr) (q : V × V) => putP H ts qs t = some (.tup [q.1, q.2])) ts qs
  | [], [], _, _, _ => .nil
  | [], _ :: _, _, h, _ => by cases h
  | _ :: _, [], _, h, _ => by cases h
  | t :: ts, q :: qs, H, h, hn => by
    obtain ⟨n1, n2⟩ := List.nodup_cons.mp hn
    refine .cons ?_ (putP_at ts qs _ (Nat.succ.inj h) n2)
    show putP (upd H t (.tup [q.1, q.2])) ts qs t = _
    rw [putP_off ts qs _ n1, upd_same]
/-- where a zip of two lists stands, with the list that takes its pairs at S -/
structure ZSt (h : Heap) (z TI TO i1 i2 l1 l2 S : Addr) (xs ys : Array Value) (i : Nat) : Prop where
  ti : IsPair h TI (.ref i1) (.ref i2)
  a1 : h.IsListIter i1 l1 i
  a2 : h.IsListIter i2 l2 i
  b1 : h.IsList l1 xs
  b2 : h.IsList l2 ys
  zz : (IsZip h z TI TO .none ∧ ∃ u v, IsPair h TO u v) ∨ ∃ (T : Addr) (f : Bool) (oT : Obj), IsZipHeld h z TI TO T f ∧ h.get? T = some oT ∧ T ≠ z ∧ T ≠ i1 ∧ T ≠ i2 ∧ T ≠ S
structure ZLow (z TI TO i1 i2 l1 l2 S : Addr) : Prop where
  z : z ≠ S
  ti : TI ≠ S
  to : TO ≠ S
  i1 : i1 ≠ S
  i2 : i2 ≠ S
  l1 : l1 ≠ S
  l2 : l2 ≠ S
theorem ZSt.keep {h h' : Heap} {z TI TO i1 i2 l1 l2 S : Addr} {xs ys : Array Value} {i : Nat} (x : ZSt h z TI TO i1 i2 l1 l2 S xs ys i) (L : ZLow z TI TO i1 i2 l1 l2 S) (hk : ∀ b o, b ≠ S → h.get? b = some o → h'.get? b = some o) : ZSt h' z TI TO i1 i2 l1 l2 S xs ys i := by
  refine ⟨hk _ _ L.ti x.ti, x.a1.at fun o e => hk _ o L.i1 e, x.a2.at fun o e => hk _ o L.i2 e, x.b1.at fun o e => hk _ o L.l1 e, x.b2.at fun o e => hk _ o L.l2 e, ?_⟩
  rcases x.zz with ⟨hz, u, v, ho⟩ | ⟨T, f, oT, hz, hT, r1, r2, r3, r4⟩
  · exact .inl ⟨hk _ _ L.z hz, u, v, hk _ _ L.to ho⟩
  · exact .inr ⟨T, f, oT, hk _ _ L.z hz, hk _ _ r4 hT, r1, r2, r3, r4⟩
/-- the pairs made so far: as many as told, each above the list that takes them -/
structure ZG (xs ys : Array Value) (S : Addr) (h : Heap) (ts : List Addr) : Prop where
  up : ts.Pairwise (· < ·)
  hi : ∀ t, t ∈ ts → S < t
  at' : ∀ (j : Nat) (t : Addr), ts[j]? = some t → ∃ u v, xs[j]? = some u ∧ ys[j]? = some v ∧ IsPair h t u v
section
variable {A : Around} {E : Value → Shared → Prop} {s : Shared}
theorem zst_turn {z TI TO i1 i2 l1 l2 S : Addr} {xs ys : Array Value} {i : Nat} {u v : Value} {Q : Option Value → Shared → Prop} (D : ZipApart z TI TO i1 i2 l1 l2) (x : ZSt s.heap z TI TO i1 i2 l1 l2 S xs ys i) (hS : S < s.heap.objs.size) (hu : xs[i]? = some u) (hv : ys[i]? = some v)
    (hQ : ∀ h', ZSt h' z TI TO i1 i2 l1 l2 S xs ys (i + 1) → IsPair h' s.heap.objs.size u v → (∀ b o, b ≠ z → b ≠ TO → b ≠ i1 → b ≠ i2 → s.heap.get? b = some o → h'.get? b = some o) → Q (some (.ref s.heap.objs.size)) { s with heap := h' }) :
    wpAny (model P w) A (pyNext (.ref z)) Q E s := by
  have ne : ∀ {c o}, s.heap.get? c = some o → s.heap.objs.size ≠ c := fun e => Nat.ne_of_gt (Heap.lt_size e)
  have m1 : s.heap.objs.size ≠ i1 := let ⟨_, e, _⟩ := x.a1; ne e
  have m2 : s.heap.objs.size ≠ i2 := let ⟨_, e, _⟩ := x.a2; ne e
  rcases x.zz with ⟨hz, p, q, ho⟩ | ⟨T, f, oT, hz, hT, r1, r2, r3, r4⟩
  · exact wpAny_pyNext_zip_item D hz x.ti ho x.a1 x.a2 x.b1 x.b2 hu hv fun h' c1 c2 c3 c4 c5 c6 hk =>
      hQ h' ⟨hk _ _ D.TIz D.TITO D.TIi1 D.TIi2 x.ti, c3, c4, x.b1.at fun o e => hk _ o D.l1z D.l1TO D.l1i1 D.l1i2 e, x.b2.at fun o e => hk _ o D.l2z D.l2TO D.l2i1 D.l2i2 e, .inr ⟨_, false, _, c1, c5, ne hz, m1, m2, Nat.ne_of_gt hS⟩⟩ c5 hk
  · exact wpAny_pyNext_zip_item_held D hz hT x.ti x.a1 x.a2 x.b1 x.b2 hu hv fun h' c1 c3 c4 c5 c6 hk =>
      hQ h' ⟨hk _ _ D.TIz D.TIi1 D.TIi2 x.ti, c3, c4, x.b1.at fun o e => hk _ o D.l1z D.l1i1 D.l1i2 e, x.b2.at fun o e => hk _ o D.l2z D.l2i1 D.l2i2 e, .inr ⟨T, true, oT, c1, hk _ _ r1 r2 r3 hT, r1, r2, r3, r4⟩⟩ c5 fun b o n1 _ n3 n4 e => hk b o n1 n3 n4 e
theorem zst_end {z TI TO i1 i2 l1 l2 S : Addr} {xs ys : Array Value} {i : Nat} {Q : Option Value → Shared → Prop} (hh : A.handled = none) (D : ZipApart z TI TO i1 i2 l1 l2) (x : ZSt s.heap z TI TO i1 i2 l1 l2 S xs ys i) (hu : xs[i]? = none)
    (hQ : ∀ h', (∀ b o, b ≠ z → b ≠ TO → b ≠ i1 → b ≠ i2 → s.heap.get? b = some o → h'.get? b = some o) → Q none { s with heap := h' }) :
    wpAny (model P w) A (pyNext (.ref z)) Q E s := by
  rcases x.zz with ⟨hz, p, q, ho⟩ | ⟨T, f, oT, hz, hT, _⟩
  · exact wpAny_pyNext_zip_end hh D hz x.ti ho x.a1 x.a2 x.b1 x.b2 (.inl hu) fun h' hk => hQ h' hk
  · exact wpAny_pyNext_zip_end_held hh D hz hT x.ti x.a1 x.a2 x.b1 x.b2 (.inl hu) fun h' hk => hQ h' fun b o n1 _ n3 n4 e => hk b o n1 n3 n4 e
end
section
variable {A : Around} {s : Shared} {R : Result → Shared → Prop}
theorem zip_drain {z TI TO i1 i2 l1 l2 S : Addr} {xs ys : Array Value} (hh : A.handled = none) (D : ZipApart z TI TO i1 i2 l1 l2) (L : ZLow z TI TO i1 i2 l1 l2 S) (hlen : xs.size = ys.size) (hn : xs.size ≤ sizeLine) {h₀ : Heap} {res : Value}
    (hR : ∀ (h' : Heap) (acc : Array Value) (c : Nat) (ts : List Addr), (∀ b o, b ≠ S → b ≠ z → b ≠ TO → b ≠ i1 → b ≠ i2 → h₀.get? b = some o → h'.get? b = some o) → h'.get? S = some { cls := .type "list", dict := none, data := .seq acc c, slots := #[] } → ts.length = xs.size → ZG xs ys S h' ts → acc.toList = ts.map Value.ref → R (.ok (.ret res)) { s with heap := h' }) :
    ∀ (m i : Nat) (h : Heap) (c : Nat) (acc : Array Value) (ts : List Addr), i + m = xs.size → ZSt h z TI TO i1 i2 l1 l2 S xs ys i → (∀ b o, b ≠ S → b ≠ z → b ≠ TO → b ≠ i1 → b ≠ i2 → h₀.get? b = some o → h.get? b = some o) →
      h.get? S = some { cls := .type "list", dict := none, data := .seq acc c, slots := #[] } → acc.toList = ts.map Value.ref → ts.length = i → ZG xs ys S h ts → (∀ t, t ∈ ts → z < t ∧ TO < t ∧ i1 < t ∧ i2 < t) → (z < h.objs.size ∧ TO < h.objs.size ∧ i1 < h.objs.size ∧ i2 < h.objs.size) →
      codeAny (model P w) A (.builtin "list.extend.loop" ⟨[.ref S, .ref z, res], []⟩) R { s with heap := h } := by
  intro m
  induction m with
  | zero =>
    intro i h c acc ts hm st hk hS hacc hts hG hab _
    have hix : i = xs.size := hm
    refine codeAny_builtin PySem.F.entry_extend_loop ?_
    rw [Around.under_plainId PySem.F.plain_extend_loop _]
    show wpAny _ A.in1 (pyNext (.ref z) >>= _) _ _ _
    refine wpAny_bind (zst_end (s := { s with heap := h }) (A := A.in1) hh D st (Array.getElem?_eq_none (Nat.le_of_eq hix.symm)) fun h' k' => ?_)
    refine wpAny_pure (hR h' acc c ts (fun b o n1 n2 n3 n4 n5 e => k' b o n2 n3 n4 n5 (hk b o n1 n2 n3 n4 n5 e)) (k' S _ L.z.symm L.to.symm L.i1.symm L.i2.symm hS) (hts.trans hix) ⟨hG.up, hG.hi, fun j t hj => ?_⟩ hacc)
    obtain ⟨u, v, e1, e2, e3⟩ := hG.at' j t hj
    obtain ⟨g1, g2, g3, g4⟩ := hab t (List.mem_of_getElem? hj)
    exact ⟨u, v, e1, e2, k' t _ (Nat.ne_of_gt g1) (Nat.ne_of_gt g2) (Nat.ne_of_gt g3) (Nat.ne_of_gt g4) e3⟩
  | succ m ih =>
    intro i h c acc ts hm st hk hS hacc hts hG hab hzz
    have hlt : i < xs.size := by omega
    have hu := Array.getElem?_eq_getElem hlt
    have hv := Array.getElem?_eq_getElem (hlen ▸ hlt : i < ys.size)
    have hac : acc.size = i := by rw [← Array.length_toList, hacc, List.length_map, hts]
    have hSl : S < h.objs.size := Heap.lt_size hS
    refine codeAny_builtin PySem.F.entry_extend_loop ?_
    rw [Around.under_plainId PySem.F.plain_extend_loop _]
    show wpAny _ A.in1 (pyNext (.ref z) >>= _) _ _ _
    refine wpAny_bind (zst_turn (s := { s with heap := h }) D st hSl hu hv fun h' st' hp k' => ?_)
    dsimp only at hp k' ⊢
    have hS' := k' S _ L.z.symm L.to.symm L.i1.symm L.i2.symm hS
    have set' : ∀ b o, b ≠ S → h'.get? b = some o → (h'.update S (Obj.mapSeq (·.push (Value.ref h.objs.size)))).get? b = some o := fun b o hb e => (Heap.get?_update_other _ _ hb.symm).trans e
    show wpAny _ A.in1 (updateSeq S (·.push (Value.ref h.objs.size)) >>= _) _ _ _
    refine wpAny_bind ?_
    obtain ⟨z1, z2, z3, z4⟩ := hzz
    have hpn := set' _ _ (Nat.ne_of_gt hSl) hp
    have hbig := Heap.lt_size hpn
    refine wpAny_updateSeq hS' rfl (wpAny_pure ⟨plainId_quiet PySem.F.plain_extend_loop _, ih (i + 1) _ _ (acc.push (Value.ref h.objs.size)) (ts ++ [h.objs.size]) (by omega) (st'.keep L set') (fun b o n1 n2 n3 n4 n5 e => set' b o n1 (k' b o n2 n3 n4 n5 (hk b o n1 n2 n3 n4 n5 e)))
      (Heap.get?_update_self _ hS' rfl) (by rw [Array.toList_push, hacc, List.map_append]; rfl) (by rw [List.length_append, hts]; rfl) ⟨?_, ?_, ?_⟩ ?_ ⟨Nat.lt_trans z1 hbig, Nat.lt_trans z2 hbig, Nat.lt_trans z3 hbig, Nat.lt_trans z4 hbig⟩⟩) (by rw [hac]; omega) (by show (acc.push (Value.ref h.objs.size)).size ≤ sizeLine + 1; rw [Array.size_push, hac]; omega)
    · refine List.pairwise_append.mpr ⟨hG.up, List.pairwise_singleton _ _, fun t ht b hb => ?_⟩
      rw [List.mem_singleton.mp hb]
      obtain ⟨j, hj⟩ := List.mem_iff_getElem?.mp ht
      obtain ⟨_, _, _, _, e⟩ := hG.at' j t hj
      exact Heap.lt_size e
    · intro t ht
      rcases List.mem_append.mp ht with ht | ht
      · exact hG.hi t ht
      · rw [List.mem_singleton.mp ht]
        exact hSl
    · intro j t hj
      rcases Nat.lt_or_ge j ts.length with hj1 | hj1
      · rw [List.getElem?_append_left hj1] at hj
        obtain ⟨u, v, e1, e2, e3⟩ := hG.at' j t hj
        obtain ⟨g1, g2, g3, g4⟩ := hab t (List.mem_of_getElem? hj)
        exact ⟨u, v, e1, e2, set' t _ (Nat.ne_of_gt (hG.hi t (List.mem_of_getElem? hj))) (k' t _ (Nat.ne_of_gt g1) (Nat.ne_of_gt g2) (Nat.ne_of_gt g3) (Nat.ne_of_gt g4) e3)⟩
      · have hjl : j < (ts ++ [h.objs.size]).length := (List.getElem?_eq_some_iff.mp hj).1
        rw [List.length_append, List.length_singleton] at hjl
        have hje : j = ts.length := by omega
        subst hje
        have e0 : h.objs.size = t := by simpa using hj
        subst e0
        rw [hts]
        exact ⟨_, _, hu, hv, hpn⟩
    · intro t ht
      rcases List.mem_append.mp ht with ht | ht
      · exact hab t ht
      · rw [List.mem_singleton.mp ht]
        exact ⟨z1, z2, z3, z4⟩
end
theorem ne_up {b N : Nat} (k : Nat) (h : b < N) : b ≠ N + k := Nat.ne_of_lt (Nat.lt_of_lt_of_le h (Nat.le_add_right N k))
theorem zip_nolen : typeLookup (.type "zip") "__len__" = pure none := by rw [typeLookup_type, builtinLookup_eq_fast]; kernel_rfl
theorem zip_nohint : typeLookup (.type "zip") "__length_hint__" = pure none := by rw [typeLookup_type, builtinLookup_eq_fast]; kernel_rfl
section
variable {A : Around} {E : Value → Shared → Prop} {s : Shared}
theorem zip_listed {z TI TO i1 i2 l1 l2 : Addr} {xs ys : Array Value} {Q : Value → Shared → Prop} (hh : A.handled = none) (D : ZipApart z TI TO i1 i2 l1 l2) (x : ZSt s.heap z TI TO i1 i2 l1 l2 s.heap.objs.size xs ys 0) (hz : IsZip s.heap z TI TO .none) (hto : ∃ u v, IsPair s.heap TO u v) (hlen : xs.size = ys.size) (hn : xs.size ≤ sizeLine)
    (hQ : ∀ (h' : Heap) (acc : Array Value) (c : Nat) (ts : List Addr), (∀ b o, b ≠ z → b ≠ TO → b ≠ i1 → b ≠ i2 → s.heap.get? b = some o → h'.get? b = some o) → h'.get? s.heap.objs.size = some { cls := .type "list", dict := none, data := .seq acc c, slots := #[] } → ts.length = xs.size → ZG xs ys s.heap.objs.size h' ts → acc.toList = ts.map Value.ref → Q (.ref s.heap.objs.size) { s with heap := h' }) :
    wpAny (model P w) A (call (.type "list") [.ref z]) Q E s := by
  obtain ⟨p0, q0, hto⟩ := hto
  have lz := Heap.lt_size hz
  have lto := Heap.lt_size hto
  have lti := Heap.lt_size x.ti
  have li1 : i1 < s.heap.objs.size := let ⟨_, e, _⟩ := x.a1; Heap.lt_size e
  have li2 : i2 < s.heap.objs.size := let ⟨_, e, _⟩ := x.a2; Heap.lt_size e
  have ll1 : l1 < s.heap.objs.size := let ⟨_, e, _⟩ := x.b1; Heap.lt_size e
  have ll2 : l2 < s.heap.objs.size := let ⟨_, e, _⟩ := x.b2; Heap.lt_size e
  have L : ZLow z TI TO i1 i2 l1 l2 s.heap.objs.size := ⟨Nat.ne_of_lt lz, Nat.ne_of_lt lti, Nat.ne_of_lt lto, Nat.ne_of_lt li1, Nat.ne_of_lt li2, Nat.ne_of_lt ll1, Nat.ne_of_lt ll2⟩
  refine callType_codes (Q₁ := fun o t => o = .ref s.heap.objs.size ∧ t = { s with heap := s.heap.push { cls := .type "list", data := .seq #[] } }) PySem.F.called_list (PySem.F.typeCall_list_1 _) PySem.F.entry_list_init
    (code_list_new _ ⟨rfl, rfl⟩) fun o t ht => ?_
  obtain ⟨rfl, rfl⟩ := ht
  generalize hSS : s.heap.objs.size = S at *
  have hS0 : (s.heap.push { cls := .type "list", data := .seq #[] }).get? S = some { cls := .type "list", data := .seq #[] } := by rw [← hSS]; exact Heap.get?_push_size _ rfl
  have k0 : ∀ b o, s.heap.get? b = some o → (s.heap.push { cls := .type "list", data := .seq #[] }).get? b = some o := fun b o e => Heap.get?_push_of_some _ e
  refine ⟨⟨_, hS0, rfl⟩, PySem.F.args_list_init_2 _ _, ?_⟩
  generalize s.heap.push { cls := .type "list", data := .seq #[] } = g0 at hS0 k0 ⊢
  show wpAny _ _ (do let old ← Builtin.List.listItems (.ref S); Builtin.List.listUpdate (.ref S) (fun _ => #[]); letGo old.toList.reverse; Builtin.List.listExtendWith (.ref S) (.ref z) .none) _ _ _
  refine wpAny_bind ?_
  unfold Builtin.List.listItems
  refine wpAny_bind (wpAny_seqItems hS0 rfl (wpAny_pure ?_))
  show wpAny _ _ (updateSeq S (fun _ => #[]) >>= fun _ => letGo (#[] : Array Value).toList.reverse >>= fun _ => Builtin.List.listExtendWith (.ref S) (.ref z) .none) _ _ _
  refine wpAny_bind (wpAny_updateSeq hS0 rfl ?_)
  have hS1 := Heap.get?_update_self (Obj.mapSeq (fun _ => (#[] : Array Value))) hS0 rfl
  have nS : ∀ (g : Heap) (F : Obj → Obj) b o, b ≠ S → g.get? b = some o → (g.update S F).get? b = some o := fun g F b o hb e => (Heap.get?_update_other _ _ hb.symm).trans e
  have k1 : ∀ b o, b ≠ S → s.heap.get? b = some o → (g0.update S (Obj.mapSeq (fun _ => (#[] : Array Value)))).get? b = some o := fun b o hb e => nS _ _ b o hb (k0 b o e)
  generalize g0.update S (Obj.mapSeq (fun _ => (#[] : Array Value))) = g1 at hS1 k1 ⊢
  refine wpAny_bind (wpAny_letGo ?_)
  have z1 : IsZip g1 z TI TO .none := k1 _ _ L.z hz
  have T1 : Shared.TypeIs { s with heap := g1 } (.ref z) "zip" := ⟨_, z1, rfl⟩
  unfold Builtin.List.listExtendWith
  refine wpAny_bind (wpAny_typeOf T1 ?_)
  have f1 : Builtin.List.listSameRef (.ref S) (.ref z) = false := by simp [Builtin.List.listSameRef, L.z.symm]
  have f2 : (Value.type "zip" == Value.type "list") = false := by decide
  have f3 : (Value.type "zip" == Value.type "tuple") = false := by decide
  simp only [f1, f2, f3, Bool.or_false, Bool.false_eq_true, if_false]
  refine wpAny_bind (wpAny_pyIter_zip (s := { s with heap := g1 }) z1 ?_)
  refine wpAny_bind (wpAny_holding ?_)
  unfold Builtin.List.listLengthHint
  refine wpAny_bind (wpAny_specialOf T1 zip_nolen ?_)
  show wpAny _ _ (specialOf (Value.ref z) (Str.ofString "__length_hint__") >>= _) _ _ _
  refine wpAny_bind (wpAny_specialOf T1 zip_nohint ?_)
  refine wpAny_pure ?_
  show wpAny _ _ (rule "list.extend.makes-room" >>= fun _ => Builtin.List.listTouch (.ref S) >>= fun _ => again (.builtin "list.extend.loop" ⟨[.ref S, .ref z, .none], []⟩)) _ _ _
  refine wpAny_bind (wpAny_rule ?_)
  refine wpAny_bind ?_
  show wpAny _ _ (updateSeq S (·.push .none) >>= fun _ => updateSeq S (·.pop)) _ _ _
  refine wpAny_bind (wpAny_updateSeq hS1 rfl ?_)
  have hS2 := Heap.get?_update_self (Obj.mapSeq (·.push Value.none)) hS1 rfl
  refine wpAny_updateSeq (hz := by seq_fits) hS2 rfl ?_
  have hS3 := Heap.get?_update_self (Obj.mapSeq (·.pop)) hS2 rfl
  have k3 : ∀ b o, b ≠ S → s.heap.get? b = some o → ((g1.update S (Obj.mapSeq (·.push Value.none))).update S (Obj.mapSeq (·.pop))).get? b = some o := fun b o hb e => nS _ _ b o hb (nS _ _ b o hb (k1 b o hb e))
  generalize (g1.update S (Obj.mapSeq (·.push Value.none))).update S (Obj.mapSeq (·.pop)) = g3 at hS3 k3 ⊢
  have gl := Heap.lt_size hS3
  refine wpAny_pure ⟨plainId_quiet PySem.F.plain_extend_loop _, zip_drain (s := s) (h₀ := s.heap) (S := S) (A := A.in1) hh D L hlen hn (fun h' acc c ts k hS' hl hG hacc => ⟨rfl, hQ h' acc c ts (fun b o n2 n3 n4 n5 e => k b o (by rw [← hSS]; exact Nat.ne_of_lt (Heap.lt_size e)) n2 n3 n4 n5 e) hS' hl hG hacc⟩) xs.size 0 g3 _ #[] [] (Nat.zero_add _)
    ?_ (fun b o n1 _ _ _ _ e => k3 b o n1 e) hS3 rfl rfl ⟨List.Pairwise.nil, (fun _ h => nomatch h), fun j t hj => (by simp at hj)⟩ (fun _ h => nomatch h) ⟨Nat.lt_trans lz gl, Nat.lt_trans lto gl, Nat.lt_trans li1 gl, Nat.lt_trans li2 gl⟩⟩
  · exact ⟨k3 _ _ L.ti x.ti, x.a1.at fun o e => k3 _ o L.i1 e, x.a2.at fun o e => k3 _ o L.i2 e, x.b1.at fun o e => k3 _ o L.l1 e, x.b2.at fun o e => k3 _ o L.l2 e, .inl ⟨k3 _ _ L.z hz, p0, q0, k3 _ _ L.to hto⟩⟩
end
theorem vals_ix {xs : List V} {us : List Value} (h : Vals xs us) : ∀ {j : Nat} {u : Value}, us[j]? = some u → ∃ v, xs[j]? = some v ∧ RelV v u := by
  induction h with
  | nil => intro j u h; cases h
  | cons r _ ih =>
    intro j u h
    cases j with
    | zero => exact ⟨_, rfl, Option.some.inj h ▸ r⟩
    | succ j => exact ih h
def tListZip (K : PySem.W.Frag) (ta : L2.St → Hp → (List V → Hp → Prop) → Prop) : TE := fun σ H Q => ta σ H fun vs H1 => ∃ (a b : Addr) (xs ys : List V), vs = [.ref a, .ref b] ∧ SqL K H1 a xs ∧ SqL K H1 b ys ∧ xs.length = ys.length ∧
  ∀ (H' : Hp) (p : Addr) (ts : List Addr), Same H1 H' → H1 p = none → (∀ t, t ∈ ts → H1 t = none) → H' p = some (.lst (ts.map V.ref)) → Paired (fun (t : Addr) (q : V × V) => H' t = some (.tup [q.1, q.2])) ts (xs.zip ys) → Q (.ref p) H'
theorem pe_listZip {X : Cx} {e1 e2 : Expr} {ta : L2.St → Hp → (List V → Hp → Prop) → Prop} {p1 p2 p3 pos : Pos} (hc : X.calm = true) (hg : Gl X "list") (hm : X.mg "list" = none) (hg2 : Gl X "zip") (hm2 : X.mg "zip" = none) (ha : PA X [e1, e2] ta)
    (hs : starEach [.Call (.Name "zip" p2) [e1, e2] [] p3] X.env = (false, eval (.Call (.Name "zip" p2) [e1, e2] [] p3) X.env) :: starEach [] X.env := by rfl)
    (hs2 : starEach [e1, e2] X.env = (false, eval e1 X.env) :: starEach [e2] X.env := by rfl) (hpl : (backTo p3 (starEach [e2] X.env)).any (·.1) = false := by rfl) :
    PE X (.Call (.Name "list" p1) [.Call (.Name "zip" p2) [e1, e2] [] p3] [] pos) (tListZip X.K ta) := by
  refine ⟨fun pins s σ H Q I hq => ?_⟩
  refine wpAny_Call_Name_kw (ld_blt I hg hm PyProof.Rows.boot_list ?_)
  refine PyProof.Rows.callWith_type1 ?_ hs rfl
  rw [hs]
  show wpAny _ _ (spliced ((false, eval (.Call (.Name "zip" p2) [e1, e2] [] p3) X.env) :: backTo pos (starEach [] X.env))) _ _ s
  refine Calls.spliced_cons ?_
  refine Call_ (ld_blt I hg2 hm2 PyProof.Rows.boot_zip (PyProof.Rows.callWith_type1 (thn (ha.run p3 pins s σ H _ I hq) fun us s1 ⟨vs, H1, I1, r1, q1⟩ => ?_) hs2 hpl))
  obtain ⟨a, b, xs, ys, ex, hqx, hqy, hxy, q⟩ := q1
  subst ex
  cases r1 with
  | cons r rr =>
    cases rr with
    | cons r' rr =>
      cases rr
      cases r
      cases r'
      obtain ⟨us1, rv1, p1', hz1⟩ := I1.list hqx
      obtain ⟨us2, rv2, p2', hz2⟩ := I1.list hqy
      have la : a < s1.heap.objs.size := p1'.lt
      have lb : b < s1.heap.objs.size := p2'.lt
      refine call_zip_2 p1'.isList p2'.isList fun h1 gz gti gto g1 g2 gsz gk => ?_
      have D := PySem.W.ktu_apart s1.heap.objs.size a b la lb
      have I2 : Inv X pins σ H1 { s1 with heap := h1 } := I1.kept (t' := s1.toks) gk
      refine Calls.spliced_nil ?_
      have ll : us1.toArray.size = us2.toArray.size := by
        have e1 := rv1.length
        have e2 := rv2.length
        rw [List.size_toArray, List.size_toArray]
        omega
      have ln : us1.toArray.size ≤ sizeLine := by
        have e1 := rv1.length
        rw [List.size_toArray]
        omega
      refine zip_listed (s := { s1 with heap := h1 }) (xs := us1.toArray) (ys := us2.toArray) (I1.ok.hd hc) D ⟨gti, g1, g2, p1'.isList.at fun o e => gk _ o e, p2'.isList.at fun o e => gk _ o e, .inl ⟨gz, _, _, gto⟩⟩ gz ⟨_, _, gto⟩ ll ln fun h2 acc c ts k2 hS2 hl2 hG2 hacc => ?_
      dsimp only at k2 hS2 hG2 ⊢
      have lS : s1.heap.objs.size < h1.objs.size := by
        rw [gsz]
        exact Nat.lt_add_of_pos_right (by decide)
      generalize hSS : h1.objs.size = S at *
      have kk : ∀ b o, s1.heap.get? b = some o → h2.get? b = some o := fun b o e => by
        have lb := Heap.lt_size e
        refine k2 b o (ne_up 4 lb) (ne_up 3 lb) (Nat.ne_of_lt lb) (ne_up 1 lb) (gk b o e)
      have tl : ts.length = (xs.zip ys).length := by
        have e1 := rv1.length
        rw [List.length_zip, hl2, List.size_toArray]
        omega
      have nd : ts.Nodup := List.Pairwise.imp (fun {x y} (h : x < y) => Nat.ne_of_lt h) hG2.up
      have newt : ∀ t, t ∈ ts → H1 t = none := fun t ht => I1.hok.fresh (Nat.le_of_lt (Nat.lt_trans lS (hG2.hi t ht)))
      have newS : H1 S = none := I1.hok.fresh (Nat.le_of_lt lS)
      have nS : S ∉ ts := fun z => Nat.lt_irrefl _ (hG2.hi _ z)
      have off : ∀ c, c ∉ ts → c ≠ S → putP (upd H1 S (.lst (ts.map V.ref))) ts (xs.zip ys) c = H1 c := fun c n1 n2 => by rw [putP_off _ _ _ n1, upd_ne n2]
      have eS : putP (upd H1 S (.lst (ts.map V.ref))) ts (xs.zip ys) S = some (.lst (ts.map V.ref)) := by rw [putP_off _ _ _ nS, upd_same]
      have atP := putP_at ts (xs.zip ys) (upd H1 S (.lst (ts.map V.ref))) tl nd
      have kp : ∀ c u, H1 c = some u → putP (upd H1 S (.lst (ts.map V.ref))) ts (xs.zip ys) c = some u := fun c u e => by
        rw [off c (fun z => by rw [newt c z] at e; cases e) fun z => by rw [z, newS] at e; cases e]
        exact e
      have low : ∀ c o, s1.heap.get? c = some o → c ∉ ts ∧ c ≠ S := fun c o e => ⟨fun z => Nat.lt_irrefl _ (Nat.lt_trans (Heap.lt_size e) (Nat.lt_trans lS (hG2.hi c z))), Nat.ne_of_lt (Nat.lt_trans (Heap.lt_size e) lS)⟩
      generalize hHH : putP (upd H1 S (.lst (ts.map V.ref))) ts (xs.zip ys) = HH at *
      have J : Inv X pins σ HH { s1 with heap := h2 } := by
        refine I1.call' (ch := []) rfl ⟨fun b o e _ _ _ => kk b o e, fun b o e _ _ _ => ⟨o.slots, kk b o e⟩, fun b o e n _ => ?_, fun b o e _ => ⟨o, kk b o e⟩, fun b xs e => kp b _ e, fun b o u e => kp b _ e, fun b ps e => ⟨#[], by rw [kp b _ e]; simp⟩⟩
          (fun b u e => ?_) I1.bare (fun b z => by simp at z)
        · obtain ⟨n1, n2⟩ := low b o e
          rw [off b n1 n2]
          exact n
        · by_cases hb : b ∈ ts
          · obtain ⟨j, qk, e1, e2, e3⟩ := LiI.paired_ix atP hb
            rw [e3] at e
            cases e
            obtain ⟨u1, u2, f1, f2, f3⟩ := hG2.at' j b e1
            rw [List.getElem?_toArray] at f1 f2
            obtain ⟨v1, w1, w2⟩ := vals_ix rv1 f1
            obtain ⟨v2, w3, w4⟩ := vals_ix rv2 f2
            have e2' := List.getElem?_zip_eq_some.mp e2
            obtain rfl := Option.some.inj (e2'.1.symm.trans w1)
            obtain rfl := Option.some.inj (e2'.2.symm.trans w3)
            exact ⟨by show 2 ≤ sizeLine; decide, [u1, u2], .cons w2 (.cons w4 .nil), ⟨_, f3, rfl, _, rfl⟩⟩
          · by_cases hb2 : b = S
            · rw [hb2] at e ⊢
              rw [eS] at e
              cases e
              refine ⟨by rw [List.length_map, hl2]; exact ln, acc.toList, c, by rw [hacc]; exact LiI.vals_refs ts, ?_⟩
              rw [Array.toArray_toList]
              exact hS2
            · rw [off b hb hb2] at e
              exact (I1.hok b u e).stay (fun d v _ y => kk d v y) (fun d y => kp d _ y) fun d xs y => kp d _ y
      exact ⟨.ref S, HH, J, rfl, q HH S ts kp newS newt eS atP⟩

/-! ### a path among houses that are all owed something -/
/-- each house of the path is owed by the next one -/
def PathOk (f : Nat → Nat → Int) (ws p : List Nat) (d : Nat) : Prop := p ≠ [] ∧ p.Nodup ∧ (∀ x, x ∈ p → x ∈ ws) ∧ (∀ (i : Nat) a b, p[i]? = some a → p[i + 1]? = some b → debF f ws a = some b) ∧ ∃ a, p.getLast? = some a ∧ debF f ws a = some d
theorem path_push {f : Nat → Nat → Int} {ws p : List Nat} {d d2 : Nat} (h : PathOk f ws p d) (hd : d ∉ p) (hw : d ∈ ws) (h2 : debF f ws d = some d2) : PathOk f ws (p ++ [d]) d2 := by
  obtain ⟨h1, hn, hin, hst, a, ha, had⟩ := h
  refine ⟨fun z => (by cases p <;> cases z), ?_, fun x hx => ?_, fun i u v hu hv => ?_, d, List.getLast?_concat, h2⟩
  · rw [List.nodup_append]
    exact ⟨hn, List.nodup_cons.mpr ⟨fun z => (by cases z), List.nodup_nil⟩, fun x hx y hy e => hd (by rw [List.mem_singleton] at hy; rw [← hy, ← e]; exact hx)⟩
  · rcases List.mem_append.mp hx with z | z
    · exact hin x z
    · rw [List.mem_singleton.mp z]
      exact hw
  · by_cases hi : i + 1 < p.length
    · rw [List.getElem?_append_left (by omega)] at hu
      rw [List.getElem?_append_left hi] at hv
      exact hst i u v hu hv
    · have hlen : i + 1 < (p ++ [d]).length := (List.getElem?_eq_some_iff.mp hv).1
      rw [List.length_append] at hlen
      have hlen : i + 1 < p.length + 1 := hlen
      have hip : i + 1 = p.length := by omega
      rw [hip, List.getElem?_append_right (Nat.le_refl _), Nat.sub_self] at hv
      have hv : some d = some v := hv
      rw [List.getElem?_append_left (by omega)] at hu
      rw [List.getLast?_eq_getElem?, show p.length - 1 = i by omega, hu] at ha
      rw [Option.some.inj ha, ← Option.some.inj hv]
      exact had
/-- a list without repeats within another is no longer -/
theorem nodup_le : ∀ {a b : List Nat}, a.Nodup → (∀ x, x ∈ a → x ∈ b) → a.length ≤ b.length
  | [], _, _, _ => Nat.zero_le _
  | x :: a, b, h, hs => by
    obtain ⟨h1, h2⟩ := List.nodup_cons.mp h
    have hx := hs x List.mem_cons_self
    have ih := nodup_le (a := a) (b := b.erase x) h2 fun y hy => by
      have hne : y ≠ x := fun z => h1 (by rw [← z]; exact hy)
      exact (List.mem_erase_of_ne hne).mpr (hs y (List.mem_cons_of_mem _ hy))
    rw [List.length_erase_of_mem hx] at ih
    have hpos : 0 < b.length := List.length_pos_of_mem hx
    rw [List.length_cons]
    omega
theorem ring_ok {f : Nat → Nat → Int} {ws p : List Nat} {d i : Nat} (h : PathOk f ws p d) (hi : p[i]? = some d) : ∀ q, q ∈ cycL (p.drop i) → 0 < f q.1 q.2 := by
  obtain ⟨h1, hn, hin, hst, a, ha, had⟩ := h
  have pos : ∀ {x y : Nat}, debF f ws x = some y → 0 < f y x := fun {x y} hxy => by
    have h2 : (fun d => decide (0 < f d x)) y = true := List.find?_some (p := fun d => decide (0 < f d x)) hxy
    exact of_decide_eq_true h2
  have hil : i < p.length := (List.getElem?_eq_some_iff.mp hi).1
  intro q hq
  obtain ⟨k, hk, hkq⟩ := List.getElem_of_mem hq
  have hq2 : (cycL (p.drop i))[k]? = some q := by rw [List.getElem?_eq_getElem hk, hkq]
  unfold cycL at hq2
  rw [List.getElem?_zip_eq_some] at hq2
  obtain ⟨e1, e2⟩ := hq2
  rw [List.getElem?_drop] at e2
  have hkl : i + k < p.length := (List.getElem?_eq_some_iff.mp e2).1
  by_cases hlast : i + k + 1 < p.length
  · rw [List.getElem?_append_left (by rw [List.length_drop, List.length_drop]; omega), List.getElem?_drop, List.getElem?_drop] at e1
    have e1 : p[i + k + 1]? = some q.1 := by rw [← e1]; congr 1; omega
    exact pos (hst (i + k) q.2 q.1 e2 e1)
  · have hkk : i + k = p.length - 1 := by omega
    rw [List.getElem?_append_right (by rw [List.length_drop, List.length_drop]; omega)] at e1
    rw [List.length_drop, List.length_drop, show k - (p.length - i - 1) = 0 by omega, List.getElem?_take_of_lt (by omega), List.getElem?_drop, Nat.add_zero, hi] at e1
    rw [List.getLast?_eq_getElem?, ← hkk, e2] at ha
    rw [← Option.some.inj e1, Option.some.inj ha]
    exact pos had
theorem intsN_len (ws : List Nat) : (intsN ws).length = ws.length := by
  unfold intsN
  rw [List.length_map]
theorem cutN_from {ws : List Nat} {i : Nat} (h : i ≤ ws.length) : cutV (intsN ws) (some (i : Int)) none = intsN (ws.drop i) := by
  have hm : HT.sIx (intsN ws).length 0 (some (i : Int)) = i := by
    rw [HT.sIx_nat, intsN_len]
    omega
  unfold cutV
  rw [hm, HT.sIx_none, List.take_of_length_le (by rw [List.length_drop]; exact Nat.le_refl _)]
  unfold intsN
  rw [List.map_drop]
theorem cutN_one {ws : List Nat} (h : 1 ≤ ws.length) : cutV (intsN ws) none (some 1) = intsN (ws.take 1) := by
  have hm : HT.sIx (intsN ws).length (intsN ws).length (some 1) = 1 := by
    rw [show (1 : Int) = ((1 : Nat) : Int) from rfl, HT.sIx_nat, intsN_len]
    omega
  unfold cutV
  rw [hm, HT.sIx_none, List.drop_zero]
  unfold intsN
  rw [List.map_take]
theorem cyc_tups {H : Hp} {p : Addr} {ts : List Addr} {r : List Nat} (h : H p = some (.lst (ts.map V.ref))) (hp : Paired (fun (t : Addr) (q : V × V) => H t = some (.tup [q.1, q.2])) ts ((intsN (r.drop 1) ++ intsN (r.take 1)).zip (intsN r))) : Tups encP H p ts (cycL r) := by
  have e : (intsN (r.drop 1) ++ intsN (r.take 1)).zip (intsN r) = (cycL r).map fun q => (V.int (q.1 : Int), V.int (q.2 : Int)) := by
    unfold cycL intsN
    rw [← List.map_append, List.zip_map]
    rfl
  rw [e] at hp
  have hl := Paired.length hp
  rw [List.length_map] at hl
  refine ⟨h, hl, fun i t q h1 h2 => ?_⟩
  obtain ⟨y, h3, h4⟩ := LiI.paired_get hp h1
  rw [List.getElem?_map, h2] at h3
  obtain rfl := Option.some.inj h3
  exact h4
def sp_ring_among (K : PySem.W.Frag) : Sp := fun vs H Q _ => ∃ (t l : Addr) (ps : List Addr) (n : Nat) (f : Nat → Nat → Int) (ws : List Nat), vs = [.ref t, .ref l] ∧ Tab H t ps n f ∧ n ≤ 13 ∧ H l = some (.lst (intsN ws)) ∧ (∀ w, w ∈ ws → w < n) ∧ ws.Nodup ∧ ws ≠ [] ∧ unF f ws = none ∧
  ∀ (p : Addr) (H' : Hp) (rps : List Addr) (r : List Nat), Same H H' → H p = none → Tups encP H' p rps (cycL r) → r ≠ [] → r.Nodup → (∀ x, x ∈ r → x ∈ ws) → (∀ q, q ∈ cycL r → 0 < f q.1 q.2) → Q (.ref p) H'
set_option maxHeartbeats 0 in
theorem ok_ring_among (T : Txt K mg) : FnOk P w K mg base CX0 2 T.f_ring_among T.d_ring_among ["debts", "houses"] (sp_ring_among K) := by
  refine T.F_ring_among.ok sc_ring_among (fun vs H Q E h => ?_) (fun cdv A outer s H vs Q E hr h => ?_)
  · obtain ⟨t, l, ps, n, f, ws, rfl, _⟩ := h
    rfl
  · obtain ⟨t, l, ps, n, f, ws, rfl, ht, hn, hl, hw, hnd, hne, hu, q⟩ := h
    have G_first_debtor : FnOk P w K mg base CX0 1 T.f_first_debtor T.d_first_debtor ["debts", "houses", "creditor"] (sp_first_debtor K) := ok_first_debtor T
    refine ⟨_, (pss_cons (ps_set (i := 2) sc_ring_among.nd rfl (Or.inl rfl) (pe_lst (pa_cons (pe_ix ix_list (pv 1) pe_int (fun _ _ => rfl)) pa_nil)))
    (pss_cons (ps_set (i := 3) sc_ring_among.nd rfl (Or.inl rfl) (pe_call G_first_debtor hr (by rfl) T.m_first_debtor T.F_first_debtor.kp T.b_first_debtor .nil pass0 (pa_cons (pv 0) (pa_cons (pv 1) (pa_cons (pe_ix ix_list (pv 1) pe_int (fun _ _ => rfl)) pa_nil)))))
    (pss_cons (ps_while PassesOwn.never (pt_cmpR op_notIn_seq (pv 3) (pv 2) rfl)
      (pss_cons (ps_expr (pe_bm PySem.F.plainAttrs_list PySem.F.slot_list_append PySem.F.type_list_append mt_append (pv 2) (pa_cons (pv 3) pa_nil)))
      (pss_one (ps_set (i := 3) sc_ring_among.nd rfl (Or.inl rfl) (pe_call G_first_debtor hr (by rfl) T.m_first_debtor T.F_first_debtor.kp T.b_first_debtor .nil pass0 (pa_cons (pv 0) (pa_cons (pv 1) (pa_cons (pv 3) pa_nil))))))))
    (pss_cons (ps_set (i := 4) sc_ring_among.nd rfl (Or.inl rfl) (pe_slice sl_list (pv 2) (po_some (pe_bm PySem.F.plainAttrs_list PySem.F.slot_list_index PySem.F.type_list_index mt_index (pv 2) (pa_cons (pv 3) pa_nil))) po_none))
    (pss_one (ps_ret (pe_listZip rfl (by rfl) T.z_list (by rfl) T.z_zip (pa_cons (pe_op op_cat (pe_slice sl_list (pv 4) (po_some pe_int) po_none) (pe_slice sl_list (pv 4) po_none (po_some pe_int))) (pa_cons (pv 4) pa_nil))))))))), ?_⟩
    have hls := SqL.of (K := K) hl
    have nx : ∀ h, h ∈ ws → ∃ d, debF f ws h = some d ∧ d ∈ ws := fun h hh => by
      unfold unF at hu
      have h1 := List.find?_eq_none.mp hu h hh
      cases hd : debF f ws h with
      | none => rw [hd] at h1; exact absurd rfl h1
      | some d => exact ⟨d, rfl, List.mem_of_find?_eq_some hd⟩
    have hwl : ws.length ≤ n := by
      have := nodup_le hnd fun x hx => List.mem_range.mpr (hw x hx)
      rw [List.length_range] at this
      exact this
    obtain ⟨w0, wr, hw0⟩ : ∃ w0 wr, ws = w0 :: wr := by
      cases ws with
      | nil => exact absurd rfl hne
      | cons a b => exact ⟨a, b, rfl⟩
    have hm0 : w0 ∈ ws := by rw [hw0]; exact List.mem_cons_self
    have hat0 : atI (intsN ws) 0 = some (V.int (w0 : Int)) := by rw [hw0]; exact at_of (j := 0) rfl rfl
    obtain ⟨d0, hd0, hdm0⟩ := nx w0 hm0
    walk_at "st"
    intro Pp nP
    generalize hH1 : upd H Pp _ = H1
    have s1 : Same H H1 := hH1 ▸ same_upd nP
    have hP : H1 Pp = some (.lst (intsN [w0])) := (congrFun hH1 Pp).symm.trans upd_same
    have hls1 := s1.seq hls
    have ht1 := ht.same s1
    have hl1 := s1 _ _ hl
    walk_at "st"
    refine ⟨ps, n, f, ws, w0, rfl, ht1, hl1, hw, hw w0 hm0, ?_⟩
    rw [hd0, show optN (some d0) = V.int (d0 : Int) from rfl]
    walk_at "st"
    refine ⟨fun m σ H' => ∃ (p : List Nat) (d : Nat), σ = [some (.ref t), some (.ref l), some (.ref Pp), some (.int (d : Int)), none] ∧ m = ws.length - p.length ∧ Same H H' ∧ H' Pp = some (.lst (intsN p)) ∧ PathOk f ws p d ∧ d ∈ ws,
      ⟨_, [w0], d0, rfl, rfl, s1, hP, ⟨(fun z => by cases z), List.nodup_cons.mpr ⟨fun z => (by cases z), List.nodup_nil⟩, fun x hx => by rw [List.mem_singleton.mp hx]; exact hm0, fun i a b h1 h2 => (by cases i <;> cases h2), w0, rfl, hd0⟩, hdm0⟩, ?_⟩
    rintro m σ H' ⟨p, d, rfl, rfl, e, hP', hok, hdm⟩
    have hPs := SqL.of (K := K) hP'
    have hpl : p.length ≤ ws.length := nodup_le hok.2.1 hok.2.2.1
    have hib : inV (V.int (d : Int)) (intsN p) = decide ((d : Int) ∈ p.map fun (k : Nat) => (k : Int)) := by
      unfold intsN
      rw [show (p.map fun (k : Nat) => V.int (k : Int)) = (p.map fun (k : Nat) => (k : Int)).map V.int by rw [List.map_map]; rfl]
      exact inV_ints _ _
    have hfl : (intsN p).all flatV = true := by
      unfold intsN
      rw [show (p.map fun (k : Nat) => V.int (k : Int)) = (p.map fun (k : Nat) => (k : Int)).map V.int by rw [List.map_map]; rfl]
      exact flat_ints _
    have hdi : (d : Int) ∈ (p.map fun (k : Nat) => (k : Int)) ↔ d ∈ p := by
      rw [List.mem_map]
      exact ⟨fun ⟨k, hk, e⟩ => by have : k = d := by omega
                                  rw [← this]; exact hk, fun hk => ⟨d, hk, rfl⟩⟩
    walk_at "st"
    refine iteB (fun h => ?_) (fun h => ?_)
    · rw [if_pos rfl, hib] at h
      have hdp : d ∉ p := fun z => (ndec_t h) (hdi.mpr z)
      obtain ⟨d2, hd2, hdm2⟩ := nx d hdm
      have hpush := path_push hok hdp hdm hd2
      have hpl2 : (p ++ [d]).length ≤ ws.length := nodup_le hpush.2.1 hpush.2.2.1
      rw [List.length_append] at hpl2
      have hpl3 : p.length + 1 ≤ ws.length := hpl2
      have hplt : (intsN p).length < sizeLine := small1000 (by unfold intsN; rw [List.length_map]; omega)
      have e2 : ∀ o, Same H (upd H' Pp o) := fun o z v hz => (upd_ne (ne_of_none hz nP)).trans (e z v hz)
      refine ⟨_, fun _ _ h => h, ?_⟩
      walk_at "st"
      refine ⟨ps, n, f, ws, d, rfl, ht.same (e2 _), e2 _ _ _ hl, hw, hw d hdm, ?_⟩
      rw [hd2, show optN (some d2) = V.int (d2 : Int) from rfl]
      walk_at "st"
      refine ⟨?_, p ++ [d], d2, rfl, rfl, e2 _, ?_, hpush, hdm2⟩
      · rw [List.length_append]
        show ws.length - (p.length + 1) < _
        omega
      · rw [upd_same]
        unfold intsN
        rw [List.map_append]
        rfl
    · rw [if_pos rfl, hib] at h
      have hdp : d ∈ p := hdi.mp (ndec_f h)
      obtain ⟨i, hi⟩ := List.getElem?_of_mem hdp
      have hil := (List.getElem?_eq_some_iff.mp hi).1
      have hix1 : (intsN p)[i]? = some (V.int (d : Int)) := by unfold intsN; rw [List.getElem?_map, hi]; rfl
      have hix2 : eqV (V.int (d : Int)) (V.int (d : Int)) = true := by rw [eqV_ints]; exact decide_eq_true rfl
      have hix3 : ∀ (m : Nat) (z' : V), m < i → (intsN p)[m]? = some z' → eqV z' (V.int (d : Int)) = false := fun m z' hm hz => by
        obtain ⟨k, hk, rfl⟩ := intsN_at hz
        rw [eqV_ints]
        refine decide_eq_false fun z => ?_
        have hkd : k = d := by omega
        rw [hkd] at hk
        have := (List.getElem?_inj (by omega) hok.2.1).mp (hk.trans hi.symm)
        omega
      walk_at "st"
      intro R nR
      rw [cutN_from (by omega)]
      have hro := ring_ok hok hi
      have hr1 : 1 ≤ (p.drop i).length := by rw [List.length_drop]; omega
      have hrnd : (p.drop i).Nodup := (List.drop_sublist i p).nodup hok.2.1
      have hrin : ∀ x, x ∈ p.drop i → x ∈ ws := fun x hx => hok.2.2.1 x (List.mem_of_mem_drop hx)
      have hrl : (p.drop i).length ≤ ws.length := nodup_le hrnd hrin
      generalize p.drop i = r at *
      generalize hH2 : upd H' R _ = H2
      have s2 : Same H' H2 := hH2 ▸ same_upd nR
      have hR := SqL.of (K := K) ((congrFun hH2 R).symm.trans upd_same)
      walk_at "st"
      intro R1 nR1
      rw [show (1 : Int) = ((1 : Nat) : Int) from rfl, cutN_from hr1]
      generalize hH3 : upd H2 R1 _ = H3
      have s3 : Same H2 H3 := hH3 ▸ same_upd nR1
      have hR1 := (congrFun hH3 R1).symm.trans upd_same
      have hR3 := s3.seq hR
      walk_at "st"
      intro R2 nR2
      rw [show ((1 : Nat) : Int) = (1 : Int) from rfl, cutN_one hr1]
      generalize hH4 : upd H3 R2 _ = H4
      have s4 : Same H3 H4 := hH4 ▸ same_upd nR2
      have hR2 := (congrFun hH4 R2).symm.trans upd_same
      have hR1b := s4 _ _ hR1
      have hR4 := s4.seq hR3
      have hsz : (intsN (r.drop 1)).length + (intsN (r.take 1)).length ≤ sizeLine := len_le (Nat.ble_eq_true_of_le (by rw [intsN_len, intsN_len, List.length_drop, List.length_take]; omega))
      walk_at "st"
      intro R5 nR5
      generalize hH5 : upd H4 R5 _ = H5
      have s5 : Same H4 H5 := hH5 ▸ same_upd nR5
      have hR5 := SqL.of (K := K) ((congrFun hH5 R5).symm.trans upd_same)
      have hR55 := s5.seq hR4
      have hzl : (intsN (r.drop 1) ++ intsN (r.take 1)).length = (intsN r).length := by
        rw [List.length_append, intsN_len, intsN_len, intsN_len, List.length_drop, List.length_take]
        omega
      walk_at "st"
      intro H6 p6 ts6 e6 np6 _ hp6 hP6
      have eall : Same H H6 := (((((e.trans s2).trans s3).trans s4).trans s5).trans e6)
      exact q p6 H6 ts6 r eall (((((e.trans s2).trans s3).trans s4).trans s5).free np6) (cyc_tups hp6 hP6) (fun z => by rw [z] at hr1; exact absurd hr1 (by decide)) hrnd hrin hro

theorem cyc_in {r : List Nat} {p : Nat × Nat} (h : p ∈ cycL r) : p.1 ∈ r ∧ p.2 ∈ r := by
  have h1 : p.1 ∈ (cycL r).map (·.1) := List.mem_map.mpr ⟨p, h, rfl⟩
  have h2 : p.2 ∈ (cycL r).map (·.2) := List.mem_map.mpr ⟨p, h, rfl⟩
  have h3 := (cyc_perm r).subset h1
  rw [cyc_snd] at h2 h3
  exact ⟨h3, h2⟩
theorem cyc_length (r : List Nat) : (cycL r).length = r.length := by
  have := congrArg List.length (cyc_snd r)
  rw [List.length_map] at this
  exact this
theorem rg_ints (n : Nat) : rgV 0 (n : Int) = intsN (List.range n) := by
  unfold rgV intsN
  rw [show ((n : Int) - 0).toNat = n by omega]
  refine List.map_congr_left fun i _ => ?_
  rw [Int.zero_add]
theorem intsN_two (ws : List Nat) : intsN ws = (ws.map fun (k : Nat) => (k : Int)).map V.int := by
  unfold intsN
  rw [List.map_map]
  rfl
theorem find_at {α : Type} {p : α → Bool} : ∀ {ws : List α} {x : α}, ws.find? p = some x → ∃ i, ws[i]? = some x ∧ p x = true ∧ ∀ y, y ∈ ws.take i → p y = false
  | y :: r, x, h => by
    rw [List.find?_cons] at h
    cases hp : p y with
    | true =>
      rw [hp] at h
      obtain rfl := Option.some.inj h
      exact ⟨0, rfl, hp, fun z hz => by rw [List.take_zero] at hz; cases hz⟩
    | false =>
      rw [hp] at h
      obtain ⟨i, h1, h2, h3⟩ := find_at h
      refine ⟨i + 1, h1, h2, fun z hz => ?_⟩
      rw [List.take_succ_cons] at hz
      rcases List.mem_cons.mp hz with e | e
      · rw [e]; exact hp
      · exact h3 z e
theorem Tab.upd_out {H : Hp} {t x : Addr} {ps : List Addr} {n : Nat} {f : Nat → Nat → Int} {o : HO} (h : Tab H t ps n f) (ht : t ≠ x) (hp : x ∉ ps) : Tab (upd H x o) t ps n f :=
  ⟨(upd_ne ht).trans h.lst, h.len, fun i p hi => (upd_ne fun z => hp (by rw [← z]; exact List.mem_of_getElem? hi)).trans (h.row i p hi), h.nod, h.out⟩
def sp_unwind (K : PySem.W.Frag) : Sp := fun vs H Q _ => ∃ (t : Addr) (ps : List Addr) (n : Nat) (f : Nat → Nat → Int), vs = [.ref t] ∧ Tab H t ps n f ∧ Debts n f 1000000000000000 ∧
  ∀ (p D O : Addr) (H' : Hp) (qs : List Addr) (g : Nat → Nat → Int) (os : List Nat), Same H H' → H p = none → H' p = some (.tup [.ref D, .ref O]) → Tab H' D qs n g → H' O = some (.lst (intsN os)) → os.Perm (List.range n) → (∀ a, a < n → ∀ b, b < n → 0 ≤ g a b ∧ g a b ≤ f a b) → (∀ h, h < n → netF n g h = netF n f h) →
    (∀ (i : Nat) h, os[i]? = some h → ∀ w, w < n → w ∉ os.take i → g w h = 0) → ((∃ rk : Nat → Nat, ∀ a, a < n → ∀ b, b < n → 0 < f a b → rk a < rk b) → ∀ a, a < n → ∀ b, b < n → g a b = f a b) → Q (.ref p) H'
set_option maxHeartbeats 0 in
theorem ok_unwind (T : Txt K mg) : FnOk P w K mg base CX0 4 T.f_unwind T.d_unwind ["owed"] (sp_unwind K) := by
  refine T.F_unwind.ok sc_unwind (fun vs H Q E h => ?_) (fun cdv A outer s H vs Q E hr h => ?_)
  · obtain ⟨t, ps, n, f, rfl, _⟩ := h
    rfl
  · obtain ⟨t, ps, n, f, rfl, ht, hd, q⟩ := h
    have G_check_debts : FnOk P w K mg base CX0 3 T.f_check_debts T.d_check_debts ["owed"] (sp_check_debts K) := ok_check_debts T
    have G_first_unowed : FnOk P w K mg base CX0 2 T.f_first_unowed T.d_first_unowed ["debts", "houses"] (sp_first_unowed K) := ok_first_unowed T
    have G_without_ring : FnOk P w K mg base CX0 1 T.f_without_ring T.d_without_ring ["debts", "ring"] (sp_without_ring K) := ok_without_ring T
    have G_ring_among : FnOk P w K mg base CX0 2 T.f_ring_among T.d_ring_among ["debts", "houses"] (sp_ring_among K) := ok_ring_among T
    refine ⟨_, (pss_cons (ps_expr (pe_call G_check_debts hr (by rfl) T.m_check_debts T.F_check_debts.kp T.b_check_debts .nil pass0 (pa_cons (pv 0) pa_nil)))
    (pss_cons (ps_setLc (i := 1) (own := [("row", 2)]) (g := gName 2) (tt := tYes) rfl sc_unwind.nd rfl rfl (sw_true rfl rfl rfl (by decide +kernel)) (pi_list (pv 0)) (blkOk_by (own := [("row", 2)]) (N := N_unwind) (sc := defScope s_unwind) (by decide +kernel)) (fun _ _ _ _ _ => (pg_name (i := 2) sc_unwind.nd rfl (Or.inl rfl))) (fun _ _ _ _ _ => pts_nil) (fun _ _ _ _ _ => (pe_callTy (show CallR _ (.type "list") (rListOf K) from call_list_of) (by rfl) T.z_list (by decide +kernel) (pa_cons (pv 2) pa_nil))))
    (pss_cons (ps_set (i := 3) sc_unwind.nd rfl (Or.inl rfl) (pe_lst pa_nil))
    (pss_cons (ps_set (i := 4) sc_unwind.nd rfl (Or.inl rfl) (pe_listRg rfl (by rfl) T.z_list (prg_1 (by rfl) T.z_range (pe_callB call_len_seq (by rfl) T.z_len PySem.boot_len (pa_cons (pv 0) pa_nil)))))
    (pss_cons (ps_while PassesOwn.never (pt_truth (pv 4) (by intro _; rfl))
      (pss_cons (ps_set (i := 5) sc_unwind.nd rfl (Or.inl rfl) (pe_call G_first_unowed (hr.mono (by decide)) (by rfl) T.m_first_unowed T.F_first_unowed.kp T.b_first_unowed .nil pass0 (pa_cons (pv 1) (pa_cons (pv 4) pa_nil))))
      (pss_one (ps_if (pt_cmpR op_isN (pv 5) pe_non (nomark _))
        (pss_one (ps_set (i := 1) sc_unwind.nd rfl (Or.inl rfl) (pe_call G_without_ring (hr.mono (by decide)) (by rfl) T.m_without_ring T.F_without_ring.kp T.b_without_ring .nil pass0 (pa_cons (pv 1) (pa_cons (pe_call G_ring_among (hr.mono (by decide)) (by rfl) T.m_ring_among T.F_ring_among.kp T.b_ring_among .nil pass0 (pa_cons (pv 1) (pa_cons (pv 4) pa_nil))) pa_nil)))))
        (pss_cons (ps_expr (pe_bm PySem.F.plainAttrs_list PySem.F.slot_list_append PySem.F.type_list_append mt_append (pv 3) (pa_cons (pv 5) pa_nil)))
        (pss_one (ps_expr (pe_bm PySem.F.plainAttrs_list PySem.F.slot_list_remove PySem.F.type_list_remove mt_remove (pv 4) (pa_cons (pv 5) pa_nil)))))))))
    (pss_one (ps_ret (pe_tup (pa_cons (pv 1) (pa_cons (pv 3) pa_nil)))))))))), ?_⟩
    walk_at "st"
    refine ⟨ps, n, f, rfl, ht, hd, fun H1 e1 => ?_⟩
    have ht1 := ht.same e1
    have hn13 := hd.n1
    have hts1 := SqL.of (K := K) ht1.lst
    walk_at "st"
    intro D nD
    refine lc_copy (K := K) ht1 (by omega) nD rfl fun H2 qs e2 hT2 hfree => ?_
    walk_at "st"
    intro O nO
    generalize hH3 : upd H2 O _ = H3
    have s3 : Same H2 H3 := hH3 ▸ same_upd nO
    have hO : H3 O = some (.lst (intsN [])) := (congrFun hH3 O).symm.trans upd_same
    have sH3 := (e1.trans e2).trans s3
    have hts3 := SqL.of (K := K) (ht.same sH3).lst
    have hpl : (ps.map V.ref).length = n := by rw [List.length_map, ht.len]
    walk_at "st"
    rw [hpl]
    intro Wl nW
    rw [rg_ints]
    generalize hH4 : upd H3 Wl _ = H4
    have s4 : Same H3 H4 := hH4 ▸ same_upd nW
    have hW : H4 Wl = some (.lst (intsN (List.range n))) := (congrFun hH4 Wl).symm.trans upd_same
    have hT4 := (hT2.same s3).same s4
    have nWO : Wl ≠ O := fun z => by rw [z, hO] at nW; cases nW
    have nOH : H O = none := (e1.trans e2).free nO
    have nWH : H Wl = none := sH3.free nW
    walk_at "st"
    refine ⟨fun m σ H' => ∃ (v2 v5 : Option V) (Dg : Addr) (qs : List Addr) (g : Nat → Nat → Int) (os ws : List Nat), σ = [some (.ref t), some (.ref Dg), v2, some (.ref O), some (.ref Wl), v5] ∧ m = ws.length + (totF n g).toNat ∧ Same H H' ∧ Tab H' Dg qs n g ∧ H' O = some (.lst (intsN os)) ∧ H' Wl = some (.lst (intsN ws)) ∧ (Dg ≠ O ∧ Dg ≠ Wl ∧ O ∉ qs ∧ Wl ∉ qs) ∧
        (os ++ ws).Perm (List.range n) ∧ (∀ a, a < n → ∀ b, b < n → 0 ≤ g a b ∧ g a b ≤ f a b) ∧ (∀ h, h < n → netF n g h = netF n f h) ∧ (∀ (i : Nat) h, os[i]? = some h → ∀ w, w < n → w ∉ os.take i → g w h = 0) ∧ ((∃ rk : Nat → Nat, ∀ a, a < n → ∀ b, b < n → 0 < f a b → rk a < rk b) → ∀ a, a < n → ∀ b, b < n → g a b = f a b),
      ⟨_, _, _, D, qs, f, [], List.range n, rfl, rfl, sH3.trans s4, hT4, s4 _ _ hO, hW, ⟨?_, ?_, ?_, ?_⟩, List.Perm.refl _, fun a ha b hb => ⟨(hd.b a ha b hb).1, Int.le_refl _⟩, fun _ _ => rfl, fun i h hi => (by cases hi), fun _ _ _ _ _ => rfl⟩, ?_⟩
    · exact fun z => by have := hT2.lst; rw [z, nO] at this; cases this
    · exact fun z => by have := (hT2.same s3).lst; rw [z, nW] at this; cases this
    · intro z
      obtain ⟨i, hi⟩ := List.getElem?_of_mem z
      have := hT2.row i O hi
      rw [nO] at this
      cases this
    · intro z
      obtain ⟨i, hi⟩ := List.getElem?_of_mem z
      have := (hT2.same s3).row i Wl hi
      rw [nW] at this
      cases this
    · rintro m σ H' ⟨v2, v5, Dg, qs, g, os, ws, rfl, rfl, e, hT, hO', hW', ⟨x1, x2, x3, x4⟩, hpm, hb, hnet, hord, hrk⟩
      have hWs := SqL.of (K := K) hW'
      have hwn : ∀ w, w ∈ ws → w < n := fun w hw => List.mem_range.mp (hpm.subset (List.mem_append_right _ hw))
      have hnd : (os ++ ws).Nodup := hpm.nodup_iff.mpr List.nodup_range
      have hwnd := (List.nodup_append.mp hnd).2.1
      cases ws with
      | nil =>
        rw [List.append_nil] at hpm
        walk_at "st"
        intro p np
        have sp := same_upd (o := HO.tup [V.ref Dg, V.ref O]) np
        exact q p Dg O _ qs g os (e.trans sp) (e.free np) upd_same (hT.same sp) (sp _ _ hO') hpm hb hnet hord hrk
      | cons w0 wr =>
        have hem : (!(intsN (w0 :: wr)).isEmpty) = true := rfl
        have hwl : (w0 :: wr).length ≤ n := by
          have := nodup_le hwnd fun x hx => List.mem_range.mpr (hwn x hx)
          rw [List.length_range] at this
          exact this
        walk_at "st"
        refine iteT ⟨_, fun _ _ h => h, ?_⟩
        walk_at "st"
        refine ⟨qs, n, g, w0 :: wr, rfl, hT, hW', hwn, ?_⟩
        cases hu : unF g (w0 :: wr) with
        | none =>
          walk_at "st"
          refine ⟨qs, n, g, w0 :: wr, rfl, hT, hn13, hW', hwn, hwnd, (fun z => by cases z), hu, fun p8 H8 rps r e8 np8 hT8 hrne hrnd hrin hrpos => ?_⟩
          have hcn : ∀ p, p ∈ cycL r → p.1 < n ∧ p.2 < n := fun p hp => ⟨hwn _ (hrin _ (cyc_in hp).1), hwn _ (hrin _ (cyc_in hp).2)⟩
          have hrl : r.length ≤ (w0 :: wr).length := nodup_le hrnd hrin
          have hcl := cyc_length r
          walk_at "st"
          refine ⟨qs, n, g, rps, cycL r, rfl, hT.same e8, hn13, hT8, hcn, (fun z => hrne (List.length_eq_zero_iff.mp (by rw [← hcl, z]; rfl))), by omega, fun t9 H9 qs9 m9 e9 nt9 hT9 hm1 hm2 hfr9 => ?_⟩
          have e89 := e8.trans e9
          have hat : ∀ a b, redF g m9 (cycL r) a b = if (a, b) ∈ cycL r then g a b - m9 else g a b := fun a b => red_at (by rw [cyc_snd]; exact hrnd)
          have hm0 : 0 < m9 := by
            obtain ⟨p, hp, hpm9⟩ := hm2
            rw [hpm9]
            exact hrpos p hp
          have hb9 : ∀ a, a < n → ∀ b, b < n → 0 ≤ redF g m9 (cycL r) a b ∧ redF g m9 (cycL r) a b ≤ g a b := fun a ha b hb2 => by
            rw [hat]
            have := (hb a ha b hb2).1
            split
            · next hin => have : m9 ≤ g a b := hm1 _ hin; omega
            · omega
          have hlt : totF n (redF g m9 (cycL r)) < totF n g := by
            rw [tot_red hcn, hcl]
            have h1 : 1 ≤ (r.length : Int) := by
              have := List.length_pos_iff.mpr hrne
              omega
            have h2 : m9 * 1 ≤ m9 * (r.length : Int) := Int.mul_le_mul_of_nonneg_left h1 (by omega)
            omega
          have h0 := tot_nn fun a ha b hb2 => (hb9 a ha b hb2).1
          refine ⟨(w0 :: wr).length + (totF n (redF g m9 (cycL r))).toNat, by omega, _, _, t9, qs9, redF g m9 (cycL r), os, w0 :: wr, rfl, rfl, e.trans e89, hT9, e89 _ _ hO', e89 _ _ hW', ⟨?_, ?_, ?_, ?_⟩, hpm, fun a ha b hb2 => ⟨(hb9 a ha b hb2).1, Int.le_trans (hb9 a ha b hb2).2 (hb a ha b hb2).2⟩, fun h hh => (net_cyc fun x hx => hwn _ (hrin x hx)).trans (hnet h hh), fun i h hi w hw hwo => ?_, fun ⟨rk, hrk2⟩ => ?_⟩
          · exact fun z => by rw [z, e8 _ _ hO'] at nt9; cases nt9
          · exact fun z => by rw [z, e8 _ _ hW'] at nt9; cases nt9
          · exact fun z => by have := hfr9 _ z; rw [e8 _ _ hO'] at this; cases this
          · exact fun z => by have := hfr9 _ z; rw [e8 _ _ hW'] at this; cases this
          · have hh : h < n := List.mem_range.mp (hpm.subset (List.mem_append_left _ (List.mem_of_getElem? hi)))
            have h1 := hord i h hi w hw hwo
            have h2 := hb9 w hw h hh
            omega
          · exfalso
            refine no_rank (rk := rk) hu (fun z => by cases z) fun a ha b hb2 hpos => hrk2 a (hwn a ha) b (hwn b hb2) ?_
            have := (hb a (hwn a ha) b (hwn b hb2)).2
            omega
        | some h =>
          rw [show optN (some h) = V.int (h : Int) from rfl]
          obtain ⟨j, hj1, hj2, hj3⟩ := find_at hu
          have hhw := List.mem_of_getElem? hj1
          have hol : os.length < 1000 := by
            have := hpm.length_eq
            rw [List.length_append, List.length_range] at this
            omega
          have hosl : (intsN os).length < sizeLine := small1000 (by unfold intsN; rw [List.length_map]; omega)
          have hwO : Wl ≠ O := fun z => nWO z
          have hW6 := (upd_ne (o := HO.lst (intsN os ++ [V.int (h : Int)])) hwO).trans hW'
          rw [intsN_two (w0 :: wr)] at hW6
          have hjk : ((w0 :: wr).map fun (k : Nat) => (k : Int))[j]? = some (h : Int) := by rw [List.getElem?_map, hj1]; rfl
          have hah : ∀ m : Nat, m < j → ((w0 :: wr).map fun (k : Nat) => (k : Int))[m]? ≠ some (h : Int) := fun m hm z => by
            rw [List.getElem?_map] at z
            cases hx : (w0 :: wr)[m]? with
            | none => rw [hx] at z; cases z
            | some y =>
              rw [hx] at z
              have hyh : y = h := by
                have : (y : Int) = (h : Int) := Option.some.inj z
                omega
              have hyt : y ∈ (w0 :: wr).take j := List.mem_of_getElem? (show ((w0 :: wr).take j)[m]? = some y by rw [List.getElem?_take_of_lt hm]; exact hx)
              have := hj3 y hyt
              rw [hyh] at this
              rw [this] at hj2
              cases hj2
          walk_at "st"
          have hjl := (List.getElem?_eq_some_iff.mp hj1).1
          have her : (w0 :: wr).eraseIdx j = (w0 :: wr).take j ++ (w0 :: wr).drop (j + 1) := List.eraseIdx_eq_take_drop_succ _ _
          have hwp : (w0 :: wr).Perm (h :: (w0 :: wr).eraseIdx j) := by
            rw [her]
            have h1 : (w0 :: wr) = (w0 :: wr).take j ++ h :: (w0 :: wr).drop (j + 1) := by
              conv => lhs; rw [← List.take_append_drop j (w0 :: wr), List.drop_eq_getElem_cons hjl, (List.getElem?_eq_some_iff.mp hj1).2]
            conv => lhs; rw [h1]
            exact List.perm_middle
          have hlen : (w0 :: wr).length = ((w0 :: wr).eraseIdx j).length + 1 := hwp.length_eq
          refine ⟨?_, _, _, Dg, qs, g, os ++ [h], (w0 :: wr).eraseIdx j, rfl, rfl, fun z o hz => ?_, (hT.upd_out x1 x3).upd_out x2 x4, ?_, ?_, ⟨x1, x2, x3, x4⟩, ?_, hb, hnet, fun i h' hi w hw hwo => ?_, hrk⟩
          · omega
          · rw [upd_ne (ne_of_none hz nWH), upd_ne (ne_of_none hz nOH)]
            exact e _ _ hz
          · refine (upd_ne nWO.symm).trans ?_
            rw [upd_same]
            unfold intsN
            rw [List.map_append]
            rfl
          · rw [upd_same, intsN_two, her, List.eraseIdx_eq_take_drop_succ]
            simp only [List.map_append, List.map_take, List.map_drop]
          · rw [List.append_assoc]
            exact (List.Perm.append_left os hwp.symm).trans hpm
          · by_cases hio : i < os.length
            · rw [List.getElem?_append_left hio] at hi
              rw [List.take_append_of_le_length (by omega)] at hwo
              exact hord i h' hi w hw hwo
            · have hi2 : i < (os ++ [h]).length := (List.getElem?_eq_some_iff.mp hi).1
              rw [List.length_append] at hi2
              have hi3 : i = os.length := by
                have : [h].length = 1 := rfl
                omega
              rw [hi3, List.getElem?_append_right (Nat.le_refl _), Nat.sub_self] at hi
              have hh : h = h' := Option.some.inj hi
              rw [hi3, List.take_append_of_le_length (Nat.le_refl _), List.take_of_length_le (Nat.le_refl _)] at hwo
              have hwin : w ∈ w0 :: wr := by
                have := hpm.symm.subset (List.mem_range.mpr hw)
                rcases List.mem_append.mp this with z | z
                · exact absurd z hwo
                · exact z
              rw [← hh]
              have hnone : debF g (w0 :: wr) h = none := by
                cases hd2 : debF g (w0 :: wr) h with
                | none => rfl
                | some d => rw [hd2] at hj2; cases hj2
              unfold debF at hnone
              have h1 := List.find?_eq_none.mp hnone w hwin
              have h2 := (hb w hw h (hwn h hhw)).1
              have h3 : ¬ 0 < g w h := fun z => h1 (decide_eq_true z)
              omega

theorem perm_sorted : ∀ {a b : List Int}, a.Perm b → a.Pairwise (· ≤ ·) → b.Pairwise (· ≤ ·) → a = b
  | [], b, h, _, _ => (List.nil_perm.mp h).symm
  | x :: a, [], h, _, _ => absurd h.length_eq (by rw [List.length_cons, List.length_nil]; omega)
  | x :: a, y :: b, h, h1, h2 => by
    obtain ⟨p1, p2⟩ := List.pairwise_cons.mp h1
    obtain ⟨q1, q2⟩ := List.pairwise_cons.mp h2
    have e : x = y := by
      have m1 : x ∈ y :: b := h.subset List.mem_cons_self
      have m2 : y ∈ x :: a := h.symm.subset List.mem_cons_self
      rcases List.mem_cons.mp m1 with z | z
      · exact z
      · rcases List.mem_cons.mp m2 with w | w
        · exact w.symm
        · have := p1 y w
          have := q1 x z
          omega
    subst e
    rw [perm_sorted h.cons_inv p2 q2]
theorem idx_at {os : List Nat} {h : Nat} (hm : h ∈ os) : os[os.idxOf h]? = some h := by
  have l := List.idxOf_lt_length_iff.mpr hm
  rw [List.getElem?_eq_getElem l, List.getElem_idxOf]
theorem idx_is {os : List Nat} {h m : Nat} (hn : os.Nodup) (hm : os[m]? = some h) : os.idxOf h = m :=
  (List.getElem?_inj (List.idxOf_lt_length_iff.mpr (List.mem_of_getElem? hm)) hn).mp ((idx_at (List.mem_of_getElem? hm)).trans hm.symm)
theorem row_sorted : ∀ n : Nat, (rowI n fun k => (k : Int)).Pairwise (· ≤ ·)
  | 0 => List.Pairwise.nil
  | n + 1 => by
    rw [rowI_succ]
    refine List.pairwise_append.mpr ⟨row_sorted n, List.pairwise_singleton _ _, fun x hx y hy => ?_⟩
    rw [List.mem_singleton.mp hy]
    obtain ⟨k, hk, hx2⟩ := rowI_mem.mp hx
    have hx2 : (k : Int) = x := hx2
    omega
def sp_law_net (K : PySem.W.Frag) : Sp := fun vs H Q _ => ∃ (t : Addr) (ps : List Addr) (n : Nat) (f : Nat → Nat → Int) (h : Nat), vs = [.ref t, .int (h : Int)] ∧ Tab H t ps n f ∧ n ≤ 13 ∧ h < n ∧ ∀ H', Same H H' → Q (.int (netF n f h)) H'
set_option maxHeartbeats 0 in
theorem ok_law_net (T : Txt K mg) : FnOk P w K mg base CX0 1 T.f_law_net T.d_law_net ["owed", "house"] (sp_law_net K) := by
  refine T.F_law_net.ok sc_law_net (fun vs H Q E h => ?_) (fun cdv A outer s H vs Q E hr h => ?_)
  · obtain ⟨t, ps, n, f, h, rfl, _⟩ := h
    rfl
  · obtain ⟨t, ps, n, f, h, rfl, ht, hn, hh, q⟩ := h
    
    refine ⟨_, (pss_one (ps_ret (pe_op op_sub (pe_callB (cr_sum rfl) (by rfl) T.z_sum (by decide +kernel) (pa_cons (pe_lc (own := [("row", 2)]) (g := gName 2) (tt := tYes) rfl sc_law_net.nd (pi_list (pv 0)) (blkOk_by (own := [("row", 2)]) (N := N_law_net) (sc := defScope s_law_net) (by decide +kernel)) (fun _ _ _ _ _ => (pg_name (i := 2) sc_law_net.nd rfl (Or.inl rfl))) (fun _ _ _ _ _ => pts_nil) (fun _ _ _ _ _ => (pe_ix (show IxR _ (rIxL K) from ix_list) (pv 2) (pv 1) (fun _ _ => rfl)))) pa_nil)) (pe_callB (cr_sum rfl) (by rfl) T.z_sum (by decide +kernel) (pa_cons (pe_ix ix_list (pv 0) (pv 1) (fun _ _ => rfl)) pa_nil))))), ?_⟩
    have hts := SqL.of (K := K) ht.lst
    walk_at "st"
    intro C nC
    refine lc_col ht (by omega) hh nC rfl (by decide) rfl ?_
    generalize hH1 : upd H C _ = H1
    have s1 : Same H H1 := hH1 ▸ same_upd nC
    have hC := SqL.of (K := K) ((congrFun hH1 C).symm.trans upd_same)
    have ht1 := ht.same s1
    have hts1 := SqL.of (K := K) ht1.lst
    obtain ⟨p, hp, hpa, hpr⟩ := ht1.at hh
    have hps := SqL.of (K := K) hpr
    walk_at "st"
    exact q _ s1
def sp_law (K : PySem.W.Frag) : Sp := fun vs H Q _ => ∃ (a : Addr) (ns : List Int), vs = [.ref a] ∧ SqL K H a (ns.map V.int) ∧ ns.length ≤ 63 ∧ ∀ H', Q (.bl true) H'
set_option maxHeartbeats 0 in
theorem ok_law {f : Addr} {fd : FuncData} (T : Txt K mg) (F : Fun K "law" "law" s_law f fd) : FnOk P w K mg base CX0 5 f fd ["script"] (sp_law K) := by
  refine F.ok sc_law (fun vs H Q E h => ?_) (fun cdv A outer s H vs Q E hr h => ?_)
  · obtain ⟨a, ns, rfl, _⟩ := h
    rfl
  · obtain ⟨a, ns, rfl, hs, hlen, q⟩ := h
    have G_law_market : FnOk P w K mg base CX0 3 T.f_law_market T.d_law_market ["script"] (sp_law_market K) := ok_law_market T
    have G_unwind : FnOk P w K mg base CX0 4 T.f_unwind T.d_unwind ["owed"] (sp_unwind K) := ok_unwind T
    have G_law_table : FnOk P w K mg base CX0 2 T.f_law_table T.d_law_table ["actual", "count"] (sp_law_table K) := ok_law_table T
    have G_law_integers : FnOk P w K mg base CX0 1 T.f_law_integers T.d_law_integers ["actual", "count"] (sp_law_integers K) := ok_law_integers T
    have G_law_net : FnOk P w K mg base CX0 1 T.f_law_net T.d_law_net ["owed", "house"] (sp_law_net K) := ok_law_net T
    refine ⟨_, (pss_cons (ps_set (i := 1) sc_law.nd rfl (Or.inl rfl) (pe_call G_law_market (hr.mono (by decide)) (by rfl) T.m_law_market T.F_law_market.kp T.b_law_market .nil pass0 (pa_cons (pv 0) pa_nil)))
    (pss_cons (ps_set (i := 2) sc_law.nd rfl (Or.inl rfl) (pe_callB call_len_seq (by rfl) T.z_len PySem.boot_len (pa_cons (pv 1) pa_nil)))
    (pss_cons (ps_setLc (i := 3) (own := [("row", 4)]) (g := gName 4) (tt := tYes) rfl sc_law.nd rfl rfl (sw_true rfl rfl rfl (by decide +kernel)) (pi_list (pv 1)) (blkOk_by (own := [("row", 4)]) (N := N_law) (sc := defScope s_law) (by decide +kernel)) (fun _ _ _ _ _ => (pg_name (i := 4) sc_law.nd rfl (Or.inl rfl))) (fun _ _ _ _ _ => pts_nil) (fun _ _ _ _ _ => (pe_callTy (show CallR _ (.type "list") (rListOf K) from call_list_of) (by rfl) T.z_list (by decide +kernel) (pa_cons (pv 4) pa_nil))))
    (pss_cons (ps_set (i := 5) sc_law.nd rfl (Or.inl rfl) (pe_call G_unwind hr (by rfl) T.m_unwind T.F_unwind.kp T.b_unwind .nil pass0 (pa_cons (pv 1) pa_nil)))
    (pss_cons (ps_if (PW.pt (pw_or (pt_cmpR (op_neD hr.units) (pv 1) (pv 3) (nomark _)) (pw_or (pt_not (pt_val (pe_callB call_isi (by rfl) T.z_isinstance (by decide +kernel) (pa_cons (pv 5) (pa_cons (pe_bltn (v := .ty "tuple") (u := .type "tuple") (by rfl) T.z_tuple (by decide +kernel) rfl) pa_nil))))) (pw_or1 (pt_cmpR op_ne (pe_callB call_len_seq (by rfl) T.z_len PySem.boot_len (pa_cons (pv 5) pa_nil)) pe_int (nomark _))))))
      (pss_one (ps_ret pe_bl))
      pss_nil)
    (pss_cons (ps_set (i := 6) sc_law.nd rfl (Or.inl rfl) (pe_ix ix_tup (pv 5) pe_int (fun _ _ => rfl)))
    (pss_cons (ps_set (i := 7) sc_law.nd rfl (Or.inl rfl) (pe_ix ix_tup (pv 5) pe_int (fun _ _ => rfl)))
    (pss_cons (ps_if (PW.pt (pw_or (pt_not (pt_val (pe_call G_law_table (hr.mono (by decide)) (by rfl) T.m_law_table T.F_law_table.kp T.b_law_table .nil pass0 (pa_cons (pv 6) (pa_cons (pv 2) pa_nil))))) (pw_or1 (pt_not (pt_val (pe_call G_law_integers (hr.mono (by decide)) (by rfl) T.m_law_integers T.F_law_integers.kp T.b_law_integers .nil pass0 (pa_cons (pv 7) (pa_cons (pv 2) pa_nil))))))))
      (pss_one (ps_ret pe_bl))
      pss_nil)
    (pss_cons (ps_if (pt_cmpR (op_neD hr.units) (pe_callB cr_sorted (by rfl) T.z_sorted (by decide +kernel) (pa_cons (pv 7) pa_nil)) (pe_lc (own := [("k", 8)]) (g := gName 8) (tt := tYes) rfl sc_law.nd (pi_range1 (by rfl) T.z_range (pa_cons (pv 2) pa_nil)) (blkOk_by (own := [("k", 8)]) (N := N_law) (sc := defScope s_law) (by decide +kernel)) (fun _ _ _ _ _ => (pg_name (i := 8) sc_law.nd rfl (Or.inl rfl))) (fun _ _ _ _ _ => pts_nil) (fun _ _ _ _ _ => (pv 8))) (nomark _))
      (pss_one (ps_ret pe_bl))
      pss_nil)
    (pss_cons (ps_for PassesOwn.never rfl (pi_range1 (by rfl) T.z_range (pa_cons (pv 2) pa_nil)) (pg_name (i := 9) sc_law.nd rfl (Or.inl rfl))
      (pss_cons (ps_if (pt_cmpR op_ne (pe_call G_law_net (hr.mono (by decide)) (by rfl) T.m_law_net T.F_law_net.kp T.b_law_net .nil pass0 (pa_cons (pv 6) (pa_cons (pv 9) pa_nil))) (pe_call G_law_net (hr.mono (by decide)) (by rfl) T.m_law_net T.F_law_net.kp T.b_law_net .nil pass0 (pa_cons (pv 3) (pa_cons (pv 9) pa_nil))) (nomark _))
        (pss_one (ps_ret pe_bl))
        pss_nil)
      (pss_one (ps_for PassesOwn.never rfl (pi_range1 (by rfl) T.z_range (pa_cons (pv 2) pa_nil)) (pg_name (i := 10) sc_law.nd rfl (Or.inl rfl))
        (pss_cons (ps_if (PW.pt (pw_or (pt_cmpR op_lt (pe_ix ix_list (pe_ix ix_list (pv 6) (pv 9) (fun _ _ => rfl)) (pv 10) (fun _ _ => rfl)) pe_int (nomark _)) (pw_or1 (pt_cmpR op_gt (pe_ix ix_list (pe_ix ix_list (pv 6) (pv 9) (fun _ _ => rfl)) (pv 10) (fun _ _ => rfl)) (pe_ix ix_list (pe_ix ix_list (pv 3) (pv 9) (fun _ _ => rfl)) (pv 10) (fun _ _ => rfl)) (nomark _)))))
          (pss_one (ps_ret pe_bl))
          pss_nil)
        (pss_one (ps_if (PW.pt (pw_and (pt_cmpR op_gt (pe_ix ix_list (pe_ix ix_list (pv 6) (pv 9) (fun _ _ => rfl)) (pv 10) (fun _ _ => rfl)) pe_int (nomark _)) (pw_and1 (pt_cmpR op_ge (pe_bm PySem.F.plainAttrs_list PySem.F.slot_list_index PySem.F.type_list_index mt_index (pv 7) (pa_cons (pv 9) pa_nil)) (pe_bm PySem.F.plainAttrs_list PySem.F.slot_list_index PySem.F.type_list_index mt_index (pv 7) (pa_cons (pv 10) pa_nil)) (nomark _)))))
          (pss_one (ps_ret pe_bl))
          pss_nil)))))))
    (pss_cons (ps_set (i := 11) sc_law.nd rfl (Or.inl rfl) (pe_call G_unwind hr (by rfl) T.m_unwind T.F_unwind.kp T.b_unwind .nil pass0 (pa_cons (pe_lc (own := [("row", 4)]) (g := gName 4) (tt := tYes) rfl sc_law.nd (pi_list (pv 6)) (blkOk_by (own := [("row", 4)]) (N := N_law) (sc := defScope s_law) (by decide +kernel)) (fun _ _ _ _ _ => (pg_name (i := 4) sc_law.nd rfl (Or.inl rfl))) (fun _ _ _ _ _ => pts_nil) (fun _ _ _ _ _ => (pe_callTy (show CallR _ (.type "list") (rListOf K) from call_list_of) (by rfl) T.z_list (by decide +kernel) (pa_cons (pv 4) pa_nil)))) pa_nil)))
    (pss_one (ps_ret (pe_and (pe_callB call_isi (by rfl) T.z_isinstance (by decide +kernel) (pa_cons (pv 11) (pa_cons (pe_bltn (v := .ty "tuple") (u := .type "tuple") (by rfl) T.z_tuple (by decide +kernel) rfl) pa_nil))) (pe_and (pe_cmpR op_eq (pe_callB call_len_seq (by rfl) T.z_len PySem.boot_len (pa_cons (pv 11) pa_nil)) pe_int (nomark _)) (pe_one (pe_cmpR (op_eqD hr.units) (pe_ix ix_tup (pv 11) pe_int (fun _ _ => rfl)) (pv 6) (nomark _)))))))))))))))))), ?_⟩
    walk_at "st"
    intro t H1 ps n f e1 nt ht hd hn
    have hts := SqL.of (K := K) ht.lst
    walk_at "st"
    intro D nD
    have hn12 := hn
    refine lc_copy (K := K) ht (by have := hd.n1; omega) nD rfl fun H2 qs e2 hT2 hfree => ?_
    have ht2 := ht.same e2
    walk_at "st"
    refine ⟨ps, n, f, rfl, ht2, hd.mono (by omega), fun p3 D3 O3 H3 qs3 g os e3 np3 hp3 hg hO3 hpm hb hnet hord hrk => ?_⟩
    have ht3 := ht2.same e3
    have hT3 := hT2.same e3
    have hps3 := SqT.of (K := K) hp3
    have a0 : atI [V.ref D3, V.ref O3] 0 = some (.ref D3) := rfl
    have a1 : atI [V.ref D3, V.ref O3] 1 = some (.ref O3) := rfl
    walk_at "st"
    refine neL layD_tab (by decide) (a := tabL n f) (b := tabL n f) (fun _ _ _ _ => trivial) (fun _ _ _ _ => trivial) ht3.dp hT3.dp ?_
    rw [decide_eq_true rfl]
    walk_at "st"
    refine ⟨_, _, true, rfl, .ty _, .base (.tup hp3), kit_ty (by decide +kernel), ?_⟩
    walk_at "st"
    have hpsl : (ps.map V.ref).length = n := by rw [List.length_map, ht.len]
    rw [hpsl]
    refine ⟨qs3, n, g, rfl, hg, ?_⟩
    have hosl : os.length = n := by
      have := hpm.length_eq
      rw [List.length_range] at this
      exact this
    rw [intsN_two] at hO3
    have hO3s := SqL.of (K := K) hO3
    have hol2 : ((os.map fun (k : Nat) => (k : Int)).length : Int) = (n : Int) := by rw [List.length_map, hosl]
    have hol64 : (os.map fun (k : Nat) => (k : Int)).length < 64 := by rw [List.length_map, hosl]; have := hd.n1; omega
    walk_at "st"
    intro ns' p4 hpm4 hs4 np4
    have s4 := same_upd (o := HO.lst (ns'.map V.int)) np4
    have hns4 := SqL.of (K := K) (upd_same (H := H3) (a := p4) (o := HO.lst (ns'.map V.int)))
    generalize hH4 : upd H3 p4 (HO.lst (ns'.map V.int)) = H4 at *
    walk_at "st"
    intro Cl nCl
    refine lc_range (lo := 0) (n := (n : Int).toNat) (fun i H' => H' = upd H4 Cl (.lst ((rowI i fun k => (k : Int)).map V.int))) rfl ?_ ?_
    · rintro i H' hi rfl
      rw [show (0 : Int) + i = ((i : Nat) : Int) by omega]
      have hi64 : i < 1000 := by have := hd.n1; omega
      refine ⟨rfl, ?_⟩
      refine ⟨_, rfl, ?_⟩
      exact ⟨_, upd_same, small1000 (by rw [List.length_map, rowI_len]; omega), by rw [upd_upd, rowI_succ, List.map_append]; rfl⟩
    · rintro H' rfl
      have s5 := same_upd (o := HO.lst ((rowI (n : Int).toNat fun k => (k : Int)).map V.int)) nCl
      have hCl := SqL.of (K := K) (upd_same (H := H4) (a := Cl) (o := HO.lst ((rowI (n : Int).toNat fun k => (k : Int)).map V.int)))
      generalize hH5 : upd H4 Cl (HO.lst ((rowI (n : Int).toNat fun k => (k : Int)).map V.int)) = H5 at *
      refine neD_ints (s5.seq hns4) hCl ?_
      have hrow : ∀ m : Nat, (rowI m fun k => (k : Int)) = (List.range m).map fun (k : Nat) => (k : Int) := fun m => rfl
      have hns : ns' = rowI (n : Int).toNat fun k => (k : Int) := by
        refine perm_sorted ?_ hs4 (row_sorted _)
        rw [hrow, Int.toNat_natCast]
        exact hpm4.trans (hpm.map _)
      rw [decide_eq_true hns]
      have s35 := s4.trans s5
      have ht5 := ht3.same s35
      have hT5 := hT3.same s35
      have hg5 := hg.same s35
      have hO5 := s35.seq hO3s
      have hgs5 := SqL.of (K := K) hg5.lst
      have hnd : os.Nodup := hpm.nodup_iff.mpr List.nodup_range
      have hmem : ∀ h, h < n → h ∈ os := fun h hh => hpm.symm.subset (List.mem_range.mpr hh)
      have hn64 : n ≤ 13 := hd.n1
      have hix : ∀ h, h < n → ((os.map fun (k : Nat) => (k : Int)).map V.int)[os.idxOf h]? = some (V.int (h : Int)) ∧ eqV (V.int (h : Int)) (V.int (h : Int)) = true ∧ ∀ (m : Nat) (z' : V), m < os.idxOf h → ((os.map fun (k : Nat) => (k : Int)).map V.int)[m]? = some z' → eqV z' (V.int (h : Int)) = false := fun h hh => by
        refine ⟨by rw [List.getElem?_map, List.getElem?_map, idx_at (hmem h hh)]; rfl, by rw [eqV_ints]; exact decide_eq_true rfl, fun m z' hm hz => ?_⟩
        rw [List.getElem?_map, List.getElem?_map] at hz
        cases hx : os[m]? with
        | none => rw [hx] at hz; cases hz
        | some y =>
          rw [hx] at hz
          have hz : some (V.int (y : Int)) = some z' := hz
          rw [← Option.some.inj hz, eqV_ints]
          refine decide_eq_false fun z => ?_
          have hyh : y = h := by omega
          rw [hyh] at hx
          have := idx_is hnd hx
          omega
      walk_at "st"
      refine for_range (lo := 0) (n := (n : Int).toNat) (fun i σ H' => (∃ (v9 v10 : Option V), σ = [some (.ref a), some (.ref t), some (.int (n : Int)), some (.ref D), none, some (.ref p3), some (.ref D3), some (.ref O3), none, v9, v10, none]) ∧ Same H5 H') ⟨⟨none, none, rfl⟩, Same.refl _⟩ ?_ ?_
      · rintro i σ H6 hi ⟨⟨v9, v10, rfl⟩, e6⟩
        have hi2 : i < n := by omega
        rw [show (0 : Int) + i = ((i : Nat) : Int) by omega]
        have ht6 := ht5.same e6
        have hT6 := hT5.same e6
        have hg6 := hg5.same e6
        walk_at "st"
        refine ⟨qs3, n, g, i, rfl, hg6, hn64, hi2, fun H7 e7 => ?_⟩
        walk_at "st"
        refine ⟨qs, n, f, i, rfl, hT6.same e7, hn64, hi2, fun H8 e8 => ?_⟩
        have e68 := (e6.trans e7).trans e8
        have hT8 := hT5.same e68
        have hg8 := hg5.same e68
        walk_at "st"
        refine iteB (fun h => (ndec_t h (congrArg V.int (hnet i hi2))).elim) (fun _ => ?_)
        walk_at "st"
        refine for_range (lo := 0) (n := (n : Int).toNat) (fun j σ H' => (∃ v10 : Option V, σ = [some (.ref a), some (.ref t), some (.int (n : Int)), some (.ref D), none, some (.ref p3), some (.ref D3), some (.ref O3), none, some (.int (i : Int)), v10, none]) ∧ H' = H8) ⟨⟨_, rfl⟩, rfl⟩ ?_ ?_
        · rintro j σ H9 hj ⟨⟨v10, rfl⟩, rfl⟩
          have hj2 : j < n := by omega
          rw [show (0 : Int) + j = ((j : Nat) : Int) by omega]
          obtain ⟨x1, hx1, hx2, hx3⟩ := hg8.at hi2
          obtain ⟨z1, hz1, hz2, hz3⟩ := hT8.at hi2
          have hx4 : SqL K H9 x1 ((rowI n (g i)).map V.int) := SqL.of hx3
          have hz4 : SqL K H9 z1 ((rowI n (f i)).map V.int) := SqL.of hz3
          have hgs8 := SqL.of (K := K) hg8.lst
          have hTs8 := SqL.of (K := K) hT8.lst
          have hO8 := e68.seq hO5
          have c1 := atI_row (g := g i) hj2
          have c2 := atI_row (g := f i) hj2
          have hbb := hb i hi2 j hj2
          walk_at "st"
          refine iteB (fun h => absurd (dec_t h) (by omega)) (fun _ => ?_)
          walk_at "st"
          refine iteB (fun h => absurd (dec_t h) (by omega)) (fun _ => ?_)
          walk_at "st"
          refine iteB (fun h => ?_) (fun _ => ?_)
          · have hpos := dec_t h
            obtain ⟨m1, p1, q1⟩ := hix i hi2
            obtain ⟨m2, p2, q2⟩ := hix j hj2
            have hlt : os.idxOf i < os.idxOf j := by
              have hmj := idx_at (hmem j hj2)
              have hz : i ∈ os.take (os.idxOf j) := Classical.byContradiction fun z => by
                have := hord _ j hmj i hi2 z
                omega
              obtain ⟨k, hk⟩ := List.getElem?_of_mem hz
              have hkl : k < os.idxOf j := by
                have := (List.getElem?_eq_some_iff.mp hk).1
                rw [List.length_take] at this
                omega
              rw [List.getElem?_take_of_lt hkl] at hk
              rw [idx_is hnd hk]
              exact hkl
            have hfl := flat_ints (os.map fun (k : Nat) => (k : Int))
            walk_at "st"
            refine ⟨.inl ⟨rfl, _, hO8⟩, _, rfl, O3, _, _, _, _, rfl, rfl, hO8, rfl, hfl, m1, p1, q1, _, rfl, .inl ⟨rfl, _, hO8⟩, _, rfl, O3, _, _, _, _, rfl, rfl, hO8, rfl, hfl, m2, p2, q2, ?_⟩
            walk_at "st"
            refine iteB (fun h => ?_) (fun _ => ⟨⟨_, rfl⟩, rfl⟩)
            have := dec_t h
            omega
          · exact ⟨⟨_, rfl⟩, rfl⟩
        · rintro σ H9 ⟨⟨v10, rfl⟩, rfl⟩
          exact ⟨⟨_, _, rfl⟩, e68⟩
      · rintro σ H6 ⟨⟨v9, v10, rfl⟩, e6⟩
        have hg6 := hg5.same e6
        have hgs6 := SqL.of (K := K) hg6.lst
        walk_at "st"
        intro D5 nD5
        refine lc_copy (K := K) hg6 (by omega) nD5 rfl fun H7 qs5 e7 hT7 _ => ?_
        have hdg : Debts n g 1000000000000000 := ⟨hd.n0, hd.n1, fun x hx y hy => ⟨(hb x hx y hy).1, Int.le_trans (hb x hx y hy).2 (Int.le_trans (hd.b x hx y hy).2 (by omega))⟩, fun x hx => by
          have h1 := hb x hx x hx
          have h2 := hd.d x hx
          omega⟩
        walk_at "st"
        refine ⟨qs5, n, g, rfl, hT7, hdg, fun p8 D8 O8 H8 qs8 g8 os8 e8 np8 hp8 hg8 hO8 hpm8 hb8 hnet8 hord8 hrk8 => ?_⟩
        have hps8 := SqT.of (K := K) hp8
        have b0 : atI [V.ref D8, V.ref O8] 0 = some (.ref D8) := rfl
        have hg68 := (hg6.same e7).same e8
        have hsame : tabL n g8 = tabL n g := tabL_eq.mpr (hrk8 ⟨fun h => os.idxOf h, fun x hx y hy hpos => by
          have hmj := idx_at (hmem y hy)
          have hz : x ∈ os.take (os.idxOf y) := Classical.byContradiction fun z => by
            have := hord _ y hmj x hx z
            omega
          obtain ⟨k, hk⟩ := List.getElem?_of_mem hz
          have hkl : k < os.idxOf y := by
            have := (List.getElem?_eq_some_iff.mp hk).1
            rw [List.length_take] at this
            omega
          rw [List.getElem?_take_of_lt hkl] at hk
          show os.idxOf x < os.idxOf y
          rw [idx_is hnd hk]
          exact hkl⟩)
        walk_at "st"
        refine ⟨_, _, true, rfl, .ty _, .base (.tup hp8), kit_ty (by decide +kernel), ?_⟩
        walk_at "st"
        refine eqL layD_tab (by decide) (fun _ _ _ _ => trivial) (fun _ _ _ _ => trivial) hg8.dp hg68.dp ?_
        rw [decide_eq_true hsame]
        exact q _

end
set_option maxHeartbeats 0 in
theorem all_mk {l : PySem.W.OpenLaw} {w : World} {K : PySem.W.Frag} {h : Heap} {mg : Str → Option Value} {fa f1 f2 f3 f4 f5 f6 f7 f8 f9 f10 f11 f12 f13 f14 f15 f16 f17 : Addr} (X : K.In h) (G : h.Ns mainGlobals mg) (hfa : mg "law" = some (.ref fa))
    {c_BourseError c_InvalidTrade : Addr}
    {od1 an1 od2 an2 od3 an3 od4 an4 od5 an5 od6 an6 od7 an7 od8 an8 od9 an9 od10 an10 od11 an11 od12 an12 od13 an13 od14 an14 od15 an15 od16 an16 od17 an17 : Option Addr} {sl1 sl2 sl3 sl4 sl5 sl6 sl7 sl8 sl9 sl10 sl11 sl12 sl13 sl14 sl15 sl16 sl17 : Array (Option Value)} {oc1 kV1 dc1 pm1 cd1 ct1 oc2 kV2 dc2 pm2 cd2 ct2 oc3 kV3 dc3 pm3 cd3 ct3 oc4 kV4 dc4 pm4 cd4 ct4 oc5 kV5 dc5 pm5 cd5 ct5 oc6 kV6 dc6 pm6 cd6 ct6 oc7 kV7 dc7 pm7 cd7 ct7 oc8 kV8 dc8 pm8 cd8 ct8 oc9 kV9 dc9 pm9 cd9 ct9 oc10 kV10 dc10 pm10 cd10 ct10 oc11 kV11 dc11 pm11 cd11 ct11 oc12 kV12 dc12 pm12 cd12 ct12 oc13 kV13 dc13 pm13 cd13 ct13 oc14 kV14 dc14 pm14 cd14 ct14 oc15 kV15 dc15 pm15 cd15 ct15 oc16 kV16 dc16 pm16 cd16 ct16 oc17 kV17 dc17 pm17 cd17 ct17 : Value}
    (a1 : PySem.W.nsIn K mainGlobals "is_integral" = some (some (.ref f1)))
    (l1 : K.lookup f1 = some ⟨oc1, od1, .func (PySem.W.fnOf "is_integral" "is_integral" (defArgs s_is_integral) (defBody s_is_integral) (defScope s_is_integral) .none kV1 dc1 pm1 an1 cd1 ct1), sl1⟩) (c1 : PySem.W.codeIn K cd1 "is_integral" = true) (k1 : PySem.W.keepIn K (.ref f1) = true)
    (a2 : PySem.W.nsIn K mainGlobals "is_within" = some (some (.ref f2)))
    (l2 : K.lookup f2 = some ⟨oc2, od2, .func (PySem.W.fnOf "is_within" "is_within" (defArgs s_is_within) (defBody s_is_within) (defScope s_is_within) .none kV2 dc2 pm2 an2 cd2 ct2), sl2⟩) (c2 : PySem.W.codeIn K cd2 "is_within" = true) (k2 : PySem.W.keepIn K (.ref f2) = true)
    (a3 : PySem.W.nsIn K mainGlobals "check_debts" = some (some (.ref f3)))
    (l3 : K.lookup f3 = some ⟨oc3, od3, .func (PySem.W.fnOf "check_debts" "check_debts" (defArgs s_check_debts) (defBody s_check_debts) (defScope s_check_debts) .none kV3 dc3 pm3 an3 cd3 ct3), sl3⟩) (c3 : PySem.W.codeIn K cd3 "check_debts" = true) (k3 : PySem.W.keepIn K (.ref f3) = true)
    (a4 : PySem.W.nsIn K mainGlobals "unwind" = some (some (.ref f4)))
    (l4 : K.lookup f4 = some ⟨oc4, od4, .func (PySem.W.fnOf "unwind" "unwind" (defArgs s_unwind) (defBody s_unwind) (defScope s_unwind) .none kV4 dc4 pm4 an4 cd4 ct4), sl4⟩) (c4 : PySem.W.codeIn K cd4 "unwind" = true) (k4 : PySem.W.keepIn K (.ref f4) = true)
    (a5 : PySem.W.nsIn K mainGlobals "_first_unowed" = some (some (.ref f5)))
    (l5 : K.lookup f5 = some ⟨oc5, od5, .func (PySem.W.fnOf "_first_unowed" "_first_unowed" (defArgs s_first_unowed) (defBody s_first_unowed) (defScope s_first_unowed) .none kV5 dc5 pm5 an5 cd5 ct5), sl5⟩) (c5 : PySem.W.codeIn K cd5 "_first_unowed" = true) (k5 : PySem.W.keepIn K (.ref f5) = true)
    (a6 : PySem.W.nsIn K mainGlobals "_first_debtor" = some (some (.ref f6)))
    (l6 : K.lookup f6 = some ⟨oc6, od6, .func (PySem.W.fnOf "_first_debtor" "_first_debtor" (defArgs s_first_debtor) (defBody s_first_debtor) (defScope s_first_debtor) .none kV6 dc6 pm6 an6 cd6 ct6), sl6⟩) (c6 : PySem.W.codeIn K cd6 "_first_debtor" = true) (k6 : PySem.W.keepIn K (.ref f6) = true)
    (a7 : PySem.W.nsIn K mainGlobals "_ring_among" = some (some (.ref f7)))
    (l7 : K.lookup f7 = some ⟨oc7, od7, .func (PySem.W.fnOf "_ring_among" "_ring_among" (defArgs s_ring_among) (defBody s_ring_among) (defScope s_ring_among) .none kV7 dc7 pm7 an7 cd7 ct7), sl7⟩) (c7 : PySem.W.codeIn K cd7 "_ring_among" = true) (k7 : PySem.W.keepIn K (.ref f7) = true)
    (a8 : PySem.W.nsIn K mainGlobals "_without_ring" = some (some (.ref f8)))
    (l8 : K.lookup f8 = some ⟨oc8, od8, .func (PySem.W.fnOf "_without_ring" "_without_ring" (defArgs s_without_ring) (defBody s_without_ring) (defScope s_without_ring) .none kV8 dc8 pm8 an8 cd8 ct8), sl8⟩) (c8 : PySem.W.codeIn K cd8 "_without_ring" = true) (k8 : PySem.W.keepIn K (.ref f8) = true)
    (a9 : PySem.W.nsIn K mainGlobals "_law_cell" = some (some (.ref f9)))
    (l9 : K.lookup f9 = some ⟨oc9, od9, .func (PySem.W.fnOf "_law_cell" "_law_cell" (defArgs s_law_cell) (defBody s_law_cell) (defScope s_law_cell) .none kV9 dc9 pm9 an9 cd9 ct9), sl9⟩) (c9 : PySem.W.codeIn K cd9 "_law_cell" = true) (k9 : PySem.W.keepIn K (.ref f9) = true)
    (a10 : PySem.W.nsIn K mainGlobals "_law_draws" = some (some (.ref f10)))
    (l10 : K.lookup f10 = some ⟨oc10, od10, .func (PySem.W.fnOf "_law_draws" "_law_draws" (defArgs s_law_draws) (defBody s_law_draws) (defScope s_law_draws) .none kV10 dc10 pm10 an10 cd10 ct10), sl10⟩) (c10 : PySem.W.codeIn K cd10 "_law_draws" = true) (k10 : PySem.W.keepIn K (.ref f10) = true)
    (a11 : PySem.W.nsIn K mainGlobals "_law_integers" = some (some (.ref f11)))
    (l11 : K.lookup f11 = some ⟨oc11, od11, .func (PySem.W.fnOf "_law_integers" "_law_integers" (defArgs s_law_integers) (defBody s_law_integers) (defScope s_law_integers) .none kV11 dc11 pm11 an11 cd11 ct11), sl11⟩) (c11 : PySem.W.codeIn K cd11 "_law_integers" = true) (k11 : PySem.W.keepIn K (.ref f11) = true)
    (a12 : PySem.W.nsIn K mainGlobals "_law_table" = some (some (.ref f12)))
    (l12 : K.lookup f12 = some ⟨oc12, od12, .func (PySem.W.fnOf "_law_table" "_law_table" (defArgs s_law_table) (defBody s_law_table) (defScope s_law_table) .none kV12 dc12 pm12 an12 cd12 ct12), sl12⟩) (c12 : PySem.W.codeIn K cd12 "_law_table" = true) (k12 : PySem.W.keepIn K (.ref f12) = true)
    (a13 : PySem.W.nsIn K mainGlobals "_law_market_size" = some (some (.ref f13)))
    (l13 : K.lookup f13 = some ⟨oc13, od13, .func (PySem.W.fnOf "_law_market_size" "_law_market_size" (defArgs s_law_market_size) (defBody s_law_market_size) (defScope s_law_market_size) .none kV13 dc13 pm13 an13 cd13 ct13), sl13⟩) (c13 : PySem.W.codeIn K cd13 "_law_market_size" = true) (k13 : PySem.W.keepIn K (.ref f13) = true)
    (a14 : PySem.W.nsIn K mainGlobals "_law_row" = some (some (.ref f14)))
    (l14 : K.lookup f14 = some ⟨oc14, od14, .func (PySem.W.fnOf "_law_row" "_law_row" (defArgs s_law_row) (defBody s_law_row) (defScope s_law_row) .none kV14 dc14 pm14 an14 cd14 ct14), sl14⟩) (c14 : PySem.W.codeIn K cd14 "_law_row" = true) (k14 : PySem.W.keepIn K (.ref f14) = true)
    (a15 : PySem.W.nsIn K mainGlobals "_law_market" = some (some (.ref f15)))
    (l15 : K.lookup f15 = some ⟨oc15, od15, .func (PySem.W.fnOf "_law_market" "_law_market" (defArgs s_law_market) (defBody s_law_market) (defScope s_law_market) .none kV15 dc15 pm15 an15 cd15 ct15), sl15⟩) (c15 : PySem.W.codeIn K cd15 "_law_market" = true) (k15 : PySem.W.keepIn K (.ref f15) = true)
    (a16 : PySem.W.nsIn K mainGlobals "_law_net" = some (some (.ref f16)))
    (l16 : K.lookup f16 = some ⟨oc16, od16, .func (PySem.W.fnOf "_law_net" "_law_net" (defArgs s_law_net) (defBody s_law_net) (defScope s_law_net) .none kV16 dc16 pm16 an16 cd16 ct16), sl16⟩) (c16 : PySem.W.codeIn K cd16 "_law_net" = true) (k16 : PySem.W.keepIn K (.ref f16) = true)
    (a17 : PySem.W.nsIn K mainGlobals "law" = some (some (.ref f17)))
    (l17 : K.lookup f17 = some ⟨oc17, od17, .func (PySem.W.fnOf "law" "law" (defArgs s_law) (defBody s_law) (defScope s_law) .none kV17 dc17 pm17 an17 cd17 ct17), sl17⟩) (c17 : PySem.W.codeIn K cd17 "law" = true) (k17 : PySem.W.keepIn K (.ref f17) = true)
    (z_abs : PySem.W.nsIn K mainGlobals "abs" = some none)
    (z_all : PySem.W.nsIn K mainGlobals "all" = some none)
    (z_bool : PySem.W.nsIn K mainGlobals "bool" = some none)
    (z_enumerate : PySem.W.nsIn K mainGlobals "enumerate" = some none)
    (z_int : PySem.W.nsIn K mainGlobals "int" = some none)
    (z_isinstance : PySem.W.nsIn K mainGlobals "isinstance" = some none)
    (z_len : PySem.W.nsIn K mainGlobals "len" = some none)
    (z_list : PySem.W.nsIn K mainGlobals "list" = some none)
    (z_min : PySem.W.nsIn K mainGlobals "min" = some none)
    (z_range : PySem.W.nsIn K mainGlobals "range" = some none)
    (z_sorted : PySem.W.nsIn K mainGlobals "sorted" = some none)
    (z_sum : PySem.W.nsIn K mainGlobals "sum" = some none)
    (z_tuple : PySem.W.nsIn K mainGlobals "tuple" = some none)
    (z_zip : PySem.W.nsIn K mainGlobals "zip" = some none)
    {t_MOST_HOUSES t_MOST_DEBT : Tok}
    (v_MOST_HOUSES : PySem.W.nsIn K mainGlobals "MOST_HOUSES" = some (some (.int 13 t_MOST_HOUSES)))
    (v_MOST_DEBT : PySem.W.nsIn K mainGlobals "MOST_DEBT" = some (some (.int 1000000000000000 t_MOST_DEBT)))
    (g_BourseError : PySem.W.nsIn K mainGlobals "BourseError" = some (some (.ref c_BourseError)))
    (g_InvalidTrade : PySem.W.nsIn K mainGlobals "InvalidTrade" = some (some (.ref c_InvalidTrade))) :
    ∃ fd : FuncData, (∀ (s : Shared) (v : Value), BindsTo s fd ⟨[v], []⟩ [("script", v)]) ∧ ∀ base : Heap, K.In base → base.Ns mainGlobals mg → FnOk l.prog w K mg base CX0 5 fa fd ["script"] (sp_law K) := by
  have e := hfa.symm.trans (PySem.W.mg_of X G a17)
  cases e
  have F1 := fun_mk (st := s_is_integral) l1 c1 k1
  have b1 := F1.binds (ps := ["value"]) fun _ _ _ _ _ _ us hl => match us, hl with | [_], _ => rfl
  have F2 := fun_mk (st := s_is_within) l2 c2 k2
  have b2 := F2.binds (ps := ["least", "most", "value"]) fun _ _ _ _ _ _ us hl => match us, hl with | [_, _, _], _ => rfl
  have F3 := fun_mk (st := s_check_debts) l3 c3 k3
  have b3 := F3.binds (ps := ["owed"]) fun _ _ _ _ _ _ us hl => match us, hl with | [_], _ => rfl
  have F4 := fun_mk (st := s_unwind) l4 c4 k4
  have b4 := F4.binds (ps := ["owed"]) fun _ _ _ _ _ _ us hl => match us, hl with | [_], _ => rfl
  have F5 := fun_mk (st := s_first_unowed) l5 c5 k5
  have b5 := F5.binds (ps := ["debts", "houses"]) fun _ _ _ _ _ _ us hl => match us, hl with | [_, _], _ => rfl
  have F6 := fun_mk (st := s_first_debtor) l6 c6 k6
  have b6 := F6.binds (ps := ["debts", "houses", "creditor"]) fun _ _ _ _ _ _ us hl => match us, hl with | [_, _, _], _ => rfl
  have F7 := fun_mk (st := s_ring_among) l7 c7 k7
  have b7 := F7.binds (ps := ["debts", "houses"]) fun _ _ _ _ _ _ us hl => match us, hl with | [_, _], _ => rfl
  have F8 := fun_mk (st := s_without_ring) l8 c8 k8
  have b8 := F8.binds (ps := ["debts", "ring"]) fun _ _ _ _ _ _ us hl => match us, hl with | [_, _], _ => rfl
  have F9 := fun_mk (st := s_law_cell) l9 c9 k9
  have b9 := F9.binds (ps := ["script", "k"]) fun _ _ _ _ _ _ us hl => match us, hl with | [_, _], _ => rfl
  have F10 := fun_mk (st := s_law_draws) l10 c10 k10
  have b10 := F10.binds (ps := ["cell", "count", "size"]) fun _ _ _ _ _ _ us hl => match us, hl with | [_, _, _], _ => rfl
  have F11 := fun_mk (st := s_law_integers) l11 c11 k11
  have b11 := F11.binds (ps := ["actual", "count"]) fun _ _ _ _ _ _ us hl => match us, hl with | [_, _], _ => rfl
  have F12 := fun_mk (st := s_law_table) l12 c12 k12
  have b12 := F12.binds (ps := ["actual", "count"]) fun _ _ _ _ _ _ us hl => match us, hl with | [_, _], _ => rfl
  have F13 := fun_mk (st := s_law_market_size) l13 c13 k13
  have b13 := F13.binds (ps := ["shape"]) fun _ _ _ _ _ _ us hl => match us, hl with | [_], _ => rfl
  have F14 := fun_mk (st := s_law_row) l14 c14 k14
  have b14 := F14.binds (ps := ["cell", "shape", "payer", "count", "size"]) fun _ _ _ _ _ _ us hl => match us, hl with | [_, _, _, _, _], _ => rfl
  have F15 := fun_mk (st := s_law_market) l15 c15 k15
  have b15 := F15.binds (ps := ["script"]) fun _ _ _ _ _ _ us hl => match us, hl with | [_], _ => rfl
  have F16 := fun_mk (st := s_law_net) l16 c16 k16
  have b16 := F16.binds (ps := ["owed", "house"]) fun _ _ _ _ _ _ us hl => match us, hl with | [_, _], _ => rfl
  have F17 := fun_mk (st := s_law) l17 c17 k17
  have b17 := F17.binds (ps := ["script"]) fun _ _ _ _ _ _ us hl => match us, hl with | [_], _ => rfl
  have T : Txt K mg := ⟨f1, _, F1, PySem.W.mg_of X G a1, b1, f2, _, F2, PySem.W.mg_of X G a2, b2, f3, _, F3, PySem.W.mg_of X G a3, b3, f4, _, F4, PySem.W.mg_of X G a4, b4, f5, _, F5, PySem.W.mg_of X G a5, b5, f6, _, F6, PySem.W.mg_of X G a6, b6, f7, _, F7, PySem.W.mg_of X G a7, b7, f8, _, F8, PySem.W.mg_of X G a8, b8, f9, _, F9, PySem.W.mg_of X G a9, b9, f10, _, F10, PySem.W.mg_of X G a10, b10, f11, _, F11, PySem.W.mg_of X G a11, b11, f12, _, F12, PySem.W.mg_of X G a12, b12, f13, _, F13, PySem.W.mg_of X G a13, b13, f14, _, F14, PySem.W.mg_of X G a14, b14, f15, _, F15, PySem.W.mg_of X G a15, b15, f16, _, F16, PySem.W.mg_of X G a16, b16, c_BourseError, PySem.W.mg_of X G g_BourseError, c_InvalidTrade, PySem.W.mg_of X G g_InvalidTrade, PySem.W.mg_none_of X G z_abs, PySem.W.mg_none_of X G z_all, PySem.W.mg_none_of X G z_bool, PySem.W.mg_none_of X G z_enumerate, PySem.W.mg_none_of X G z_int, PySem.W.mg_none_of X G z_isinstance, PySem.W.mg_none_of X G z_len, PySem.W.mg_none_of X G z_list, PySem.W.mg_none_of X G z_min, PySem.W.mg_none_of X G z_range, PySem.W.mg_none_of X G z_sorted, PySem.W.mg_none_of X G z_sum, PySem.W.mg_none_of X G z_tuple, PySem.W.mg_none_of X G z_zip, t_MOST_HOUSES, PySem.W.mg_of X G v_MOST_HOUSES, t_MOST_DEBT, PySem.W.mg_of X G v_MOST_DEBT⟩
  exact ⟨PySem.W.fnOf "law" "law" (defArgs s_law) (defBody s_law) (defScope s_law) .none kV17 dc17 pm17 an17 cd17 ct17, fun s v => .of_eq rfl, fun base _ _ => ok_law T F17⟩
end FB
open PySem PySem.W PyProof.Rows
set_option maxRecDepth 100000 in
set_option maxHeartbeats 0 in
theorem PySem.Challenge.cw_fairbourse_k45_debts_without_rings_holds : PySem.Challenge.rw_fairbourse_k45_debts_without_rings.Holds := by
  w_on; o_law; k_head; (case hw => w_witness2)
  k_fill
  refine L2.walk_of (l := PySem.Challenge.rw_fairbourse_k45_debts_without_rings) (n := 63) (k := 5) (x := "script") (CX := fun _ => L2.CX0) (sp := fun w => FB.sp_law _) rfl (by decide) rfl ⟨rfl, by decide, by decide⟩ (fun w h Y => PySem.W.kIn_of Y) ?F (fun _ _ a ns hl _ hS => ⟨a, ns, rfl, hS, hl, fun _ => rfl⟩) (fun _ _ _ _ _ h => h)
  case F =>
    intro w mg fa h KX G hmg
    refine' FB.all_mk KX G hmg ?a1 ?l1 ?c1 ?k1 ?a2 ?l2 ?c2 ?k2 ?a3 ?l3 ?c3 ?k3 ?a4 ?l4 ?c4 ?k4 ?a5 ?l5 ?c5 ?k5 ?a6 ?l6 ?c6 ?k6 ?a7 ?l7 ?c7 ?k7 ?a8 ?l8 ?c8 ?k8 ?a9 ?l9 ?c9 ?k9 ?a10 ?l10 ?c10 ?k10 ?a11 ?l11 ?c11 ?k11 ?a12 ?l12 ?c12 ?k12 ?a13 ?l13 ?c13 ?k13 ?a14 ?l14 ?c14 ?k14 ?a15 ?l15 ?c15 ?k15 ?a16 ?l16 ?c16 ?k16 ?a17 ?l17 ?c17 ?k17 ?z_abs ?z_all ?z_bool ?z_enumerate ?z_int ?z_isinstance ?z_len ?z_list ?z_min ?z_range ?z_sorted ?z_sum ?z_tuple ?z_zip ?v_MOST_HOUSES ?v_MOST_DEBT ?g_BourseError ?g_InvalidTrade
    (case g_BourseError => k_is)
    (case g_InvalidTrade => k_is)
    (case a1 => k_is)
    (case l1 => k_is)
    (case c1 => k_is)
    (case k1 => k_is)
    (case a2 => k_is)
    (case l2 => k_is)
    (case c2 => k_is)
    (case k2 => k_is)
    (case a3 => k_is)
    (case l3 => k_is)
    (case c3 => k_is)
    (case k3 => k_is)
    (case a4 => k_is)
    (case l4 => k_is)
    (case c4 => k_is)
    (case k4 => k_is)
    (case a5 => k_is)
    (case l5 => k_is)
    (case c5 => k_is)
    (case k5 => k_is)
    (case a6 => k_is)
    (case l6 => k_is)
    (case c6 => k_is)
    (case k6 => k_is)
    (case a7 => k_is)
    (case l7 => k_is)
    (case c7 => k_is)
    (case k7 => k_is)
    (case a8 => k_is)
    (case l8 => k_is)
    (case c8 => k_is)
    (case k8 => k_is)
    (case a9 => k_is)
    (case l9 => k_is)
    (case c9 => k_is)
    (case k9 => k_is)
    (case a10 => k_is)
    (case l10 => k_is)
    (case c10 => k_is)
    (case k10 => k_is)
    (case a11 => k_is)
    (case l11 => k_is)
    (case c11 => k_is)
    (case k11 => k_is)
    (case a12 => k_is)
    (case l12 => k_is)
    (case c12 => k_is)
    (case k12 => k_is)
    (case a13 => k_is)
    (case l13 => k_is)
    (case c13 => k_is)
    (case k13 => k_is)
    (case a14 => k_is)
    (case l14 => k_is)
    (case c14 => k_is)
    (case k14 => k_is)
    (case a15 => k_is)
    (case l15 => k_is)
    (case c15 => k_is)
    (case k15 => k_is)
    (case a16 => k_is)
    (case l16 => k_is)
    (case c16 => k_is)
    (case k16 => k_is)
    (case a17 => k_is)
    (case l17 => k_is)
    (case c17 => k_is)
    (case k17 => k_is)
    (case z_abs => k_is)
    (case z_all => k_is)
    (case z_bool => k_is)
    (case z_enumerate => k_is)
    (case z_int => k_is)
    (case z_isinstance => k_is)
    (case z_len => k_is)
    (case z_list => k_is)
    (case z_min => k_is)
    (case z_range => k_is)
    (case z_sorted => k_is)
    (case z_sum => k_is)
    (case z_tuple => k_is)
    (case z_zip => k_is)
    (case v_MOST_HOUSES => k_is)
    (case v_MOST_DEBT => k_is)
