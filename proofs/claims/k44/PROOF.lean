import PyProof.Rows.All
import Wide.All
import OpenK.AllK
import Wide.FinOn
import HandS.ForMost
import HandS.Defaults
import HandS.IsInst
import HandS.Wide
import HandS.Codes
import PySem.Challenge.RW_fairbourse_k44_whole_least_payments
set_option Elab.async false
set_option linter.all false
set_option maxRecDepth 100000
namespace FB
open PySem PySem.Spec PyProof.Rows L2
def topS (i : Nat) : Stmt := PySem.Challenge.pw_fairbourse_k44_whole_least_payments.main.body.getD i (.Pass ⟨0, 0, 0, 0⟩)
abbrev s_is_integral : Stmt := topS 4
abbrev N_is_integral : List Str := ["value"]
theorem sc_is_integral : FnScope N_is_integral ["value"] (defScope s_is_integral) := ⟨rfl, rfl, rfl, by decide +kernel, rfl, by decide +kernel, by decide +kernel⟩
abbrev s_is_within : Stmt := topS 5
abbrev N_is_within : List Str := ["least", "most", "value"]
theorem sc_is_within : FnScope N_is_within ["least", "most", "value"] (defScope s_is_within) := ⟨rfl, rfl, rfl, by decide +kernel, rfl, by decide +kernel, by decide +kernel⟩
abbrev s_pair_off : Stmt := topS 7
abbrev N_pair_off : List Str := ["givers", "takers", "pairs", "wanted", "_", "amount", "at", "giver", "rest", "part"]
theorem sc_pair_off : FnScope N_pair_off ["givers", "takers"] (defScope s_pair_off) := ⟨rfl, rfl, rfl, by decide +kernel, rfl, by decide +kernel, by decide +kernel⟩
abbrev s_check_debts : Stmt := topS 11
abbrev N_check_debts : List Str := ["owed", "house", "row", "debt"]
theorem sc_check_debts : FnScope N_check_debts ["owed"] (defScope s_check_debts) := ⟨rfl, rfl, rfl, by decide +kernel, rfl, by decide +kernel, by decide +kernel⟩
abbrev s_net_amounts : Stmt := topS 12
abbrev N_net_amounts : List Str := ["owed", "row", "house"]
theorem sc_net_amounts : FnScope N_net_amounts ["owed"] (defScope s_net_amounts) := ⟨rfl, rfl, rfl, by decide +kernel, rfl, by decide +kernel, by decide +kernel⟩
abbrev s_compress : Stmt := topS 13
abbrev N_compress : List Str := ["owed", "amounts", "payers", "house", "amount", "receivers"]
theorem sc_compress : FnScope N_compress ["owed"] (defScope s_compress) := ⟨rfl, rfl, rfl, by decide +kernel, rfl, by decide +kernel, by decide +kernel⟩
abbrev s_law_cell : Stmt := topS 15
abbrev N_law_cell : List Str := ["script", "k"]
theorem sc_law_cell : FnScope N_law_cell ["script", "k"] (defScope s_law_cell) := ⟨rfl, rfl, rfl, by decide +kernel, rfl, by decide +kernel, by decide +kernel⟩
abbrev s_law_draws : Stmt := topS 16
abbrev N_law_draws : List Str := ["cell", "count", "size", "draws", "rest", "k"]
theorem sc_law_draws : FnScope N_law_draws ["cell", "count", "size"] (defScope s_law_draws) := ⟨rfl, rfl, rfl, by decide +kernel, rfl, by decide +kernel, by decide +kernel⟩
abbrev s_law_is_integer : Stmt := topS 17
abbrev N_law_is_integer : List Str := ["actual"]
theorem sc_law_is_integer : FnScope N_law_is_integer ["actual"] (defScope s_law_is_integer) := ⟨rfl, rfl, rfl, by decide +kernel, rfl, by decide +kernel, by decide +kernel⟩
abbrev s_law_market_size : Stmt := topS 18
abbrev N_law_market_size : List Str := ["shape", "kind"]
theorem sc_law_market_size : FnScope N_law_market_size ["shape"] (defScope s_law_market_size) := ⟨rfl, rfl, rfl, by decide +kernel, rfl, by decide +kernel, by decide +kernel⟩
abbrev s_law_row : Stmt := topS 19
abbrev N_law_row : List Str := ["cell", "shape", "payer", "count", "size", "draws", "draw"]
theorem sc_law_row : FnScope N_law_row ["cell", "shape", "payer", "count", "size"] (defScope s_law_row) := ⟨rfl, rfl, rfl, by decide +kernel, rfl, by decide +kernel, by decide +kernel⟩
abbrev s_law_market : Stmt := topS 20
abbrev N_law_market : List Str := ["script", "shape", "count", "size", "k"]
theorem sc_law_market : FnScope N_law_market ["script"] (defScope s_law_market) := ⟨rfl, rfl, rfl, by decide +kernel, rfl, by decide +kernel, by decide +kernel⟩
abbrev s_law_with_ring : Stmt := topS 21
abbrev N_law_with_ring : List Str := ["debts", "cell", "count", "draws", "size", "houses", "draw", "result", "row", "k", "a", "b"]
theorem sc_law_with_ring : FnScope N_law_with_ring ["debts", "cell"] (defScope s_law_with_ring) := ⟨rfl, rfl, rfl, by decide +kernel, rfl, by decide +kernel, by decide +kernel⟩
abbrev s_law_sum : Stmt := topS 22
abbrev N_law_sum : List Str := ["payments", "payment"]
theorem sc_law_sum : FnScope N_law_sum ["payments"] (defScope s_law_sum) := ⟨rfl, rfl, rfl, by decide +kernel, rfl, by decide +kernel, by decide +kernel⟩
abbrev s_law_small : Stmt := topS 23
abbrev N_law_small : List Str := ["debts", "row", "debt"]
theorem sc_law_small : FnScope N_law_small ["debts"] (defScope s_law_small) := ⟨rfl, rfl, rfl, by decide +kernel, rfl, by decide +kernel, by decide +kernel⟩
abbrev s_law : Stmt := topS 24
abbrev N_law : List Str := ["script", "owed", "payments", "row", "least", "others", "house", "payment", "cell", "ringed"]
theorem sc_law : FnScope N_law ["script"] (defScope s_law) := ⟨rfl, rfl, rfl, by decide +kernel, rfl, by decide +kernel, by decide +kernel⟩
structure Txt (K : PySem.W.Frag) (mg : Str → Option Value) where
  f_is_integral : Addr
  d_is_integral : FuncData
  F_is_integral : Fun K "is_integral" "is_integral" s_is_integral f_is_integral d_is_integral
  m_is_integral : mg "is_integral" = some (.ref f_is_integral)
  b_is_integral : Binds K d_is_integral ["value"] []
  f_is_within : Addr
  d_is_within : FuncData
  F_is_within : Fun K "is_within" "is_within" s_is_within f_is_within d_is_within
  m_is_within : mg "is_within" = some (.ref f_is_within)
  b_is_within : Binds K d_is_within ["least", "most", "value"] []
  f_pair_off : Addr
  d_pair_off : FuncData
  F_pair_off : Fun K "pair_off" "pair_off" s_pair_off f_pair_off d_pair_off
  m_pair_off : mg "pair_off" = some (.ref f_pair_off)
  b_pair_off : Binds K d_pair_off ["givers", "takers"] []
  f_check_debts : Addr
  d_check_debts : FuncData
  F_check_debts : Fun K "check_debts" "check_debts" s_check_debts f_check_debts d_check_debts
  m_check_debts : mg "check_debts" = some (.ref f_check_debts)
  b_check_debts : Binds K d_check_debts ["owed"] []
  f_net_amounts : Addr
  d_net_amounts : FuncData
  F_net_amounts : Fun K "net_amounts" "net_amounts" s_net_amounts f_net_amounts d_net_amounts
  m_net_amounts : mg "net_amounts" = some (.ref f_net_amounts)
  b_net_amounts : Binds K d_net_amounts ["owed"] []
  f_compress : Addr
  d_compress : FuncData
  F_compress : Fun K "compress" "compress" s_compress f_compress d_compress
  m_compress : mg "compress" = some (.ref f_compress)
  b_compress : Binds K d_compress ["owed"] []
  f_law_cell : Addr
  d_law_cell : FuncData
  F_law_cell : Fun K "_law_cell" "_law_cell" s_law_cell f_law_cell d_law_cell
  m_law_cell : mg "_law_cell" = some (.ref f_law_cell)
  b_law_cell : Binds K d_law_cell ["script", "k"] []
  f_law_draws : Addr
  d_law_draws : FuncData
  F_law_draws : Fun K "_law_draws" "_law_draws" s_law_draws f_law_draws d_law_draws
  m_law_draws : mg "_law_draws" = some (.ref f_law_draws)
  b_law_draws : Binds K d_law_draws ["cell", "count", "size"] []
  f_law_is_integer : Addr
  d_law_is_integer : FuncData
  F_law_is_integer : Fun K "_law_is_integer" "_law_is_integer" s_law_is_integer f_law_is_integer d_law_is_integer
  m_law_is_integer : mg "_law_is_integer" = some (.ref f_law_is_integer)
  b_law_is_integer : Binds K d_law_is_integer ["actual"] []
  f_law_market_size : Addr
  d_law_market_size : FuncData
  F_law_market_size : Fun K "_law_market_size" "_law_market_size" s_law_market_size f_law_market_size d_law_market_size
  m_law_market_size : mg "_law_market_size" = some (.ref f_law_market_size)
  b_law_market_size : Binds K d_law_market_size ["shape"] []
  f_law_row : Addr
  d_law_row : FuncData
  F_law_row : Fun K "_law_row" "_law_row" s_law_row f_law_row d_law_row
  m_law_row : mg "_law_row" = some (.ref f_law_row)
  b_law_row : Binds K d_law_row ["cell", "shape", "payer", "count", "size"] []
  f_law_market : Addr
  d_law_market : FuncData
  F_law_market : Fun K "_law_market" "_law_market" s_law_market f_law_market d_law_market
  m_law_market : mg "_law_market" = some (.ref f_law_market)
  b_law_market : Binds K d_law_market ["script"] []
  f_law_with_ring : Addr
  d_law_with_ring : FuncData
  F_law_with_ring : Fun K "_law_with_ring" "_law_with_ring" s_law_with_ring f_law_with_ring d_law_with_ring
  m_law_with_ring : mg "_law_with_ring" = some (.ref f_law_with_ring)
  b_law_with_ring : Binds K d_law_with_ring ["debts", "cell"] []
  f_law_sum : Addr
  d_law_sum : FuncData
  F_law_sum : Fun K "_law_sum" "_law_sum" s_law_sum f_law_sum d_law_sum
  m_law_sum : mg "_law_sum" = some (.ref f_law_sum)
  b_law_sum : Binds K d_law_sum ["payments"] []
  f_law_small : Addr
  d_law_small : FuncData
  F_law_small : Fun K "_law_small" "_law_small" s_law_small f_law_small d_law_small
  m_law_small : mg "_law_small" = some (.ref f_law_small)
  b_law_small : Binds K d_law_small ["debts"] []
  c_BourseError : Addr
  m_BourseError : mg "BourseError" = some (.ref c_BourseError)
  c_InvalidTrade : Addr
  m_InvalidTrade : mg "InvalidTrade" = some (.ref c_InvalidTrade)
  z_abs : mg "abs" = none
  z_all : mg "all" = none
  z_bool : mg "bool" = none
  z_enumerate : mg "enumerate" = none
  z_int : mg "int" = none
  z_isinstance : mg "isinstance" = none
  z_len : mg "len" = none
  z_list : mg "list" = none
  z_min : mg "min" = none
  z_range : mg "range" = none
  z_sum : mg "sum" = none
  z_tuple : mg "tuple" = none
  t_MOST_HOUSES : Tok
  m_MOST_HOUSES : mg "MOST_HOUSES" = some (.int 13 t_MOST_HOUSES)
  t_MOST_DEBT : Tok
  m_MOST_DEBT : mg "MOST_DEBT" = some (.int 1000000000000000 t_MOST_DEBT)
/-! own short words -/
theorem iteD {p A B : Prop} [Decidable p] (h1 : p → A) (h2 : ¬ p → B) : if decide p = true then A else B := by
  by_cases h : p
  · rw [decide_eq_true h, if_pos rfl]; exact h1 h
  · rw [decide_eq_false h, if_neg Bool.false_ne_true]; exact h2 h
theorem iteDN {p A B : Prop} [Decidable p] (h1 : ¬ p → A) (h2 : p → B) : if (!decide p) = true then A else B := by
  by_cases h : p
  · rw [decide_eq_true h]; exact iteF (h2 h)
  · rw [decide_eq_false h]; exact iteT (h1 h)
theorem len_le {n : Nat} (h : Nat.ble n 1000 = true) : n ≤ sizeLine := Nat.le_trans (Nat.le_of_ble_eq_true h) (by decide)
theorem iteB {b : Bool} {A B : Prop} (h1 : b = true → A) (h2 : b = false → B) : if b = true then A else B := by
  cases b with
  | true => exact iteT (h1 rfl)
  | false => exact iteF (h2 rfl)
theorem cmul_l {i j : Int} (h : -(2 ^ 64) < i) (h' : i < 2 ^ 64) : CMul i j := .inl ⟨h, h'⟩
theorem cmul_r {i j : Int} (h : -(2 ^ 64) < j) (h' : j < 2 ^ 64) : CMul i j := .inr ⟨h, h'⟩
theorem dec_t {p : Prop} [Decidable p] (h : decide p = true) : p := of_decide_eq_true h
theorem dec_f {p : Prop} [Decidable p] (h : decide p = false) : ¬ p := of_decide_eq_false h
theorem ndec_t {p : Prop} [Decidable p] (h : (!decide p) = true) : ¬ p := fun q => by rw [decide_eq_true q] at h; cases h
theorem ndec_f {p : Prop} [Decidable p] (h : (!decide p) = false) : p := by
  by_cases q : p
  · exact q
  · rw [decide_eq_false q] at h; cases h
theorem fld_lt {n : Nat} (h : Nat.ble (n + 1) 1000 = true) : n < 1000 := Nat.le_of_ble_eq_true h
def rLen (K : PySem.W.Frag) : List V → Hp → VK → Prop := fun xs H Q => ∃ p ys, xs = [.ref p] ∧ (SqL K H p ys ∨ SqT K H p ys) ∧ Q (.int ys.length) H
def rListOf (K : PySem.W.Frag) : List V → Hp → VK → Prop := fun xs H Q => ∃ p ys, xs = [.ref p] ∧ (SqL K H p ys ∨ SqT K H p ys) ∧ ∀ l, H l = none → Q (.ref l) (upd H l (.lst ys))
def rTupleOf (K : PySem.W.Frag) : List V → Hp → VK → Prop := fun xs H Q => ∃ p ys, xs = [.ref p] ∧ ((SqL K H p ys ∧ ∀ l, H l = none → Q (.ref l) (upd H l (.tup ys))) ∨ (SqT K H p ys ∧ Q (.ref p) H))
theorem len0 : ([] : List V).length ≤ sizeLine := len_le rfl
theorem len1 {a : V} : [a].length ≤ sizeLine := len_le rfl
theorem len2 {a b : V} : [a, b].length ≤ sizeLine := len_le rfl
theorem len3 {a b c : V} : [a, b, c].length ≤ sizeLine := len_le rfl
theorem len4 {a b c d : V} : [a, b, c, d].length ≤ sizeLine := len_le rfl
theorem len5 {a b c d e : V} : [a, b, c, d, e].length ≤ sizeLine := len_le rfl
local macro_rules | `(tactic| walk_at "st") => `(tactic| repeat (first
  | (apply Exists.intro (α := V))
  | (apply Exists.intro (α := Int))
  | (apply Exists.intro (α := Bool))
  | (apply Exists.intro (α := Addr))
  | (apply Exists.intro (α := List V))
  | (apply Exists.intro (α := List Int))
  | (apply Exists.intro (α := List (Str × V)))
  | (apply Exists.intro (α := Str))
  | (apply And.intro; focus (first | omega | (dsimp only; omega) | (simp only [List.length_map, List.length_replicate]; omega) | exact rfl | assumption | exact SqL.of (by assumption) | exact Or.inl (by assumption) | exact Or.inr (by assumption) | exact Or.inr (SqT.of (by assumption)) | exact Or.inl (Or.inl upd_same) | exact Or.inl (Or.inl (Or.inl upd_same)) | (with_reducible exact len0) | (with_reducible exact len1) | (with_reducible exact len2) | (with_reducible exact len3) | (with_reducible exact len4) | (with_reducible exact len5) | exact upd_same | exact ⟨_, Or.inl (Or.inl upd_same)⟩ | exact ⟨_, SqL.of (by assumption)⟩ | exact ⟨_, by assumption⟩ | exact Or.inl ⟨rfl, _, SqL.of (by assumption)⟩ | exact Or.inl ⟨rfl, _, SqL.of upd_same⟩ | exact cmul_l (by omega) (by omega) | exact cmul_r (by omega) (by omega) | exact ⟨by omega, by omega⟩ | (simp only [List.length_map, List.length_replicate]; omega) | exact Or.inl (SqL.of (by assumption)) | exact SqT.of (by assumption) | exact fld_lt rfl))))
/-- the script's cell at j, 0 where there is none -/
def cellOf (ns : List Int) (j : Nat) : Int := ns.getD j 0
theorem atI_ints {ns : List Int} {j : Nat} (h : j < ns.length) : atI (ns.map V.int) (j : Int) = some (.int (cellOf ns j)) := by
  refine at_of (j := j) rfl ?_
  rw [List.getElem?_map, List.getElem?_eq_getElem h]
  unfold cellOf
  rw [List.getD_eq_getElem?_getD, List.getElem?_eq_getElem h]
  rfl
theorem cellOf_out {ns : List Int} {j : Nat} (h : ¬ j < ns.length) : cellOf ns j = 0 := by
  unfold cellOf
  rw [List.getD_eq_getElem?_getD, List.getElem?_eq_none (by omega)]
  rfl
theorem same_upd {H : Hp} {p : Addr} {o : HO} (h : H p = none) : Same H (upd H p o) := fun b x e => by
  rw [upd_ne (ne_of_none e h)]
  exact e
/-- a slice of a list of ints -/
def cutI (ns : List Int) (lo hi : Option Int) : List Int := (ns.drop (HT.sIx ns.length 0 lo)).take (HT.sIx ns.length ns.length hi - HT.sIx ns.length 0 lo)
theorem cutV_ints (ns : List Int) (lo hi : Option Int) : cutV (ns.map V.int) lo hi = (cutI ns lo hi).map V.int := by
  unfold cutV cutI
  rw [List.length_map, List.map_take, List.map_drop]
theorem cutI_len (ns : List Int) (lo hi : Option Int) : (cutI ns lo hi).length ≤ ns.length := by
  unfold cutI
  rw [List.length_take, List.length_drop]
  omega
theorem ints_at {ns : List Int} {i : Nat} {x : V} (h : (ns.map V.int)[i]? = some x) : ∃ z, ns[i]? = some z ∧ x = V.int z := by
  rw [List.getElem?_map] at h
  cases e : ns[i]? with
  | none => rw [e] at h; cases h
  | some z => rw [e] at h; exact ⟨z, rfl, (Option.some.inj h).symm⟩
theorem take_succ {α : Type} {xs : List α} {i : Nat} {x : α} (h : xs[i]? = some x) : xs.take (i + 1) = xs.take i ++ [x] := by
  rw [List.take_add_one, h]
  rfl
theorem sum_le_mul : ∀ (ws : List Int) (b : Int), (∀ w, w ∈ ws → w ≤ b) → ws.sum ≤ (ws.length : Int) * b
  | [], b, _ => by show (0 : Int) ≤ ((0 : Nat) : Int) * b; omega
  | w :: ws, b, h => by
    rw [List.sum_cons, List.length_cons, Int.natCast_add, Int.add_mul]
    have h1 := h w List.mem_cons_self
    have h2 := sum_le_mul ws b fun x hx => h x (List.mem_cons_of_mem _ hx)
    omega
theorem ixN_nat {n j : Nat} (h : j < n) : ixN n (j : Int) = some j := by
  unfold ixN
  rw [if_pos (by omega), if_pos (by omega), Int.toNat_natCast]
theorem call_int_i {X : Cx} : CallR X (.type "int") (fun xs H Q => ∃ i : Int, xs = [.int i] ∧ Q (.int i) H) := by
  intro pins s σ H xs us Q I r h
  obtain ⟨i, e, q⟩ := h
  exact call_int1 pins s σ H xs us Q I r (.inl ⟨i, e, q⟩)
theorem dpAll_ints {K : PySem.W.Frag} {H : Hp} : ∀ xs : List Int, DpAll K H (xs.map V.int) (xs.map PyData.int)
  | [] => .nil
  | x :: xs => .cons (.int x) (dpAll_ints xs)
theorem eqvAll_ints : ∀ xs ys : List Int, PyData.eqvAll (xs.map PyData.int) (ys.map PyData.int) = decide (xs = ys)
  | [], [] => by simp [PyData.eqvAll]
  | [], _ :: _ => by simp [PyData.eqvAll]
  | _ :: _, [] => by simp [PyData.eqvAll]
  | x :: xs, y :: ys => by
    rw [List.map_cons, List.map_cons]
    simp only [PyData.eqvAll, PyData.eqv]
    rw [eqvAll_ints xs ys]
    by_cases h : x = y <;> by_cases h2 : xs = ys <;> simp [h, h2]
theorem lay_ints : ∀ xs : List Int, PyData.canLayAll0 (xs.map PyData.int) = true
  | [] => rfl
  | x :: xs => by
    rw [List.map_cons]
    simp only [PyData.canLayAll0, PyData.canLay0, Bool.true_and]
    exact lay_ints xs
theorem depth_ints : ∀ xs : List Int, PyData.depthAll (xs.map PyData.int) = 0
  | [] => rfl
  | x :: xs => by
    rw [List.map_cons]
    simp only [PyData.depthAll, PyData.depth, depth_ints xs]
    rfl
theorem shaped_ints (xs : List Int) : SeqAt.shaped (.list (xs.map PyData.int)) = true := by
  unfold SeqAt.shaped
  simp only [PyData.canLay0, PyData.depth, lay_ints, depth_ints]
  rfl
theorem eqD_ints {K : PySem.W.Frag} {H : Hp} {a b : Addr} {xs ys : List Int} {Q : VK} (h1 : SqL K H a (xs.map V.int)) (h2 : SqL K H b (ys.map V.int)) (q : Q (.bl (decide (xs = ys))) H) : rEqD K (.ref a) (.ref b) H Q :=
  ⟨_, _, .lst h1 (dpAll_ints xs), .lst h2 (dpAll_ints ys), shaped_ints xs, shaped_ints ys, by rw [show PyData.eqv (.list (xs.map PyData.int)) (.list (ys.map PyData.int)) = decide (xs = ys) by simp only [PyData.eqv, eqvAll_ints]]; exact q⟩
theorem neD_ints {K : PySem.W.Frag} {H : Hp} {a b : Addr} {xs ys : List Int} {Q : VK} (h1 : SqL K H a (xs.map V.int)) (h2 : SqL K H b (ys.map V.int)) (q : Q (.bl (!decide (xs = ys))) H) : rNeD K (.ref a) (.ref b) H Q :=
  ⟨_, _, .lst h1 (dpAll_ints xs), .lst h2 (dpAll_ints ys), shaped_ints xs, shaped_ints ys, by rw [show PyData.eqv (.list (xs.map PyData.int)) (.list (ys.map PyData.int)) = decide (xs = ys) by simp only [PyData.eqv, eqvAll_ints]]; exact q⟩

def at0 (ws : List Int) (i : Nat) : Int := ws.getD i 0
theorem at0_lt {ws : List Int} {i : Nat} (h : i < ws.length) : ws[i]? = some (at0 ws i) := by
  unfold at0
  rw [List.getD_eq_getElem?_getD, List.getElem?_eq_getElem h]
  rfl
theorem atI_n {ws : List Int} {j : Nat} (h : j < ws.length) : atI (ws.map V.int) (j : Int) = some (.int (at0 ws j)) := by
  refine at_of (j := j) rfl ?_
  rw [List.getElem?_map, at0_lt h]
  rfl
theorem at0_of {ws : List Int} {i : Nat} {x : Int} (h : ws[i]? = some x) : at0 ws i = x := by
  unfold at0
  rw [List.getD_eq_getElem?_getD, h]
  rfl
theorem at0_out {ws : List Int} {i : Nat} (h : ws.length ≤ i) : at0 ws i = 0 := by
  unfold at0
  rw [List.getD_eq_getElem?_getD, List.getElem?_eq_none h]
  rfl
theorem at0_ext {xs ys : List Int} (hl : xs.length = ys.length) (h : ∀ i, i < xs.length → at0 xs i = at0 ys i) : xs = ys := by
  refine List.ext_getElem? fun i => ?_
  by_cases hi : i < xs.length
  · rw [at0_lt hi, at0_lt (by omega), h i hi]
  · rw [List.getElem?_eq_none (by omega), List.getElem?_eq_none (by omega)]
theorem at0_set {ps : List Int} {k i : Nat} {x : Int} (hk : k < ps.length) : at0 (ps.set k x) i = if i = k then x else at0 ps i := by
  by_cases h : i = k
  · subst h
    rw [if_pos rfl]
    exact at0_of (List.getElem?_set_self hk)
  · rw [if_neg h]
    unfold at0
    rw [List.getD_eq_getElem?_getD, List.getD_eq_getElem?_getD, List.getElem?_set_ne (fun e => h e.symm)]
theorem at0_nonneg {ws : List Int} (h : ∀ w, w ∈ ws → 0 ≤ w) (i : Nat) : 0 ≤ at0 ws i := by
  by_cases hi : i < ws.length
  · exact h _ (List.mem_of_getElem? (at0_lt hi))
  · rw [at0_out (by omega)]; exact Int.le_refl 0

/-- how items of one kind are told as data; equal data are equal items -/
structure LayD {α : Type} [DecidableEq α] (L : α → PyData) (k : Nat) (G : α → Prop) : Prop where
  lay : ∀ x, G x → (L x).canLay0 = true
  dep : ∀ x, (L x).depth ≤ k
  eqv : ∀ x y, PyData.eqv (L x) (L y) = decide (x = y)
theorem LayD.shaped {α : Type} [DecidableEq α] {L : α → PyData} {k : Nat} {G : α → Prop} (h : LayD L k G) (hk : k ≤ 64) {x : α} (g : G x) : SeqAt.shaped (L x) = true := by
  have h1 := h.lay x g
  have h2 := h.dep x
  unfold SeqAt.shaped
  rw [h1, Bool.true_and]
  exact decide_eq_true (by omega)
theorem layD_int : LayD PyData.int 0 (fun _ => True) := ⟨fun _ _ => rfl, fun _ => Nat.le_refl _, fun x y => by simp only [PyData.eqv]; exact (Bool.beq_eq_decide_eq x y)⟩
theorem layD_str : LayD PyData.str 0 (fun x => PyData.strOk x = true) := ⟨fun _ h => by simp only [PyData.canLay0]; exact h, fun _ => Nat.le_refl _, fun x y => by simp only [PyData.eqv]; exact (Bool.beq_eq_decide_eq x y)⟩
theorem decide_and2 {p q r : Prop} [Decidable p] [Decidable q] [Decidable r] (h : r ↔ p ∧ q) : (decide p && decide q) = decide r := by
  by_cases hp : p <;> by_cases hq : q <;> simp [h, hp, hq]
theorem layD_all {α : Type} [DecidableEq α] {L : α → PyData} {k : Nat} {G : α → Prop} (h : LayD L k G) : (∀ xs : List α, (∀ x, x ∈ xs → G x) → PyData.canLayAll0 (xs.map L) = true) ∧ (∀ xs : List α, PyData.depthAll (xs.map L) ≤ k) ∧ ∀ xs ys : List α, PyData.eqvAll (xs.map L) (ys.map L) = decide (xs = ys) := by
  refine ⟨fun xs => ?_, fun xs => ?_, fun xs => ?_⟩
  · induction xs with
    | nil => exact fun _ => rfl
    | cons x xs ih =>
      intro g
      rw [List.map_cons]
      simp only [PyData.canLayAll0, ih fun y hy => g y (List.mem_cons_of_mem _ hy), h.lay x (g x List.mem_cons_self)]
      rfl
  · induction xs with
    | nil => exact Nat.zero_le _
    | cons x xs ih => rw [List.map_cons]; simp only [PyData.depthAll]; exact Nat.max_le.mpr ⟨h.dep x, ih⟩
  · induction xs with
    | nil =>
      intro ys
      cases ys with
      | nil => rfl
      | cons y ys => simp [PyData.eqvAll]
    | cons x xs ih =>
      intro ys
      cases ys with
      | nil => simp [PyData.eqvAll]
      | cons y ys =>
        rw [List.map_cons, List.map_cons]
        simp only [PyData.eqvAll]
        rw [ih ys, h.eqv x y]
        exact decide_and2 (by rw [List.cons.injEq])
theorem LayD.list {α : Type} [DecidableEq α] {L : α → PyData} {k : Nat} {G : α → Prop} (h : LayD L k G) : LayD (fun xs : List α => PyData.list (xs.map L)) (k + 1) (fun xs => ∀ x, x ∈ xs → G x) := by
  obtain ⟨h1, h2, h3⟩ := layD_all h
  refine ⟨fun xs g => ?_, fun xs => ?_, fun xs ys => ?_⟩
  · simp only [PyData.canLay0]; exact h1 xs g
  · simp only [PyData.depth]; exact Nat.succ_le_succ (h2 xs)
  · simp only [PyData.eqv]; exact h3 xs ys
theorem LayD.tup2 {α β : Type} [DecidableEq α] [DecidableEq β] {L : α → PyData} {M : β → PyData} {k : Nat} {G : α → Prop} {G2 : β → Prop} (h : LayD L k G) (g : LayD M k G2) : LayD (fun x : α × β => PyData.tuple [L x.1, M x.2]) (k + 1) (fun x => G x.1 ∧ G2 x.2) := by
  refine ⟨fun x a => ?_, fun x => ?_, fun x y => ?_⟩
  · simp only [PyData.canLay0, PyData.canLayAll0, h.lay _ a.1, g.lay _ a.2, Bool.and_true]
  · simp only [PyData.depth, PyData.depthAll]
    have := h.dep x.1
    have := g.dep x.2
    omega
  · simp only [PyData.eqv, PyData.eqvAll, h.eqv, g.eqv, Bool.and_true]
    exact decide_and2 (by rw [Prod.ext_iff])
theorem LayD.tup3 {α β γ : Type} [DecidableEq α] [DecidableEq β] [DecidableEq γ] {L : α → PyData} {M : β → PyData} {N : γ → PyData} {k : Nat} {G : α → Prop} {G2 : β → Prop} {G3 : γ → Prop} (h : LayD L k G) (g : LayD M k G2) (e : LayD N k G3) : LayD (fun x : α × β × γ => PyData.tuple [L x.1, M x.2.1, N x.2.2]) (k + 1) (fun x => G x.1 ∧ G2 x.2.1 ∧ G3 x.2.2) := by
  refine ⟨fun x a => ?_, fun x => ?_, fun x y => ?_⟩
  · simp only [PyData.canLay0, PyData.canLayAll0, h.lay _ a.1, g.lay _ a.2.1, e.lay _ a.2.2, Bool.and_true]
  · simp only [PyData.depth, PyData.depthAll]
    have := h.dep x.1
    have := g.dep x.2.1
    have := e.dep x.2.2
    omega
  · simp only [PyData.eqv, PyData.eqvAll, h.eqv, g.eqv, e.eqv, Bool.and_true]
    rw [decide_and2 (r := x.2 = y.2) (by rw [Prod.ext_iff])]
    exact decide_and2 (by rw [Prod.ext_iff])
theorem LayD.tup4 {α β γ δ : Type} [DecidableEq α] [DecidableEq β] [DecidableEq γ] [DecidableEq δ] {L : α → PyData} {M : β → PyData} {N : γ → PyData} {O : δ → PyData} {k : Nat} {G : α → Prop} {G2 : β → Prop} {G3 : γ → Prop} {G4 : δ → Prop} (h : LayD L k G) (g : LayD M k G2) (e : LayD N k G3) (d : LayD O k G4) : LayD (fun x : α × β × γ × δ => PyData.tuple [L x.1, M x.2.1, N x.2.2.1, O x.2.2.2]) (k + 1) (fun x => G x.1 ∧ G2 x.2.1 ∧ G3 x.2.2.1 ∧ G4 x.2.2.2) := by
  refine ⟨fun x a => ?_, fun x => ?_, fun x y => ?_⟩
  · simp only [PyData.canLay0, PyData.canLayAll0, h.lay _ a.1, g.lay _ a.2.1, e.lay _ a.2.2.1, d.lay _ a.2.2.2, Bool.and_true]
  · simp only [PyData.depth, PyData.depthAll]
    have := h.dep x.1
    have := g.dep x.2.1
    have := e.dep x.2.2.1
    have := d.dep x.2.2.2
    omega
  · simp only [PyData.eqv, PyData.eqvAll, h.eqv, g.eqv, e.eqv, d.eqv, Bool.and_true]
    rw [decide_and2 (r := x.2.2 = y.2.2) (by rw [Prod.ext_iff]), decide_and2 (r := x.2 = y.2) (by rw [Prod.ext_iff])]
    exact decide_and2 (by rw [Prod.ext_iff])
theorem eqL {α : Type} [DecidableEq α] {L : α → PyData} {k : Nat} {G : α → Prop} (h : LayD L k G) (hk : k ≤ 64) {K : PySem.W.Frag} {H : Hp} {x y : V} {a b : α} {Q : VK} (ga : G a) (gb : G b) (h1 : Dp K H x (L a)) (h2 : Dp K H y (L b)) (q : Q (.bl (decide (a = b))) H) : rEqD K x y H Q :=
  ⟨_, _, h1, h2, h.shaped hk ga, h.shaped hk gb, by rw [h.eqv]; exact q⟩
theorem neL {α : Type} [DecidableEq α] {L : α → PyData} {k : Nat} {G : α → Prop} (h : LayD L k G) (hk : k ≤ 64) {K : PySem.W.Frag} {H : Hp} {x y : V} {a b : α} {Q : VK} (ga : G a) (gb : G b) (h1 : Dp K H x (L a)) (h2 : Dp K H y (L b)) (q : Q (.bl (!decide (a = b))) H) : rNeD K x y H Q :=
  ⟨_, _, h1, h2, h.shaped hk ga, h.shaped hk gb, by rw [h.eqv]; exact q⟩
theorem dpAll_refs {α : Type} {L : α → PyData} {K : PySem.W.Frag} {H : Hp} : ∀ {ps : List Addr} {xs : List α}, ps.length = xs.length → (∀ (i : Nat) (p : Addr) (x : α), ps[i]? = some p → xs[i]? = some x → Dp K H (.ref p) (L x)) → DpAll K H (ps.map V.ref) (xs.map L)
  | [], [], _, _ => .nil
  | [], _ :: _, h, _ => by cases h
  | _ :: _, [], h, _ => by cases h
  | p :: ps, x :: xs, h, e => .cons (e 0 p x rfl rfl) (dpAll_refs (Nat.succ.inj h) fun i p' x' h1 h2 => e (i + 1) p' x' h1 h2)

/-- for i, x in enumerate(xs): each turn a new pair -/
theorem for_enum {K : PySem.W.Frag} {a : Addr} {xs : List V} {g : TG} {tb : TS} {D : Ends} {σ : L2.St} {H : Hp} (Pv : Nat → L2.St → Hp → Prop) (h0 : Pv 0 σ H) (hl : ∀ i σ H, i ≤ xs.length → Pv i σ H → SqL K H a xs)
    (hs : ∀ (i : Nat) (x : V) (σ : L2.St) (H : Hp) (T : Addr), xs[i]? = some x → Pv i σ H → H T = none → g (.ref T) σ (upd H T (.tup [.int (i : Int), x])) fun σ2 H2 => tb { D with nx := Pv (i + 1), ct := Pv (i + 1), bk := D.nx } σ2 H2) (hd : ∀ σ H, Pv xs.length σ H → D.nx σ H) :
    ∃ W : Nat → Nat → L2.St → Hp → Prop, (∃ m, W 0 m σ H) ∧ ∀ i m σ H, W i m σ H →
      ((Ite K a).stop i H ∧ D.nx σ H) ∨ ((Ite K a).go i H ∧ ∃ N : L2.St → Hp → Prop, (∀ σ' H', N σ' H' → ∃ m', m' < m ∧ W (i + 1) m' σ' H') ∧ ∀ x H', (Ite K a).yld i H x H' → g x σ H' fun σ2 H2 => tb { D with nx := N, ct := N, bk := D.nx } σ2 H2) := by
  refine ⟨fun i m σ H => m + i = xs.length ∧ Pv i σ H, ⟨xs.length, rfl, h0⟩, ?_⟩
  rintro i m σ H ⟨em, p⟩
  have q := hl i σ H (by omega) p
  by_cases hlt : i < xs.length
  · refine .inr ⟨⟨xs, xs[i], q, List.getElem?_eq_getElem hlt⟩, Pv (i + 1), fun σ' H' p' => ⟨m - 1, by omega, by omega, p'⟩, fun x H' y => ?_⟩
    obtain ⟨T, z, rfl, nT, rfl, hz⟩ := y
    exact hs i z σ H T (hz xs q) p nT
  · have e : i = xs.length := by omega
    subst e
    exact .inl ⟨⟨xs, q, Nat.le_refl _⟩, hd σ H p⟩
theorem call_int_b {X : Cx} : CallR X (.type "int") (fun xs H Q => ∃ b : Bool, xs = [.bl b] ∧ Q (.int (if b = true then 1 else 0)) H) := by
  intro pins s σ H xs us Q I r h
  obtain ⟨i, e, q⟩ := h
  exact call_int1 pins s σ H xs us Q I r (.inr ⟨i, e, q⟩)

/-- the first n values of g -/
def rowI (n : Nat) (g : Nat → Int) : List Int := (List.range n).map g
theorem rowI_len (n : Nat) (g : Nat → Int) : (rowI n g).length = n := by
  unfold rowI
  rw [List.length_map, List.length_range]
theorem rowI_at {n : Nat} {g : Nat → Int} {i : Nat} (h : i < n) : (rowI n g)[i]? = some (g i) := by
  unfold rowI
  rw [List.getElem?_map, List.getElem?_range h]
  rfl
theorem atI_row {n : Nat} {g : Nat → Int} {i : Nat} (h : i < n) : atI ((rowI n g).map V.int) (i : Int) = some (.int (g i)) := by
  refine at_of (j := i) rfl ?_
  rw [List.getElem?_map, rowI_at h]
  rfl
theorem rowI_succ (n : Nat) (g : Nat → Int) : rowI (n + 1) g = rowI n g ++ [g n] := by
  unfold rowI
  rw [List.range_succ, List.map_append]
  rfl
theorem rowI_eq {n : Nat} {f g : Nat → Int} : rowI n f = rowI n g ↔ ∀ i, i < n → f i = g i := by
  unfold rowI
  rw [List.map_inj_left]
  exact ⟨fun h i hi => h i (List.mem_range.mpr hi), fun h i hi => h i (List.mem_range.mp hi)⟩
theorem rowI_of (ws : List Int) : rowI ws.length (at0 ws) = ws := by
  refine List.ext_getElem? fun i => ?_
  by_cases h : i < ws.length
  · rw [rowI_at h, at0_lt h]
  · rw [List.getElem?_eq_none (by rw [rowI_len]; omega), List.getElem?_eq_none (by omega)]
theorem rowI_mem {n : Nat} {g : Nat → Int} {x : Int} : x ∈ rowI n g ↔ ∃ i, i < n ∧ g i = x := by
  unfold rowI
  rw [List.mem_map]
  exact ⟨fun ⟨i, h, e⟩ => ⟨i, List.mem_range.mp h, e⟩, fun ⟨i, h, e⟩ => ⟨i, List.mem_range.mpr h, e⟩⟩
/-- the sum of the first n values of g -/
def sumI (n : Nat) (g : Nat → Int) : Int := (rowI n g).sum
theorem sumI_succ (n : Nat) (g : Nat → Int) : sumI (n + 1) g = sumI n g + g n := by
  unfold sumI
  rw [rowI_succ, List.sum_append, List.sum_cons, List.sum_nil]
  omega
theorem sumI_congr {n : Nat} {f g : Nat → Int} (h : ∀ i, i < n → f i = g i) : sumI n f = sumI n g := by
  unfold sumI
  rw [rowI_eq.mpr h]
theorem sumI_sub : ∀ (n : Nat) (f g : Nat → Int), sumI n (fun i => f i - g i) = sumI n f - sumI n g
  | 0, _, _ => rfl
  | n + 1, f, g => by rw [sumI_succ, sumI_succ, sumI_succ, sumI_sub n f g]; omega
theorem sumI_bound {n : Nat} {g : Nat → Int} {m : Int} (h : ∀ i, i < n → 0 ≤ g i ∧ g i ≤ m) : 0 ≤ sumI n g ∧ sumI n g ≤ n * m := by
  induction n with
  | zero => exact ⟨Int.le_refl 0, by show (0 : Int) ≤ ((0 : Nat) : Int) * m; omega⟩
  | succ n ih =>
    have h1 := ih fun i hi => h i (by omega)
    have h2 := h n (by omega)
    rw [sumI_succ]
    have e : ((n + 1 : Nat) : Int) * m = n * m + m := by rw [Int.natCast_add, Int.add_mul]; omega
    omega
/-- a square table of numbers, its rows at ps -/
structure Tab (H : Hp) (t : Addr) (ps : List Addr) (n : Nat) (f : Nat → Nat → Int) : Prop where
  lst : H t = some (.lst (ps.map V.ref))
  len : ps.length = n
  row : ∀ i p, ps[i]? = some p → H p = some (.lst ((rowI n (f i)).map V.int))
  nod : ps.Nodup
  out : t ∉ ps
theorem Tab.same {H H' : Hp} {t : Addr} {ps : List Addr} {n : Nat} {f : Nat → Nat → Int} (h : Tab H t ps n f) (e : Same H H') : Tab H' t ps n f :=
  ⟨e _ _ h.lst, h.len, fun i p hp => e _ _ (h.row i p hp), h.nod, h.out⟩
def tabL (n : Nat) (f : Nat → Nat → Int) : List (List Int) := (List.range n).map fun i => rowI n (f i)
theorem tabL_at {n : Nat} {f : Nat → Nat → Int} {i : Nat} (h : i < n) : (tabL n f)[i]? = some (rowI n (f i)) := by
  unfold tabL
  rw [List.getElem?_map, List.getElem?_range h]
  rfl
theorem tabL_eq {n : Nat} {f g : Nat → Nat → Int} : tabL n f = tabL n g ↔ ∀ i, i < n → ∀ j, j < n → f i j = g i j := by
  unfold tabL
  rw [List.map_inj_left]
  exact ⟨fun h i hi => rowI_eq.mp (h i (List.mem_range.mpr hi)), fun h i hi => rowI_eq.mpr (h i (List.mem_range.mp hi))⟩
theorem layD_tab : LayD (fun xs : List (List Int) => PyData.list (xs.map fun ys => PyData.list (ys.map PyData.int))) 2 (fun xs => ∀ x, x ∈ xs → ∀ y, y ∈ x → True) := layD_int.list.list
theorem Tab.dp {K : PySem.W.Frag} {H : Hp} {t : Addr} {ps : List Addr} {n : Nat} {f : Nat → Nat → Int} (h : Tab H t ps n f) : Dp K H (.ref t) (PyData.list ((tabL n f).map fun ys => PyData.list (ys.map PyData.int))) := by
  refine .lst (SqL.of h.lst) (dpAll_refs ?_ fun i p x h1 h2 => ?_)
  · rw [h.len]
    unfold tabL
    rw [List.length_map, List.length_range]
  · have hi := (List.getElem?_eq_some_iff.mp h1).1
    rw [h.len] at hi
    rw [tabL_at hi] at h2
    cases h2
    exact .lst (SqL.of (h.row i p h1)) (dpAll_ints _)
theorem refs_at {ps : List Addr} {i : Nat} {x : V} (h : (ps.map V.ref)[i]? = some x) : ∃ p, ps[i]? = some p ∧ x = V.ref p := by
  rw [List.getElem?_map] at h
  cases e : ps[i]? with
  | none => rw [e] at h; cases h
  | some z => rw [e] at h; exact ⟨z, rfl, (Option.some.inj h).symm⟩
theorem Tab.at {H : Hp} {t : Addr} {ps : List Addr} {n : Nat} {f : Nat → Nat → Int} (h : Tab H t ps n f) {i : Nat} (hi : i < n) : ∃ p, ps[i]? = some p ∧ atI (ps.map V.ref) (i : Int) = some (.ref p) ∧ H p = some (.lst ((rowI n (f i)).map V.int)) := by
  have hl : i < ps.length := by rw [h.len]; exact hi
  refine ⟨ps[i], List.getElem?_eq_getElem hl, at_of (j := i) rfl ?_, h.row i _ (List.getElem?_eq_getElem hl)⟩
  rw [List.getElem?_map, List.getElem?_eq_getElem hl]
  rfl

/-- a table that grows: m rows of n numbers -/
structure TabR (H : Hp) (t : Addr) (ps : List Addr) (m n : Nat) (f : Nat → Nat → Int) : Prop where
  lst : H t = some (.lst (ps.map V.ref))
  len : ps.length = m
  row : ∀ i p, ps[i]? = some p → H p = some (.lst ((rowI n (f i)).map V.int))
  nod : ps.Nodup
  out : t ∉ ps
theorem TabR.nil {H : Hp} {t : Addr} (n : Nat) (f : Nat → Nat → Int) (h : H t = some (.lst [])) : TabR H t [] 0 n f :=
  ⟨h, rfl, fun _ _ e => (by rw [List.getElem?_nil] at e; cases e), List.nodup_nil, fun h => (by cases h)⟩
theorem TabR.congr {H : Hp} {t : Addr} {ps : List Addr} {m n : Nat} {f g : Nat → Nat → Int} (h : TabR H t ps m n f) (e : ∀ i, i < m → ∀ j, j < n → f i j = g i j) : TabR H t ps m n g :=
  ⟨h.lst, h.len, fun i p hp => by
    have hi := (List.getElem?_eq_some_iff.mp hp).1
    rw [h.row i p hp, rowI_eq.mpr (e i (by rw [← h.len]; exact hi))], h.nod, h.out⟩
theorem TabR.push {H H' : Hp} {t p : Addr} {ps : List Addr} {m n : Nat} {f : Nat → Nat → Int} (h : TabR H t ps m n f) (e : Same H H') (np : H p = none) (hp : H' p = some (.lst ((rowI n (f m)).map V.int))) : TabR (upd H' t (.lst (ps.map V.ref ++ [V.ref p]))) t (ps ++ [p]) (m + 1) n f := by
  have hmem : ∀ q, q ∈ ps → ∃ o, H q = some o := fun q hq => by
    obtain ⟨i, hi⟩ := List.mem_iff_getElem?.mp hq
    exact ⟨_, h.row i q hi⟩
  have hpt : p ≠ t := fun z => by rw [z, h.lst] at np; cases np
  have hnp : p ∉ ps := fun z => by
    obtain ⟨o, ho⟩ := hmem p z
    rw [np] at ho
    cases ho
  refine ⟨?_, ?_, fun i q hq => ?_, ?_, ?_⟩
  · rw [upd_same, List.map_append]
    rfl
  · rw [List.length_append, h.len]
    rfl
  · by_cases hi : i < ps.length
    · rw [List.getElem?_append_left hi] at hq
      have hm := List.mem_of_getElem? hq
      rw [upd_ne (fun z => h.out (by rw [← z]; exact hm))]
      exact e _ _ (h.row i q hq)
    · rw [List.getElem?_append_right (by omega)] at hq
      have hi2 := (List.getElem?_eq_some_iff.mp hq).1
      have : i - ps.length = 0 := by
        rw [List.length_cons, List.length_nil] at hi2
        omega
      rw [this] at hq
      have hqp : p = q := Option.some.inj hq
      subst hqp
      rw [upd_ne hpt, hp]
      have : i = m := by have := h.len; omega
      rw [this]
  · rw [List.nodup_append]
    refine ⟨h.nod, List.nodup_cons.mpr ⟨fun z => (by cases z), List.nodup_nil⟩, fun a ha b hb z => ?_⟩
    rw [List.mem_singleton] at hb
    rw [hb] at z
    rw [z] at ha
    exact hnp ha
  · intro z
    rcases List.mem_append.mp z with z | z
    · exact h.out z
    · rw [List.mem_singleton] at z
      exact hpt z.symm
theorem TabR.tab {H : Hp} {t : Addr} {ps : List Addr} {n : Nat} {f : Nat → Nat → Int} (h : TabR H t ps n n f) : Tab H t ps n f := ⟨h.lst, h.len, h.row, h.nod, h.out⟩
theorem TabR.keep {H H0 : Hp} {t : Addr} {xs : List V} (s : Same H0 H) (nt : H0 t = none) : Same H0 (upd H t (.lst xs)) := fun b o e => by
  rw [upd_ne (ne_of_none e nt)]
  exact s b o e
/-- debts: one to thirteen houses, nobody owes itself -/
structure Debts (n : Nat) (f : Nat → Nat → Int) (m : Int) : Prop where
  n0 : 1 ≤ n
  n1 : n ≤ 13
  b : ∀ i, i < n → ∀ j, j < n → 0 ≤ f i j ∧ f i j ≤ m
  d : ∀ i, i < n → f i i = 0
theorem Debts.mono {n : Nat} {f : Nat → Nat → Int} {m k : Int} (h : Debts n f m) (e : m ≤ k) : Debts n f k := ⟨h.n0, h.n1, fun i hi j hj => ⟨(h.b i hi j hj).1, Int.le_trans (h.b i hi j hj).2 e⟩, h.d⟩

/-- [row[h] for row in t]: a column of a table -/
theorem lc_col {K : PySem.W.Frag} {t : Addr} {ps : List Addr} {n : Nat} {f : Nat → Nat → Int} {σ : L2.St} {H1 : Hp} {D : Addr} {j l h : Nat} {Qd : Hp → Prop} (ht : Tab H1 t ps n f) (hn : n ≤ 1000) (hh : h < n) (nD : H1 D = none) (hj : Nat.ble (j + 1) σ.length = true) (hlj : l ≠ j) (hl : σ[l]? = some (some (.int (h : Int))))
    (q : Qd (upd H1 D (.lst ((rowI n fun a => f a h).map V.int)))) :
    ∃ W : Nat → Nat → Hp → Prop, (∃ m, W 0 m (upd H1 D (.lst []))) ∧ ∀ i m H, W i m H →
      ((Itl K t).stop i H ∧ Qd H) ∨ ((Itl K t).go i H ∧ ∃ Nx : Hp → Prop, (∀ H', Nx H' → ∃ m', m' < m ∧ W (i + 1) m' H') ∧ ∀ x H', (Itl K t).yld i H x H' → gName j x (wipe σ [j]) H' fun σ2 H2 => wipe σ2 [j] = wipe σ [j] ∧ tYes σ2 H2 fun b H3 =>
        if b = true then tOp (rIxL K) (tVar j) (tVar l) σ2 H3 fun y H4 => ∃ acc, H4 D = some (.lst acc) ∧ acc.length < sizeLine ∧ Nx (upd H4 D (.lst (acc ++ [y]))) else Nx H3) := by
  have hs : SqL K H1 t (ps.map V.ref) := SqL.of ht.lst
  have hj' : j < (wipe σ [j]).length := by rw [wipe_length]; exact Nat.le_of_ble_eq_true hj
  refine lc_list (K := K) (a := t) (xs := ps.map V.ref) (fun i H' => H' = upd H1 D (.lst ((rowI i fun a => f a h).map V.int))) rfl (fun i H' _ e => by rw [e]; exact (same_upd nD).seq hs) ?_ ?_
  · rintro i x H' hx rfl
    obtain ⟨p, hp, rfl⟩ := refs_at hx
    have hi := (List.getElem?_eq_some_iff.mp hp).1
    rw [ht.len] at hi
    refine ⟨?_, ?_⟩
    · show ((wipe σ [j]).set j (some (V.ref p))).set j none = σ.set j none
      show ((σ.set j none).set j (some (V.ref p))).set j none = σ.set j none
      rw [List.set_set, List.set_set]
    · refine ⟨_, List.getElem?_set_self hj', _, ?_, p, (rowI n (f i)).map V.int, (h : Int), _, rfl, rfl, (same_upd nD).seq (SqL.of (ht.row i p hp)), atI_row hh, ?_⟩
      · show ((wipe σ [j]).set j (some (V.ref p)))[l]? = some (some (V.int (h : Int)))
        rw [List.getElem?_set_ne (fun e => hlj e.symm)]
        show (σ.set j none)[l]? = _
        rw [List.getElem?_set_ne (fun e => hlj e.symm)]
        exact hl
      · refine ⟨_, upd_same, ?_, ?_⟩
        · refine small1000 ?_
          rw [List.length_map, rowI_len]
          omega
        · rw [upd_upd, rowI_succ, List.map_append]
          rfl
  · rintro H' rfl
    rw [List.length_map, ht.len]
    exact q
/-- [t[b][h] for b in range(n)]: the same column -/
theorem lc_colR {K : PySem.W.Frag} {t : Addr} {ps : List Addr} {n : Nat} {f : Nat → Nat → Int} {σ : L2.St} {H1 : Hp} {D : Addr} {j l u h m : Nat} {Qd : Hp → Prop} (ht : Tab H1 t ps n f) (hn : n ≤ 1000) (hh : h < n) (nD : H1 D = none) (hm : m = n) (hj : Nat.ble (j + 1) σ.length = true) (hlj : l ≠ j) (huj : u ≠ j) (hl : σ[l]? = some (some (.int (h : Int)))) (hu : σ[u]? = some (some (.ref t)))
    (q : Qd (upd H1 D (.lst ((rowI n fun a => f a h).map V.int)))) :
    ∃ W : Nat → Nat → Hp → Prop, (∃ m, W 0 m (upd H1 D (.lst []))) ∧ ∀ i k H, W i k H →
      ((Itr 0 m).stop i H ∧ Qd H) ∨ ((Itr 0 m).go i H ∧ ∃ Nx : Hp → Prop, (∀ H', Nx H' → ∃ m', m' < k ∧ W (i + 1) m' H') ∧ ∀ x H', (Itr 0 m).yld i H x H' → gName j x (wipe σ [j]) H' fun σ2 H2 => wipe σ2 [j] = wipe σ [j] ∧ tYes σ2 H2 fun b H3 =>
        if b = true then tOp (rIxL K) (tOp (rIxL K) (tVar u) (tVar j)) (tVar l) σ2 H3 fun y H4 => ∃ acc, H4 D = some (.lst acc) ∧ acc.length < sizeLine ∧ Nx (upd H4 D (.lst (acc ++ [y]))) else Nx H3) := by
  subst hm
  have hj' : j < (wipe σ [j]).length := by rw [wipe_length]; exact Nat.le_of_ble_eq_true hj
  have keep : ∀ (y : V) (i : Nat) (x : Option V), i ≠ j → σ[i]? = some x → ((wipe σ [j]).set j (some y))[i]? = some x := fun y i x e z => by
    rw [List.getElem?_set_ne fun w => e w.symm]
    show (σ.set j none)[i]? = _
    rw [List.getElem?_set_ne fun w => e w.symm]
    exact z
  refine lc_range (lo := 0) (n := m) (fun i H' => H' = upd H1 D (.lst ((rowI i fun a => f a h).map V.int))) rfl ?_ ?_
  · rintro i H' hi rfl
    rw [show (0 : Int) + i = ((i : Nat) : Int) by omega]
    have s1 : Same H1 (upd H1 D (.lst ((rowI i fun a => f a h).map V.int))) := same_upd nD
    obtain ⟨p, hp, ha, hr⟩ := (ht.same s1).at hi
    refine ⟨?_, ?_⟩
    · show ((wipe σ [j]).set j (some (V.int (i : Int)))).set j none = σ.set j none
      show ((σ.set j none).set j (some (V.int (i : Int)))).set j none = σ.set j none
      rw [List.set_set, List.set_set]
    · refine ⟨_, keep _ _ _ huj hu, _, List.getElem?_set_self hj', t, ps.map V.ref, (i : Int), _, rfl, rfl, SqL.of (ht.same s1).lst, ha, _, keep _ _ _ hlj hl, p, (rowI m (f i)).map V.int, (h : Int), _, rfl, rfl, SqL.of hr, atI_row hh, ?_⟩
      refine ⟨_, upd_same, ?_, ?_⟩
      · refine small1000 ?_
        rw [List.length_map, rowI_len]
        omega
      · rw [upd_upd, rowI_succ, List.map_append]
        rfl
  · rintro H' rfl
    exact q
/-- [list(row) for row in t]: a table copied -/
theorem lc_copy {K : PySem.W.Frag} {t : Addr} {ps : List Addr} {n : Nat} {f : Nat → Nat → Int} {σ : L2.St} {H1 : Hp} {D : Addr} {j : Nat} {Qd : Hp → Prop} (ht : Tab H1 t ps n f) (hn : n ≤ 1000) (nD : H1 D = none) (hj : Nat.ble (j + 1) σ.length = true)
    (q : ∀ H' qs, Same H1 H' → Tab H' D qs n f → (∀ q, q ∈ qs → H1 q = none) → Qd H') :
    ∃ W : Nat → Nat → Hp → Prop, (∃ m, W 0 m (upd H1 D (.lst []))) ∧ ∀ i m H, W i m H →
      ((Itl K t).stop i H ∧ Qd H) ∨ ((Itl K t).go i H ∧ ∃ Nx : Hp → Prop, (∀ H', Nx H' → ∃ m', m' < m ∧ W (i + 1) m' H') ∧ ∀ x H', (Itl K t).yld i H x H' → gName j x (wipe σ [j]) H' fun σ2 H2 => wipe σ2 [j] = wipe σ [j] ∧ tYes σ2 H2 fun b H3 =>
        if b = true then tCB (rListOf K) (tCons (tVar j) tNil) σ2 H3 fun y H4 => ∃ acc, H4 D = some (.lst acc) ∧ acc.length < sizeLine ∧ Nx (upd H4 D (.lst (acc ++ [y]))) else Nx H3) := by
  have hs : SqL K H1 t (ps.map V.ref) := SqL.of ht.lst
  have hj' : j < (wipe σ [j]).length := by rw [wipe_length]; exact Nat.le_of_ble_eq_true hj
  refine lc_list (K := K) (a := t) (xs := ps.map V.ref) (fun i H' => ∃ qs, TabR H' D qs i n f ∧ Same H1 H' ∧ ∀ q, q ∈ qs → H1 q = none) ⟨[], .nil n f upd_same, same_upd nD, fun _ h => by cases h⟩ (fun i H' _ ⟨_, _, e, _⟩ => e.seq hs) ?_ ?_
  · rintro i x H' hx ⟨qs, hT, e, hfree⟩
    obtain ⟨p, hp, rfl⟩ := refs_at hx
    have hi := (List.getElem?_eq_some_iff.mp hp).1
    rw [ht.len] at hi
    refine ⟨?_, ?_⟩
    · show ((wipe σ [j]).set j (some (V.ref p))).set j none = σ.set j none
      show ((σ.set j none).set j (some (V.ref p))).set j none = σ.set j none
      rw [List.set_set, List.set_set]
    · refine ⟨_, List.getElem?_set_self hj', p, (rowI n (f i)).map V.int, rfl, .inl (e.seq (SqL.of (ht.row i p hp))), fun l nl => ?_⟩
      have sl := same_upd (o := .lst ((rowI n (f i)).map V.int)) nl
      refine ⟨_, sl _ _ hT.lst, ?_, qs ++ [l], hT.push sl nl upd_same, TabR.keep (e.trans sl) nD, fun q hq => ?_⟩
      · refine small1000 ?_
        rw [List.length_map, hT.len]
        omega
      · rcases List.mem_append.mp hq with hq | hq
        · exact hfree q hq
        · rw [List.mem_singleton.mp hq]
          exact e.free nl
  · rintro H' ⟨qs, hT, e, hfree⟩
    rw [List.length_map, ht.len] at hT
    exact q H' qs e hT.tab hfree
/-- [sum(row) for row in t] -/
theorem lc_sums {K : PySem.W.Frag} {t : Addr} {ps : List Addr} {n : Nat} {f : Nat → Nat → Int} {σ : L2.St} {H1 : Hp} {D : Addr} {j : Nat} {Qd : Hp → Prop} (ht : Tab H1 t ps n f) (hn : n ≤ 1000) (nD : H1 D = none) (hj : Nat.ble (j + 1) σ.length = true)
    (q : Qd (upd H1 D (.lst ((rowI n fun a => sumI n (f a)).map V.int)))) :
    ∃ W : Nat → Nat → Hp → Prop, (∃ m, W 0 m (upd H1 D (.lst []))) ∧ ∀ i m H, W i m H →
      ((Itl K t).stop i H ∧ Qd H) ∨ ((Itl K t).go i H ∧ ∃ Nx : Hp → Prop, (∀ H', Nx H' → ∃ m', m' < m ∧ W (i + 1) m' H') ∧ ∀ x H', (Itl K t).yld i H x H' → gName j x (wipe σ [j]) H' fun σ2 H2 => wipe σ2 [j] = wipe σ [j] ∧ tYes σ2 H2 fun b H3 =>
        if b = true then tCB (rSum K) (tCons (tVar j) tNil) σ2 H3 fun y H4 => ∃ acc, H4 D = some (.lst acc) ∧ acc.length < sizeLine ∧ Nx (upd H4 D (.lst (acc ++ [y]))) else Nx H3) := by
  have hs : SqL K H1 t (ps.map V.ref) := SqL.of ht.lst
  have hj' : j < (wipe σ [j]).length := by rw [wipe_length]; exact Nat.le_of_ble_eq_true hj
  refine lc_list (K := K) (a := t) (xs := ps.map V.ref) (fun i H' => H' = upd H1 D (.lst ((rowI i fun a => sumI n (f a)).map V.int))) rfl (fun i H' _ e => by rw [e]; exact (same_upd nD).seq hs) ?_ ?_
  · rintro i x H' hx rfl
    obtain ⟨p, hp, rfl⟩ := refs_at hx
    have hi := (List.getElem?_eq_some_iff.mp hp).1
    rw [ht.len] at hi
    refine ⟨?_, ?_⟩
    · show ((wipe σ [j]).set j (some (V.ref p))).set j none = σ.set j none
      show ((σ.set j none).set j (some (V.ref p))).set j none = σ.set j none
      rw [List.set_set, List.set_set]
    · refine ⟨_, List.getElem?_set_self hj', p, rowI n (f i), rfl, (same_upd nD).seq (SqL.of (ht.row i p hp)), ?_⟩
      refine ⟨_, upd_same, ?_, ?_⟩
      · refine small1000 ?_
        rw [List.length_map, rowI_len]
        omega
      · rw [upd_upd, rowI_succ, List.map_append]
        rfl
  · rintro H' rfl
    rw [List.length_map, ht.len]
    exact q

/-- a list of tuples: the tuple of each item -/
structure Tups {α : Type} (enc : α → List V) (H : Hp) (l : Addr) (ps : List Addr) (xs : List α) : Prop where
  lst : H l = some (.lst (ps.map V.ref))
  len : ps.length = xs.length
  row : ∀ (i : Nat) (p : Addr) (x : α), ps[i]? = some p → xs[i]? = some x → H p = some (.tup (enc x))
theorem Tups.nil {α : Type} {enc : α → List V} {H : Hp} {l : Addr} (h : H l = some (.lst [])) : Tups enc H l [] ([] : List α) :=
  ⟨h, rfl, fun _ _ _ e => (by rw [List.getElem?_nil] at e; cases e)⟩
theorem Tups.same {α : Type} {enc : α → List V} {H H' : Hp} {l : Addr} {ps : List Addr} {xs : List α} (h : Tups enc H l ps xs) (e : Same H H') : Tups enc H' l ps xs :=
  ⟨e _ _ h.lst, h.len, fun i p x a b => e _ _ (h.row i p x a b)⟩
theorem Tups.at {α : Type} {enc : α → List V} {H : Hp} {l : Addr} {ps : List Addr} {xs : List α} (h : Tups enc H l ps xs) {i : Nat} {x : α} (e : xs[i]? = some x) : ∃ p, ps[i]? = some p ∧ atI (ps.map V.ref) (i : Int) = some (.ref p) ∧ H p = some (.tup (enc x)) := by
  have hi := (List.getElem?_eq_some_iff.mp e).1
  have hl : i < ps.length := by rw [h.len]; exact hi
  refine ⟨ps[i], List.getElem?_eq_getElem hl, at_of (j := i) rfl ?_, h.row i _ x (List.getElem?_eq_getElem hl) e⟩
  rw [List.getElem?_map, List.getElem?_eq_getElem hl]
  rfl
theorem Tups.item {α : Type} {enc : α → List V} {H : Hp} {l : Addr} {ps : List Addr} {xs : List α} (h : Tups enc H l ps xs) {i : Nat} {v : V} (e : (ps.map V.ref)[i]? = some v) : ∃ p x, ps[i]? = some p ∧ xs[i]? = some x ∧ v = .ref p ∧ H p = some (.tup (enc x)) := by
  obtain ⟨p, hp, rfl⟩ := refs_at e
  have hi := (List.getElem?_eq_some_iff.mp hp).1
  rw [h.len] at hi
  exact ⟨p, xs[i], hp, List.getElem?_eq_getElem hi, rfl, h.row i p _ hp (List.getElem?_eq_getElem hi)⟩
theorem Tups.push {α : Type} {enc : α → List V} {H H' : Hp} {l p : Addr} {ps : List Addr} {xs : List α} {x : α} (h : Tups enc H l ps xs) (e : Same H H') (np : H p = none) (hp : H' p = some (.tup (enc x))) : Tups enc (upd H' l (.lst (ps.map V.ref ++ [V.ref p]))) l (ps ++ [p]) (xs ++ [x]) := by
  have hpl : p ≠ l := fun z => by rw [z, h.lst] at np; cases np
  refine ⟨?_, ?_, fun i q y hq hy => ?_⟩
  · rw [upd_same, List.map_append]
    rfl
  · rw [List.length_append, List.length_append, h.len]
    rfl
  · by_cases hi : i < ps.length
    · rw [List.getElem?_append_left hi] at hq
      rw [List.getElem?_append_left (by rw [← h.len]; exact hi)] at hy
      have hq2 := h.row i q y hq hy
      rw [upd_ne (fun z => by rw [z, h.lst] at hq2; cases hq2)]
      exact e _ _ hq2
    · rw [List.getElem?_append_right (by omega)] at hq
      rw [List.getElem?_append_right (by have := h.len; omega)] at hy
      have h1 := (List.getElem?_eq_some_iff.mp hq).1
      rw [List.length_cons, List.length_nil] at h1
      have e0 : i - ps.length = 0 := by omega
      have e1 : i - xs.length = 0 := by have := h.len; omega
      rw [e0] at hq
      rw [e1] at hy
      have z1 : p = q := Option.some.inj hq
      have z2 : x = y := Option.some.inj hy
      rw [← z1, ← z2, upd_ne hpl]
      exact hp
theorem Tups.dp {α : Type} {enc : α → List V} {L : α → PyData} {K : PySem.W.Frag} {H : Hp} {l : Addr} {ps : List Addr} {xs : List α} (h : Tups enc H l ps xs) (he : ∀ x (p : Addr), H p = some (.tup (enc x)) → Dp K H (.ref p) (L x)) : Dp K H (.ref l) (PyData.list (xs.map L)) :=
  .lst (SqL.of h.lst) (dpAll_refs h.len fun i p x h1 h2 => he x p (h.row i p x h1 h2))
def enc2 (x : Int × Int) : List V := [.int x.1, .int x.2]
def enc3 (x : Int × Int × Int) : List V := [.int x.1, .int x.2.1, .int x.2.2]
def lay3 (x : Int × Int × Int) : PyData := .tuple [.int x.1, .int x.2.1, .int x.2.2]
theorem layD_3 : LayD lay3 1 (fun x => True ∧ True ∧ True) := layD_int.tup3 layD_int layD_int
theorem dp3 {K : PySem.W.Frag} {H : Hp} (x : Int × Int × Int) (p : Addr) (h : H p = some (.tup (enc3 x))) : Dp K H (.ref p) (lay3 x) :=
  .tup (SqT.of h) (.cons (.int _) (.cons (.int _) (.cons (.int _) .nil)))

theorem in1_lt {k : Nat} {A : Around} (hr : Room k A) : A.in1.units < cLine := by
  have := hr.un
  simp only [Around.in1_units]
  omega
/-- a comprehension over enumerate(xs) -/
theorem lc_enum {K : PySem.W.Frag} {a : Addr} {xs : List V} {g : TG} {tt : TT} {te : TE} {vs : List Nat} {σ : L2.St} {H1 : Hp} {D : Addr} {Qd : Hp → Prop} (Pv : Nat → Hp → Prop) (h0 : Pv 0 (upd H1 D (.lst []))) (hl : ∀ i H, i ≤ xs.length → Pv i H → SqL K H a xs)
    (hs : ∀ (i : Nat) (x : V) (H : Hp) (T : Addr), xs[i]? = some x → Pv i H → H T = none → g (.ref T) (wipe σ vs) (upd H T (.tup [.int (i : Int), x])) fun σ2 H2 => wipe σ2 vs = wipe σ vs ∧ tt σ2 H2 fun b H3 =>
      if b = true then te σ2 H3 fun y H4 => ∃ acc, H4 D = some (.lst acc) ∧ acc.length < sizeLine ∧ Pv (i + 1) (upd H4 D (.lst (acc ++ [y]))) else Pv (i + 1) H3) (hd : ∀ H, Pv xs.length H → Qd H) :
    ∃ W : Nat → Nat → Hp → Prop, (∃ m, W 0 m (upd H1 D (.lst []))) ∧ ∀ i m H, W i m H →
      ((Ite K a).stop i H ∧ Qd H) ∨ ((Ite K a).go i H ∧ ∃ Nx : Hp → Prop, (∀ H', Nx H' → ∃ m', m' < m ∧ W (i + 1) m' H') ∧ ∀ x H', (Ite K a).yld i H x H' → g x (wipe σ vs) H' fun σ2 H2 => wipe σ2 vs = wipe σ vs ∧ tt σ2 H2 fun b H3 =>
        if b = true then te σ2 H3 fun y H4 => ∃ acc, H4 D = some (.lst acc) ∧ acc.length < sizeLine ∧ Nx (upd H4 D (.lst (acc ++ [y]))) else Nx H3) := by
  refine ⟨fun i m H => m + i = xs.length ∧ Pv i H, ⟨xs.length, rfl, h0⟩, ?_⟩
  rintro i m H ⟨em, p⟩
  have q := hl i H (by omega) p
  by_cases hlt : i < xs.length
  · refine .inr ⟨⟨xs, xs[i], q, List.getElem?_eq_getElem hlt⟩, Pv (i + 1), fun H' p' => ⟨m - 1, by omega, by omega, p'⟩, fun x H' y => ?_⟩
    obtain ⟨T, z, rfl, nT, rfl, hz⟩ := y
    exact hs i z H T (hz xs q) p nT
  · have e : i = xs.length := by omega
    subst e
    exact .inl ⟨⟨xs, q, Nat.le_refl _⟩, hd H p⟩

theorem pget_list {X : Cx} : PGet X (fun x y H Q => ∃ (p : Addr) (xs : List V) (j : Nat) (z : V), x = .ref p ∧ y = .int (j : Int) ∧ SqL X.K H p xs ∧ xs[j]? = some z ∧ Q z H) := by
  intro pins s σ H x y v u Q I rx ry h
  obtain ⟨p, xs, j, z, rfl, rfl, hq, he, q⟩ := h
  cases rx
  obtain ⟨t, rfl⟩ := ry
  obtain ⟨its, r, pl, hz⟩ := I.list hq
  obtain ⟨w, ew, rw'⟩ := r.get he
  have hl := r.length
  have hn := line63
  have hj := (List.getElem?_eq_some_iff.mp he).1
  exact wpAny_getItem_list pl.isList (by omega) (by omega) (by simpa using ew) ⟨z, H, I, rw', q⟩

section
variable {P : Program} {w : World} {K : PySem.W.Frag} {mg : Str → Option Value} {base : Heap}
/-- pairing off two lists of (name, amount), first with first -/
inductive PO : List (Int × Int) → List (Int × Int) → List (Int × Int × Int) → Prop
  | nil : PO [] [] []
  | lt {g a t b : Int} {gs ts : List (Int × Int)} {R : List (Int × Int × Int)} : a < b → PO gs ((t, b - a) :: ts) R → PO ((g, a) :: gs) ((t, b) :: ts) ((g, t, a) :: R)
  | eq {g a t : Int} {gs ts : List (Int × Int)} {R : List (Int × Int × Int)} : PO gs ts R → PO ((g, a) :: gs) ((t, a) :: ts) ((g, t, a) :: R)
  | gt {g a t b : Int} {gs ts : List (Int × Int)} {R : List (Int × Int × Int)} : b < a → PO ((g, a - b) :: gs) ts R → PO ((g, a) :: gs) ((t, b) :: ts) ((g, t, b) :: R)
def amts (xs : List (Int × Int)) : Int := (xs.map (·.2)).sum
theorem amts_cons (x : Int × Int) (xs : List (Int × Int)) : amts (x :: xs) = x.2 + amts xs := by
  unfold amts
  rw [List.map_cons, List.sum_cons]
def Pos2 (xs : List (Int × Int)) : Prop := ∀ x, x ∈ xs → 1 ≤ x.2
theorem Pos2.amts0 : ∀ {xs : List (Int × Int)}, Pos2 xs → 0 ≤ amts xs ∧ (amts xs = 0 → xs = [])
  | [], _ => ⟨Int.le_refl 0, fun _ => rfl⟩
  | x :: xs, h => by
    have h1 := Pos2.amts0 (xs := xs) fun y hy => h y (List.mem_cons_of_mem _ hy)
    have h2 := h x List.mem_cons_self
    rw [amts_cons]
    exact ⟨by omega, fun z => by omega⟩
/-- what the takers still want, from the place at on -/
def wantL (ts : List (Int × Int)) (ws : List Int) (at' : Nat) : List (Int × Int) := ((ts.map (·.1)).zip ws).drop at'
theorem wantL_at {ts : List (Int × Int)} {ws : List Int} {k : Nat} {t : Int × Int} (hl : ws.length = ts.length) (h : ts[k]? = some t) : wantL ts ws k = (t.1, at0 ws k) :: wantL ts ws (k + 1) := by
  have hk := (List.getElem?_eq_some_iff.mp h).1
  unfold wantL
  have hz : k < ((ts.map (·.1)).zip ws).length := by rw [List.length_zip, List.length_map]; omega
  rw [List.drop_eq_getElem_cons hz]
  congr 1
  have e := List.getElem?_eq_getElem hz
  rw [List.getElem?_zip_eq_some (z := (t.1, at0 ws k)).mpr ⟨by rw [List.getElem?_map, h]; rfl, at0_lt (ws := ws) (i := k) (by omega)⟩] at e
  exact (Option.some.inj e).symm
theorem wantL_end {ts : List (Int × Int)} {ws : List Int} {k : Nat} (hl : ws.length = ts.length) (h : ts.length ≤ k) : wantL ts ws k = [] := by
  unfold wantL
  refine List.drop_eq_nil_of_le ?_
  rw [List.length_zip, List.length_map]
  omega
theorem wantL_set {ts : List (Int × Int)} {ws : List Int} {k j : Nat} {x : Int} (h : k < j) : wantL ts (ws.set k x) j = wantL ts ws j := by
  unfold wantL
  show (List.zipWith Prod.mk _ _).drop j = (List.zipWith Prod.mk _ _).drop j
  rw [List.drop_zipWith, List.drop_zipWith, List.drop_set_of_lt h]
theorem wantL_0 (ts : List (Int × Int)) : wantL ts (ts.map (·.2)) 0 = ts := by
  unfold wantL
  rw [List.drop_zero, List.zip_map']
  exact List.map_id' ts
def sp_pair_off (K : PySem.W.Frag) : Sp := fun vs H Q _ => ∃ (l m : Addr) (ps qs : List Addr) (gs ts : List (Int × Int)), vs = [.ref l, .ref m] ∧ Tups enc2 H l ps gs ∧ Tups enc2 H m qs ts ∧ Pos2 gs ∧ Pos2 ts ∧ amts gs = amts ts ∧ gs.length + ts.length ≤ 1000 ∧
  ∀ p H' rs R, Same H H' → H p = none → Tups enc3 H' p rs R → PO gs ts R → Q (.ref p) H'
theorem ok_pair_off (T : Txt K mg) : FnOk P w K mg base CX0 1 T.f_pair_off T.d_pair_off ["givers", "takers"] (sp_pair_off K) := by
  refine T.F_pair_off.ok sc_pair_off (fun vs H Q E h => ?_) (fun cdv A outer s H vs Q E hr h => ?_)
  · obtain ⟨l, m, ps, qs, gs, ts, rfl, _⟩ := h
    rfl
  · obtain ⟨l, m, ps, qs, gs, ts, rfl, hg, ht, pg, pt, hsum, hlen, q⟩ := h
    refine ⟨_, (pss_cons (ps_set (i := 2) sc_pair_off.nd rfl (Or.inl rfl) (pe_lst pa_nil))
    (pss_cons (ps_setLc (i := 3) (own := [("_", 4), ("amount", 5)]) (tt := tYes) rfl sc_pair_off.nd rfl rfl (sw_true rfl rfl rfl (by decide +kernel)) (pi_list (pv 1)) (blkOk_by (own := [("_", 4), ("amount", 5)]) (N := N_pair_off) (sc := defScope s_pair_off) (by decide +kernel)) (fun _ _ _ _ _ => (show PG _ _ (gTup K 2 (gCons (gName 4) (gCons (gName 5) gNil))) from (pg_tup rfl (pgs_cons (pg_name (i := 4) sc_pair_off.nd rfl (Or.inl rfl)) (pgs_cons (pg_name (i := 5) sc_pair_off.nd rfl (Or.inl rfl)) pgs_nil))))) (fun _ _ _ _ _ => pts_nil) (fun _ _ _ _ _ => (pv 5)))
    (pss_cons (ps_set (i := 6) sc_pair_off.nd rfl (Or.inl rfl) pe_int)
    (pss_cons (ps_for PassesOwn.never rfl (pi_list (pv 0)) (pg_tup rfl (pgs_cons (pg_name (i := 7) sc_pair_off.nd rfl (Or.inl rfl)) (pgs_cons (pg_name (i := 5) sc_pair_off.nd rfl (Or.inl rfl)) pgs_nil)))
      (pss_cons (ps_set (i := 8) sc_pair_off.nd rfl (Or.inl rfl) (pv 5))
      (pss_one (ps_while PassesOwn.never (pt_cmpR op_gt (pv 8) pe_int (nomark _))
        (pss_cons (ps_set (i := 9) sc_pair_off.nd rfl (Or.inl rfl) (pe_callB (call_min2 rfl) (by rfl) T.z_min (by decide +kernel) (pa_cons (pv 8) (pa_cons (pe_ix ix_list (pv 3) (pv 6) (fun _ _ => rfl)) pa_nil))))
        (pss_cons (ps_expr (pe_bm PySem.F.plainAttrs_list PySem.F.slot_list_append PySem.F.type_list_append mt_append (pv 2) (pa_cons (pe_tup (pa_cons (pv 7) (pa_cons (pe_ix ix_tup (pe_ix ix_list (pv 1) (pv 6) (fun _ _ => rfl)) pe_int (fun _ _ => rfl)) (pa_cons (pv 9) pa_nil)))) pa_nil)))
        (pss_cons (ps_aug (i := 8) sc_pair_off.nd rfl (Or.inl rfl) (pv 9) ip_sub)
        (pss_cons (ps_augS (pv 3) (pv 6) pget_list (pv 9) ip_sub set_list)
        (pss_one (ps_if (pt_cmpR op_eq (pe_ix ix_list (pv 3) (pv 6) (fun _ _ => rfl)) pe_int (nomark _))
          (pss_one (ps_aug (i := 6) sc_pair_off.nd rfl (Or.inl rfl) pe_int ip_add))
          pss_nil))))))))))
    (pss_one (ps_ret (pv 2))))))), ?_⟩
    have sg : SqL K H l (ps.map V.ref) := SqL.of hg.lst
    have st : SqL K H m (qs.map V.ref) := SqL.of ht.lst
    walk_at "st"
    intro D nD
    have eD : (upd H D (.lst [])) D = some (.lst []) := upd_same
    have s1 : Same H (upd H D (.lst [])) := same_upd nD
    generalize upd H D (.lst []) = H1 at eD s1
    have hg1 := hg.same s1
    have ht1 := ht.same s1
    have st1 := s1.seq st
    have sg1 := s1.seq sg
    walk_at "st"
    intro W nW
    refine lc_list (K := K) (a := m) (xs := qs.map V.ref) (fun i H' => H' = upd H1 W (.lst (((ts.take i).map (·.2)).map V.int))) rfl (fun i H' _ e => by rw [e]; exact (same_upd nW).seq st1) ?_ ?_
    · rintro i x H' hx rfl
      have hi := (List.getElem?_eq_some_iff.mp hx).1
      obtain ⟨p, y, hp, hy, rfl, hr⟩ := ht1.item hx
      have hr2 : SqT K (upd H1 W (.lst (((ts.take i).map (·.2)).map V.int))) p (enc2 y) := SqT.of ((same_upd nW) _ _ hr)
      unfold enc2 at hr2
      walk_at "st"
      refine ⟨small1000 (by rw [List.length_map, List.length_map, List.length_take]; omega), ?_⟩
      rw [upd_upd, take_succ hy, List.map_append, List.map_append]
      rfl
    · rintro H' rfl
      rw [List.length_map, ht1.len, List.take_length]
      have eW : (upd H1 W (.lst ((ts.map (·.2)).map V.int))) W = some (.lst ((ts.map (·.2)).map V.int)) := upd_same
      have s2 : Same H1 (upd H1 W (.lst ((ts.map (·.2)).map V.int))) := same_upd nW
      have hDW : D ≠ W := fun z => by rw [z, nW] at eD; cases eD
      have eD2 := s2 _ _ eD
      generalize upd H1 W (.lst ((ts.map (·.2)).map V.int)) = H2 at eW s2 eD2
      have s02 := s1.trans s2
      have nW0 : H W = none := s1.free nW
      have sg2 := s02.seq sg
      walk_at "st"
      refine for_list (K := K) (a := l) (xs := ps.map V.ref) (fun i σ H' => ∃ (v5 v7 v8 v9 : Option V) (k : Nat) (ws : List Int) (rs : List Addr) (R : List (Int × Int × Int)), σ = [some (.ref l), some (.ref m), some (.ref D), some (.ref W), none, v5, some (.int (k : Int)), v7, v8, v9] ∧ Same H H' ∧ Tups enc3 H' D rs R ∧ H' W = some (.lst (ws.map V.int)) ∧ ws.length = ts.length ∧ k ≤ ts.length ∧ Pos2 (wantL ts ws k) ∧ amts (gs.drop i) = amts (wantL ts ws k) ∧ R.length ≤ i + k ∧ ∀ L, PO (gs.drop i) (wantL ts ws k) L → PO gs ts (R ++ L))
        ⟨none, none, none, none, 0, ts.map (·.2), [], [], rfl, s02, .nil eD2, eW, by rw [List.length_map], Nat.zero_le _, by rw [wantL_0]; exact pt, by rw [wantL_0]; exact hsum, Nat.zero_le _, fun L h => by rw [wantL_0] at h; exact h⟩ (fun i σ H' _ ⟨_, _, _, _, _, _, _, _, _, e, _⟩ => e.seq sg) ?_ ?_
      · rintro i x σ H' hx ⟨v5, v7, v8, v9, k, ws, rs, R, rfl, e, hR, hW, hwl, hk, hpos, hsm, hRl, hPO⟩
        obtain ⟨p, g, hp, hgi, rfl, hr⟩ := (hg.same e).item hx
        have hi := (List.getElem?_eq_some_iff.mp hgi).1
        have hdrop : gs.drop i = g :: gs.drop (i + 1) := by
          rw [List.drop_eq_getElem_cons hi]
          congr 1
          exact Option.some.inj ((List.getElem?_eq_getElem hi).symm.trans hgi)
        have hgp := pg g (List.mem_of_getElem? hgi)
        have hr2 : SqT K H' p (enc2 g) := SqT.of hr
        unfold enc2 at hr2
        walk_at "st"
        refine while_by (fun σ H' => ∃ (v9 : Option V) (r : Int) (k : Nat) (ws : List Int) (rs : List Addr) (R : List (Int × Int × Int)), σ = [some (.ref l), some (.ref m), some (.ref D), some (.ref W), none, some (.int g.2), some (.int (k : Int)), some (.int g.1), some (.int r), v9] ∧ Same H H' ∧ Tups enc3 H' D rs R ∧ H' W = some (.lst (ws.map V.int)) ∧ ws.length = ts.length ∧ k ≤ ts.length ∧ Pos2 (wantL ts ws k) ∧ 0 ≤ r ∧ r + amts (gs.drop (i + 1)) = amts (wantL ts ws k) ∧ R.length ≤ i + k + (if 0 < r then 0 else 1) ∧ ∀ L, PO (if 0 < r then (g.1, r) :: gs.drop (i + 1) else gs.drop (i + 1)) (wantL ts ws k) L → PO gs ts (R ++ L))
          (fun σ _ => match σ with | [_, _, _, _, _, _, _, _, some (.int r), _] => r.toNat | _ => 0)
          ⟨v9, g.2, k, ws, rs, R, rfl, e, hR, hW, hwl, hk, hpos, by omega, by rw [← hsm, hdrop, amts_cons], by rw [if_pos (by omega)]; omega, fun L h => by rw [if_pos (by omega)] at h; rw [hdrop] at hPO; exact hPO L h⟩ ?_ ?_
        · rintro σ H3 ⟨v9, r, k, ws, rs, R, rfl, e3, hR, hW, hwl, hk, hpos, hr0, hsm, hRl, hPO⟩
          walk_at "st"
          refine iteD (fun h => ?_) (fun h => ?_)
          · rw [if_pos h] at hPO hRl
            have hrest := Pos2.amts0 (xs := gs.drop (i + 1)) fun y hy => pg y (List.mem_of_mem_drop hy)
            have hk2 : k < ts.length := by
              rcases Nat.lt_or_ge k ts.length with z | z
              · exact z
              · rw [wantL_end hwl z] at hsm
                have : amts [] = 0 := rfl
                omega
            have htk := List.getElem?_eq_getElem hk2
            generalize ts[k] = t at htk
            have hw := wantL_at hwl htk
            rw [hw] at hpos hsm hPO
            have hw1 : 1 ≤ at0 ws k := hpos _ List.mem_cons_self
            have hpos' : Pos2 (wantL ts ws (k + 1)) := fun y hy => hpos y (List.mem_cons_of_mem _ hy)
            rw [amts_cons] at hsm
            obtain ⟨pt', hpt1, hpt2, hpt3⟩ := (ht.same e3).at htk
            have hpt4 : SqT K H3 pt' (enc2 t) := SqT.of hpt3
            unfold enc2 at hpt4
            have hm3 : SqL K H3 m (qs.map V.ref) := e3.seq st
            have hW3 : SqL K H3 W (ws.map V.int) := SqL.of hW
            have aW := atI_n (ws := ws) (j := k) (by omega)
            have hRD := hR.lst
            generalize hpart : (if at0 ws k < r then at0 ws k else r) = part
            walk_at "st"
            rw [hpart]
            intro T nT
            have s4 := same_upd (o := .tup [.int g.1, .int t.1, .int part]) nT
            have hT4 : upd H3 T (.tup [.int g.1, .int t.1, .int part]) T = some (.tup (enc3 (g.1, t.1, part))) := upd_same
            have hRD4 := s4 _ _ hRD
            have hR5 := hR.push s4 nT hT4
            have nTW : H T = none := e3.free nT
            have e5 : Same H (upd (upd H3 T (.tup [.int g.1, .int t.1, .int part])) D (.lst (rs.map V.ref ++ [.ref T]))) := TabR.keep (e3.trans s4) nD
            have hW5 : upd (upd H3 T (.tup [.int g.1, .int t.1, .int part])) D (.lst (rs.map V.ref ++ [.ref T])) W = some (.lst (ws.map V.int)) := by
              rw [upd_ne hDW.symm]
              exact s4 _ _ hW
            have hRs : (rs.map V.ref).length < sizeLine := small1000 (by rw [List.length_map, hR.len]; omega)
            have hWk : (ws.map V.int)[k]? = some (.int (at0 ws k)) := by rw [List.getElem?_map, at0_lt (by omega)]; rfl
            have hWx : ixN (ws.map V.int).length ((k : Nat) : Int) = some k := ixN_nat (by rw [List.length_map]; omega)
            have hWs : atI ((ws.map V.int).set k (.int (at0 ws k - part))) ((k : Nat) : Int) = some (.int (at0 ws k - part)) := by
              rw [← List.map_set, atI_n (by rw [List.length_set]; omega), at0_set (by omega), if_pos rfl]
            walk_at "st"
            have hDW5 : Tups enc3 (upd (upd (upd H3 T (.tup [.int g.1, .int t.1, .int part])) D (.lst (rs.map V.ref ++ [.ref T]))) W (.lst ((ws.map V.int).set k (.int (at0 ws k - part))))) D (rs ++ [T]) (R ++ [(g.1, t.1, part)]) := by
              refine ⟨?_, hR5.len, fun j p x h1 h2 => ?_⟩
              · rw [upd_ne hDW]
                exact hR5.lst
              · have z := hR5.row j p x h1 h2
                rw [upd_ne (fun y => by rw [y, hW5] at z; cases z)]
                exact z
            have e6 : Same H (upd (upd (upd H3 T (.tup [.int g.1, .int t.1, .int part])) D (.lst (rs.map V.ref ++ [.ref T]))) W (.lst ((ws.map V.int).set k (.int (at0 ws k - part))))) := TabR.keep e5 nW0
            have hW6 : (upd (upd (upd H3 T (.tup [.int g.1, .int t.1, .int part])) D (.lst (rs.map V.ref ++ [.ref T]))) W (.lst ((ws.map V.int).set k (.int (at0 ws k - part))))) W = some (.lst ((ws.set k (at0 ws k - part)).map V.int)) := by rw [upd_same, List.map_set]
            have hset : wantL ts (ws.set k (at0 ws k - part)) (k + 1) = wantL ts ws (k + 1) := wantL_set (by omega)
            have hset0 : wantL ts (ws.set k (at0 ws k - part)) k = (t.1, at0 ws k - part) :: wantL ts ws (k + 1) := by
              rw [wantL_at (by rw [List.length_set]; exact hwl) htk, hset, at0_set (by omega), if_pos rfl]
            have hRlen : (R ++ [(g.1, t.1, part)]).length = R.length + 1 := by rw [List.length_append]; rfl
            refine iteB (fun h0 => ?_) (fun h0 => ?_)
            · have h0 : at0 ws k - part = 0 := V.int.inj (dec_t h0)
              walk_at "st"
              refine ⟨⟨some (.int part), r - part, k + 1, ws.set k (at0 ws k - part), rs ++ [T], R ++ [(g.1, t.1, part)], rfl, e6, hDW5, hW6, by rw [List.length_set]; exact hwl, by omega, by rw [hset]; exact hpos', ?_, ?_, ?_, fun L hL => ?_⟩, ?_⟩
              · split at hpart <;> omega
              · rw [hset]
                omega
              · rw [hRlen]
                split <;> omega
              · rw [hset] at hL
                rw [List.append_assoc]
                refine hPO _ ?_
                by_cases hlt : at0 ws k < r
                · rw [if_pos hlt] at hpart
                  rw [if_pos (by omega)] at hL
                  rw [← hpart] at hL ⊢
                  exact .gt hlt hL
                · rw [if_neg hlt] at hpart
                  rw [if_neg (by omega)] at hL
                  rw [← hpart, show at0 ws k = r by omega]
                  exact .eq hL
              · show (r - part).toNat < r.toNat
                split at hpart <;> omega
            · have h0 : at0 ws k - part ≠ 0 := fun z => dec_f h0 (congrArg V.int z)
              have hlt : ¬ at0 ws k < r := fun z => by rw [if_pos z] at hpart; omega
              rw [if_neg hlt] at hpart
              subst hpart
              refine ⟨⟨some (.int r), r - r, k, ws.set k (at0 ws k - r), rs ++ [T], R ++ [(g.1, t.1, r)], rfl, e6, hDW5, hW6, by rw [List.length_set]; exact hwl, hk, ?_, by omega, ?_, ?_, fun L hL => ?_⟩, ?_⟩
              · rw [hset0]
                intro y hy
                rcases List.mem_cons.mp hy with hy | hy
                · rw [hy]
                  show 1 ≤ at0 ws k - r
                  omega
                · exact hpos' y hy
              · rw [hset0, amts_cons]
                dsimp only
                omega
              · rw [hRlen]
                split <;> omega
              · rw [hset0, if_neg (by omega)] at hL
                rw [List.append_assoc]
                exact hPO _ (.lt (by omega) hL)
              · show (r - r).toNat < r.toNat
                omega
          · have hr : r = 0 := by omega
            subst hr
            refine ⟨_, _, _, _, k, ws, rs, R, rfl, e3, hR, hW, hwl, hk, hpos, by omega, ?_, fun L hL => ?_⟩
            · rw [if_neg (by omega)] at hRl
              omega
            · rw [if_neg (by omega)] at hPO
              exact hPO L hL
        · rintro σ H Q Q' h ⟨v1, e1, i, j, r1, r2, k, r3, q⟩
          exact ⟨v1, e1, i, j, r1, r2, k, r3, h _ _ q⟩
      · rintro σ H' ⟨v5, v7, v8, v9, k, ws, rs, R, rfl, e, hR, hW, hwl, hk, hpos, hsm, hRl, hPO⟩
        rw [List.length_map, hg.len, List.drop_eq_nil_of_le (Nat.le_refl _)] at hsm hPO
        have hnil := hpos.amts0.2 hsm.symm
        rw [hnil] at hPO
        have hfin := hPO [] .nil
        rw [List.append_nil] at hfin
        walk_at "st"
        exact q D H' rs R e nD hR hfin

def sp_law_cell (K : PySem.W.Frag) : Sp := fun vs H Q _ => ∃ (a : Addr) (ns : List Int) (j : Nat), vs = [.ref a, .int j] ∧ SqL K H a (ns.map V.int) ∧ Q (.int (cellOf ns j)) H
theorem ok_law_cell (T : Txt K mg) : FnOk P w K mg base CX0 1 T.f_law_cell T.d_law_cell ["script", "k"] (sp_law_cell K) := by
  refine T.F_law_cell.ok sc_law_cell (fun vs H Q E h => ?_) (fun cdv A outer s H vs Q E hr h => ?_)
  · obtain ⟨a, ns, j, rfl, _⟩ := h
    rfl
  · obtain ⟨a, ns, j, rfl, hs, q⟩ := h
    refine ⟨_, (pss_cons (ps_if (pt_cmpR op_lt (pv 1) (pe_callB call_len_seq (by rfl) T.z_len PySem.boot_len (pa_cons (pv 0) pa_nil)) (nomark _))
      (pss_one (ps_ret (pe_ix ix_list (pv 0) (pv 1) (fun _ _ => rfl))))
      pss_nil)
    (pss_one (ps_ret pe_int))), ?_⟩
    walk_at "st"
    refine iteD (fun h => ?_) (fun h => ?_)
    · have hj : j < ns.length := by rw [List.length_map] at h; omega
      walk_at "st"
      exact ⟨atI_ints hj, q⟩
    · have hj : ¬ j < ns.length := by rw [List.length_map] at h; omega
      rw [cellOf_out hj] at q
      exact q

/-- what the draws are: only their number and their bounds matter -/
def sp_law_draws (K : PySem.W.Frag) : Sp := fun vs H Q _ => ∃ (cell : Int) (n : Nat) (size : Int), vs = [.int cell, .int (n : Int), .int size] ∧ n ≤ 1000 ∧ 0 < size ∧ size < 1073741824 ∧
  ∀ p H' (ds : List Int), Same H H' → H p = none → H' p = some (.lst (ds.map V.int)) → ds.length = n → (∀ d, d ∈ ds → 0 ≤ d ∧ d < size) → Q (.ref p) H'
theorem ok_law_draws (T : Txt K mg) : FnOk P w K mg base CX0 1 T.f_law_draws T.d_law_draws ["cell", "count", "size"] (sp_law_draws K) := by
  refine T.F_law_draws.ok sc_law_draws (fun vs H Q E h => ?_) (fun cdv A outer s H vs Q E hr h => ?_)
  · obtain ⟨cell, n, size, rfl, _⟩ := h
    rfl
  · obtain ⟨cell, n, size, rfl, hn, h0, h1, q⟩ := h
    refine ⟨_, (pss_cons (ps_set (i := 3) sc_law_draws.nd rfl (Or.inl rfl) (pe_lst pa_nil))
    (pss_cons (ps_set (i := 4) sc_law_draws.nd rfl (Or.inl rfl) (pe_callB call_abs (by rfl) T.z_abs (by decide +kernel) (pa_cons (pv 0) pa_nil)))
    (pss_cons (ps_if (pt_cmpR op_ge (pv 4) pe_int (nomark _))
      (pss_cons (ps_for PassesOwn.never rfl (pi_range1 (by rfl) T.z_range (pa_cons (pv 1) pa_nil)) (pg_name (i := 5) sc_law_draws.nd rfl (Or.inl rfl))
        (pss_cons (ps_expr (pe_bm PySem.F.plainAttrs_list PySem.F.slot_list_append PySem.F.type_list_append mt_append (pv 3) (pa_cons (pe_op op_mod (pe_callTy call_int_i (by rfl) T.z_int (by decide +kernel) (pa_cons (pv 4) pa_nil)) (pv 2)) pa_nil)))
        (pss_one (ps_set (i := 4) sc_law_draws.nd rfl (Or.inl rfl) (pe_op op_fdiv (pv 4) (pv 2))))))
      (pss_one (ps_ret (pv 3))))
      pss_nil)
    (pss_cons (ps_for PassesOwn.never rfl (pi_range1 (by rfl) T.z_range (pa_cons (pv 1) pa_nil)) (pg_name (i := 5) sc_law_draws.nd rfl (Or.inl rfl))
      (pss_cons (ps_set (i := 4) sc_law_draws.nd rfl (Or.inl rfl) (pe_op op_mod (pe_callTy call_int_i (by rfl) T.z_int (by decide +kernel) (pa_cons (pe_op op_add (pe_op op_add (pe_op op_mul (pv 4) pe_int) (pe_op op_mul (pv 5) pe_int)) pe_int) pa_nil)) pe_int))
      (pss_one (ps_expr (pe_bm PySem.F.plainAttrs_list PySem.F.slot_list_append PySem.F.type_list_append mt_append (pv 3) (pa_cons (pe_op op_mod (pe_op op_mod (pe_callTy call_int_i (by rfl) T.z_int (by decide +kernel) (pa_cons (pe_op op_add (pe_op op_mul (pv 4) pe_int) (pv 5)) pa_nil)) pe_int) (pv 2)) pa_nil))))))
    (pss_one (ps_ret (pv 3))))))), ?_⟩
    walk_at "st"
    intro D nD
    walk_at "st"
    generalize hrest : (if cell < 0 then -cell else cell) = rest
    have hrest0 : 0 ≤ rest := by rw [← hrest]; split <;> omega
    have eD : (upd H D (.lst [])) D = some (.lst (([] : List Int).map V.int)) := upd_same
    have s1 : Same H (upd H D (.lst [])) := same_upd nD
    generalize upd H D (.lst []) = H1 at eD s1
    refine iteB (fun h => ?_) (fun h => ?_)
    · walk_at "st"
      refine for_range (lo := 0) (n := ((n : Int)).toNat) (fun i σ H' => ∃ (v5 : Option V) (r : Int) (ds : List Int), σ = [some (.int cell), some (.int (n : Int)), some (.int size), some (.ref D), some (.int r), v5] ∧ 0 ≤ r ∧ H' D = some (.lst (ds.map V.int)) ∧ ds.length = i ∧ (∀ d, d ∈ ds → 0 ≤ d ∧ d < size) ∧ Same H H')
        ⟨none, rest, [], rfl, hrest0, eD, rfl, (fun _ hd => by cases hd), s1⟩ ?_ ?_
      · rintro i σ H' hi ⟨v5, r, ds, rfl, hr0, hD, hl, hb, e⟩
        have hlt : (ds.map V.int).length < sizeLine := small1000 (by rw [List.length_map]; omega)
        walk_at "st"
        refine ⟨some (.int (0 + (i : Int))), r / size, ds ++ [r % size], rfl, ?_, ?_, ?_, ?_, fun b o z => ?_⟩
        · exact Int.ediv_nonneg hr0 (by omega)
        · rw [upd_same, List.map_append]
          rfl
        · rw [List.length_append, hl]
          rfl
        · intro d hd
          rcases List.mem_append.mp hd with hd | hd
          · exact hb d hd
          · rw [List.mem_singleton.mp hd]
            exact ⟨Int.emod_nonneg _ (by omega), Int.emod_lt_of_pos _ h0⟩
        · rw [upd_ne (ne_of_none z nD)]
          exact e b o z
      · rintro σ H' ⟨v5, r, ds, rfl, hr0, hD, hl, hb, e⟩
        walk_at "st"
        exact q D H' ds e nD hD (by omega) hb
    · walk_at "st"
      refine for_range (lo := 0) (n := ((n : Int)).toNat) (fun i σ H' => ∃ (v5 : Option V) (r : Int) (ds : List Int), σ = [some (.int cell), some (.int (n : Int)), some (.int size), some (.ref D), some (.int r), v5] ∧ 0 ≤ r ∧ H' D = some (.lst (ds.map V.int)) ∧ ds.length = i ∧ (∀ d, d ∈ ds → 0 ≤ d ∧ d < size) ∧ Same H H')
        ⟨none, rest, [], rfl, hrest0, eD, rfl, (fun _ hd => by cases hd), s1⟩ ?_ ?_
      · rintro i σ H' hi ⟨v5, r, ds, rfl, hr0, hD, hl, hb, e⟩
        have hlt : (ds.map V.int).length < sizeLine := small1000 (by rw [List.length_map]; omega)
        walk_at "st"
        refine ⟨some (.int (0 + (i : Int))), (r * 48271 + (0 + (i : Int)) * 69621 + 11) % 2147483647, ds ++ [((r * 48271 + (0 + (i : Int)) * 69621 + 11) % 2147483647 * 16807 + (0 + (i : Int))) % 2147483629 % size], rfl, ?_, ?_, ?_, ?_, fun b o z => ?_⟩
        · exact Int.emod_nonneg _ (by decide)
        · rw [upd_same, List.map_append]
          rfl
        · rw [List.length_append, hl]
          rfl
        · intro d hd
          rcases List.mem_append.mp hd with hd | hd
          · exact hb d hd
          · rw [List.mem_singleton.mp hd]
            exact ⟨Int.emod_nonneg _ (by omega), Int.emod_lt_of_pos _ h0⟩
        · rw [upd_ne (ne_of_none z nD)]
          exact e b o z
      · rintro σ H' ⟨v5, r, ds, rfl, hr0, hD, hl, hb, e⟩
        walk_at "st"
        exact q D H' ds e nD hD (by omega) hb

def sp_law_is_integer (K : PySem.W.Frag) : Sp := fun vs H Q _ => ∃ x : Int, vs = [.int x] ∧ Q (.bl true) H
theorem ok_law_is_integer (T : Txt K mg) : FnOk P w K mg base CX0 1 T.f_law_is_integer T.d_law_is_integer ["actual"] (sp_law_is_integer K) := by
  refine T.F_law_is_integer.ok sc_law_is_integer (fun vs H Q E h => ?_) (fun cdv A outer s H vs Q E hr h => ?_)
  · obtain ⟨x, rfl, _⟩ := h
    rfl
  · obtain ⟨x, rfl, q⟩ := h
    refine ⟨_, (pss_one (ps_ret (pe_and (pe_callB call_isi (by rfl) T.z_isinstance (by decide +kernel) (pa_cons (pv 0) (pa_cons (pe_bltn (v := .ty "int") (u := .type "int") (by rfl) T.z_int (by decide +kernel) rfl) pa_nil))) (pe_one (pe_not (pe_callB call_isi (by rfl) T.z_isinstance (by decide +kernel) (pa_cons (pv 0) (pa_cons (pe_bltn (v := .ty "bool") (u := .type "bool") (by rfl) T.z_bool (by decide +kernel) rfl) pa_nil)))))))), ?_⟩
    refine ⟨_, rfl, ?_⟩
    refine ⟨_, _, _, _, true, rfl, .ty _, .base (.int _), kit_ty (by decide +kernel), ?_⟩
    refine ⟨true, rfl, iteT ?_⟩
    refine ⟨_, rfl, ?_⟩
    refine ⟨_, _, _, _, false, rfl, .ty _, .base (.int _), kit_ty (by decide +kernel), ?_⟩
    refine ⟨false, rfl, ?_⟩
    exact q

def sp_law_market_size (K : PySem.W.Frag) : Sp := fun vs H Q _ => ∃ shape : Int, vs = [.int shape] ∧ ∀ p H' (n : Nat) (size : Int), Same H H' → H p = none → H' p = some (.tup [.int (n : Int), .int size]) → 1 ≤ n → n ≤ 12 → 0 < size → size ≤ 9999 → Q (.ref p) H'
theorem ok_law_market_size (T : Txt K mg) : FnOk P w K mg base CX0 1 T.f_law_market_size T.d_law_market_size ["shape"] (sp_law_market_size K) := by
  refine T.F_law_market_size.ok sc_law_market_size (fun vs H Q E h => ?_) (fun cdv A outer s H vs Q E hr h => ?_)
  · obtain ⟨shape, rfl, _⟩ := h
    rfl
  · obtain ⟨shape, rfl, q⟩ := h
    refine ⟨_, (pss_cons (ps_set (i := 1) sc_law_market_size.nd rfl (Or.inl rfl) (pe_op op_mod (pe_callB call_abs (by rfl) T.z_abs (by decide +kernel) (pa_cons (pv 0) pa_nil)) pe_int))
    (pss_cons (ps_if (pt_cmpR op_eq (pv 1) pe_int (nomark _))
      (pss_one (ps_ret (pe_tup (pa_cons (pe_op op_add pe_int (pe_op op_mod (pe_op op_fdiv (pe_callB call_abs (by rfl) T.z_abs (by decide +kernel) (pa_cons (pv 0) pa_nil)) pe_int) pe_int)) (pa_cons pe_int pa_nil)))))
      pss_nil)
    (pss_cons (ps_if (pt_cmpR op_eq (pv 1) pe_int (nomark _))
      (pss_one (ps_ret (pe_tup (pa_cons pe_int (pa_cons pe_int pa_nil)))))
      pss_nil)
    (pss_one (ps_ret (pe_tup (pa_cons (pe_op op_add pe_int (pe_op op_mod (pe_op op_fdiv (pe_callB call_abs (by rfl) T.z_abs (by decide +kernel) (pa_cons (pv 0) pa_nil)) pe_int) pe_int)) (pa_cons (pe_ix ix_list (pe_lst (pa_cons pe_int (pa_cons pe_int (pa_cons pe_int pa_nil)))) (pe_op op_mod (pe_op op_fdiv (pe_callB call_abs (by rfl) T.z_abs (by decide +kernel) (pa_cons (pv 0) pa_nil)) pe_int) pe_int) (fun _ _ => rfl)) pa_nil)))))))), ?_⟩
    walk_at "st"
    obtain ⟨s, hs⟩ : ∃ s, (if shape < 0 then -shape else shape) = s := ⟨_, rfl⟩
    have h1 := Int.emod_nonneg (s / 5) (by decide : (2 : Int) ≠ 0)
    have h2 := Int.emod_lt_of_pos (s / 5) (by decide : (0 : Int) < 2)
    have h3 := Int.emod_nonneg (s / 5) (by decide : (6 : Int) ≠ 0)
    have h4 := Int.emod_lt_of_pos (s / 5) (by decide : (0 : Int) < 6)
    rw [hs]
    refine iteB (fun _ => ?_) (fun _ => ?_)
    · walk_at "st"
      rw [hs]
      intro p np
      obtain ⟨n, en⟩ : ∃ n : Nat, 2 + s / 5 % 2 = (n : Int) := ⟨(2 + s / 5 % 2).toNat, by omega⟩
      refine q p _ n 9999 (same_upd np) np ?_ (by omega) (by omega) (by decide) (by decide)
      rw [← en]
      dsimp only
      exact upd_same
    · walk_at "st"
      refine iteB (fun _ => ?_) (fun _ => ?_)
      · walk_at "st"
        intro p np
        exact q p _ 12 30 (same_upd np) np upd_same (by decide) (by decide) (by decide) (by decide)
      · obtain ⟨size, hat, hsz0, hsz1⟩ : ∃ size : Int, atI [V.int 400, V.int 3, V.int 40] ((if shape < 0 then -shape else shape) / 30 % 3) = some (.int size) ∧ 0 < size ∧ size ≤ 9999 := by
          rw [hs]
          have h1 := Int.emod_nonneg (s / 30) (by decide : (3 : Int) ≠ 0)
          have h2 := Int.emod_lt_of_pos (s / 30) (by decide : (0 : Int) < 3)
          generalize s / 30 % 3 = m at *
          rcases (by omega : m = 0 ∨ m = 1 ∨ m = 2) with e | e | e
          · exact ⟨400, by rw [e]; rfl, by decide, by decide⟩
          · exact ⟨3, by rw [e]; rfl, by decide, by decide⟩
          · exact ⟨40, by rw [e]; rfl, by decide, by decide⟩
        walk_at "st"
        intro L nL
        walk_at "st"
        intro p np
        obtain ⟨n, en⟩ : ∃ n : Nat, 1 + s / 5 % 6 = (n : Int) := ⟨(1 + s / 5 % 6).toNat, by omega⟩
        refine q p _ n size ((same_upd nL).trans (same_upd np)) ((same_upd nL).free np) ?_ (by omega) (by omega) hsz0 hsz1
        rw [← en]
        dsimp only
        rw [hs]
        exact upd_same
def sp_law_row (K : PySem.W.Frag) : Sp := fun vs H Q _ => ∃ (cell shape : Int) (k n : Nat) (size : Int), vs = [.int cell, .int shape, .int (k : Int), .int (n : Int), .int size] ∧ k < n ∧ n ≤ 12 ∧ 0 < size ∧ size ≤ 9999 ∧
  ∀ p H' (ds : List Int), Same H H' → H p = none → H' p = some (.lst (ds.map V.int)) → ds.length = n → (∀ d, d ∈ ds → 0 ≤ d ∧ d ≤ size) → at0 ds k = 0 → Q (.ref p) H'
theorem ok_law_row (T : Txt K mg) : FnOk P w K mg base CX0 2 T.f_law_row T.d_law_row ["cell", "shape", "payer", "count", "size"] (sp_law_row K) := by
  refine T.F_law_row.ok sc_law_row (fun vs H Q E h => ?_) (fun cdv A outer s H vs Q E hr h => ?_)
  · obtain ⟨cell, shape, k, n, size, rfl, _⟩ := h
    rfl
  · obtain ⟨cell, shape, k, n, size, rfl, hk, hn, hz0, hz1, q⟩ := h
    have G_law_draws : FnOk P w K mg base CX0 1 T.f_law_draws T.d_law_draws ["cell", "count", "size"] (sp_law_draws K) := ok_law_draws T
    refine ⟨_, (pss_cons (ps_set (i := 5) sc_law_row.nd rfl (Or.inl rfl) (pe_call G_law_draws hr (by rfl) T.m_law_draws T.F_law_draws.kp T.b_law_draws .nil pass0 (pa_cons (pv 0) (pa_cons (pv 3) (pa_cons (pe_op op_add (pv 4) pe_int) pa_nil)))))
    (C8.pss_cut (ps_if (pt_cmpR op_eq (pe_op op_mod (pe_callB call_abs (by rfl) T.z_abs (by decide +kernel) (pa_cons (pv 1) pa_nil)) pe_int) pe_int (nomark _))
      (pss_cons (ps_setLc (i := 5) (own := [("draw", 6)]) (g := gName 6) (tt := tYes) rfl sc_law_row.nd rfl rfl (sw_true rfl rfl rfl (by decide +kernel)) (pi_list (pv 5)) (blkOk_by (own := [("draw", 6)]) (N := N_law_row) (sc := defScope s_law_row) (by decide +kernel)) (fun _ _ _ _ _ => (pg_name (i := 6) sc_law_row.nd rfl (Or.inl rfl))) (fun _ _ _ _ _ => pts_nil) (fun _ _ _ _ _ => (pe_op op_mod (pe_callTy call_int_i (by rfl) T.z_int (by decide +kernel) (pa_cons (pv 6) pa_nil)) pe_int)))
      (pss_one (ps_asg (pv 4) (pg_sub (pv 5) (pe_op op_mod (pe_callTy call_int_i (by rfl) T.z_int (by decide +kernel) (pa_cons (pe_op op_add (pv 2) pe_int) pa_nil)) (pv 3)) set_list))))
      pss_nil)
    (C8.pss_cut (ps_if (pt_cmpR op_eq (pe_op op_mod (pe_callB call_abs (by rfl) T.z_abs (by decide +kernel) (pa_cons (pv 1) pa_nil)) pe_int) pe_int (nomark _))
      (pss_one (ps_setLc (i := 5) (own := [("draw", 6)]) (g := gName 6) (tt := tYes) rfl sc_law_row.nd rfl rfl (sw_true rfl rfl rfl (by decide +kernel)) (pi_list (pv 5)) (blkOk_by (own := [("draw", 6)]) (N := N_law_row) (sc := defScope s_law_row) (by decide +kernel)) (fun _ _ _ _ _ => (pg_name (i := 6) sc_law_row.nd rfl (Or.inl rfl))) (fun _ _ _ _ _ => pts_nil) (fun _ _ _ _ _ => (pe_op op_mul (pv 6) (pe_callTy call_int_b (by rfl) T.z_int (by decide +kernel) (pa_cons (pe_cmpR op_eq (pe_op op_mod (pv 6) pe_int) pe_int (nomark _)) pa_nil))))))
      pss_nil)
    (pss_cons (ps_asg pe_int (pg_sub (pv 5) (pv 2) set_list))
    (pss_one (ps_ret (pv 5))))))), ?_⟩
    walk_at "st"
    intro p H1 ds e1 np hp hl hb
    walk_at "st"
    obtain ⟨s, hs⟩ : ∃ s, (if shape < 0 then -shape else shape) = s := ⟨_, rfl⟩
    have hp1 : SqL K H1 p (ds.map V.int) := SqL.of hp
    refine ⟨fun σ' H' => ∃ (p : Addr) (ds : List Int), σ' = [some (.int cell), some (.int shape), some (.int (k : Int)), some (.int (n : Int)), some (.int size), some (.ref p), none] ∧ Same H H' ∧ H p = none ∧ H' p = some (.lst (ds.map V.int)) ∧ ds.length = n ∧ ∀ d, d ∈ ds → 0 ≤ d ∧ d ≤ size, ?_, ?_⟩
    · walk_at "st"
      refine iteB (fun _ => ?_) (fun _ => ?_)
      · walk_at "st"
        intro D nD
        refine lc_list (K := K) (a := p) (xs := ds.map V.int) (fun i H' => ∃ es : List Int, H' = upd H1 D (.lst (es.map V.int)) ∧ es.length = i ∧ ∀ d, d ∈ es → 0 ≤ d ∧ d ≤ size) ⟨[], rfl, rfl, fun _ h => by cases h⟩ (fun i H' _ ⟨es, e, _⟩ => by rw [e]; exact (same_upd nD).seq hp1) ?_ ?_
        · rintro i x H' hx ⟨es, rfl, le, be⟩
          obtain ⟨z, hz, rfl⟩ := ints_at hx
          have hi := (List.getElem?_eq_some_iff.mp hz).1
          have hm1 := Int.emod_nonneg z (by decide : (2 : Int) ≠ 0)
          have hm2 := Int.emod_lt_of_pos z (by decide : (0 : Int) < 2)
          refine ⟨rfl, ?_⟩
          walk_at "st"
          refine ⟨small1000 (by rw [List.length_map]; omega), es ++ [z % 2], ?_, by rw [List.length_append, le]; rfl, fun d hd => ?_⟩
          · rw [upd_upd, List.map_append]
            rfl
          · rcases List.mem_append.mp hd with hd | hd
            · exact be d hd
            · rw [List.mem_singleton.mp hd]
              omega
        · rintro H' ⟨es, rfl, le, be⟩
          rw [List.length_map, hl] at le
          obtain ⟨j, ej, hj⟩ : ∃ j : Nat, ((k : Int) + 1) % (n : Int) = (j : Int) ∧ j < n := by
            have h1 := Int.emod_nonneg ((k : Int) + 1) (by omega : (n : Int) ≠ 0)
            have h2 := Int.emod_lt_of_pos ((k : Int) + 1) (by omega : (0 : Int) < n)
            exact ⟨(((k : Int) + 1) % (n : Int)).toNat, by omega, by omega⟩
          walk_at "st"
          dsimp only
          rw [ej]
          have hj' : j < (es.map V.int).length := by rw [List.length_map, le]; exact hj
          refine ⟨ixN_nat hj', D, es.set j size, rfl, fun b o e => ?_, e1.free nD, ?_, by rw [List.length_set, le], fun d hd => ?_⟩
          · rw [upd_ne (ne_of_none e (e1.free nD)), upd_ne (ne_of_none e (e1.free nD))]
            exact e1 b o e
          · rw [upd_same, List.map_set]
          · rcases List.mem_or_eq_of_mem_set hd with hd | hd
            · exact be d hd
            · rw [hd]
              omega
      · exact ⟨p, ds, rfl, e1, np, hp, hl, fun d hd => by have := hb d hd; omega⟩
    · rintro σ' H' ⟨p, ds, rfl, e1, np, hp, hl, hb⟩
      refine ⟨fun σ' H' => ∃ (p : Addr) (ds : List Int), σ' = [some (.int cell), some (.int shape), some (.int (k : Int)), some (.int (n : Int)), some (.int size), some (.ref p), none] ∧ Same H H' ∧ H p = none ∧ H' p = some (.lst (ds.map V.int)) ∧ ds.length = n ∧ ∀ d, d ∈ ds → 0 ≤ d ∧ d ≤ size, ?_, ?_⟩
      · have hp1 : SqL K H' p (ds.map V.int) := SqL.of hp
        walk_at "st"
        refine iteB (fun _ => ?_) (fun _ => ?_)
        · walk_at "st"
          intro D nD
          refine lc_list (K := K) (a := p) (xs := ds.map V.int) (fun i H2 => ∃ es : List Int, H2 = upd H' D (.lst (es.map V.int)) ∧ es.length = i ∧ ∀ d, d ∈ es → 0 ≤ d ∧ d ≤ size) ⟨[], rfl, rfl, fun _ h => by cases h⟩ (fun i H2 _ ⟨es, e, _⟩ => by rw [e]; exact (same_upd nD).seq hp1) ?_ ?_
          · rintro i x H2 hx ⟨es, rfl, le, be⟩
            obtain ⟨z, hz, rfl⟩ := ints_at hx
            have hi := (List.getElem?_eq_some_iff.mp hz).1
            have hzb := hb z (List.mem_of_getElem? hz)
            refine ⟨rfl, ?_⟩
            walk_at "st"
            refine ⟨small1000 (by rw [List.length_map]; omega), es ++ [z * (if decide (V.int (z % 3) = V.int 1) = true then 1 else 0)], ?_, by rw [List.length_append, le]; rfl, fun d hd => ?_⟩
            · rw [upd_upd, List.map_append]
              rfl
            · rcases List.mem_append.mp hd with hd | hd
              · exact be d hd
              · rw [List.mem_singleton.mp hd]
                split
                · omega
                · omega
          · rintro H2 ⟨es, rfl, le, be⟩
            rw [List.length_map, hl] at le
            refine ⟨D, es, rfl, e1.trans (same_upd nD), e1.free nD, upd_same, le, be⟩
        · exact ⟨p, ds, rfl, e1, np, hp, hl, hb⟩
      · rintro σ' H' ⟨p, ds, rfl, e1, np, hp, hl, hb⟩
        have hp1 : SqL K H' p (ds.map V.int) := SqL.of hp
        have hk' : k < (ds.map V.int).length := by rw [List.length_map]; omega
        walk_at "st"
        refine ⟨ixN_nat hk', ?_⟩
        walk_at "st"
        refine q p _ (ds.set k 0) (fun b o e => ?_) np ?_ (by rw [List.length_set, hl]) (fun d hd => ?_) ?_
        · rw [upd_ne (ne_of_none e np)]
          exact e1 b o e
        · rw [upd_same, List.map_set]
        · rcases List.mem_or_eq_of_mem_set hd with hd | hd
          · exact hb d hd
          · rw [hd]
            omega
        · rw [at0_set (by omega), if_pos rfl]
def sp_law_market (K : PySem.W.Frag) : Sp := fun vs H Q _ => ∃ (a : Addr) (ns : List Int), vs = [.ref a] ∧ SqL K H a (ns.map V.int) ∧
  ∀ t H' ps n f, Same H H' → H t = none → Tab H' t ps n f → Debts n f 9999 → n ≤ 12 → Q (.ref t) H'
theorem ok_law_market (T : Txt K mg) : FnOk P w K mg base CX0 3 T.f_law_market T.d_law_market ["script"] (sp_law_market K) := by
  refine T.F_law_market.ok sc_law_market (fun vs H Q E h => ?_) (fun cdv A outer s H vs Q E hr h => ?_)
  · obtain ⟨a, ns, rfl, _⟩ := h
    rfl
  · obtain ⟨a, ns, rfl, hs, q⟩ := h
    have G_law_cell : FnOk P w K mg base CX0 1 T.f_law_cell T.d_law_cell ["script", "k"] (sp_law_cell K) := ok_law_cell T
    have G_law_market_size : FnOk P w K mg base CX0 1 T.f_law_market_size T.d_law_market_size ["shape"] (sp_law_market_size K) := ok_law_market_size T
    have G_law_row : FnOk P w K mg base CX0 2 T.f_law_row T.d_law_row ["cell", "shape", "payer", "count", "size"] (sp_law_row K) := ok_law_row T
    refine ⟨_, (pss_cons (ps_set (i := 1) sc_law_market.nd rfl (Or.inr rfl) (pe_call G_law_cell (hr.mono (by decide)) (by rfl) T.m_law_cell T.F_law_cell.kp T.b_law_cell .nil pass0 (pa_cons (pv 0) (pa_cons pe_int pa_nil))))
    (pss_cons (ps_asg (pe_call G_law_market_size (hr.mono (by decide)) (by rfl) T.m_law_market_size T.F_law_market_size.kp T.b_law_market_size .nil pass0 (pa_cons (pv 1) pa_nil)) (pg_tup rfl (pgs_cons (pg_name (i := 2) sc_law_market.nd rfl (Or.inr rfl)) (pgs_cons (pg_name (i := 3) sc_law_market.nd rfl (Or.inr rfl)) pgs_nil))))
    (pss_one (ps_ret (pe_lc (own := [("k", 4)]) (g := gName 4) (tt := tYes) rfl sc_law_market.nd (pi_range1 (by rfl) T.z_range (pa_cons (pv 2) pa_nil)) (blkOk_by (own := [("k", 4)]) (N := N_law_market) (sc := defScope s_law_market) (by decide +kernel)) (fun _ _ _ _ _ => (pg_name (i := 4) sc_law_market.nd rfl (Or.inl rfl))) (fun _ _ _ _ _ => pts_nil) (fun _ _ _ _ _ => (pe_call G_law_row hr (by rfl) T.m_law_row T.F_law_row.kp T.b_law_row .nil pass0 (pa_cons (pe_call G_law_cell (hr.mono (by decide)) (by rfl) T.m_law_cell T.F_law_cell.kp T.b_law_cell .nil pass0 (pa_cons (pv 0) (pa_cons (pe_op op_add pe_int (pv 4)) pa_nil))) (pa_cons (pv 1) (pa_cons (pv 4) (pa_cons (pv 2) (pa_cons (pv 3) pa_nil)))))))))))), ?_⟩
    walk_at "st"
    intro p H1 n size e1 np hp hn0 hn1 hz0 hz1
    have hp1 : SqT K H1 p [.int (n : Int), .int size] := SqT.of hp
    have hs1 := e1.seq hs
    walk_at "st"
    intro D nD
    refine lc_range (lo := 0) (n := (n : Int).toNat) (fun i H' => ∃ (_ : Unit) (ps : List Addr) (f : Nat → Nat → Int), TabR H' D ps i n f ∧ (∀ a, a < i → ∀ b, b < n → 0 ≤ f a b ∧ f a b ≤ 9999) ∧ (∀ a, a < i → f a a = 0) ∧ Same H1 H') ⟨(), [], fun _ _ => 0, .nil n _ upd_same, (fun a h => by omega), (fun a h => by omega), same_upd nD⟩ ?_ ?_
    · rintro i H' hi ⟨_, ps, f, ht, hb', hd, e2⟩
      have hs2 := e2.seq hs1
      have hi2 : i < n := by omega
      rw [show (0 : Int) + i = ((i : Nat) : Int) by omega]
      refine ⟨rfl, ?_⟩
      walk_at "st"
      intro p H2 ds e3 np hp hl hb2 hd2
      have hg : rowI n (at0 ds) = ds := by rw [← hl]; exact rowI_of ds
      have hlt : ∀ b, b < n → 0 ≤ at0 ds b ∧ at0 ds b ≤ 9999 := fun b hb => by
        have := hb2 _ (List.mem_of_getElem? (at0_lt (by omega : b < ds.length)))
        omega
      have ht' := TabR.push (ht.congr (g := fun a => if a = i then at0 ds else f a) fun a ha b hb => by rw [if_neg (by omega)]) e3 np (by rw [if_pos rfl, hg]; exact hp)
      refine ⟨_, e3 _ _ ht.lst, small1000 (by rw [List.length_map, ht.len]; omega), (), _, _, ht', fun a ha b hb => ?_, fun a ha => ?_, TabR.keep (e2.trans e3) nD⟩
      · by_cases h : a = i
        · rw [if_pos h]
          exact hlt b hb
        · rw [if_neg h]
          exact hb' a (by omega) b hb
      · by_cases h : a = i
        · rw [if_pos h, h]
          exact hd2
        · rw [if_neg h]
          exact hd a (by omega)
    · rintro H' ⟨_, ps, f, ht, hb, hd, e2⟩
      rw [Int.toNat_natCast] at ht hb hd
      refine q D H' ps n f (e1.trans e2) (e1.free nD) ht.tab ⟨hn0, by omega, hb, hd⟩ hn1

def sp_is_integral (K : PySem.W.Frag) : Sp := fun vs H Q _ => ∃ x : Int, vs = [.int x] ∧ Q (.bl true) H
theorem ok_is_integral (T : Txt K mg) : FnOk P w K mg base CX0 1 T.f_is_integral T.d_is_integral ["value"] (sp_is_integral K) := by
  refine T.F_is_integral.ok sc_is_integral (fun vs H Q E h => ?_) (fun cdv A outer s H vs Q E hr h => ?_)
  · obtain ⟨x, rfl, _⟩ := h
    rfl
  · obtain ⟨x, rfl, q⟩ := h
    refine ⟨_, (pss_one (ps_ret (pe_and (pe_callB call_isi (by rfl) T.z_isinstance (by decide +kernel) (pa_cons (pv 0) (pa_cons (pe_bltn (v := .ty "int") (u := .type "int") (by rfl) T.z_int (by decide +kernel) rfl) pa_nil))) (pe_one (pe_not (pe_callB call_isi (by rfl) T.z_isinstance (by decide +kernel) (pa_cons (pv 0) (pa_cons (pe_bltn (v := .ty "bool") (u := .type "bool") (by rfl) T.z_bool (by decide +kernel) rfl) pa_nil)))))))), ?_⟩
    refine ⟨_, rfl, ?_⟩
    refine ⟨_, _, _, _, true, rfl, .ty _, .base (.int _), kit_ty (by decide +kernel), ?_⟩
    refine ⟨true, rfl, iteT ?_⟩
    refine ⟨_, rfl, ?_⟩
    refine ⟨_, _, _, _, false, rfl, .ty _, .base (.int _), kit_ty (by decide +kernel), ?_⟩
    refine ⟨false, rfl, ?_⟩
    exact q
def sp_is_within (K : PySem.W.Frag) : Sp := fun vs H Q _ => ∃ a b x : Int, vs = [.int a, .int b, .int x] ∧ Q (.bl (decide (a ≤ x ∧ x ≤ b))) H
theorem ok_is_within (T : Txt K mg) : FnOk P w K mg base CX0 2 T.f_is_within T.d_is_within ["least", "most", "value"] (sp_is_within K) := by
  refine T.F_is_within.ok sc_is_within (fun vs H Q E h => ?_) (fun cdv A outer s H vs Q E hr h => ?_)
  · obtain ⟨a, b, x, rfl, _⟩ := h
    rfl
  · obtain ⟨a, b, x, rfl, q⟩ := h
    have G_is_integral : FnOk P w K mg base CX0 1 T.f_is_integral T.d_is_integral ["value"] (sp_is_integral K) := ok_is_integral T
    refine ⟨_, (pss_one (ps_ret (pe_and (pe_call G_is_integral hr (by rfl) T.m_is_integral T.F_is_integral.kp T.b_is_integral .nil pass0 (pa_cons (pv 2) pa_nil)) (pe_one (pe_chain op_le op_le (pv 0) (pv 2) (pv 1)))))), ?_⟩
    walk_at "st"
    refine iteB (fun h => ?_) (fun h => ?_)
    · walk_at "st"
      rw [show (decide (a ≤ x ∧ x ≤ b)) = decide (x ≤ b) from decide_eq_decide.mpr ⟨fun z => z.2, fun z => ⟨dec_t h, z⟩⟩] at q
      exact q
    · rw [decide_eq_false (fun z => dec_f h z.1)] at q
      exact q
def sp_check_debts (K : PySem.W.Frag) : Sp := fun vs H Q _ => ∃ (t : Addr) (ps : List Addr) (n : Nat) (f : Nat → Nat → Int), vs = [.ref t] ∧ Tab H t ps n f ∧ Debts n f 1000000000000000 ∧ ∀ H', Same H H' → Q .non H'
theorem ok_check_debts (T : Txt K mg) : FnOk P w K mg base CX0 3 T.f_check_debts T.d_check_debts ["owed"] (sp_check_debts K) := by
  refine T.F_check_debts.ok sc_check_debts (fun vs H Q E h => ?_) (fun cdv A outer s H vs Q E hr h => ?_)
  · obtain ⟨t, ps, n, f, rfl, _⟩ := h
    rfl
  · obtain ⟨t, ps, n, f, rfl, ht, hd, q⟩ := h
    have G_is_within : FnOk P w K mg base CX0 2 T.f_is_within T.d_is_within ["least", "most", "value"] (sp_is_within K) := ok_is_within T
    have l0 := hd.n0
    have l1 := hd.n1
    have hl := ht.len
    have hs : SqL K H t (ps.map V.ref) := SqL.of ht.lst
    refine ⟨_, (pss_cons (ps_if (pt_not (pt_chain op_le op_le pe_int (pe_callB call_len_seq (by rfl) T.z_len PySem.boot_len (pa_cons (pv 0) pa_nil)) (pe_glob (v := .int 13) rfl T.m_MOST_HOUSES ⟨_, rfl⟩)))
      (pss_one ps_never)
      pss_nil)
    (pss_one (ps_for PassesOwn.never rfl (pi_enum (by rfl) T.z_enumerate (pa_cons (pv 0) pa_nil)) (pg_tup rfl (pgs_cons (pg_name (i := 1) sc_check_debts.nd rfl (Or.inl rfl)) (pgs_cons (pg_name (i := 2) sc_check_debts.nd rfl (Or.inl rfl)) pgs_nil)))
      (pss_cons (ps_if (pt_cmpR op_ne (pe_callB call_len_seq (by rfl) T.z_len PySem.boot_len (pa_cons (pv 2) pa_nil)) (pe_callB call_len_seq (by rfl) T.z_len PySem.boot_len (pa_cons (pv 0) pa_nil)) (nomark _))
        (pss_one ps_never)
        pss_nil)
      (pss_cons (ps_if (pt_not (pt_val (pe_callB (cr_all rfl) (by rfl) T.z_all (by decide +kernel) (pa_cons (pe_lc (own := [("debt", 3)]) (g := gName 3) (tt := tYes) rfl sc_check_debts.nd (pi_list (pv 2)) (blkOk_by (own := [("debt", 3)]) (N := N_check_debts) (sc := defScope s_check_debts) (by decide +kernel)) (fun _ _ _ _ _ => (pg_name (i := 3) sc_check_debts.nd rfl (Or.inl rfl))) (fun _ _ _ _ _ => pts_nil) (fun _ _ _ _ _ => (pe_call G_is_within hr (by rfl) T.m_is_within T.F_is_within.kp T.b_is_within .nil pass0 (pa_cons pe_int (pa_cons (pe_glob (v := .int 1000000000000000) rfl T.m_MOST_DEBT ⟨_, rfl⟩) (pa_cons (pv 3) pa_nil)))))) pa_nil))))
        (pss_one ps_never)
        pss_nil)
      (pss_one (ps_if (pt_cmpR op_ne (pe_ix ix_list (pv 2) (pv 1) (fun _ _ => rfl)) pe_int (nomark _))
        (pss_one ps_never)
        pss_nil))))))), ?_⟩
    walk_at "st"
    refine iteB (fun _ => ?_) (fun h => absurd (dec_f h) (by rw [List.length_map]; omega))
    walk_at "st"
    refine iteB (fun h => absurd (ndec_t h) (by rw [List.length_map]; omega)) (fun _ => ?_)
    walk_at "st"
    refine for_enum (K := K) (a := t) (xs := ps.map V.ref) (fun i σ H' => ∃ v1 v2 : Option V, σ = [some (.ref t), v1, v2, none] ∧ Same H H') ⟨none, none, rfl, Same.refl H⟩ (fun i σ H' _ ⟨_, _, _, e⟩ => e.seq hs) ?_ ?_
    · rintro i x σ H' T hx ⟨v1, v2, rfl, e⟩ nT
      obtain ⟨p, hp, rfl⟩ := refs_at hx
      have hi := (List.getElem?_eq_some_iff.mp hp).1
      have eT := e.trans (same_upd (o := .tup [.int (i : Int), .ref p]) nT)
      have hrow : SqL K (upd H' T (.tup [.int (i : Int), .ref p])) p ((rowI n (f i)).map V.int) := eT.seq (SqL.of (ht.row i p hp))
      have hst := eT.seq hs
      have hT : upd H' T (.tup [.int (i : Int), .ref p]) T = some (.tup [.int (i : Int), .ref p]) := upd_same
      have hT2 : SqT K (upd H' T (.tup [.int (i : Int), .ref p])) T [.int (i : Int), .ref p] := SqT.of hT
      generalize upd H' T (.tup [.int (i : Int), .ref p]) = H2 at *
      walk_at "st"
      refine iteB (fun h => (ndec_t h (congrArg V.int (by rw [List.length_map, rowI_len, List.length_map, hl]))).elim) (fun _ => ?_)
      walk_at "st"
      intro D nD
      refine lc_list (K := K) (a := p) (xs := (rowI n (f i)).map V.int) (fun j H' => H' = upd H2 D (.lst ((List.replicate j true).map V.bl))) rfl (fun j H' _ e => by rw [e]; exact (same_upd nD).seq hrow) ?_ ?_
      · rintro j x H' hx rfl
        obtain ⟨z, hz', rfl⟩ := ints_at hx
        have hm := List.mem_of_getElem? hz'
        have hj := (List.getElem?_eq_some_iff.mp hz').1
        rw [rowI_len] at hj
        rw [rowI_at hj] at hz'
        cases hz'
        have hb := hd.b i (by omega) j hj
        refine ⟨rfl, ?_⟩
        walk_at "st"
        refine ⟨?_, ?_⟩
        · refine small1000 ?_
          rw [List.length_map, List.length_replicate]
          omega
        · rw [upd_upd, List.replicate_succ', List.map_append]
          have e0 : decide ((0 : Int) ≤ f i j ∧ f i j ≤ 1000000000000000) = true := decide_eq_true hb
          rw [e0]
          rfl
      · rintro H' rfl
        have sD := same_upd (o := .lst ((List.replicate ((rowI n (f i)).map V.int).length true).map V.bl)) nD
        have hs' := sD.seq hrow
        have at1 := atI_row (g := f i) (n := n) (i := i) (by omega)
        have e3 := eT.trans sD
        walk_at "st"
        refine ⟨List.replicate ((rowI n (f i)).map V.int).length true, rfl, .inl (.inl upd_same), ?_⟩
        have ea : (List.replicate ((rowI n (f i)).map V.int).length true).all id = true := by
          rw [List.all_eq_true]
          intro b hb
          exact List.eq_of_mem_replicate hb
        rw [ea]
        walk_at "st"
        refine iteB (fun h => (ndec_t h (congrArg V.int (hd.d i (by omega)))).elim) (fun _ => ?_)
        exact ⟨_, _, rfl, e3⟩
    · rintro σ H' ⟨v1, v2, rfl, e⟩
      exact q _ e
/-- what each house is owed less what it owes -/
def netF (n : Nat) (f : Nat → Nat → Int) (h : Nat) : Int := sumI n (fun a => f a h) - sumI n (f h)
def sp_net_amounts (K : PySem.W.Frag) : Sp := fun vs H Q _ => ∃ (t : Addr) (ps : List Addr) (n : Nat) (f : Nat → Nat → Int), vs = [.ref t] ∧ Tab H t ps n f ∧ Debts n f 1000000000000000 ∧ ∀ p H', Same H H' → H p = none → H' p = some (.lst ((rowI n (netF n f)).map V.int)) → Q (.ref p) H'
theorem ok_net_amounts (T : Txt K mg) : FnOk P w K mg base CX0 4 T.f_net_amounts T.d_net_amounts ["owed"] (sp_net_amounts K) := by
  refine T.F_net_amounts.ok sc_net_amounts (fun vs H Q E h => ?_) (fun cdv A outer s H vs Q E hr h => ?_)
  · obtain ⟨t, ps, n, f, rfl, _⟩ := h
    rfl
  · obtain ⟨t, ps, n, f, rfl, ht, hd, q⟩ := h
    have G_check_debts : FnOk P w K mg base CX0 3 T.f_check_debts T.d_check_debts ["owed"] (sp_check_debts K) := ok_check_debts T
    refine ⟨_, (pss_cons (ps_expr (pe_call G_check_debts hr (by rfl) T.m_check_debts T.F_check_debts.kp T.b_check_debts .nil pass0 (pa_cons (pv 0) pa_nil)))
    (pss_one (ps_ret (pe_lc (own := [("house", 2)]) (g := gName 2) (tt := tYes) rfl sc_net_amounts.nd (pi_range1 (by rfl) T.z_range (pa_cons (pe_callB call_len_seq (by rfl) T.z_len PySem.boot_len (pa_cons (pv 0) pa_nil)) pa_nil)) (blkOk_by (own := [("house", 2)]) (N := N_net_amounts) (sc := defScope s_net_amounts) (by decide +kernel)) (fun _ _ _ _ _ => (pg_name (i := 2) sc_net_amounts.nd rfl (Or.inr rfl))) (fun _ _ _ _ _ => pts_nil) (fun _ _ _ _ _ => (pe_op op_sub (pe_callB (show CallR _ (.builtin "sum") (rSum K) from (cr_sum rfl)) (by rfl) T.z_sum (by decide +kernel) (pa_cons (pe_lc (own := [("row", 1)]) (g := gName 1) (tt := tYes) rfl sc_net_amounts.nd (show PI _ _ _ (iList K _) from pi_list (pv 0)) (blkOk_by (own := [("row", 1)]) (N := N_net_amounts) (by show blkC _ (relS _ (defScope s_net_amounts)) _ _ = true; decide +kernel)) (fun _ _ _ _ _ => (pg_name (i := 1) sc_net_amounts.nd rfl (Or.inl rfl))) (fun _ _ _ _ _ => pts_nil) (fun _ _ _ _ _ => (pe_ix (show IxR _ (rIxL K) from ix_list) (pv 1) (pv 2) (fun _ _ => rfl)))) pa_nil)) (pe_callB (show CallR _ (.builtin "sum") (rSum K) from (cr_sum rfl)) (by rfl) T.z_sum (by decide +kernel) (pa_cons (pe_ix (show IxR _ (rIxL K) from ix_list) (pv 0) (pv 2) (fun _ _ => rfl)) pa_nil)))))))), ?_⟩
    walk_at "st"
    refine ⟨ps, n, f, rfl, ht, hd, fun H1 e1 => ?_⟩
    have ht1 := ht.same e1
    have hs1 : SqL K H1 t (ps.map V.ref) := SqL.of ht1.lst
    have hl := ht.len
    have hn := hd.n1
    walk_at "st"
    intro D nD
    refine lc_range (lo := 0) (n := (((ps.map V.ref).length : Nat) : Int).toNat) (fun i H' => H' D = some (.lst ((rowI i (netF n f)).map V.int)) ∧ Same H1 H') ⟨upd_same, same_upd nD⟩ ?_ ?_
    · rintro i H2 hi ⟨hD, e2⟩
      rw [List.length_map, hl] at hi
      have hi2 : i < n := by omega
      rw [show (0 : Int) + i = ((i : Nat) : Int) by omega]
      have hs2 := e2.seq hs1
      have ht2 := ht1.same e2
      refine ⟨rfl, ?_⟩
      walk_at "st"
      intro C nC
      refine lc_col ht2 (by omega) hi2 nC rfl (by decide) rfl ?_
      have e3 := same_upd (o := .lst ((rowI n fun a => f a i).map V.int)) nC
      have hC : SqL K (upd H2 C (.lst ((rowI n fun a => f a i).map V.int))) C ((rowI n fun a => f a i).map V.int) := SqL.of upd_same
      have ht3 := ht2.same e3
      have hs3 := e3.seq hs2
      have hD3 := e3 _ _ hD
      obtain ⟨r, hr1, hr2, hr3⟩ := ht3.at hi2
      have hr4 : SqL K (upd H2 C (.lst ((rowI n fun a => f a i).map V.int))) r ((rowI n (f i)).map V.int) := SqL.of hr3
      have e13 := e2.trans e3
      generalize upd H2 C (.lst ((rowI n fun a => f a i).map V.int)) = H3 at *
      walk_at "st"
      refine ⟨small1000 (by rw [List.length_map, rowI_len]; omega), ?_, TabR.keep e13 nD⟩
      rw [upd_same, rowI_succ, List.map_append]
      rfl
    · rintro H' ⟨hD, e2⟩
      rw [List.length_map, hl, Int.toNat_natCast] at hD
      exact q D H' (e1.trans e2) (e1.free nD) hD

/-- who has to give, with what; who has to take -/
def negL (n : Nat) (g : Nat → Int) : List (Int × Int) := (List.range n).filterMap fun a => if g a < 0 then some ((a : Int), -g a) else none
def posL (n : Nat) (g : Nat → Int) : List (Int × Int) := (List.range n).filterMap fun a => if g a > 0 then some ((a : Int), g a) else none
theorem negL_succ (n : Nat) (g : Nat → Int) : negL (n + 1) g = negL n g ++ (if g n < 0 then [((n : Int), -g n)] else []) := by
  unfold negL
  rw [List.range_succ, List.filterMap_append, List.filterMap_cons, List.filterMap_nil]
  split <;> rename_i h <;> split at h <;> first | (cases h; done) | (cases h; rw [if_pos (by assumption)]) | (rw [if_neg (by assumption)])
theorem posL_succ (n : Nat) (g : Nat → Int) : posL (n + 1) g = posL n g ++ (if g n > 0 then [((n : Int), g n)] else []) := by
  unfold posL
  rw [List.range_succ, List.filterMap_append, List.filterMap_cons, List.filterMap_nil]
  split <;> rename_i h <;> split at h <;> first | (cases h; done) | (cases h; rw [if_pos (by assumption)]) | (rw [if_neg (by assumption)])
theorem negL_pos (n : Nat) (g : Nat → Int) : Pos2 (negL n g) := by
  intro x hx
  obtain ⟨a, _, h⟩ := List.mem_filterMap.mp hx
  split at h
  · cases h
    show 1 ≤ -g a
    omega
  · cases h
theorem posL_pos (n : Nat) (g : Nat → Int) : Pos2 (posL n g) := by
  intro x hx
  obtain ⟨a, _, h⟩ := List.mem_filterMap.mp hx
  split at h
  · cases h
    show 1 ≤ g a
    omega
  · cases h
theorem amts_append (xs ys : List (Int × Int)) : amts (xs ++ ys) = amts xs + amts ys := by
  unfold amts
  rw [List.map_append, List.sum_append]
theorem neg_pos_sum : ∀ (n : Nat) (g : Nat → Int), amts (posL n g) - amts (negL n g) = sumI n g
  | 0, _ => rfl
  | n + 1, g => by
    rw [negL_succ, posL_succ, amts_append, amts_append, sumI_succ, ← neg_pos_sum n g]
    have h0 : amts [] = 0 := rfl
    have h1 : ∀ x : Int × Int, amts [x] = x.2 := fun x => by rw [amts_cons]; omega
    by_cases a : g n < 0
    · rw [if_pos a, if_neg (by omega), h1, h0]
      dsimp only
      omega
    · rw [if_neg a, h0]
      by_cases b : g n > 0
      · rw [if_pos b, h1]
        dsimp only
        omega
      · rw [if_neg b, h0]
        omega
theorem sumI_swap : ∀ (n m : Nat) (f : Nat → Nat → Int), sumI n (fun a => sumI m (f a)) = sumI m fun b => sumI n fun a => f a b
  | 0, m, f => by
    have e : ∀ m : Nat, sumI m (fun _ => (0 : Int)) = 0 := fun m => by
      induction m with
      | zero => rfl
      | succ m ih => rw [sumI_succ, ih]; rfl
    show (0 : Int) = sumI m fun b => 0
    rw [e]
  | n + 1, m, f => by
    rw [sumI_succ, sumI_swap n m f, show (sumI m fun b => sumI (n + 1) fun a => f a b) = sumI m fun b => (sumI n fun a => f a b) + f n b from sumI_congr fun b _ => sumI_succ n _]
    have : ∀ (m : Nat) (p q : Nat → Int), sumI m (fun b => p b + q b) = sumI m p + sumI m q := fun m p q => by
      induction m with
      | zero => rfl
      | succ m ih => rw [sumI_succ, sumI_succ, sumI_succ, ih]; omega
    rw [this]
theorem netF_sum (n : Nat) (f : Nat → Nat → Int) : sumI n (netF n f) = 0 := by
  show sumI n (fun h => sumI n (fun a => f a h) - sumI n (f h)) = 0
  rw [sumI_sub, sumI_swap n n fun h a => f a h]
  exact Int.sub_self _
theorem filterMap_len {α β : Type} (p : α → Option β) (xs : List α) : (xs.filterMap p).length ≤ xs.length := List.length_filterMap_le ..
def sp_compress (K : PySem.W.Frag) : Sp := fun vs H Q _ => ∃ (t : Addr) (ps : List Addr) (n : Nat) (f : Nat → Nat → Int), vs = [.ref t] ∧ Tab H t ps n f ∧ Debts n f 1000000000000000 ∧ ∀ p H' rs R, Same H H' → H p = none → Tups enc3 H' p rs R → PO (negL n (netF n f)) (posL n (netF n f)) R → Q (.ref p) H'
theorem ok_compress (T : Txt K mg) : FnOk P w K mg base CX0 5 T.f_compress T.d_compress ["owed"] (sp_compress K) := by
  refine T.F_compress.ok sc_compress (fun vs H Q E h => ?_) (fun cdv A outer s H vs Q E hr h => ?_)
  · obtain ⟨t, ps, n, f, rfl, _⟩ := h
    rfl
  · obtain ⟨t, ps, n, f, rfl, ht, hd, q⟩ := h
    have G_net_amounts : FnOk P w K mg base CX0 4 T.f_net_amounts T.d_net_amounts ["owed"] (sp_net_amounts K) := ok_net_amounts T
    have G_pair_off : FnOk P w K mg base CX0 1 T.f_pair_off T.d_pair_off ["givers", "takers"] (sp_pair_off K) := ok_pair_off T
    refine ⟨_, (pss_cons (ps_set (i := 1) sc_compress.nd rfl (Or.inl rfl) (pe_call G_net_amounts hr (by rfl) T.m_net_amounts T.F_net_amounts.kp T.b_net_amounts .nil pass0 (pa_cons (pv 0) pa_nil)))
    (pss_cons (ps_setLc (i := 2) (own := [("house", 3), ("amount", 4)]) rfl sc_compress.nd rfl rfl (sw_true rfl rfl rfl (by decide +kernel)) (pi_enum (by rfl) T.z_enumerate (pa_cons (pv 1) pa_nil)) (blkOk_by (own := [("house", 3), ("amount", 4)]) (N := N_compress) (sc := defScope s_compress) (by decide +kernel)) (fun _ _ _ _ _ => (show PG _ _ (gTup K 2 (gCons (gName 3) (gCons (gName 4) gNil))) from (pg_tup rfl (pgs_cons (pg_name (i := 3) sc_compress.nd rfl (Or.inl rfl)) (pgs_cons (pg_name (i := 4) sc_compress.nd rfl (Or.inl rfl)) pgs_nil))))) (fun _ _ _ _ _ => pts_one (pt_cmpR op_lt (pv 4) pe_int (nomark _))) (fun _ _ _ _ _ => (pe_tup (pa_cons (pv 3) (pa_cons (pe_un un_neg (pv 4)) pa_nil)))))
    (pss_cons (ps_setLc (i := 5) (own := [("house", 3), ("amount", 4)]) rfl sc_compress.nd rfl rfl (sw_true rfl rfl rfl (by decide +kernel)) (pi_enum (by rfl) T.z_enumerate (pa_cons (pv 1) pa_nil)) (blkOk_by (own := [("house", 3), ("amount", 4)]) (N := N_compress) (sc := defScope s_compress) (by decide +kernel)) (fun _ _ _ _ _ => (show PG _ _ (gTup K 2 (gCons (gName 3) (gCons (gName 4) gNil))) from (pg_tup rfl (pgs_cons (pg_name (i := 3) sc_compress.nd rfl (Or.inl rfl)) (pgs_cons (pg_name (i := 4) sc_compress.nd rfl (Or.inl rfl)) pgs_nil))))) (fun _ _ _ _ _ => pts_one (pt_cmpR op_gt (pv 4) pe_int (nomark _))) (fun _ _ _ _ _ => (pe_tup (pa_cons (pv 3) (pa_cons (pv 4) pa_nil)))))
    (pss_one (ps_ret (pe_call G_pair_off (hr.mono (by decide)) (by rfl) T.m_pair_off T.F_pair_off.kp T.b_pair_off .nil pass0 (pa_cons (pv 2) (pa_cons (pv 5) pa_nil)))))))), ?_⟩
    have hn := hd.n1
    walk_at "st"
    refine ⟨ps, n, f, rfl, ht, hd, fun A H1 e1 nA hA => ?_⟩
    have hsum := netF_sum n f
    have hA1 : SqL K H1 A ((rowI n (netF n f)).map V.int) := SqL.of hA
    generalize netF n f = g at *
    walk_at "st"
    intro D nD
    refine lc_enum (K := K) (a := A) (xs := (rowI n g).map V.int) (fun i H' => ∃ qs, Tups enc2 H' D qs (negL i g) ∧ Same H1 H') ⟨[], .nil upd_same, same_upd nD⟩ (fun i H' _ ⟨_, _, e⟩ => e.seq hA1) ?_ ?_
    · rintro i x H' T hx ⟨qs, hT, e⟩ nT
      obtain ⟨z, hz, rfl⟩ := ints_at hx
      have hi := (List.getElem?_eq_some_iff.mp hz).1
      rw [rowI_len] at hi
      rw [rowI_at hi] at hz
      cases hz
      have s2 : Same H' (upd H' T (.tup [.int (i : Int), .int (g i)])) := same_upd nT
      have t2 : SqT K (upd H' T (.tup [.int (i : Int), .int (g i)])) T [.int (i : Int), .int (g i)] := SqT.of upd_same
      generalize upd H' T (.tup [.int (i : Int), .int (g i)]) = H2 at s2 t2
      have hT2 := hT.same s2
      have e2 := e.trans s2
      walk_at "st"
      refine iteB (fun h => ?_) (fun h => ?_)
      · have h := dec_t h
        walk_at "st"
        intro U nU
        have s3 := same_upd (o := .tup [.int (i : Int), .int (-g i)]) nU
        have hU : upd H2 U (.tup [.int (i : Int), .int (-g i)]) U = some (.tup (enc2 ((i : Int), -g i))) := upd_same
        refine ⟨_, s3 _ _ hT2.lst, small1000 ?_, qs ++ [U], ?_, TabR.keep (e2.trans s3) nD⟩
        · rw [List.length_map, hT2.len]
          exact Nat.le_trans (filterMap_len _ _) (by rw [List.length_range]; omega)
        · rw [negL_succ, if_pos h]
          exact hT2.push s3 nU hU
      · have h := dec_f h
        exact ⟨qs, (by rw [negL_succ, if_neg h, List.append_nil]; exact hT2), e2⟩
    · rintro H2 ⟨qs, hN, e2⟩
      rw [List.length_map, rowI_len] at hN
      have hA2 := e2.seq hA1
      walk_at "st"
      intro E nE
      refine lc_enum (K := K) (a := A) (xs := (rowI n g).map V.int) (fun i H' => ∃ qs, Tups enc2 H' E qs (posL i g) ∧ Same H2 H') ⟨[], .nil upd_same, same_upd nE⟩ (fun i H' _ ⟨_, _, e⟩ => e.seq hA2) ?_ ?_
      · rintro i x H' T hx ⟨qs, hT, e⟩ nT
        obtain ⟨z, hz, rfl⟩ := ints_at hx
        have hi := (List.getElem?_eq_some_iff.mp hz).1
        rw [rowI_len] at hi
        rw [rowI_at hi] at hz
        cases hz
        have s2 : Same H' (upd H' T (.tup [.int (i : Int), .int (g i)])) := same_upd nT
        have t2 : SqT K (upd H' T (.tup [.int (i : Int), .int (g i)])) T [.int (i : Int), .int (g i)] := SqT.of upd_same
        generalize upd H' T (.tup [.int (i : Int), .int (g i)]) = H3 at s2 t2
        have hT2 := hT.same s2
        have e3 := e.trans s2
        walk_at "st"
        refine iteB (fun h => ?_) (fun h => ?_)
        · have h := dec_t h
          walk_at "st"
          intro U nU
          have s3 := same_upd (o := .tup [.int (i : Int), .int (g i)]) nU
          have hU : upd H3 U (.tup [.int (i : Int), .int (g i)]) U = some (.tup (enc2 ((i : Int), g i))) := upd_same
          refine ⟨_, s3 _ _ hT2.lst, small1000 ?_, qs ++ [U], ?_, TabR.keep (e3.trans s3) nE⟩
          · rw [List.length_map, hT2.len]
            exact Nat.le_trans (filterMap_len _ _) (by rw [List.length_range]; omega)
          · rw [posL_succ, if_pos h]
            exact hT2.push s3 nU hU
        · have h := dec_f h
          exact ⟨qs, (by rw [posL_succ, if_neg h, List.append_nil]; exact hT2), e3⟩
      · rintro H3 ⟨qs', hP, e3⟩
        rw [List.length_map, rowI_len] at hP
        have hN3 := hN.same e3
        have l1 : (negL n g).length ≤ n := Nat.le_trans (filterMap_len _ _) (by rw [List.length_range]; exact Nat.le_refl _)
        have l2 : (posL n g).length ≤ n := Nat.le_trans (filterMap_len _ _) (by rw [List.length_range]; exact Nat.le_refl _)
        have hs := neg_pos_sum n g
        walk_at "st"
        refine ⟨qs, qs', negL n g, posL n g, rfl, hN3, hP, negL_pos n g, posL_pos n g, by omega, by omega, fun p H4 rs R e4 np hR hPO => ?_⟩
        exact q p H4 rs R (((e1.trans e2).trans e3).trans e4) (((e1.trans e2).trans e3).free np) hR hPO

/-! payments, first payer with first receiver, by what each house still has to get -/
def updN (g : Nat → Int) (p r : Nat) (m : Int) : Nat → Int := fun a => g a + (if a = p then m else 0) - (if a = r then m else 0)
inductive Pays (n : Nat) : (Nat → Int) → List (Int × Int × Int) → Prop
  | nil {g : Nat → Int} : (∀ a, a < n → g a = 0) → Pays n g []
  | step {g : Nat → Int} {p r : Nat} {m : Int} {L : List (Int × Int × Int)} : p < n → r < n → g p < 0 → (∀ a, a < p → ¬ g a < 0) → g r > 0 → (∀ a, a < r → ¬ g a > 0) → m = (if g r < 0 - g p then g r else 0 - g p) → Pays n (updN g p r m) L → Pays n g (((p : Int), (r : Int), m) :: L)
theorem fm_congr {α β : Type} {p q : α → Option β} : ∀ {xs : List α}, (∀ x, x ∈ xs → p x = q x) → xs.filterMap p = xs.filterMap q
  | [], _ => rfl
  | x :: xs, h => by
    rw [List.filterMap_cons, List.filterMap_cons, h x List.mem_cons_self, fm_congr fun y hy => h y (List.mem_cons_of_mem _ hy)]
theorem fm_head {β : Type} (φ : Nat → Option β) {y : β} {ys : List β} : ∀ (n s : Nat), (List.range' s n).filterMap φ = y :: ys → ∃ p, s ≤ p ∧ p < s + n ∧ φ p = some y ∧ (∀ j, s ≤ j → j < p → φ j = none) ∧
    ∀ ψ : Nat → Option β, (∀ j, s ≤ j → j < s + n → j ≠ p → ψ j = φ j) → (List.range' s n).filterMap ψ = (ψ p).toList ++ ys
  | 0, s, h => by cases h
  | n + 1, s, h => by
    rw [List.range'_succ, List.filterMap_cons] at h
    cases e : φ s with
    | none =>
      rw [e] at h
      obtain ⟨p, h1, h2, h3, h4, h5⟩ := fm_head φ n (s + 1) h
      refine ⟨p, by omega, by omega, h3, fun j a b => ?_, fun ψ k => ?_⟩
      · by_cases z : j = s
        · rw [z]; exact e
        · exact h4 j (by omega) b
      · rw [List.range'_succ, List.filterMap_cons, k s (by omega) (by omega) (by omega), e]
        exact h5 ψ fun j a b c => k j (by omega) (by omega) c
    | some x =>
      rw [e] at h
      cases h
      refine ⟨s, Nat.le_refl _, by omega, e, fun j a b => by omega, fun ψ k => ?_⟩
      have : (List.range' (s + 1) n).filterMap ψ = (List.range' (s + 1) n).filterMap φ := by
        refine fm_congr fun j hj => ?_
        have := List.mem_range'_1.mp hj
        exact k j (by omega) (by omega) (by omega)
      rw [List.range'_succ, List.filterMap_cons, this]
      cases ψ s <;> rfl
theorem negL_head {n : Nat} {g : Nat → Int} {y : Int × Int} {ys : List (Int × Int)} (h : negL n g = y :: ys) : ∃ p : Nat, p < n ∧ y = ((p : Int), -g p) ∧ g p < 0 ∧ (∀ a, a < p → ¬ g a < 0) ∧
    ∀ g' : Nat → Int, (∀ a, a < n → a ≠ p → g' a = g a ∨ (0 ≤ g' a ∧ 0 ≤ g a)) → negL n g' = (if g' p < 0 then [((p : Int), -g' p)] else []) ++ ys := by
  unfold negL at h
  rw [List.range_eq_range'] at h
  obtain ⟨p, h1, h2, h3, h4, h5⟩ := fm_head _ n 0 h
  have hp : g p < 0 := by
    by_cases z : g p < 0
    · exact z
    · rw [if_neg z] at h3; cases h3
  rw [if_pos hp] at h3
  refine ⟨p, by omega, (Option.some.inj h3).symm, hp, fun a ha z => ?_, fun g' k => ?_⟩
  · have := h4 a (Nat.zero_le _) ha
    rw [if_pos z] at this
    cases this
  · unfold negL
    rw [List.range_eq_range', h5 (fun a => if g' a < 0 then some ((a : Int), -g' a) else none) fun j _ hj hne => ?_]
    · congr 1
      by_cases z : g' p < 0
      · rw [if_pos z, if_pos z]; rfl
      · rw [if_neg z, if_neg z]; rfl
    · rcases k j (by omega) hne with e | ⟨e1, e2⟩
      · rw [e]
      · rw [if_neg (by omega), if_neg (by omega)]
theorem posL_head {n : Nat} {g : Nat → Int} {y : Int × Int} {ys : List (Int × Int)} (h : posL n g = y :: ys) : ∃ p : Nat, p < n ∧ y = ((p : Int), g p) ∧ g p > 0 ∧ (∀ a, a < p → ¬ g a > 0) ∧
    ∀ g' : Nat → Int, (∀ a, a < n → a ≠ p → g' a = g a ∨ (g' a ≤ 0 ∧ g a ≤ 0)) → posL n g' = (if g' p > 0 then [((p : Int), g' p)] else []) ++ ys := by
  unfold posL at h
  rw [List.range_eq_range'] at h
  obtain ⟨p, h1, h2, h3, h4, h5⟩ := fm_head _ n 0 h
  have hp : g p > 0 := by
    by_cases z : g p > 0
    · exact z
    · rw [if_neg z] at h3; cases h3
  rw [if_pos hp] at h3
  refine ⟨p, by omega, (Option.some.inj h3).symm, hp, fun a ha z => ?_, fun g' k => ?_⟩
  · have := h4 a (Nat.zero_le _) ha
    rw [if_pos z] at this
    cases this
  · unfold posL
    rw [List.range_eq_range', h5 (fun a => if g' a > 0 then some ((a : Int), g' a) else none) fun j _ hj hne => ?_]
    · congr 1
      by_cases z : g' p > 0
      · rw [if_pos z, if_pos z]; rfl
      · rw [if_neg z, if_neg z]; rfl
    · rcases k j (by omega) hne with e | ⟨e1, e2⟩
      · rw [e]
      · rw [if_neg (by omega), if_neg (by omega)]
theorem updN_p {g : Nat → Int} {p r : Nat} {m : Int} (h : p ≠ r) : updN g p r m p = g p + m := by
  unfold updN
  rw [if_pos rfl, if_neg h]
  omega
theorem updN_r {g : Nat → Int} {p r : Nat} {m : Int} (h : p ≠ r) : updN g p r m r = g r - m := by
  unfold updN
  rw [if_pos rfl, if_neg h.symm]
  omega
theorem updN_o {g : Nat → Int} {p r a : Nat} {m : Int} (h : a ≠ p) (h' : a ≠ r) : updN g p r m a = g a := by
  unfold updN
  rw [if_neg h, if_neg h']
  omega
theorem pays_of : ∀ {gs ts : List (Int × Int)} {L : List (Int × Int × Int)}, PO gs ts L → ∀ {n : Nat} {g : Nat → Int}, gs = negL n g → ts = posL n g → Pays n g L := by
  intro gs ts L h
  induction h with
  | nil =>
    intro n g e1 e2
    refine .nil fun a ha => ?_
    have h1 : ∀ x ∈ List.range n, (if g x < 0 then some ((x : Int), -g x) else none) = none := List.filterMap_eq_nil_iff.mp e1.symm
    have h2 : ∀ x ∈ List.range n, (if g x > 0 then some ((x : Int), g x) else none) = none := List.filterMap_eq_nil_iff.mp e2.symm
    have h1 := h1 a (List.mem_range.mpr ha)
    have h2 := h2 a (List.mem_range.mpr ha)
    split at h1
    · cases h1
    · split at h2
      · cases h2
      · omega
  | lt hlt _ ih =>
    intro n g e1 e2
    obtain ⟨p, p1, p2, p3, p4, p5⟩ := negL_head e1.symm
    obtain ⟨r, r1, r2, r3, r4, r5⟩ := posL_head e2.symm
    cases p2
    cases r2
    have hpr : p ≠ r := fun z => by rw [z] at p3; omega
    refine .step p1 r1 p3 p4 r3 r4 (by rw [if_neg (by omega)]; omega) (ih ?_ ?_)
    · rw [p5 (updN g p r (-g p)) fun a ha hne => ?_, updN_p hpr, if_neg (by omega)]
      · rfl
      · by_cases z : a = r
        · right; rw [z, updN_r hpr]; omega
        · left; exact updN_o hne z
    · rw [r5 (updN g p r (-g p)) fun a ha hne => ?_, updN_r hpr, if_pos (by omega)]
      · rfl
      · by_cases z : a = p
        · right; rw [z, updN_p hpr]; omega
        · left; exact updN_o z hne
  | eq _ ih =>
    intro n g e1 e2
    obtain ⟨p, p1, p2, p3, p4, p5⟩ := negL_head e1.symm
    obtain ⟨r, r1, r2, r3, r4, r5⟩ := posL_head e2.symm
    cases p2
    have hr2 := congrArg Prod.snd r2
    have hr1 := congrArg Prod.fst r2
    dsimp only at hr1 hr2
    subst hr1
    have hpr : p ≠ r := fun z => by rw [z] at p3; omega
    refine .step p1 r1 p3 p4 r3 r4 (by rw [if_neg (by omega)]; omega) (ih ?_ ?_)
    · rw [p5 (updN g p r (-g p)) fun a ha hne => ?_, updN_p hpr, if_neg (by omega)]
      · rfl
      · by_cases z : a = r
        · right; rw [z, updN_r hpr]; omega
        · left; exact updN_o hne z
    · rw [r5 (updN g p r (-g p)) fun a ha hne => ?_, updN_r hpr, if_neg (by omega)]
      · rfl
      · by_cases z : a = p
        · right; rw [z, updN_p hpr]; omega
        · left; exact updN_o z hne
  | gt hgt _ ih =>
    intro n g e1 e2
    obtain ⟨p, p1, p2, p3, p4, p5⟩ := negL_head e1.symm
    obtain ⟨r, r1, r2, r3, r4, r5⟩ := posL_head e2.symm
    cases p2
    cases r2
    have hpr : p ≠ r := fun z => by rw [z] at p3; omega
    refine .step p1 r1 p3 p4 r3 r4 (by rw [if_pos (by omega)]) (ih ?_ ?_)
    · rw [p5 (updN g p r (g r)) fun a ha hne => ?_, updN_p hpr, if_pos (by omega), show -(g p + g r) = -g p - g r by omega]
      · rfl
      · by_cases z : a = r
        · right; rw [z, updN_r hpr]; omega
        · left; exact updN_o hne z
    · rw [r5 (updN g p r (g r)) fun a ha hne => ?_, updN_r hpr, if_neg (by omega)]
      · rfl
      · by_cases z : a = p
        · right; rw [z, updN_p hpr]; omega
        · left; exact updN_o z hne
/-- what a house pays, what it receives -/
def paidL (L : List (Int × Int × Int)) (a : Nat) : Int := ((L.filter fun x => decide (x.1 = (a : Int))).map (·.2.2)).sum
def recvL (L : List (Int × Int × Int)) (a : Nat) : Int := ((L.filter fun x => decide (x.2.1 = (a : Int))).map (·.2.2)).sum
theorem paidL_cons (x : Int × Int × Int) (L : List (Int × Int × Int)) (a : Nat) : paidL (x :: L) a = (if x.1 = (a : Int) then x.2.2 else 0) + paidL L a := by
  unfold paidL
  by_cases h : x.1 = (a : Int)
  · rw [List.filter_cons_of_pos (by exact decide_eq_true h), if_pos h, List.map_cons, List.sum_cons]
  · rw [List.filter_cons_of_neg (by rw [decide_eq_false h]; exact Bool.false_ne_true), if_neg h, Int.zero_add]
theorem recvL_cons (x : Int × Int × Int) (L : List (Int × Int × Int)) (a : Nat) : recvL (x :: L) a = (if x.2.1 = (a : Int) then x.2.2 else 0) + recvL L a := by
  unfold recvL
  by_cases h : x.2.1 = (a : Int)
  · rw [List.filter_cons_of_pos (by exact decide_eq_true h), if_pos h, List.map_cons, List.sum_cons]
  · rw [List.filter_cons_of_neg (by rw [decide_eq_false h]; exact Bool.false_ne_true), if_neg h, Int.zero_add]
theorem min_pos {x y m : Int} (hx : x > 0) (hy : y < 0) (h : m = (if x < 0 - y then x else 0 - y)) : 1 ≤ m ∧ m ≤ x ∧ m ≤ -y ∧ (m = x ∨ m = -y) := by
  split at h <;> omega
theorem pays_row {n : Nat} {g : Nat → Int} {L : List (Int × Int × Int)} (h : Pays n g L) : ∀ x, x ∈ L → ∃ p r : Nat, ∃ m : Int, x = ((p : Int), (r : Int), m) ∧ p < n ∧ r < n ∧ 1 ≤ m := by
  induction h with
  | nil _ => intro x hx; cases hx
  | step p1 r1 p3 _ r3 _ hm _ ih =>
    intro x hx
    rcases List.mem_cons.mp hx with hx | hx
    · exact ⟨_, _, _, hx, p1, r1, (min_pos r3 p3 hm).1⟩
    · exact ih x hx
theorem pays_house {n : Nat} {g : Nat → Int} {L : List (Int × Int × Int)} (h : Pays n g L) (a : Nat) (ha : a < n) : recvL L a - paidL L a = g a ∧ 0 ≤ paidL L a ∧ 0 ≤ recvL L a ∧ (0 ≤ g a → paidL L a = 0) ∧ (g a ≤ 0 → recvL L a = 0) := by
  induction h with
  | nil h =>
    have := h a ha
    have e1 : recvL [] a = 0 := rfl
    have e2 : paidL [] a = 0 := rfl
    omega
  | @step g p r m L p1 r1 p3 _ r3 _ hm _ ih =>
    obtain ⟨m1, m2, m3, m4⟩ := min_pos r3 p3 hm
    have hpr : p ≠ r := fun z => by rw [z] at p3; omega
    rw [paidL_cons, recvL_cons]
    dsimp only
    by_cases c1 : a = p
    · subst c1
      rw [updN_p hpr] at ih
      rw [if_pos rfl, if_neg (by omega)]
      omega
    · by_cases c2 : a = r
      · subst c2
        rw [updN_r hpr] at ih
        rw [if_pos rfl, if_neg (by omega)]
        omega
      · rw [updN_o c1 c2] at ih
        rw [if_neg (by omega), if_neg (by omega)]
        omega
def cntI (n : Nat) (g : Nat → Int) : Int := sumI n fun a => if g a = 0 then 0 else 1
theorem sumI_zero (n : Nat) : sumI n (fun _ => (0 : Int)) = 0 := by
  induction n with
  | zero => rfl
  | succ n ih => rw [sumI_succ, ih]; rfl
theorem sumI_add (n : Nat) (f g : Nat → Int) : sumI n (fun b => f b + g b) = sumI n f + sumI n g := by
  induction n with
  | zero => rfl
  | succ n ih => rw [sumI_succ, sumI_succ, sumI_succ, ih]; omega
theorem sumI_one {n p : Nat} {c : Int} (h : p < n) : sumI n (fun a => if a = p then c else 0) = c := by
  induction n with
  | zero => omega
  | succ n ih =>
    rw [sumI_succ]
    by_cases z : p = n
    · rw [if_pos z.symm, sumI_congr (g := fun _ => 0) fun i hi => by rw [if_neg (by omega)], sumI_zero]
      omega
    · rw [ih (by omega), if_neg (by omega)]
      omega
theorem pays_count {n : Nat} {g : Nat → Int} {L : List (Int × Int × Int)} (h : Pays n g L) : L = [] ∨ (L.length : Int) + 1 ≤ cntI n g := by
  induction h with
  | nil _ => exact .inl rfl
  | @step g p r m L p1 r1 p3 _ r3 _ hm hP ih =>
    obtain ⟨m1, m2, m3, m4⟩ := min_pos r3 p3 hm
    have hpr : p ≠ r := fun z => by rw [z] at p3; omega
    have e : cntI n g = cntI n (updN g p r m) + (if g p + m = 0 then 1 else 0) + (if g r - m = 0 then 1 else 0) := by
      unfold cntI
      rw [← sumI_one (n := n) (p := p) (c := if g p + m = 0 then 1 else 0) p1, ← sumI_one (n := n) (p := r) (c := if g r - m = 0 then 1 else 0) r1, ← sumI_add, ← sumI_add]
      refine sumI_congr fun a ha => ?_
      by_cases c1 : a = p
      · subst c1
        rw [updN_p hpr, if_pos rfl, if_neg hpr, if_neg (by omega)]
        split <;> rfl
      · by_cases c2 : a = r
        · subst c2
          rw [updN_r hpr, if_pos rfl, if_neg hpr.symm, if_neg (by omega)]
          split <;> rfl
        · rw [updN_o c1 c2, if_neg c1, if_neg c2]
          omega
    right
    rw [e, List.length_cons]
    rcases ih with z | z
    · subst z
      cases hP with
      | nil hz =>
        have z1 := hz p p1
        have z2 := hz r r1
        rw [updN_p hpr] at z1
        rw [updN_r hpr] at z2
        rw [if_pos z1, if_pos z2]
        have : 0 ≤ cntI n (updN g p r m) := (sumI_bound (m := 1) fun i _ => by split <;> omega).1
        show ((0 + 1 : Nat) : Int) + 1 ≤ _
        omega
    · rcases m4 with w | w
      · rw [if_pos (show g r - m = 0 by omega)]
        split <;> omega
      · rw [if_pos (show g p + m = 0 by omega)]
        split <;> omega
theorem pays_ne {n : Nat} {g : Nat → Int} {L : List (Int × Int × Int)} (h : Pays n g L) : ∀ x, x ∈ L → x.1 ≠ x.2.1 := by
  induction h with
  | nil _ => intro x hx; cases hx
  | step p1 r1 p3 _ r3 _ hm _ ih =>
    intro x hx
    rcases List.mem_cons.mp hx with hx | hx
    · rw [hx]
      intro z
      dsimp only at z
      rw [Int.ofNat.inj z] at p3
      omega
    · exact ih x hx
theorem paidL_snoc (L : List (Int × Int × Int)) (x : Int × Int × Int) (a : Nat) : paidL (L ++ [x]) a = paidL L a + if x.1 = (a : Int) then x.2.2 else 0 := by
  have h := paidL_cons x [] a
  have h0 : paidL [] a = 0 := rfl
  have e : paidL (L ++ [x]) a = paidL L a + paidL [x] a := by
    unfold paidL
    rw [List.filter_append, List.map_append, List.sum_append]
  omega
theorem recvL_snoc (L : List (Int × Int × Int)) (x : Int × Int × Int) (a : Nat) : recvL (L ++ [x]) a = recvL L a + if x.2.1 = (a : Int) then x.2.2 else 0 := by
  have h := recvL_cons x [] a
  have h0 : recvL [] a = 0 := rfl
  have e : recvL (L ++ [x]) a = recvL L a + recvL [x] a := by
    unfold recvL
    rw [List.filter_append, List.map_append, List.sum_append]
  omega

/-- the places below n that P picks -/
def filI (n : Nat) (P : Nat → Bool) : List Int := ((List.range n).filter P).map fun (a : Nat) => (a : Int)
theorem filI_succ (n : Nat) (P : Nat → Bool) : filI (n + 1) P = filI n P ++ (if P n = true then [(n : Int)] else []) := by
  unfold filI
  rw [List.range_succ, List.filter_append, List.map_append]
  congr 1
  by_cases h : P n = true
  · rw [List.filter_cons_of_pos h, if_pos h]; rfl
  · rw [List.filter_cons_of_neg h, if_neg h]; rfl
theorem filI_len (n : Nat) (P : Nat → Bool) : (filI n P).length ≤ n := by
  unfold filI
  rw [List.length_map]
  have := List.length_filter_le P (List.range n)
  rw [List.length_range] at this
  exact this
theorem filI_head : ∀ {n : Nat} {P : Nat → Bool} {p : Nat}, p < n → P p = true → (∀ a, a < p → P a = false) → ∃ xs, filI n P = (p : Int) :: xs
  | 0, _, _, h, _, _ => by omega
  | n + 1, P, p, h, hp, hn => by
    rw [filI_succ]
    by_cases z : p < n
    · obtain ⟨xs, e⟩ := filI_head z hp hn
      exact ⟨xs ++ (if P n = true then [(n : Int)] else []), by rw [e]; rfl⟩
    · have e : p = n := by omega
      subst e
      rw [if_pos hp]
      have : filI p P = [] := by
        unfold filI
        rw [List.filter_eq_nil_iff.mpr fun a ha => by rw [hn a (List.mem_range.mp ha)]; exact Bool.false_ne_true]
        rfl
      exact ⟨[], by rw [this]; rfl⟩
theorem filI_none {n : Nat} {P : Nat → Bool} (h : ∀ a, a < n → P a = false) : filI n P = [] := by
  unfold filI
  rw [List.filter_eq_nil_iff.mpr fun a ha => by rw [h a (List.mem_range.mp ha)]; exact Bool.false_ne_true]
  rfl
theorem rowI_set {n p : Nat} {g : Nat → Int} {x : Int} (h : p < n) : (rowI n g).set p x = rowI n fun a => if a = p then x else g a := by
  refine List.ext_getElem? fun i => ?_
  by_cases hi : i < n
  · rw [rowI_at hi]
    by_cases z : i = p
    · rw [z, List.getElem?_set_self (by rw [rowI_len]; exact h), if_pos rfl]
    · rw [List.getElem?_set_ne (fun e => z e.symm), rowI_at hi, if_neg z]
  · rw [List.getElem?_eq_none (by rw [List.length_set, rowI_len]; omega), List.getElem?_eq_none (by rw [rowI_len]; omega)]

/-- one number of a table changed -/
def setF2 (f : Nat → Nat → Int) (i j : Nat) (x : Int) : Nat → Nat → Int := fun a b => if a = i ∧ b = j then x else f a b
theorem Tab.set {H : Hp} {t p : Addr} {ps : List Addr} {n i j : Nat} {f : Nat → Nat → Int} {x : Int} (h : Tab H t ps n f) (hp : ps[i]? = some p) (hj : j < n) : Tab (upd H p (.lst (((rowI n (f i)).map V.int).set j (.int x)))) t ps n (setF2 f i j x) := by
  have hm := List.mem_of_getElem? hp
  refine ⟨?_, h.len, fun a q hq => ?_, h.nod, h.out⟩
  · rw [upd_ne (fun z => h.out (by rw [z]; exact hm))]
    exact h.lst
  · by_cases z : a = i
    · subst z
      rw [hp] at hq
      cases hq
      rw [upd_same, ← List.map_set, rowI_set hj]
      refine congrArg (fun z => some (HO.lst (List.map V.int z))) (rowI_eq.mpr fun b hb => ?_)
      unfold setF2
      by_cases c : b = j
      · rw [if_pos c, if_pos ⟨rfl, c⟩]
      · rw [if_neg c, if_neg fun e => c e.2]
    · have hne : q ≠ p := fun e => by
        rw [e] at hq
        have h1 := List.getElem?_eq_some_iff.mp hq
        have h2 := List.getElem?_eq_some_iff.mp hp
        exact z ((List.getElem_inj h.nod).mp (h1.2.trans h2.2.symm))
      rw [upd_ne hne, h.row a q hq]
      refine congrArg (fun z => some (HO.lst (List.map V.int z))) (rowI_eq.mpr fun b hb => ?_)
      unfold setF2
      rw [if_neg fun e => z e.1]
theorem sumI_set {n j : Nat} {g : Nat → Int} {x : Int} (h : j < n) : sumI n (fun b => if b = j then x else g b) = sumI n g + (x - g j) := by
  rw [← sumI_one (n := n) (p := j) (c := x - g j) h, ← sumI_add]
  refine sumI_congr fun b _ => ?_
  by_cases z : b = j
  · rw [if_pos z, if_pos z, z]; omega
  · rw [if_neg z, if_neg z]; omega
/-- the nets after i owes j some cents more -/
theorem netF_set {n i j : Nat} {f : Nat → Nat → Int} {c : Int} (hi : i < n) (hj : j < n) (h : Nat) : netF n (setF2 f i j (f i j + c)) h = netF n f h + (if h = j then c else 0) - (if h = i then c else 0) := by
  have e1 : sumI n (fun a => setF2 f i j (f i j + c) a h) = sumI n (fun a => f a h) + (if h = j then c else 0) := by
    by_cases z : h = j
    · subst z
      rw [if_pos rfl, show (fun a => setF2 f i h (f i h + c) a h) = fun a => if a = i then f i h + c else f a h from funext fun a => by unfold setF2; by_cases w : a = i <;> simp [w], sumI_set hi (g := fun a => f a h)]
      omega
    · rw [if_neg z, show (fun a => setF2 f i j (f i j + c) a h) = fun a => f a h from funext fun a => by unfold setF2; rw [if_neg fun e => z e.2]]
      omega
  have e2 : sumI n (setF2 f i j (f i j + c) h) = sumI n (f h) + (if h = i then c else 0) := by
    by_cases z : h = i
    · subst z
      rw [if_pos rfl, show setF2 f h j (f h j + c) h = fun b => if b = j then f h j + c else f h b from funext fun b => by unfold setF2; by_cases w : b = j <;> simp [w], sumI_set hj]
      omega
    · rw [if_neg z, show setF2 f i j (f i j + c) h = f h from funext fun b => by unfold setF2; rw [if_neg fun e => z e.1]]
      omega
  unfold netF
  rw [e1, e2]
  omega
/-- no debt below 0, none to oneself -/
structure NN (n : Nat) (f : Nat → Nat → Int) : Prop where
  nn : ∀ i, i < n → ∀ j, j < n → 0 ≤ f i j
  d : ∀ i, i < n → f i i = 0
theorem NN.add {n i j : Nat} {f : Nat → Nat → Int} {c : Int} (h : NN n f) (hi : i < n) (hj : j < n) (hc : 0 ≤ c) (hne : i ≠ j) : NN n (setF2 f i j (f i j + c)) := by
  refine ⟨fun a ha b hb => ?_, fun a ha => ?_⟩
  · unfold setF2
    split
    · have := h.nn i hi j hj
      omega
    · exact h.nn a ha b hb
  · unfold setF2
    rw [if_neg fun e => hne (e.1.symm.trans e.2)]
    exact h.d a ha
theorem NN.debts {n : Nat} {f : Nat → Nat → Int} {m : Int} (h : NN n f) (h0 : 1 ≤ n) (h1 : n ≤ 13) (hm : ∀ i, i < n → ∀ j, j < n → f i j ≤ m) : Debts n f m := ⟨h0, h1, fun i hi j hj => ⟨h.nn i hi j hj, hm i hi j hj⟩, h.d⟩
theorem Debts.nn {n : Nat} {f : Nat → Nat → Int} {m : Int} (h : Debts n f m) : NN n f := ⟨fun i hi j hj => (h.b i hi j hj).1, h.d⟩

theorem PO.same {gs ts : List (Int × Int)} {L : List (Int × Int × Int)} (h : PO gs ts L) : ∀ {M : List (Int × Int × Int)}, PO gs ts M → L = M := by
  induction h with
  | nil =>
    intro M k
    cases k
    rfl
  | lt hlt _ ih =>
    intro M k
    cases k with
    | lt _ k => rw [ih k]
    | eq k => omega
    | gt h2 k => omega
  | eq _ ih =>
    intro M k
    cases k with
    | lt h2 k => omega
    | eq k => rw [ih k]
    | gt h2 k => omega
  | gt hgt _ ih =>
    intro M k
    cases k with
    | lt h2 k => omega
    | eq k => omega
    | gt _ k => rw [ih k]
theorem negL_congr {n : Nat} {f g : Nat → Int} (h : ∀ a, a < n → f a = g a) : negL n f = negL n g := fm_congr fun a ha => by rw [h a (List.mem_range.mp ha)]
theorem posL_congr {n : Nat} {f g : Nat → Int} (h : ∀ a, a < n → f a = g a) : posL n f = posL n g := fm_congr fun a ha => by rw [h a (List.mem_range.mp ha)]
def totL (L : List (Int × Int × Int)) : Int := (L.map (·.2.2)).sum
theorem totL_cons (x : Int × Int × Int) (L : List (Int × Int × Int)) : totL (x :: L) = x.2.2 + totL L := by
  unfold totL
  rw [List.map_cons, List.sum_cons]
theorem pays_tot {n : Nat} {g : Nat → Int} {L : List (Int × Int × Int)} (h : Pays n g L) : totL L = sumI n (paidL L) := by
  induction h with
  | nil _ => exact (sumI_zero n).symm
  | @step g p r m L p1 r1 p3 _ r3 _ hm _ ih =>
    have e : sumI n (paidL (((p : Int), (r : Int), m) :: L)) = sumI n fun a => (if a = p then m else 0) + paidL L a := sumI_congr fun a _ => by
      rw [paidL_cons]
      by_cases z : a = p
      · rw [if_pos z, if_pos (by rw [z])]
      · rw [if_neg z, if_neg (by show ¬ (p : Int) = a; omega)]
    rw [e, sumI_add, sumI_one p1, totL_cons, ih]
theorem sumI_le {n : Nat} {f g : Nat → Int} (h : ∀ i, i < n → f i ≤ g i) : sumI n f ≤ sumI n g := by
  induction n with
  | zero => exact Int.le_refl 0
  | succ n ih =>
    rw [sumI_succ, sumI_succ]
    have h1 := ih fun i hi => h i (by omega)
    have h2 := h n (by omega)
    omega
theorem tot_le {n : Nat} {f g : Nat → Nat → Int} {L : List (Int × Int × Int)} (h : Pays n (netF n f) L) (hn : NN n g) (e : ∀ a, a < n → netF n g a = netF n f a) : totL L ≤ sumI n fun a => sumI n (g a) := by
  rw [pays_tot h]
  refine sumI_le fun a ha => ?_
  obtain ⟨h1, h2, h3, h4, h5⟩ := pays_house h a ha
  have e1 := e a ha
  unfold netF at e1
  have r0 : 0 ≤ sumI n (g a) := by
    have := sumI_le (n := n) (f := fun _ => 0) (g := g a) fun i hi => hn.nn a ha i hi
    rw [sumI_zero] at this
    exact this
  have c0 : 0 ≤ sumI n (fun b => g b a) := by
    have := sumI_le (n := n) (f := fun _ => 0) (g := fun b => g b a) fun i hi => hn.nn i hi a ha
    rw [sumI_zero] at this
    exact this
  by_cases z : 0 ≤ netF n f a
  · rw [h4 z]; exact r0
  · have := h5 (by omega)
    unfold netF at h1 z this
    omega

def sp_law_sum (K : PySem.W.Frag) : Sp := fun vs H Q _ => ∃ (l : Addr) (rs : List Addr) (L : List (Int × Int × Int)), vs = [.ref l] ∧ Tups enc3 H l rs L ∧ L.length ≤ 900 ∧ ∀ H', Same H H' → Q (.int (totL L)) H'
theorem ok_law_sum (T : Txt K mg) : FnOk P w K mg base CX0 2 T.f_law_sum T.d_law_sum ["payments"] (sp_law_sum K) := by
  refine T.F_law_sum.ok sc_law_sum (fun vs H Q E h => ?_) (fun cdv A outer s H vs Q E hr h => ?_)
  · obtain ⟨l, rs, L, rfl, _⟩ := h
    rfl
  · obtain ⟨l, rs, L, rfl, hL, hn, q⟩ := h
    have G_law_is_integer : FnOk P w K mg base CX0 1 T.f_law_is_integer T.d_law_is_integer ["actual"] (sp_law_is_integer K) := ok_law_is_integer T
    have hs : SqL K H l (rs.map V.ref) := SqL.of hL.lst
    refine ⟨_, (pss_cons (ps_if (pt_not (pt_val (pe_callB call_isi (by rfl) T.z_isinstance (by decide +kernel) (pa_cons (pv 0) (pa_cons (pe_bltn (v := .ty "list") (u := .type "list") (by rfl) T.z_list (by decide +kernel) rfl) pa_nil)))))
      (pss_one (ps_ret pe_non))
      pss_nil)
    (pss_cons (ps_for PassesOwn.never rfl (pi_list (pv 0)) (pg_name (i := 1) sc_law_sum.nd rfl (Or.inl rfl))
      (pss_one (ps_if (PW.pt (pw_or (pt_not (pt_val (pe_callB call_isi (by rfl) T.z_isinstance (by decide +kernel) (pa_cons (pv 1) (pa_cons (pe_bltn (v := .ty "tuple") (u := .type "tuple") (by rfl) T.z_tuple (by decide +kernel) rfl) pa_nil))))) (pw_or (pt_cmpR op_ne (pe_callB call_len_seq (by rfl) T.z_len PySem.boot_len (pa_cons (pv 1) pa_nil)) pe_int (nomark _)) (pw_or1 (pt_not (pt_val (pe_call G_law_is_integer hr (by rfl) T.m_law_is_integer T.F_law_is_integer.kp T.b_law_is_integer .nil pass0 (pa_cons (pe_ix ix_tup (pv 1) pe_int (fun _ _ => rfl)) pa_nil))))))))
        (pss_one (ps_ret pe_non))
        pss_nil)))
    (pss_one (ps_ret (pe_callB (cr_sum rfl) (by rfl) T.z_sum (by decide +kernel) (pa_cons (pe_lc (own := [("payment", 1)]) (g := gName 1) (tt := tYes) rfl sc_law_sum.nd (pi_list (pv 0)) (blkOk_by (own := [("payment", 1)]) (N := N_law_sum) (sc := defScope s_law_sum) (by decide +kernel)) (fun _ _ _ _ _ => (pg_name (i := 1) sc_law_sum.nd rfl (Or.inl rfl))) (fun _ _ _ _ _ => pts_nil) (fun _ _ _ _ _ => (pe_ix (show IxR _ (rIxT K) from ix_tup) (pv 1) pe_int (fun _ _ => rfl)))) pa_nil)))))), ?_⟩
    refine ⟨_, rfl, ?_⟩
    refine ⟨_, _, _, _, true, rfl, .ty _, .base (.lst hL.lst), kit_ty (by decide +kernel), ?_⟩
    refine ⟨_, rfl, iteF ?_⟩
    walk_at "st"
    refine for_list (K := K) (a := l) (xs := rs.map V.ref) (fun i σ H' => (∃ v, σ = [some (.ref l), v]) ∧ H' = H) ⟨⟨none, rfl⟩, rfl⟩ (fun i σ H' _ ⟨_, e⟩ => by rw [e]; exact hs) ?_ ?_
    · rintro i x σ H' hx ⟨⟨v, rfl⟩, rfl⟩
      obtain ⟨p, y, hp, hy, rfl, hyr⟩ := hL.item hx
      have hyt : SqT K H' p [.int y.1, .int y.2.1, .int y.2.2] := SqT.of hyr
      refine ⟨_, rfl, ?_⟩
      refine ⟨_, _, _, _, true, rfl, .ty _, .base (.tup hyr), kit_ty (by decide +kernel), ?_⟩
      refine ⟨_, rfl, iteF ?_⟩
      walk_at "st"
      exact ⟨⟨_, rfl⟩, rfl⟩
    · rintro σ H' ⟨⟨v, rfl⟩, rfl⟩
      walk_at "st"
      intro D nD
      refine lc_list (K := K) (a := l) (xs := rs.map V.ref) (fun j H2 => H2 = upd H' D (.lst (((L.take j).map (·.2.2)).map V.int))) rfl (fun j H2 _ e => by rw [e]; exact (same_upd nD).seq hs) ?_ ?_
      · rintro j x H2 hx rfl
        obtain ⟨py, y, hpy, hy, rfl, hyr⟩ := (hL.same (same_upd (o := .lst (((L.take j).map (·.2.2)).map V.int)) nD)).item hx
        have hj := (List.getElem?_eq_some_iff.mp hy).1
        have hyt : SqT K (upd H' D (.lst (((L.take j).map (·.2.2)).map V.int))) py [.int y.1, .int y.2.1, .int y.2.2] := SqT.of hyr
        refine ⟨rfl, ?_⟩
        walk_at "st"
        refine ⟨small1000 ?_, ?_⟩
        · rw [List.length_map, List.length_map, List.length_take]
          omega
        · rw [upd_upd, take_succ hy, List.map_append, List.map_append]
          rfl
      · rintro H2 rfl
        rw [show L.take (rs.map V.ref).length = L by rw [List.length_map, hL.len, List.take_length]]
        have sD := same_upd (o := .lst ((L.map (·.2.2)).map V.int)) nD
        have hD : SqL K (upd H' D (.lst ((L.map (·.2.2)).map V.int))) D ((L.map (·.2.2)).map V.int) := SqL.of upd_same
        walk_at "st"
        exact q _ sD
def sp_law_small (K : PySem.W.Frag) : Sp := fun vs H Q _ => ∃ (t : Addr) (ps : List Addr) (n : Nat) (f : Nat → Nat → Int), vs = [.ref t] ∧ Tab H t ps n f ∧ ∀ b : Bool, (b = true → ∀ i, i < n → ∀ j, j < n → f i j ≤ 1000000) → Q (.bl b) H
theorem ok_law_small (T : Txt K mg) : FnOk P w K mg base CX0 1 T.f_law_small T.d_law_small ["debts"] (sp_law_small K) := by
  refine T.F_law_small.ok sc_law_small (fun vs H Q E h => ?_) (fun cdv A outer s H vs Q E hr h => ?_)
  · obtain ⟨t, ps, n, f, rfl, _⟩ := h
    rfl
  · obtain ⟨t, ps, n, f, rfl, ht, q⟩ := h
    have hs : SqL K H t (ps.map V.ref) := SqL.of ht.lst
    refine ⟨_, (pss_cons (ps_for PassesOwn.never rfl (pi_list (pv 0)) (pg_name (i := 1) sc_law_small.nd rfl (Or.inl rfl))
      (pss_one (ps_for PassesOwn.never rfl (pi_list (pv 1)) (pg_name (i := 2) sc_law_small.nd rfl (Or.inl rfl))
        (pss_one (ps_if (pt_cmpR op_gt (pv 2) pe_int (nomark _))
          (pss_one (ps_ret pe_bl))
          pss_nil)))))
    (pss_one (ps_ret pe_bl))), ?_⟩
    walk_at "st"
    refine for_list (K := K) (a := t) (xs := ps.map V.ref) (fun i σ H' => (∃ v1 v2 : Option V, σ = [some (.ref t), v1, v2]) ∧ H' = H ∧ ∀ a, a < i → ∀ b, b < n → f a b ≤ 1000000) ⟨⟨none, none, rfl⟩, rfl, fun a h => by omega⟩ (fun i σ H' _ ⟨_, e, _⟩ => by rw [e]; exact hs) ?_ ?_
    · rintro i x σ H' hx ⟨⟨v1, v2, rfl⟩, rfl, hb⟩
      obtain ⟨p, hp, rfl⟩ := refs_at hx
      have hrow : SqL K H' p ((rowI n (f i)).map V.int) := SqL.of (ht.row i p hp)
      walk_at "st"
      refine for_list (K := K) (a := p) (xs := (rowI n (f i)).map V.int) (fun j σ H2 => (∃ v2 : Option V, σ = [some (.ref t), some (.ref p), v2]) ∧ H2 = H' ∧ ∀ b, b < j → f i b ≤ 1000000) ⟨⟨v2, rfl⟩, rfl, fun a h => by omega⟩ (fun j σ H2 _ ⟨_, e, _⟩ => by rw [e]; exact hrow) ?_ ?_
      · rintro j x σ H2 hx ⟨⟨v2, rfl⟩, rfl, hc⟩
        obtain ⟨z, hz, rfl⟩ := ints_at hx
        have hj := (List.getElem?_eq_some_iff.mp hz).1
        rw [rowI_len] at hj
        rw [rowI_at hj] at hz
        cases hz
        walk_at "st"
        refine iteB (fun h => ?_) (fun h => ?_)
        · walk_at "st"
          exact q false (fun z => by cases z)
        · have h := dec_f h
          refine ⟨⟨_, rfl⟩, rfl, fun b hb' => ?_⟩
          by_cases z : b = j
          · rw [z]; omega
          · exact hc b (by omega)
      · rintro σ H2 ⟨⟨v2, rfl⟩, rfl, hc⟩
        refine ⟨⟨_, _, rfl⟩, rfl, fun a ha b hb' => ?_⟩
        by_cases z : a = i
        · rw [z]
          exact hc b (by rw [List.length_map, rowI_len]; exact hb')
        · exact hb a (by omega) b hb'
    · rintro σ H' ⟨⟨v1, v2, rfl⟩, rfl, hb⟩
      walk_at "st"
      refine q true fun _ a ha b hb' => hb a (by rw [List.length_map, ht.len]; exact ha) b hb'
theorem cut_mem {ds : List Int} {lo hi : Option Int} {x : Int} (h : x ∈ cutI ds lo hi) : x ∈ ds := by
  unfold cutI at h
  exact List.mem_of_mem_drop (List.mem_of_mem_take h)
def sp_law_with_ring (K : PySem.W.Frag) : Sp := fun vs H Q _ => ∃ (t : Addr) (ps : List Addr) (n : Nat) (f : Nat → Nat → Int) (cell : Int), vs = [.ref t, .int cell] ∧ Tab H t ps n f ∧ NN n f ∧ 1 ≤ n ∧ n ≤ 13 ∧
  ∀ t2 H' ps2 g, Same H H' → H t2 = none → Tab H' t2 ps2 n g → NN n g → (∀ h, h < n → netF n g h = netF n f h) → Q (.ref t2) H'
theorem ok_law_with_ring (T : Txt K mg) : FnOk P w K mg base CX0 2 T.f_law_with_ring T.d_law_with_ring ["debts", "cell"] (sp_law_with_ring K) := by
  refine T.F_law_with_ring.ok sc_law_with_ring (fun vs H Q E h => ?_) (fun cdv A outer s H vs Q E hr h => ?_)
  · obtain ⟨t, ps, n, f, cell, rfl, _⟩ := h
    rfl
  · obtain ⟨t, ps, n, f, cell, rfl, ht, hf, hn0, hn1, q⟩ := h
    have G_law_draws : FnOk P w K mg base CX0 1 T.f_law_draws T.d_law_draws ["cell", "count", "size"] (sp_law_draws K) := ok_law_draws T
    have hs : SqL K H t (ps.map V.ref) := SqL.of ht.lst
    have hl := ht.len
    refine ⟨_, (pss_cons (ps_set (i := 2) sc_law_with_ring.nd rfl (Or.inr rfl) (pe_callB call_len_seq (by rfl) T.z_len PySem.boot_len (pa_cons (pv 0) pa_nil)))
    (pss_cons (ps_set (i := 3) sc_law_with_ring.nd rfl (Or.inl rfl) (pe_call G_law_draws hr (by rfl) T.m_law_draws T.F_law_draws.kp T.b_law_draws .nil pass0 (pa_cons (pv 1) (pa_cons pe_int (pa_cons pe_int pa_nil)))))
    (pss_cons (ps_set (i := 4) sc_law_with_ring.nd rfl (Or.inl rfl) (pe_op op_add pe_int (pe_op op_mod (pe_ix ix_list (pv 3) pe_int (fun _ _ => rfl)) pe_int)))
    (pss_cons (ps_setLc (i := 5) (own := [("draw", 6)]) (g := gName 6) (tt := tYes) rfl sc_law_with_ring.nd rfl rfl (sw_true rfl rfl rfl (by decide +kernel)) (pi_list (pe_slice sl_list (pv 3) po_none (po_some (pe_op op_add pe_int (pe_op op_mod (pe_ix ix_list (pv 3) pe_int (fun _ _ => rfl)) pe_int))))) (blkOk_by (own := [("draw", 6)]) (N := N_law_with_ring) (sc := defScope s_law_with_ring) (by decide +kernel)) (fun _ _ _ _ _ => (pg_name (i := 6) sc_law_with_ring.nd rfl (Or.inl rfl))) (fun _ _ _ _ _ => pts_nil) (fun _ _ _ _ _ => (pe_op op_mod (pe_callTy call_int_i (by rfl) T.z_int (by decide +kernel) (pa_cons (pv 6) pa_nil)) (pv 2))))
    (pss_cons (ps_setLc (i := 7) (own := [("row", 8)]) (g := gName 8) (tt := tYes) rfl sc_law_with_ring.nd rfl rfl (sw_true rfl rfl rfl (by decide +kernel)) (pi_list (pv 0)) (blkOk_by (own := [("row", 8)]) (N := N_law_with_ring) (sc := defScope s_law_with_ring) (by decide +kernel)) (fun _ _ _ _ _ => (pg_name (i := 8) sc_law_with_ring.nd rfl (Or.inl rfl))) (fun _ _ _ _ _ => pts_nil) (fun _ _ _ _ _ => (pe_callTy (show CallR _ (.type "list") (rListOf K) from call_list_of) (by rfl) T.z_list (by decide +kernel) (pa_cons (pv 8) pa_nil))))
    (pss_cons (ps_for PassesOwn.never rfl (pi_range1 (by rfl) T.z_range (pa_cons (pe_callB call_len_seq (by rfl) T.z_len PySem.boot_len (pa_cons (pv 5) pa_nil)) pa_nil)) (pg_name (i := 9) sc_law_with_ring.nd rfl (Or.inl rfl))
      (pss_cons (ps_set (i := 10) sc_law_with_ring.nd rfl (Or.inl rfl) (pe_ix ix_list (pv 5) (pv 9) (fun _ _ => rfl)))
      (pss_cons (ps_set (i := 11) sc_law_with_ring.nd rfl (Or.inl rfl) (pe_ix ix_list (pv 5) (pe_op op_mod (pe_callTy call_int_i (by rfl) T.z_int (by decide +kernel) (pa_cons (pe_op op_add (pv 9) pe_int) pa_nil)) (pe_callB call_len_seq (by rfl) T.z_len PySem.boot_len (pa_cons (pv 5) pa_nil))) (fun _ _ => rfl)))
      (pss_one (ps_if (pt_cmpR op_ne (pv 10) (pv 11) (nomark _))
        (pss_one (ps_asg (pe_op op_add (pe_ix ix_list (pe_ix ix_list (pv 7) (pv 10) (fun _ _ => rfl)) (pv 11) (fun _ _ => rfl)) (pv 4)) (pg_sub (pe_ix ix_list (pv 7) (pv 10) (fun _ _ => rfl)) (pv 11) set_list)))
        pss_nil)))))
    (pss_one (ps_ret (pv 7))))))))), ?_⟩
    walk_at "st"
    intro p H1 ds e1 np hp hdl hdb
    have hdl : ds.length = 8 := hdl
    have hp1 : SqL K H1 p (ds.map V.int) := SqL.of hp
    have a6 := atI_n (ws := ds) (j := 6) (by omega)
    have a7 := atI_n (ws := ds) (j := 7) (by omega)
    have ht1 := ht.same e1
    have hs1 := e1.seq hs
    have hsz : 1 ≤ 1 + at0 ds 7 % 9 := by
      have := Int.emod_nonneg (at0 ds 7) (by decide : (9 : Int) ≠ 0)
      omega
    walk_at "st"
    intro C nC
    have sC := same_upd (o := .lst (cutV (ds.map V.int) none (some (2 + at0 ds 6 % 5)))) nC
    have hC : SqL K (upd H1 C (.lst (cutV (ds.map V.int) none (some (2 + at0 ds 6 % 5))))) C ((cutI ds none (some (2 + at0 ds 6 % 5))).map V.int) := SqL.of (by rw [← cutV_ints]; exact upd_same)
    have hcl := cutI_len ds none (some (2 + at0 ds 6 % 5))
    have hcm : ∀ x, x ∈ cutI ds none (some (2 + at0 ds 6 % 5)) → 0 ≤ x ∧ x < 12 := fun x hx => hdb x (cut_mem hx)
    dsimp only
    generalize upd H1 C (.lst (cutV (ds.map V.int) none (some (2 + at0 ds 6 % 5)))) = H2 at *
    generalize cutI ds none (some (2 + at0 ds 6 % 5)) = cs at *
    generalize 1 + at0 ds 7 % 9 = size at *
    have ht2 := ht1.same sC
    have e2 := e1.trans sC
    walk_at "st"
    intro D nD
    refine lc_list (K := K) (a := C) (xs := cs.map V.int) (fun i H' => ∃ hs : List Int, H' = upd H2 D (.lst (hs.map V.int)) ∧ hs.length = i ∧ ∀ x, x ∈ hs → 0 ≤ x ∧ x < n) ⟨[], rfl, rfl, fun _ h => by cases h⟩ (fun i H' _ ⟨_, e, _⟩ => by rw [e]; exact (same_upd nD).seq hC) ?_ ?_
    · rintro i x H' hx ⟨hs, rfl, le, be⟩
      obtain ⟨z, hz, rfl⟩ := ints_at hx
      have hi := (List.getElem?_eq_some_iff.mp hz).1
      have hm1 := Int.emod_nonneg z (by omega : (n : Int) ≠ 0)
      have hm2 := Int.emod_lt_of_pos z (by omega : (0 : Int) < n)
      refine ⟨rfl, ?_⟩
      have hcn : (0 : Int) < ((ps.map V.ref).length : Nat) := by rw [List.length_map, hl]; omega
      walk_at "st"
      refine ⟨small1000 (by rw [List.length_map]; omega), hs ++ [z % n], ?_, by rw [List.length_append, le]; rfl, fun d hd => ?_⟩
      · rw [upd_upd, List.map_append, List.length_map, hl]
        rfl
      · rcases List.mem_append.mp hd with hd | hd
        · exact be d hd
        · rw [List.mem_singleton.mp hd]
          exact ⟨hm1, hm2⟩
    · rintro H3 ⟨hs', rfl, le, be⟩
      have hD : upd H2 D (.lst (hs'.map V.int)) D = some (.lst (hs'.map V.int)) := upd_same
      have s3 : Same H2 (upd H2 D (.lst (hs'.map V.int))) := same_upd nD
      generalize upd H2 D (.lst (hs'.map V.int)) = H3 at *
      have ht3 := ht2.same s3
      have e3 := e2.trans s3
      have hs3 : SqL K H3 t (ps.map V.ref) := SqL.of ht3.lst
      have hlen : hs'.length ≤ 8 := by rw [le, List.length_map]; omega
      walk_at "st"
      intro R nR
      refine lc_copy ht3 (by omega) nR rfl fun H4 qs e4 hT hfree => ?_
      have e04 := e3.trans e4
      have hD4 := e4 _ _ hD
      have hD4' : SqL K H4 D (hs'.map V.int) := SqL.of hD4
      have hRD : ∀ q, q ∈ qs → q ≠ D := fun q hq z => by
        have := hfree q hq
        rw [z, hD] at this
        cases this
      have hidx : ∀ k, k < hs'.length → ∃ A : Nat, at0 hs' k = (A : Int) ∧ A < n := fun k hk => by
        have := be _ (List.mem_of_getElem? (at0_lt hk))
        exact ⟨(at0 hs' k).toNat, by omega, by omega⟩
      walk_at "st"
      refine for_range (lo := 0) (n := (((hs'.map V.int).length : Nat) : Int).toNat) (fun i σ H' => ∃ (v9 v10 v11 : Option V) (g : Nat → Nat → Int), σ = [some (.ref t), some (.int cell), some (.int ((ps.map V.ref).length : Nat)), some (.ref p), some (.int size), some (.ref D), none, some (.ref R), none, v9, v10, v11] ∧ Tab H' R qs n g ∧ H' D = some (.lst (hs'.map V.int)) ∧ Same H H' ∧ NN n g ∧ ∀ h, h < n → netF n g h = netF n f h + (if (h : Int) = at0 hs' (i % hs'.length) then size else 0) - (if (h : Int) = at0 hs' 0 then size else 0))
        ⟨none, none, none, f, rfl, hT, hD4, e04, hf, fun h _ => by rw [Nat.zero_mod]; omega⟩ ?_ ?_
      · rintro i σ H5 hi ⟨v9, v10, v11, g, rfl, hG, hD5, e5, hg, hnet⟩
        rw [List.length_map, Int.toNat_natCast] at hi
        rw [show (0 : Int) + i = ((i : Nat) : Int) by omega]
        have hpos : 0 < hs'.length := by omega
        have hj := Nat.mod_lt (i + 1) hpos
        obtain ⟨A, eA, hA⟩ := hidx i hi
        obtain ⟨B, eB, hB⟩ := hidx ((i + 1) % hs'.length) hj
        have hD5' : SqL K H5 D (hs'.map V.int) := SqL.of hD5
        have aA : atI (hs'.map V.int) (i : Int) = some (.int (A : Int)) := by rw [atI_n hi, eA]
        have aB : atI (hs'.map V.int) (((i : Int) + 1) % ((hs'.map V.int).length : Nat)) = some (.int (B : Int)) := by
          rw [List.length_map, show ((i : Int) + 1) % ((hs'.length : Nat) : Int) = (((i + 1) % hs'.length : Nat) : Int) from rfl, atI_n hj, eB]
        have hlp : (0 : Int) < ((hs'.map V.int).length : Nat) := by rw [List.length_map]; omega
        rw [Nat.mod_eq_of_lt hi, eA] at hnet
        obtain ⟨ra, g1, g2, g3⟩ := hG.at hA
        have hra : SqL K H5 ra ((rowI n (g A)).map V.int) := SqL.of g3
        have hRl : SqL K H5 R (qs.map V.ref) := SqL.of hG.lst
        have aAB := atI_row (g := g A) hB
        have xB : ixN ((rowI n (g A)).map V.int).length (B : Int) = some B := ixN_nat (by rw [List.length_map, rowI_len]; exact hB)
        walk_at "st"
        refine iteB (fun h => ?_) (fun h => ?_)
        · have hne : A ≠ B := fun z => ndec_t h (congrArg (fun (w : Nat) => V.int (w : Int)) z)
          walk_at "st"
          refine ⟨_, _, _, setF2 g A B (g A B + size), rfl, hG.set g1 hB, ?_, TabR.keep e5 (e3.free (hfree ra (List.mem_of_getElem? g1))), hg.add hA hB (by omega) hne, fun h hh => ?_⟩
          · rw [upd_ne (hRD ra (List.mem_of_getElem? g1)).symm]
            exact hD5
          · rw [netF_set hA hB, hnet h hh, eB]
            have c1 : ((h : Int) = (A : Int)) ↔ h = A := by omega
            have c2 : ((h : Int) = (B : Int)) ↔ h = B := by omega
            simp only [c1, c2]
            omega
        · have heq : A = B := Int.ofNat.inj (V.int.inj (ndec_f h))
          refine ⟨_, _, _, g, rfl, hG, hD5, e5, hg, fun h hh => ?_⟩
          rw [hnet h hh, eB, heq]
      · rintro σ H5 ⟨v9, v10, v11, g, rfl, hG, hD5, e5, hg, hnet⟩
        rw [List.length_map, Int.toNat_natCast, Nat.mod_self] at hnet
        walk_at "st"
        exact q R H5 qs g e5 (e3.free nR) hG hg fun h hh => by rw [hnet h hh]; omega

def sp_law (K : PySem.W.Frag) : Sp := fun vs H Q _ => ∃ (a : Addr) (ns : List Int), vs = [.ref a] ∧ SqL K H a (ns.map V.int) ∧ ns.length ≤ 63 ∧ ∀ H', Q (.bl true) H'
theorem ok_law {f : Addr} {fd : FuncData} (T : Txt K mg) (F : Fun K "law" "law" s_law f fd) : FnOk P w K mg base CX0 6 f fd ["script"] (sp_law K) := by
  refine F.ok sc_law (fun vs H Q E h => ?_) (fun cdv A outer s H vs Q E hr h => ?_)
  · obtain ⟨a, ns, rfl, _⟩ := h
    rfl
  · obtain ⟨a, ns, rfl, hs, hlen, q⟩ := h
    have G_law_market : FnOk P w K mg base CX0 3 T.f_law_market T.d_law_market ["script"] (sp_law_market K) := ok_law_market T
    have G_compress : FnOk P w K mg base CX0 5 T.f_compress T.d_compress ["owed"] (sp_compress K) := ok_compress T
    have G_law_sum : FnOk P w K mg base CX0 2 T.f_law_sum T.d_law_sum ["payments"] (sp_law_sum K) := ok_law_sum T
    have G_law_small : FnOk P w K mg base CX0 1 T.f_law_small T.d_law_small ["debts"] (sp_law_small K) := ok_law_small T
    have G_law_with_ring : FnOk P w K mg base CX0 2 T.f_law_with_ring T.d_law_with_ring ["debts", "cell"] (sp_law_with_ring K) := ok_law_with_ring T
    refine ⟨_, (pss_cons (ps_set (i := 1) sc_law.nd rfl (Or.inr rfl) (pe_call G_law_market (hr.mono (by decide)) (by rfl) T.m_law_market T.F_law_market.kp T.b_law_market .nil pass0 (pa_cons (pv 0) pa_nil)))
    (pss_cons (ps_set (i := 2) sc_law.nd rfl (Or.inl rfl) (pe_call G_compress hr (by rfl) T.m_compress T.F_compress.kp T.b_compress .nil pass0 (pa_cons (pe_lc (own := [("row", 3)]) (g := gName 3) (tt := tYes) rfl sc_law.nd (pi_list (pv 1)) (blkOk_by (own := [("row", 3)]) (N := N_law) (sc := defScope s_law) (by decide +kernel)) (fun _ _ _ _ _ => (pg_name (i := 3) sc_law.nd rfl (Or.inl rfl))) (fun _ _ _ _ _ => pts_nil) (fun _ _ _ _ _ => (pe_callTy (show CallR _ (.type "list") (rListOf K) from call_list_of) (by rfl) T.z_list (by decide +kernel) (pa_cons (pv 3) pa_nil)))) pa_nil)))
    (pss_cons (ps_set (i := 4) sc_law.nd rfl (Or.inl rfl) (pe_call G_law_sum (hr.mono (by decide)) (by rfl) T.m_law_sum T.F_law_sum.kp T.b_law_sum .nil pass0 (pa_cons (pv 2) pa_nil)))
    (pss_cons (ps_if (PW.pt (pw_or (pt_cmpR op_isN (pv 4) pe_non (nomark _)) (pw_or1 (pt_cmpR op_gt (pv 4) (pe_callB (cr_sum rfl) (by rfl) T.z_sum (by decide +kernel) (pa_cons (pe_lc (own := [("row", 3)]) (g := gName 3) (tt := tYes) rfl sc_law.nd (pi_list (pv 1)) (blkOk_by (own := [("row", 3)]) (N := N_law) (sc := defScope s_law) (by decide +kernel)) (fun _ _ _ _ _ => (pg_name (i := 3) sc_law.nd rfl (Or.inl rfl))) (fun _ _ _ _ _ => pts_nil) (fun _ _ _ _ _ => (pe_callB (show CallR _ (.builtin "sum") (rSum K) from (cr_sum rfl)) (by rfl) T.z_sum (by decide +kernel) (pa_cons (pv 3) pa_nil)))) pa_nil)) (nomark _)))))
      (pss_one (ps_ret pe_bl))
      pss_nil)
    (pss_cons (ps_setLc (i := 5) (own := [("house", 6)]) (g := gName 6) (tt := tYes) rfl sc_law.nd rfl rfl (sw_true rfl rfl rfl (by decide +kernel)) (pi_list (pv 1)) (blkOk_by (own := [("house", 6)]) (N := N_law) (sc := defScope s_law) (by decide +kernel)) (fun _ _ _ _ _ => (pg_name (i := 6) sc_law.nd rfl (Or.inl rfl))) (fun _ _ _ _ _ => pts_nil) (fun _ _ _ _ _ => (pe_lc (own := [("house", 6)]) (g := gName 6) (tt := tYes) rfl sc_law.nd (show PI _ _ _ (iList K _) from pi_list (pv 1)) (blkOk_by (own := [("house", 6)]) (N := N_law) (by show blkC _ (relS _ (defScope s_law)) _ _ = true; decide +kernel)) (fun _ _ _ _ _ => (pg_name (i := 6) sc_law.nd rfl (Or.inl rfl))) (fun _ _ _ _ _ => pts_nil) (fun _ _ _ _ _ => pe_int))))
    (pss_cons (ps_for PassesOwn.never rfl (pi_list (pv 2)) (pg_name (i := 7) sc_law.nd rfl (Or.inl rfl))
      (pss_one (ps_asg (pe_op op_add (pe_ix ix_list (pe_ix ix_list (pv 5) (pe_ix ix_tup (pv 7) pe_int (fun _ _ => rfl)) (fun _ _ => rfl)) (pe_ix ix_tup (pv 7) pe_int (fun _ _ => rfl)) (fun _ _ => rfl)) (pe_ix ix_tup (pv 7) pe_int (fun _ _ => rfl))) (pg_sub (pe_ix ix_list (pv 5) (pe_ix ix_tup (pv 7) pe_int (fun _ _ => rfl)) (fun _ _ => rfl)) (pe_ix ix_tup (pv 7) pe_int (fun _ _ => rfl)) set_list))))
    (pss_cons (ps_if (pt_not (pt_val (pe_call G_law_small (hr.mono (by decide)) (by rfl) T.m_law_small T.F_law_small.kp T.b_law_small .nil pass0 (pa_cons (pv 5) pa_nil))))
      (pss_one (ps_ret pe_bl))
      pss_nil)
    (pss_cons (ps_for PassesOwn.never rfl (pi_list (pe_slice sl_list (pv 0) (po_some pe_int) (po_some pe_int))) (pg_name (i := 8) sc_law.nd rfl (Or.inl rfl))
      (pss_cons (ps_set (i := 9) sc_law.nd rfl (Or.inl rfl) (pe_call G_law_with_ring (hr.mono (by decide)) (by rfl) T.m_law_with_ring T.F_law_with_ring.kp T.b_law_with_ring .nil pass0 (pa_cons (pv 5) (pa_cons (pv 8) pa_nil))))
      (pss_one (ps_if (pt_val (pe_call G_law_small (hr.mono (by decide)) (by rfl) T.m_law_small T.F_law_small.kp T.b_law_small .nil pass0 (pa_cons (pv 9) pa_nil)))
        (pss_one (ps_set (i := 5) sc_law.nd rfl (Or.inl rfl) (pv 9)))
        pss_nil))))
    (pss_cons (ps_if (pt_cmpR op_gt (pv 4) (pe_callB (cr_sum rfl) (by rfl) T.z_sum (by decide +kernel) (pa_cons (pe_lc (own := [("row", 3)]) (g := gName 3) (tt := tYes) rfl sc_law.nd (pi_list (pv 5)) (blkOk_by (own := [("row", 3)]) (N := N_law) (sc := defScope s_law) (by decide +kernel)) (fun _ _ _ _ _ => (pg_name (i := 3) sc_law.nd rfl (Or.inl rfl))) (fun _ _ _ _ _ => pts_nil) (fun _ _ _ _ _ => (pe_callB (show CallR _ (.builtin "sum") (rSum K) from (cr_sum rfl)) (by rfl) T.z_sum (by decide +kernel) (pa_cons (pv 3) pa_nil)))) pa_nil)) (nomark _))
      (pss_one (ps_ret pe_bl))
      pss_nil)
    (pss_one (ps_ret (pe_cmpR (op_eqD hr.units) (pe_call G_compress hr (by rfl) T.m_compress T.F_compress.kp T.b_compress .nil pass0 (pa_cons (pv 5) pa_nil)) (pv 2) (nomark _))))))))))))), ?_⟩
    walk_at "st"
    intro t H1 ps n f e1 nt ht hd hn
    have hs1 : SqL K H1 t (ps.map V.ref) := SqL.of ht.lst
    have hl := ht.len
    walk_at "st"
    intro D nD
    refine lc_copy ht (by omega) nD rfl fun H2 qs e2 hT _ => ?_
    walk_at "st"
    refine ⟨qs, n, f, rfl, hT, hd.mono (by decide), fun l H3 rs L e3 nl hL hPO => ?_⟩
    have hP := pays_of hPO rfl rfl
    have hLn : L.length ≤ n := by
      rcases pays_count hP with z | z
      · rw [z]; exact Nat.zero_le _
      · have := (sumI_bound (n := n) (g := fun a => if netF n f a = 0 then 0 else 1) (m := 1) fun i _ => by split <;> omega).2
        unfold cntI at z
        omega
    have ht3 := (ht.same e2).same e3
    have hs3 := SqL.of (K := K) hL.lst
    have htl := tot_le hP hd.nn fun _ _ => rfl
    walk_at "st"
    refine ⟨rs, L, rfl, hL, by omega, fun H4 e4 => ?_⟩
    have ht4 := ht3.same e4
    have hts4 : SqL K H4 t (ps.map V.ref) := SqL.of ht4.lst
    walk_at "st"
    intro A nA
    refine lc_sums ht4 (by omega) nA rfl ?_
    have sA := same_upd (o := .lst ((rowI n fun a => sumI n (f a)).map V.int)) nA
    have hA : SqL K (upd H4 A (.lst ((rowI n fun a => sumI n (f a)).map V.int))) A ((rowI n fun a => sumI n (f a)).map V.int) := SqL.of upd_same
    have ht5 := ht4.same sA
    have e05 := ((((e1.trans e2).trans e3).trans e4).trans sA)
    have hL5 := (hL.same e4).same sA
    generalize upd H4 A (.lst ((rowI n fun a => sumI n (f a)).map V.int)) = H5 at *
    walk_at "st"
    refine iteB (fun h => ?_) (fun _ => ?_)
    · have h := dec_t h
      unfold sumI at htl
      unfold sumI at h
      omega
    have hts5 : SqL K H5 t (ps.map V.ref) := SqL.of ht5.lst
    walk_at "st"
    intro O nO
    refine lc_list (K := K) (a := t) (xs := ps.map V.ref) (fun i H' => ∃ os, TabR H' O os i n (fun _ _ => 0) ∧ Same H5 H' ∧ ∀ q, q ∈ os → H5 q = none) ⟨[], .nil n _ upd_same, same_upd nO, fun _ h => by cases h⟩ (fun i H' _ ⟨_, _, e, _⟩ => e.seq hts5) ?_ ?_
    · rintro i x H6 hx ⟨os, hO, e6, hfree⟩
      have hi := (List.getElem?_eq_some_iff.mp hx).1
      rw [List.length_map, hl] at hi
      have hts6 := e6.seq hts5
      refine ⟨rfl, ?_⟩
      walk_at "st"
      intro C nC
      refine lc_list (K := K) (a := t) (xs := ps.map V.ref) (fun j H' => H' = upd H6 C (.lst ((rowI j fun _ => 0).map V.int))) rfl (fun j H' _ e => by rw [e]; exact (same_upd nC).seq hts6) ?_ ?_
      · rintro j x H7 hx rfl
        have hj := (List.getElem?_eq_some_iff.mp hx).1
        rw [List.length_map, hl] at hj
        refine ⟨rfl, ?_⟩
        refine ⟨_, upd_same, small1000 ?_, ?_⟩
        · rw [List.length_map, rowI_len]
          omega
        · rw [upd_upd, rowI_succ, List.map_append]
          rfl
      · rintro H7 rfl
        rw [List.length_map, hl]
        have sC := same_upd (o := .lst ((rowI n fun _ => 0).map V.int)) nC
        refine ⟨_, sC _ _ hO.lst, small1000 (by rw [List.length_map, hO.len]; omega), os ++ [C], hO.push sC nC upd_same, TabR.keep (e6.trans sC) nO, fun q hq => ?_⟩
        rcases List.mem_append.mp hq with hq | hq
        · exact hfree q hq
        · rw [List.mem_singleton.mp hq]
          exact e6.free nC
    · rintro H6 ⟨os, hO, e6, hfree⟩
      rw [List.length_map, hl] at hO
      have hOT := hO.tab
      have hL6 := hL5.same e6
      have hs6 : SqL K H6 l (rs.map V.ref) := SqL.of hL6.lst
      walk_at "st"
      refine for_list (K := K) (a := l) (xs := rs.map V.ref) (fun i σ H' => ∃ (v7 : Option V) (g : Nat → Nat → Int), σ = [some (.ref a), some (.ref t), some (.ref l), none, some (.int (totL L)), some (.ref O), none, v7, none, none] ∧ Tab H' O os n g ∧ Same H5 H' ∧ NN n g ∧ ∀ h, h < n → netF n g h = recvL (L.take i) h - paidL (L.take i) h)
        ⟨none, fun _ _ => 0, rfl, hOT, e6, ⟨fun _ _ _ _ => Int.le_refl 0, fun _ _ => rfl⟩, fun h _ => by
          unfold netF
          rw [sumI_zero]
          rfl⟩ (fun i σ H' _ ⟨_, _, _, _, e, _⟩ => SqL.of (e _ _ hL5.lst)) ?_ ?_
      · rintro i x σ H7 hx ⟨v7, g, rfl, hG, e7, hg, hnet⟩
        obtain ⟨py, y, hpy, hy, rfl, hyr⟩ := (hL5.same e7).item hx
        have hne := pays_ne hP y (List.mem_of_getElem? hy)
        obtain ⟨p, r, m, rfl, p1, r1, m1⟩ := pays_row hP y (List.mem_of_getElem? hy)
        have hyt : SqT K H7 py [.int (p : Int), .int (r : Int), .int m] := SqT.of hyr
        have hO7 : SqL K H7 O (os.map V.ref) := SqL.of hG.lst
        obtain ⟨ra, g1, g2, g3⟩ := hG.at p1
        have hra : SqL K H7 ra ((rowI n (g p)).map V.int) := SqL.of g3
        have aB := atI_row (g := g p) r1
        have xB : ixN ((rowI n (g p)).map V.int).length (r : Int) = some r := ixN_nat (by rw [List.length_map, rowI_len]; exact r1)
        walk_at "st"
        refine ⟨_, setF2 g p r (g p r + m), rfl, hG.set g1 r1, TabR.keep e7 (hfree ra (List.mem_of_getElem? g1)), hg.add p1 r1 (by omega) (fun z => hne (congrArg (fun (w : Nat) => (w : Int)) z)), fun h hh => ?_⟩
        rw [netF_set p1 r1, hnet h hh, take_succ hy, recvL_snoc, paidL_snoc]
        have c1 : ((p : Int) = (h : Int)) ↔ h = p := by omega
        have c2 : ((r : Int) = (h : Int)) ↔ h = r := by omega
        simp only [c1, c2]
        omega
      · rintro σ H7 ⟨v7, g, rfl, hG, e7, hg, hnet⟩
        have hnet : ∀ h, h < n → netF n g h = netF n f h := fun h hh => by
          rw [hnet h hh, show L.take (rs.map V.ref).length = L by rw [List.length_map, hL.len, List.take_length]]
          exact (pays_house hP h hh).1
        have hL7 := hL5.same e7
        have hsa : SqL K H7 a (ns.map V.int) := (e05.trans e7).seq hs
        walk_at "st"
        refine ⟨os, n, g, rfl, hG, fun b hb => ?_⟩
        walk_at "st"
        refine iteB (fun h => ?_) (fun h => ?_)
        · walk_at "st"
          exact q _
        · have hbt : b = true := by cases b with | true => rfl | false => cases h
          have hsm := hb hbt
          walk_at "st"
          intro B nB
          have sB := same_upd (o := .lst (cutV (ns.map V.int) (some 16) (some 36))) nB
          have hB : SqL K (upd H7 B (.lst (cutV (ns.map V.int) (some 16) (some 36)))) B ((cutI ns (some 16) (some 36)).map V.int) := SqL.of (by rw [← cutV_ints]; exact upd_same)
          have hG8 := hG.same sB
          have hL8 := hL7.same sB
          generalize upd H7 B (.lst (cutV (ns.map V.int) (some 16) (some 36))) = H8 at *
          generalize cutI ns (some 16) (some 36) = cs at *
          walk_at "st"
          refine for_list (K := K) (a := B) (xs := cs.map V.int) (fun i σ H' => ∃ (v8 v9 : Option V) (O : Addr) (os : List Addr) (g : Nat → Nat → Int), σ = [some (.ref a), some (.ref t), some (.ref l), none, some (.int (totL L)), some (.ref O), none, v7, v8, v9] ∧ Tab H' O os n g ∧ Same H8 H' ∧ NN n g ∧ (∀ i, i < n → ∀ j, j < n → g i j ≤ 1000000) ∧ ∀ h, h < n → netF n g h = netF n f h)
            ⟨none, none, O, os, g, rfl, hG8, Same.refl _, hg, hsm, hnet⟩ (fun i σ H' _ ⟨_, _, _, _, _, _, _, e, _⟩ => e.seq hB) ?_ ?_
          · rintro i x σ H9 hx ⟨v8, v9, O, os, g, rfl, hG, e9, hg, hsm, hnet⟩
            obtain ⟨z, hz, rfl⟩ := ints_at hx
            walk_at "st"
            refine ⟨os, n, g, z, rfl, hG, hg, hd.n0, hd.n1, fun O2 H10 os2 g2 e10 nO2 hG2 hg2 hnet2 => ?_⟩
            walk_at "st"
            refine ⟨os2, n, g2, rfl, hG2, fun b hb => ?_⟩
            walk_at "st"
            refine iteB (fun h => ?_) (fun h => ?_)
            · walk_at "st"
              exact ⟨_, _, O2, os2, g2, rfl, hG2, e9.trans e10, hg2, hb h, fun h hh => (hnet2 h hh).trans (hnet h hh)⟩
            · exact ⟨_, _, O, os, g, rfl, hG.same e10, e9.trans e10, hg, hsm, hnet⟩
          · rintro σ H9 ⟨v8, v9, O, os, g, rfl, hG, e9, hg, hsm, hnet⟩
            have hO9 : SqL K H9 O (os.map V.ref) := SqL.of hG.lst
            have hL9 := hL8.same e9
            have hdg := hg.debts hd.n0 hd.n1 hsm
            have htg := tot_le hP hg hnet
            walk_at "st"
            intro E nE
            refine lc_sums hG (by omega) nE rfl ?_
            have sE := same_upd (o := .lst ((rowI n fun a => sumI n (g a)).map V.int)) nE
            have hE : SqL K (upd H9 E (.lst ((rowI n fun a => sumI n (g a)).map V.int))) E ((rowI n fun a => sumI n (g a)).map V.int) := SqL.of upd_same
            have hG10 := hG.same sE
            have hL10 := hL9.same sE
            generalize upd H9 E (.lst ((rowI n fun a => sumI n (g a)).map V.int)) = H10 at *
            walk_at "st"
            refine iteB (fun h => ?_) (fun _ => ?_)
            · have h := dec_t h
              unfold sumI at htg
              unfold sumI at h
              omega
            walk_at "st"
            refine ⟨os, n, g, rfl, hG10, hdg.mono (by decide), fun l2 H11 rs2 L2 e11 nl2 hM hPO2 => ?_⟩
            rw [negL_congr hnet, posL_congr hnet] at hPO2
            have hLL := hPO.same hPO2
            subst hLL
            refine ⟨_, rfl, ?_⟩
            refine eqL (a := L) (b := L) layD_3.list (by decide) (fun _ _ => ⟨trivial, trivial, trivial⟩) (fun _ _ => ⟨trivial, trivial, trivial⟩) (hM.dp dp3) ((hL10.same e11).dp dp3) ?_
            rw [decide_eq_true rfl]
            exact q _
end
set_option maxHeartbeats 0 in
theorem all_mk {l : PySem.W.OpenLaw} {w : World} {K : PySem.W.Frag} {h : Heap} {mg : Str → Option Value} {fa f1 f2 f3 f4 f5 f6 f7 f8 f9 f10 f11 f12 f13 f14 f15 f16 : Addr} (X : K.In h) (G : h.Ns mainGlobals mg) (hfa : mg "law" = some (.ref fa))
    {c_BourseError c_InvalidTrade : Addr}
    {od1 an1 od2 an2 od3 an3 od4 an4 od5 an5 od6 an6 od7 an7 od8 an8 od9 an9 od10 an10 od11 an11 od12 an12 od13 an13 od14 an14 od15 an15 od16 an16 : Option Addr} {sl1 sl2 sl3 sl4 sl5 sl6 sl7 sl8 sl9 sl10 sl11 sl12 sl13 sl14 sl15 sl16 : Array (Option Value)} {oc1 kV1 dc1 pm1 cd1 ct1 oc2 kV2 dc2 pm2 cd2 ct2 oc3 kV3 dc3 pm3 cd3 ct3 oc4 kV4 dc4 pm4 cd4 ct4 oc5 kV5 dc5 pm5 cd5 ct5 oc6 kV6 dc6 pm6 cd6 ct6 oc7 kV7 dc7 pm7 cd7 ct7 oc8 kV8 dc8 pm8 cd8 ct8 oc9 kV9 dc9 pm9 cd9 ct9 oc10 kV10 dc10 pm10 cd10 ct10 oc11 kV11 dc11 pm11 cd11 ct11 oc12 kV12 dc12 pm12 cd12 ct12 oc13 kV13 dc13 pm13 cd13 ct13 oc14 kV14 dc14 pm14 cd14 ct14 oc15 kV15 dc15 pm15 cd15 ct15 oc16 kV16 dc16 pm16 cd16 ct16 : Value}
    (a1 : PySem.W.nsIn K mainGlobals "is_integral" = some (some (.ref f1)))
    (l1 : K.lookup f1 = some ⟨oc1, od1, .func (PySem.W.fnOf "is_integral" "is_integral" (defArgs s_is_integral) (defBody s_is_integral) (defScope s_is_integral) .none kV1 dc1 pm1 an1 cd1 ct1), sl1⟩) (c1 : PySem.W.codeIn K cd1 "is_integral" = true) (k1 : PySem.W.keepIn K (.ref f1) = true)
    (a2 : PySem.W.nsIn K mainGlobals "is_within" = some (some (.ref f2)))
    (l2 : K.lookup f2 = some ⟨oc2, od2, .func (PySem.W.fnOf "is_within" "is_within" (defArgs s_is_within) (defBody s_is_within) (defScope s_is_within) .none kV2 dc2 pm2 an2 cd2 ct2), sl2⟩) (c2 : PySem.W.codeIn K cd2 "is_within" = true) (k2 : PySem.W.keepIn K (.ref f2) = true)
    (a3 : PySem.W.nsIn K mainGlobals "pair_off" = some (some (.ref f3)))
    (l3 : K.lookup f3 = some ⟨oc3, od3, .func (PySem.W.fnOf "pair_off" "pair_off" (defArgs s_pair_off) (defBody s_pair_off) (defScope s_pair_off) .none kV3 dc3 pm3 an3 cd3 ct3), sl3⟩) (c3 : PySem.W.codeIn K cd3 "pair_off" = true) (k3 : PySem.W.keepIn K (.ref f3) = true)
    (a4 : PySem.W.nsIn K mainGlobals "check_debts" = some (some (.ref f4)))
    (l4 : K.lookup f4 = some ⟨oc4, od4, .func (PySem.W.fnOf "check_debts" "check_debts" (defArgs s_check_debts) (defBody s_check_debts) (defScope s_check_debts) .none kV4 dc4 pm4 an4 cd4 ct4), sl4⟩) (c4 : PySem.W.codeIn K cd4 "check_debts" = true) (k4 : PySem.W.keepIn K (.ref f4) = true)
    (a5 : PySem.W.nsIn K mainGlobals "net_amounts" = some (some (.ref f5)))
    (l5 : K.lookup f5 = some ⟨oc5, od5, .func (PySem.W.fnOf "net_amounts" "net_amounts" (defArgs s_net_amounts) (defBody s_net_amounts) (defScope s_net_amounts) .none kV5 dc5 pm5 an5 cd5 ct5), sl5⟩) (c5 : PySem.W.codeIn K cd5 "net_amounts" = true) (k5 : PySem.W.keepIn K (.ref f5) = true)
    (a6 : PySem.W.nsIn K mainGlobals "compress" = some (some (.ref f6)))
    (l6 : K.lookup f6 = some ⟨oc6, od6, .func (PySem.W.fnOf "compress" "compress" (defArgs s_compress) (defBody s_compress) (defScope s_compress) .none kV6 dc6 pm6 an6 cd6 ct6), sl6⟩) (c6 : PySem.W.codeIn K cd6 "compress" = true) (k6 : PySem.W.keepIn K (.ref f6) = true)
    (a7 : PySem.W.nsIn K mainGlobals "_law_cell" = some (some (.ref f7)))
    (l7 : K.lookup f7 = some ⟨oc7, od7, .func (PySem.W.fnOf "_law_cell" "_law_cell" (defArgs s_law_cell) (defBody s_law_cell) (defScope s_law_cell) .none kV7 dc7 pm7 an7 cd7 ct7), sl7⟩) (c7 : PySem.W.codeIn K cd7 "_law_cell" = true) (k7 : PySem.W.keepIn K (.ref f7) = true)
    (a8 : PySem.W.nsIn K mainGlobals "_law_draws" = some (some (.ref f8)))
    (l8 : K.lookup f8 = some ⟨oc8, od8, .func (PySem.W.fnOf "_law_draws" "_law_draws" (defArgs s_law_draws) (defBody s_law_draws) (defScope s_law_draws) .none kV8 dc8 pm8 an8 cd8 ct8), sl8⟩) (c8 : PySem.W.codeIn K cd8 "_law_draws" = true) (k8 : PySem.W.keepIn K (.ref f8) = true)
    (a9 : PySem.W.nsIn K mainGlobals "_law_is_integer" = some (some (.ref f9)))
    (l9 : K.lookup f9 = some ⟨oc9, od9, .func (PySem.W.fnOf "_law_is_integer" "_law_is_integer" (defArgs s_law_is_integer) (defBody s_law_is_integer) (defScope s_law_is_integer) .none kV9 dc9 pm9 an9 cd9 ct9), sl9⟩) (c9 : PySem.W.codeIn K cd9 "_law_is_integer" = true) (k9 : PySem.W.keepIn K (.ref f9) = true)
    (a10 : PySem.W.nsIn K mainGlobals "_law_market_size" = some (some (.ref f10)))
    (l10 : K.lookup f10 = some ⟨oc10, od10, .func (PySem.W.fnOf "_law_market_size" "_law_market_size" (defArgs s_law_market_size) (defBody s_law_market_size) (defScope s_law_market_size) .none kV10 dc10 pm10 an10 cd10 ct10), sl10⟩) (c10 : PySem.W.codeIn K cd10 "_law_market_size" = true) (k10 : PySem.W.keepIn K (.ref f10) = true)
    (a11 : PySem.W.nsIn K mainGlobals "_law_row" = some (some (.ref f11)))
    (l11 : K.lookup f11 = some ⟨oc11, od11, .func (PySem.W.fnOf "_law_row" "_law_row" (defArgs s_law_row) (defBody s_law_row) (defScope s_law_row) .none kV11 dc11 pm11 an11 cd11 ct11), sl11⟩) (c11 : PySem.W.codeIn K cd11 "_law_row" = true) (k11 : PySem.W.keepIn K (.ref f11) = true)
    (a12 : PySem.W.nsIn K mainGlobals "_law_market" = some (some (.ref f12)))
    (l12 : K.lookup f12 = some ⟨oc12, od12, .func (PySem.W.fnOf "_law_market" "_law_market" (defArgs s_law_market) (defBody s_law_market) (defScope s_law_market) .none kV12 dc12 pm12 an12 cd12 ct12), sl12⟩) (c12 : PySem.W.codeIn K cd12 "_law_market" = true) (k12 : PySem.W.keepIn K (.ref f12) = true)
    (a13 : PySem.W.nsIn K mainGlobals "_law_with_ring" = some (some (.ref f13)))
    (l13 : K.lookup f13 = some ⟨oc13, od13, .func (PySem.W.fnOf "_law_with_ring" "_law_with_ring" (defArgs s_law_with_ring) (defBody s_law_with_ring) (defScope s_law_with_ring) .none kV13 dc13 pm13 an13 cd13 ct13), sl13⟩) (c13 : PySem.W.codeIn K cd13 "_law_with_ring" = true) (k13 : PySem.W.keepIn K (.ref f13) = true)
    (a14 : PySem.W.nsIn K mainGlobals "_law_sum" = some (some (.ref f14)))
    (l14 : K.lookup f14 = some ⟨oc14, od14, .func (PySem.W.fnOf "_law_sum" "_law_sum" (defArgs s_law_sum) (defBody s_law_sum) (defScope s_law_sum) .none kV14 dc14 pm14 an14 cd14 ct14), sl14⟩) (c14 : PySem.W.codeIn K cd14 "_law_sum" = true) (k14 : PySem.W.keepIn K (.ref f14) = true)
    (a15 : PySem.W.nsIn K mainGlobals "_law_small" = some (some (.ref f15)))
    (l15 : K.lookup f15 = some ⟨oc15, od15, .func (PySem.W.fnOf "_law_small" "_law_small" (defArgs s_law_small) (defBody s_law_small) (defScope s_law_small) .none kV15 dc15 pm15 an15 cd15 ct15), sl15⟩) (c15 : PySem.W.codeIn K cd15 "_law_small" = true) (k15 : PySem.W.keepIn K (.ref f15) = true)
    (a16 : PySem.W.nsIn K mainGlobals "law" = some (some (.ref f16)))
    (l16 : K.lookup f16 = some ⟨oc16, od16, .func (PySem.W.fnOf "law" "law" (defArgs s_law) (defBody s_law) (defScope s_law) .none kV16 dc16 pm16 an16 cd16 ct16), sl16⟩) (c16 : PySem.W.codeIn K cd16 "law" = true) (k16 : PySem.W.keepIn K (.ref f16) = true)
    (z_abs : PySem.W.nsIn K mainGlobals "abs" = some none)
    (z_all : PySem.W.nsIn K mainGlobals "all" = some none)
    (z_bool : PySem.W.nsIn K mainGlobals "bool" = some none)
    (z_enumerate : PySem.W.nsIn K mainGlobals "enumerate" = some none)
    (z_int : PySem.W.nsIn K mainGlobals "int" = some none)
    (z_isinstance : PySem.W.nsIn K mainGlobals "isinstance" = some none)
    (z_len : PySem.W.nsIn K mainGlobals "len" = some none)
    (z_list : PySem.W.nsIn K mainGlobals "list" = some none)
    (z_min : PySem.W.nsIn K mainGlobals "min" = some none)
    (z_range : PySem.W.nsIn K mainGlobals "range" = some none)
    (z_sum : PySem.W.nsIn K mainGlobals "sum" = some none)
    (z_tuple : PySem.W.nsIn K mainGlobals "tuple" = some none)
    {t_MOST_HOUSES t_MOST_DEBT : Tok}
    (v_MOST_HOUSES : PySem.W.nsIn K mainGlobals "MOST_HOUSES" = some (some (.int 13 t_MOST_HOUSES)))
    (v_MOST_DEBT : PySem.W.nsIn K mainGlobals "MOST_DEBT" = some (some (.int 1000000000000000 t_MOST_DEBT)))
    (g_BourseError : PySem.W.nsIn K mainGlobals "BourseError" = some (some (.ref c_BourseError)))
    (g_InvalidTrade : PySem.W.nsIn K mainGlobals "InvalidTrade" = some (some (.ref c_InvalidTrade))) :
    ∃ fd : FuncData, (∀ (s : Shared) (v : Value), BindsTo s fd ⟨[v], []⟩ [("script", v)]) ∧ ∀ base : Heap, K.In base → base.Ns mainGlobals mg → FnOk l.prog w K mg base CX0 6 fa fd ["script"] (sp_law K) := by
  have e := hfa.symm.trans (PySem.W.mg_of X G a16)
  cases e
  have F1 := fun_mk (st := s_is_integral) l1 c1 k1
  have b1 := F1.binds (ps := ["value"]) fun _ _ _ _ _ _ us hl => match us, hl with | [_], _ => rfl
  have F2 := fun_mk (st := s_is_within) l2 c2 k2
  have b2 := F2.binds (ps := ["least", "most", "value"]) fun _ _ _ _ _ _ us hl => match us, hl with | [_, _, _], _ => rfl
  have F3 := fun_mk (st := s_pair_off) l3 c3 k3
  have b3 := F3.binds (ps := ["givers", "takers"]) fun _ _ _ _ _ _ us hl => match us, hl with | [_, _], _ => rfl
  have F4 := fun_mk (st := s_check_debts) l4 c4 k4
  have b4 := F4.binds (ps := ["owed"]) fun _ _ _ _ _ _ us hl => match us, hl with | [_], _ => rfl
  have F5 := fun_mk (st := s_net_amounts) l5 c5 k5
  have b5 := F5.binds (ps := ["owed"]) fun _ _ _ _ _ _ us hl => match us, hl with | [_], _ => rfl
  have F6 := fun_mk (st := s_compress) l6 c6 k6
  have b6 := F6.binds (ps := ["owed"]) fun _ _ _ _ _ _ us hl => match us, hl with | [_], _ => rfl
  have F7 := fun_mk (st := s_law_cell) l7 c7 k7
  have b7 := F7.binds (ps := ["script", "k"]) fun _ _ _ _ _ _ us hl => match us, hl with | [_, _], _ => rfl
  have F8 := fun_mk (st := s_law_draws) l8 c8 k8
  have b8 := F8.binds (ps := ["cell", "count", "size"]) fun _ _ _ _ _ _ us hl => match us, hl with | [_, _, _], _ => rfl
  have F9 := fun_mk (st := s_law_is_integer) l9 c9 k9
  have b9 := F9.binds (ps := ["actual"]) fun _ _ _ _ _ _ us hl => match us, hl with | [_], _ => rfl
  have F10 := fun_mk (st := s_law_market_size) l10 c10 k10
  have b10 := F10.binds (ps := ["shape"]) fun _ _ _ _ _ _ us hl => match us, hl with | [_], _ => rfl
  have F11 := fun_mk (st := s_law_row) l11 c11 k11
  have b11 := F11.binds (ps := ["cell", "shape", "payer", "count", "size"]) fun _ _ _ _ _ _ us hl => match us, hl with | [_, _, _, _, _], _ => rfl
  have F12 := fun_mk (st := s_law_market) l12 c12 k12
  have b12 := F12.binds (ps := ["script"]) fun _ _ _ _ _ _ us hl => match us, hl with | [_], _ => rfl
  have F13 := fun_mk (st := s_law_with_ring) l13 c13 k13
  have b13 := F13.binds (ps := ["debts", "cell"]) fun _ _ _ _ _ _ us hl => match us, hl with | [_, _], _ => rfl
  have F14 := fun_mk (st := s_law_sum) l14 c14 k14
  have b14 := F14.binds (ps := ["payments"]) fun _ _ _ _ _ _ us hl => match us, hl with | [_], _ => rfl
  have F15 := fun_mk (st := s_law_small) l15 c15 k15
  have b15 := F15.binds (ps := ["debts"]) fun _ _ _ _ _ _ us hl => match us, hl with | [_], _ => rfl
  have F16 := fun_mk (st := s_law) l16 c16 k16
  have b16 := F16.binds (ps := ["script"]) fun _ _ _ _ _ _ us hl => match us, hl with | [_], _ => rfl
  have T : Txt K mg := ⟨f1, _, F1, PySem.W.mg_of X G a1, b1, f2, _, F2, PySem.W.mg_of X G a2, b2, f3, _, F3, PySem.W.mg_of X G a3, b3, f4, _, F4, PySem.W.mg_of X G a4, b4, f5, _, F5, PySem.W.mg_of X G a5, b5, f6, _, F6, PySem.W.mg_of X G a6, b6, f7, _, F7, PySem.W.mg_of X G a7, b7, f8, _, F8, PySem.W.mg_of X G a8, b8, f9, _, F9, PySem.W.mg_of X G a9, b9, f10, _, F10, PySem.W.mg_of X G a10, b10, f11, _, F11, PySem.W.mg_of X G a11, b11, f12, _, F12, PySem.W.mg_of X G a12, b12, f13, _, F13, PySem.W.mg_of X G a13, b13, f14, _, F14, PySem.W.mg_of X G a14, b14, f15, _, F15, PySem.W.mg_of X G a15, b15, c_BourseError, PySem.W.mg_of X G g_BourseError, c_InvalidTrade, PySem.W.mg_of X G g_InvalidTrade, PySem.W.mg_none_of X G z_abs, PySem.W.mg_none_of X G z_all, PySem.W.mg_none_of X G z_bool, PySem.W.mg_none_of X G z_enumerate, PySem.W.mg_none_of X G z_int, PySem.W.mg_none_of X G z_isinstance, PySem.W.mg_none_of X G z_len, PySem.W.mg_none_of X G z_list, PySem.W.mg_none_of X G z_min, PySem.W.mg_none_of X G z_range, PySem.W.mg_none_of X G z_sum, PySem.W.mg_none_of X G z_tuple, t_MOST_HOUSES, PySem.W.mg_of X G v_MOST_HOUSES, t_MOST_DEBT, PySem.W.mg_of X G v_MOST_DEBT⟩
  exact ⟨PySem.W.fnOf "law" "law" (defArgs s_law) (defBody s_law) (defScope s_law) .none kV16 dc16 pm16 an16 cd16 ct16, fun s v => .of_eq rfl, fun base _ _ => ok_law T F16⟩
end FB
open PySem PySem.W PyProof.Rows
set_option maxRecDepth 100000 in
set_option maxHeartbeats 0 in
theorem PySem.Challenge.cw_fairbourse_k44_whole_least_payments_holds : PySem.Challenge.rw_fairbourse_k44_whole_least_payments.Holds := by
  w_on; o_law; k_head; (case hw => w_witness2)
  k_fill
  refine L2.walk_of (l := PySem.Challenge.rw_fairbourse_k44_whole_least_payments) (n := 63) (k := 6) (x := "script") (CX := fun _ => L2.CX0) (sp := fun w => FB.sp_law _) rfl (by decide) rfl ⟨rfl, by decide, by decide⟩ (fun w h Y => PySem.W.kIn_of Y) ?F (fun _ _ a ns hl _ hS => ⟨a, ns, rfl, hS, hl, fun _ => rfl⟩) (fun _ _ _ _ _ h => h)
  case F =>
    intro w mg fa h KX G hmg
    refine' FB.all_mk KX G hmg ?a1 ?l1 ?c1 ?k1 ?a2 ?l2 ?c2 ?k2 ?a3 ?l3 ?c3 ?k3 ?a4 ?l4 ?c4 ?k4 ?a5 ?l5 ?c5 ?k5 ?a6 ?l6 ?c6 ?k6 ?a7 ?l7 ?c7 ?k7 ?a8 ?l8 ?c8 ?k8 ?a9 ?l9 ?c9 ?k9 ?a10 ?l10 ?c10 ?k10 ?a11 ?l11 ?c11 ?k11 ?a12 ?l12 ?c12 ?k12 ?a13 ?l13 ?c13 ?k13 ?a14 ?l14 ?c14 ?k14 ?a15 ?l15 ?c15 ?k15 ?a16 ?l16 ?c16 ?k16 ?z_abs ?z_all ?z_bool ?z_enumerate ?z_int ?z_isinstance ?z_len ?z_list ?z_min ?z_range ?z_sum ?z_tuple ?v_MOST_HOUSES ?v_MOST_DEBT ?g_BourseError ?g_InvalidTrade
    (case g_BourseError => k_is)
    (case g_InvalidTrade => k_is)
    (case a1 => k_is)
    (case l1 => k_is)
    (case c1 => k_is)
    (case k1 => k_is)
    (case a2 => k_is)
    (case l2 => k_is)
    (case c2 => k_is)
    (case k2 => k_is)
    (case a3 => k_is)
    (case l3 => k_is)
    (case c3 => k_is)
    (case k3 => k_is)
    (case a4 => k_is)
    (case l4 => k_is)
    (case c4 => k_is)
    (case k4 => k_is)
    (case a5 => k_is)
    (case l5 => k_is)
    (case c5 => k_is)
    (case k5 => k_is)
    (case a6 => k_is)
    (case l6 => k_is)
    (case c6 => k_is)
    (case k6 => k_is)
    (case a7 => k_is)
    (case l7 => k_is)
    (case c7 => k_is)
    (case k7 => k_is)
    (case a8 => k_is)
    (case l8 => k_is)
    (case c8 => k_is)
    (case k8 => k_is)
    (case a9 => k_is)
    (case l9 => k_is)
    (case c9 => k_is)
    (case k9 => k_is)
    (case a10 => k_is)
    (case l10 => k_is)
    (case c10 => k_is)
    (case k10 => k_is)
    (case a11 => k_is)
    (case l11 => k_is)
    (case c11 => k_is)
    (case k11 => k_is)
    (case a12 => k_is)
    (case l12 => k_is)
    (case c12 => k_is)
    (case k12 => k_is)
    (case a13 => k_is)
    (case l13 => k_is)
    (case c13 => k_is)
    (case k13 => k_is)
    (case a14 => k_is)
    (case l14 => k_is)
    (case c14 => k_is)
    (case k14 => k_is)
    (case a15 => k_is)
    (case l15 => k_is)
    (case c15 => k_is)
    (case k15 => k_is)
    (case a16 => k_is)
    (case l16 => k_is)
    (case c16 => k_is)
    (case k16 => k_is)
    (case z_abs => k_is)
    (case z_all => k_is)
    (case z_bool => k_is)
    (case z_enumerate => k_is)
    (case z_int => k_is)
    (case z_isinstance => k_is)
    (case z_len => k_is)
    (case z_list => k_is)
    (case z_min => k_is)
    (case z_range => k_is)
    (case z_sum => k_is)
    (case z_tuple => k_is)
    (case v_MOST_HOUSES => k_is)
    (case v_MOST_DEBT => k_is)
#print axioms PySem.Challenge.cw_fairbourse_k44_whole_least_payments_holds
