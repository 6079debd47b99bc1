import PyProof.Rows.All
import Wide.All
import OpenK.AllK
import Wide.FinOn
import HandS.ForMost
import HandS.Defaults
import HandS.IsInst
import HandS.Wide
import HandS.Codes
import HandS.ForExc
import HandS.ExcIs
import HandS.TryMany
import PySem.Challenge.RW_fairbourse_k15_errors_of_amounts
set_option Elab.async false
set_option linter.all false
set_option maxRecDepth 100000
namespace FB
open PySem PySem.Spec PyProof.Rows L2
def topS (i : Nat) : Stmt := PySem.Challenge.pw_fairbourse_k15_errors_of_amounts.main.body.getD i (.Pass ⟨0, 0, 0, 0⟩)
abbrev s_check_amount : Stmt := topS 10
abbrev N_check_amount : List Str := ["amount", "most"]
theorem sc_check_amount : FnScope N_check_amount ["amount", "most"] (defScope s_check_amount) := ⟨rfl, rfl, rfl, by decide +kernel, rfl, by decide +kernel, by decide +kernel⟩
abbrev s_check_weights : Stmt := topS 11
abbrev N_check_weights : List Str := ["weights", "amount", "weight"]
theorem sc_check_weights : FnScope N_check_weights ["weights", "amount"] (defScope s_check_weights) := ⟨rfl, rfl, rfl, by decide +kernel, rfl, by decide +kernel, by decide +kernel⟩
abbrev s_split : Stmt := topS 12
abbrev N_split : List Str := ["amount", "weights", "total", "parts", "weight", "_"]
theorem sc_split : FnScope N_split ["amount", "weights"] (defScope s_split) := ⟨rfl, rfl, rfl, by decide +kernel, rfl, by decide +kernel, by decide +kernel⟩
abbrev s_greatest_quotient : Stmt := topS 13
abbrev N_greatest_quotient : List Str := ["weights", "parts", "best", "at"]
theorem sc_greatest_quotient : FnScope N_greatest_quotient ["weights", "parts"] (defScope s_greatest_quotient) := ⟨rfl, rfl, rfl, by decide +kernel, rfl, by decide +kernel, by decide +kernel⟩
abbrev s_deal_order : Stmt := topS 14
abbrev N_deal_order : List Str := ["amount", "weights", "total", "parts", "order", "number", "at"]
theorem sc_deal_order : FnScope N_deal_order ["amount", "weights"] (defScope s_deal_order) := ⟨rfl, rfl, rfl, by decide +kernel, rfl, by decide +kernel, by decide +kernel⟩
abbrev s_first_due : Stmt := topS 15
abbrev N_first_due : List Str := ["number", "weights", "parts", "total", "due", "at", "weight"]
theorem sc_first_due : FnScope N_first_due ["number", "weights", "parts", "total"] (defScope s_first_due) := ⟨rfl, rfl, rfl, by decide +kernel, rfl, by decide +kernel, by decide +kernel⟩
abbrev s_due : Stmt := topS 16
abbrev N_due : List Str := ["weight", "part", "total"]
theorem sc_due : FnScope N_due ["weight", "part", "total"] (defScope s_due) := ⟨rfl, rfl, rfl, by decide +kernel, rfl, by decide +kernel, by decide +kernel⟩
abbrev s_deal : Stmt := topS 17
abbrev N_deal : List Str := ["amount", "weights", "parts", "at"]
theorem sc_deal : FnScope N_deal ["amount", "weights"] (defScope s_deal) := ⟨rfl, rfl, rfl, by decide +kernel, rfl, by decide +kernel, by decide +kernel⟩
abbrev s_fee : Stmt := topS 18
abbrev N_fee : List Str := ["amount", "rate", "carried"]
theorem sc_fee : FnScope N_fee ["amount", "rate", "carried"] (defScope s_fee) := ⟨rfl, rfl, rfl, by decide +kernel, rfl, by decide +kernel, by decide +kernel⟩
abbrev s_law_cell : Stmt := topS 20
abbrev N_law_cell : List Str := ["script", "k"]
theorem sc_law_cell : FnScope N_law_cell ["script", "k"] (defScope s_law_cell) := ⟨rfl, rfl, rfl, by decide +kernel, rfl, by decide +kernel, by decide +kernel⟩
abbrev s_law_draws : Stmt := topS 21
abbrev N_law_draws : List Str := ["cell", "count", "size", "draws", "rest", "k"]
theorem sc_law_draws : FnScope N_law_draws ["cell", "count", "size"] (defScope s_law_draws) := ⟨rfl, rfl, rfl, by decide +kernel, rfl, by decide +kernel, by decide +kernel⟩
abbrev s_law_kind : Stmt := topS 22
abbrev N_law_kind : List Str := ["name", "amount", "weights", "actual", "error", "part"]
theorem sc_law_kind : FnScope N_law_kind ["name", "amount", "weights"] (defScope s_law_kind) := ⟨rfl, rfl, rfl, by decide +kernel, rfl, by decide +kernel, by decide +kernel⟩
abbrev s_law_due : Stmt := topS 23
abbrev N_law_due : List Str := ["amount", "largest", "weights", "weight"]
theorem sc_law_due : FnScope N_law_due ["amount", "largest", "weights"] (defScope s_law_due) := ⟨rfl, rfl, rfl, by decide +kernel, rfl, by decide +kernel, by decide +kernel⟩
abbrev s_law_weights_near : Stmt := topS 24
abbrev N_law_weights_near : List Str := ["cell", "shape", "kind", "k", "weights", "draw"]
theorem sc_law_weights_near : FnScope N_law_weights_near ["cell", "shape"] (defScope s_law_weights_near) := ⟨rfl, rfl, rfl, by decide +kernel, rfl, by decide +kernel, by decide +kernel⟩
abbrev s_law_near : Stmt := topS 25
abbrev N_law_near : List Str := ["cell", "bound"]
theorem sc_law_near : FnScope N_law_near ["cell", "bound"] (defScope s_law_near) := ⟨rfl, rfl, rfl, by decide +kernel, rfl, by decide +kernel, by decide +kernel⟩
abbrev s_law_fee_fits : Stmt := topS 26
abbrev N_law_fee_fits : List Str := ["amount", "rate", "carried", "fits", "actual", "error"]
theorem sc_law_fee_fits : FnScope N_law_fee_fits ["amount", "rate", "carried"] (defScope s_law_fee_fits) := ⟨rfl, rfl, rfl, by decide +kernel, rfl, by decide +kernel, by decide +kernel⟩
abbrev s_law : Stmt := topS 27
abbrev N_law : List Str := ["script", "weights", "amount", "name", "rate", "carried"]
theorem sc_law : FnScope N_law ["script"] (defScope s_law) := ⟨rfl, rfl, rfl, by decide +kernel, rfl, by decide +kernel, by decide +kernel⟩
structure Txt (K : PySem.W.Frag) (mg : Str → Option Value) where
  f_check_amount : Addr
  d_check_amount : FuncData
  F_check_amount : Fun K "_check_amount" "_check_amount" s_check_amount f_check_amount d_check_amount
  m_check_amount : mg "_check_amount" = some (.ref f_check_amount)
  b_check_amount : Binds K d_check_amount ["amount", "most"] []
  f_check_weights : Addr
  d_check_weights : FuncData
  F_check_weights : Fun K "_check_weights" "_check_weights" s_check_weights f_check_weights d_check_weights
  m_check_weights : mg "_check_weights" = some (.ref f_check_weights)
  b_check_weights : Binds K d_check_weights ["weights", "amount"] []
  f_split : Addr
  d_split : FuncData
  F_split : Fun K "split" "split" s_split f_split d_split
  m_split : mg "split" = some (.ref f_split)
  b_split : Binds K d_split ["amount", "weights"] []
  f_greatest_quotient : Addr
  d_greatest_quotient : FuncData
  F_greatest_quotient : Fun K "_greatest_quotient" "_greatest_quotient" s_greatest_quotient f_greatest_quotient d_greatest_quotient
  m_greatest_quotient : mg "_greatest_quotient" = some (.ref f_greatest_quotient)
  b_greatest_quotient : Binds K d_greatest_quotient ["weights", "parts"] []
  f_deal_order : Addr
  d_deal_order : FuncData
  F_deal_order : Fun K "deal_order" "deal_order" s_deal_order f_deal_order d_deal_order
  m_deal_order : mg "deal_order" = some (.ref f_deal_order)
  b_deal_order : Binds K d_deal_order ["amount", "weights"] []
  f_first_due : Addr
  d_first_due : FuncData
  F_first_due : Fun K "_first_due" "_first_due" s_first_due f_first_due d_first_due
  m_first_due : mg "_first_due" = some (.ref f_first_due)
  b_first_due : Binds K d_first_due ["number", "weights", "parts", "total"] []
  f_due : Addr
  d_due : FuncData
  F_due : Fun K "_due" "_due" s_due f_due d_due
  m_due : mg "_due" = some (.ref f_due)
  b_due : Binds K d_due ["weight", "part", "total"] []
  f_deal : Addr
  d_deal : FuncData
  F_deal : Fun K "deal" "deal" s_deal f_deal d_deal
  m_deal : mg "deal" = some (.ref f_deal)
  b_deal : Binds K d_deal ["amount", "weights"] []
  f_fee : Addr
  d_fee : FuncData
  F_fee : FunD K "fee" "fee" (defArgs s_fee) (defBody s_fee) (defScope s_fee) [.int 0] [] f_fee d_fee
  b0_fee : ∃ ds, Vals [.int 0] ds ∧ Binds K d_fee ["amount", "rate", "carried"] ds
  m_fee : mg "fee" = some (.ref f_fee)
  b_fee : Binds K d_fee ["amount", "rate", "carried"] []
  f_law_cell : Addr
  d_law_cell : FuncData
  F_law_cell : Fun K "_law_cell" "_law_cell" s_law_cell f_law_cell d_law_cell
  m_law_cell : mg "_law_cell" = some (.ref f_law_cell)
  b_law_cell : Binds K d_law_cell ["script", "k"] []
  f_law_draws : Addr
  d_law_draws : FuncData
  F_law_draws : Fun K "_law_draws" "_law_draws" s_law_draws f_law_draws d_law_draws
  m_law_draws : mg "_law_draws" = some (.ref f_law_draws)
  b_law_draws : Binds K d_law_draws ["cell", "count", "size"] []
  f_law_kind : Addr
  d_law_kind : FuncData
  F_law_kind : Fun K "_law_kind" "_law_kind" s_law_kind f_law_kind d_law_kind
  m_law_kind : mg "_law_kind" = some (.ref f_law_kind)
  b_law_kind : Binds K d_law_kind ["name", "amount", "weights"] []
  f_law_due : Addr
  d_law_due : FuncData
  F_law_due : Fun K "_law_due" "_law_due" s_law_due f_law_due d_law_due
  m_law_due : mg "_law_due" = some (.ref f_law_due)
  b_law_due : Binds K d_law_due ["amount", "largest", "weights"] []
  f_law_weights_near : Addr
  d_law_weights_near : FuncData
  F_law_weights_near : Fun K "_law_weights_near" "_law_weights_near" s_law_weights_near f_law_weights_near d_law_weights_near
  m_law_weights_near : mg "_law_weights_near" = some (.ref f_law_weights_near)
  b_law_weights_near : Binds K d_law_weights_near ["cell", "shape"] []
  f_law_near : Addr
  d_law_near : FuncData
  F_law_near : Fun K "_law_near" "_law_near" s_law_near f_law_near d_law_near
  m_law_near : mg "_law_near" = some (.ref f_law_near)
  b_law_near : Binds K d_law_near ["cell", "bound"] []
  f_law_fee_fits : Addr
  d_law_fee_fits : FuncData
  F_law_fee_fits : Fun K "_law_fee_fits" "_law_fee_fits" s_law_fee_fits f_law_fee_fits d_law_fee_fits
  m_law_fee_fits : mg "_law_fee_fits" = some (.ref f_law_fee_fits)
  b_law_fee_fits : Binds K d_law_fee_fits ["amount", "rate", "carried"] []
  c_BourseError : Addr
  m_BourseError : mg "BourseError" = some (.ref c_BourseError)
  c_InvalidAmount : Addr
  m_InvalidAmount : mg "InvalidAmount" = some (.ref c_InvalidAmount)
  x_InvalidAmount : PySem.W.excIn K c_InvalidAmount [.type "ValueError", .type "Exception", .type "BaseException", .type "object"] "ValueError.__new__" = true
  k_InvalidAmount : PySem.W.keepIn K (.ref c_InvalidAmount) = true
  b_InvalidAmount : PySem.W.subIn K (.ref c_InvalidAmount) (.type "BaseException") = some true
  t_InvalidAmount : PySem.W.typeIn K (.ref c_InvalidAmount) = some (.type "type")
  d_InvalidAmount : PySem.W.hasDictIn K c_InvalidAmount = true
  s_InvalidAmount : PySem.W.subIn K (.ref c_InvalidAmount) (.ref c_InvalidAmount) = some true
  eg_InvalidAmount : PySem.W.findIn K (.ref c_InvalidAmount) "__getattribute__" = some (some (.builtin "BaseException.__getattribute__"))
  ek_InvalidAmount : PySem.W.findIn K (.ref c_InvalidAmount) "__getattr__" = some none
  ea_InvalidAmount : PySem.W.findIn K (.ref c_InvalidAmount) "__class__" = some (some (.builtin "object.__class__"))
  en_InvalidAmount : PySem.W.specialIn K (.builtin "object.__class__") "__get__" = some (some (.builtin "getset_descriptor.__get__"))
  et_InvalidAmount : PySem.W.takesIn K (.builtin "object.__class__") = some true
  em_InvalidAmount : PySem.W.mroIn K c_InvalidAmount (.type "object") = some true
  e_InvalidAmount : ExcC K c_InvalidAmount
  c_InvalidWeights : Addr
  m_InvalidWeights : mg "InvalidWeights" = some (.ref c_InvalidWeights)
  x_InvalidWeights : PySem.W.excIn K c_InvalidWeights [.type "ValueError", .type "Exception", .type "BaseException", .type "object"] "ValueError.__new__" = true
  k_InvalidWeights : PySem.W.keepIn K (.ref c_InvalidWeights) = true
  b_InvalidWeights : PySem.W.subIn K (.ref c_InvalidWeights) (.type "BaseException") = some true
  t_InvalidWeights : PySem.W.typeIn K (.ref c_InvalidWeights) = some (.type "type")
  d_InvalidWeights : PySem.W.hasDictIn K c_InvalidWeights = true
  s_InvalidWeights : PySem.W.subIn K (.ref c_InvalidWeights) (.ref c_InvalidWeights) = some true
  eg_InvalidWeights : PySem.W.findIn K (.ref c_InvalidWeights) "__getattribute__" = some (some (.builtin "BaseException.__getattribute__"))
  ek_InvalidWeights : PySem.W.findIn K (.ref c_InvalidWeights) "__getattr__" = some none
  ea_InvalidWeights : PySem.W.findIn K (.ref c_InvalidWeights) "__class__" = some (some (.builtin "object.__class__"))
  en_InvalidWeights : PySem.W.specialIn K (.builtin "object.__class__") "__get__" = some (some (.builtin "getset_descriptor.__get__"))
  et_InvalidWeights : PySem.W.takesIn K (.builtin "object.__class__") = some true
  em_InvalidWeights : PySem.W.mroIn K c_InvalidWeights (.type "object") = some true
  e_InvalidWeights : ExcC K c_InvalidWeights
  kt_InvalidAmount_BourseError : PySem.W.kitOne K (.ref c_InvalidAmount) (.ref c_BourseError) = some true
  kt_InvalidAmount_InvalidWeights : PySem.W.kitOne K (.ref c_InvalidAmount) (.ref c_InvalidWeights) = some false
  kt_InvalidWeights_BourseError : PySem.W.kitOne K (.ref c_InvalidWeights) (.ref c_BourseError) = some true
  su_InvalidWeights_InvalidAmount : PySem.W.subIn K (.ref c_InvalidWeights) (.ref c_InvalidAmount) = some false
  z_abs : mg "abs" = none
  z_all : mg "all" = none
  z_divmod : mg "divmod" = none
  z_enumerate : mg "enumerate" = none
  z_int : mg "int" = none
  z_isinstance : mg "isinstance" = none
  z_len : mg "len" = none
  z_list : mg "list" = none
  z_min : mg "min" = none
  z_range : mg "range" = none
  z_sum : mg "sum" = none
  z_tuple : mg "tuple" = none
  t_MOST_AMOUNT : Tok
  m_MOST_AMOUNT : mg "MOST_AMOUNT" = some (.int 1000000000000000000 t_MOST_AMOUNT)
  t_MOST_DEALT : Tok
  m_MOST_DEALT : mg "MOST_DEALT" = some (.int 9999 t_MOST_DEALT)
  t_MOST_WEIGHTS : Tok
  m_MOST_WEIGHTS : mg "MOST_WEIGHTS" = some (.int 40 t_MOST_WEIGHTS)
  t_MOST_WEIGHT : Tok
  m_MOST_WEIGHT : mg "MOST_WEIGHT" = some (.int 1000000000000000 t_MOST_WEIGHT)
  t_MILLION : Tok
  m_MILLION : mg "MILLION" = some (.int 1000000 t_MILLION)
/-! own short words -/
theorem iteD {p A B : Prop} [Decidable p] (h1 : p → A) (h2 : ¬ p → B) : if decide p = true then A else B := by
  by_cases h : p
  · rw [decide_eq_true h, if_pos rfl]; exact h1 h
  · rw [decide_eq_false h, if_neg Bool.false_ne_true]; exact h2 h
theorem iteDN {p A B : Prop} [Decidable p] (h1 : ¬ p → A) (h2 : p → B) : if (!decide p) = true then A else B := by
  by_cases h : p
  · rw [decide_eq_true h]; exact iteF (h2 h)
  · rw [decide_eq_false h]; exact iteT (h1 h)
theorem len_le {n : Nat} (h : Nat.ble n 1000 = true) : n ≤ sizeLine := Nat.le_trans (Nat.le_of_ble_eq_true h) (by decide)
theorem iteB {b : Bool} {A B : Prop} (h1 : b = true → A) (h2 : b = false → B) : if b = true then A else B := by
  cases b with
  | true => exact iteT (h1 rfl)
  | false => exact iteF (h2 rfl)
theorem cmul_l {i j : Int} (h : -(2 ^ 64) < i) (h' : i < 2 ^ 64) : CMul i j := .inl ⟨h, h'⟩
theorem cmul_r {i j : Int} (h : -(2 ^ 64) < j) (h' : j < 2 ^ 64) : CMul i j := .inr ⟨h, h'⟩
theorem dec_t {p : Prop} [Decidable p] (h : decide p = true) : p := of_decide_eq_true h
theorem dec_f {p : Prop} [Decidable p] (h : decide p = false) : ¬ p := of_decide_eq_false h
theorem ndec_t {p : Prop} [Decidable p] (h : (!decide p) = true) : ¬ p := fun q => by rw [decide_eq_true q] at h; cases h
theorem ndec_f {p : Prop} [Decidable p] (h : (!decide p) = false) : p := by
  by_cases q : p
  · exact q
  · rw [decide_eq_false q] at h; cases h
theorem fld_lt {n : Nat} (h : Nat.ble (n + 1) 1000 = true) : n < 1000 := Nat.le_of_ble_eq_true h
def rLen (K : PySem.W.Frag) : List V → Hp → VK → Prop := fun xs H Q => ∃ p ys, xs = [.ref p] ∧ (SqL K H p ys ∨ SqT K H p ys) ∧ Q (.int ys.length) H
def rListOf (K : PySem.W.Frag) : List V → Hp → VK → Prop := fun xs H Q => ∃ p ys, xs = [.ref p] ∧ (SqL K H p ys ∨ SqT K H p ys) ∧ ∀ l, H l = none → Q (.ref l) (upd H l (.lst ys))
def rTupleOf (K : PySem.W.Frag) : List V → Hp → VK → Prop := fun xs H Q => ∃ p ys, xs = [.ref p] ∧ ((SqL K H p ys ∧ ∀ l, H l = none → Q (.ref l) (upd H l (.tup ys))) ∨ (SqT K H p ys ∧ Q (.ref p) H))
theorem len0 : ([] : List V).length ≤ sizeLine := len_le rfl
theorem len1 {a : V} : [a].length ≤ sizeLine := len_le rfl
theorem len2 {a b : V} : [a, b].length ≤ sizeLine := len_le rfl
theorem len3 {a b c : V} : [a, b, c].length ≤ sizeLine := len_le rfl
theorem len4 {a b c d : V} : [a, b, c, d].length ≤ sizeLine := len_le rfl
theorem len5 {a b c d e : V} : [a, b, c, d, e].length ≤ sizeLine := len_le rfl
local macro_rules | `(tactic| walk_at "st") => `(tactic| repeat (first
  | (apply Exists.intro (α := V))
  | (apply Exists.intro (α := Int))
  | (apply Exists.intro (α := Bool))
  | (apply Exists.intro (α := Addr))
  | (apply Exists.intro (α := List V))
  | (apply Exists.intro (α := List Int))
  | (apply Exists.intro (α := List (Str × V)))
  | (apply Exists.intro (α := Str))
  | (apply And.intro; focus (first | omega | (dsimp only; omega) | (simp only [List.length_map, List.length_replicate]; omega) | exact rfl | assumption | exact SqL.of (by assumption) | exact Or.inl (by assumption) | exact Or.inr (by assumption) | exact Or.inr (SqT.of (by assumption)) | exact Or.inl (Or.inl upd_same) | exact Or.inl (Or.inl (Or.inl upd_same)) | (with_reducible exact len0) | (with_reducible exact len1) | (with_reducible exact len2) | (with_reducible exact len3) | (with_reducible exact len4) | (with_reducible exact len5) | exact upd_same | exact ⟨_, Or.inl (Or.inl upd_same)⟩ | exact ⟨_, SqL.of (by assumption)⟩ | exact ⟨_, by assumption⟩ | exact Or.inl ⟨rfl, _, SqL.of (by assumption)⟩ | exact Or.inl ⟨rfl, _, SqL.of upd_same⟩ | exact cmul_l (by omega) (by omega) | exact cmul_r (by omega) (by omega) | exact ⟨by omega, by omega⟩ | (simp only [List.length_map, List.length_replicate]; omega) | exact Or.inl (SqL.of (by assumption)) | exact SqT.of (by assumption) | exact fld_lt rfl))))
/-- the script's cell at j, 0 where there is none -/
def cellOf (ns : List Int) (j : Nat) : Int := ns.getD j 0
theorem atI_ints {ns : List Int} {j : Nat} (h : j < ns.length) : atI (ns.map V.int) (j : Int) = some (.int (cellOf ns j)) := by
  refine at_of (j := j) rfl ?_
  rw [List.getElem?_map, List.getElem?_eq_getElem h]
  unfold cellOf
  rw [List.getD_eq_getElem?_getD, List.getElem?_eq_getElem h]
  rfl
theorem cellOf_out {ns : List Int} {j : Nat} (h : ¬ j < ns.length) : cellOf ns j = 0 := by
  unfold cellOf
  rw [List.getD_eq_getElem?_getD, List.getElem?_eq_none (by omega)]
  rfl
theorem same_upd {H : Hp} {p : Addr} {o : HO} (h : H p = none) : Same H (upd H p o) := fun b x e => by
  rw [upd_ne (ne_of_none e h)]
  exact e
/-- a slice of a list of ints -/
def cutI (ns : List Int) (lo hi : Option Int) : List Int := (ns.drop (HT.sIx ns.length 0 lo)).take (HT.sIx ns.length ns.length hi - HT.sIx ns.length 0 lo)
theorem cutV_ints (ns : List Int) (lo hi : Option Int) : cutV (ns.map V.int) lo hi = (cutI ns lo hi).map V.int := by
  unfold cutV cutI
  rw [List.length_map, List.map_take, List.map_drop]
theorem cutI_len (ns : List Int) (lo hi : Option Int) : (cutI ns lo hi).length ≤ ns.length := by
  unfold cutI
  rw [List.length_take, List.length_drop]
  omega
theorem ints_at {ns : List Int} {i : Nat} {x : V} (h : (ns.map V.int)[i]? = some x) : ∃ z, ns[i]? = some z ∧ x = V.int z := by
  rw [List.getElem?_map] at h
  cases e : ns[i]? with
  | none => rw [e] at h; cases h
  | some z => rw [e] at h; exact ⟨z, rfl, (Option.some.inj h).symm⟩
theorem take_succ {α : Type} {xs : List α} {i : Nat} {x : α} (h : xs[i]? = some x) : xs.take (i + 1) = xs.take i ++ [x] := by
  rw [List.take_add_one, h]
  rfl
theorem sum_le_mul : ∀ (ws : List Int) (b : Int), (∀ w, w ∈ ws → w ≤ b) → ws.sum ≤ (ws.length : Int) * b
  | [], b, _ => by show (0 : Int) ≤ ((0 : Nat) : Int) * b; omega
  | w :: ws, b, h => by
    rw [List.sum_cons, List.length_cons, Int.natCast_add, Int.add_mul]
    have h1 := h w List.mem_cons_self
    have h2 := sum_le_mul ws b fun x hx => h x (List.mem_cons_of_mem _ hx)
    omega
theorem ixN_nat {n j : Nat} (h : j < n) : ixN n (j : Int) = some j := by
  unfold ixN
  rw [if_pos (by omega), if_pos (by omega), Int.toNat_natCast]
theorem call_int_i {X : Cx} : CallR X (.type "int") (fun xs H Q => ∃ i : Int, xs = [.int i] ∧ Q (.int i) H) := by
  intro pins s σ H xs us Q I r h
  obtain ⟨i, e, q⟩ := h
  exact call_int1 pins s σ H xs us Q I r (.inl ⟨i, e, q⟩)
theorem dpAll_ints {K : PySem.W.Frag} {H : Hp} : ∀ xs : List Int, DpAll K H (xs.map V.int) (xs.map PyData.int)
  | [] => .nil
  | x :: xs => .cons (.int x) (dpAll_ints xs)
theorem eqvAll_ints : ∀ xs ys : List Int, PyData.eqvAll (xs.map PyData.int) (ys.map PyData.int) = decide (xs = ys)
  | [], [] => by simp [PyData.eqvAll]
  | [], _ :: _ => by simp [PyData.eqvAll]
  | _ :: _, [] => by simp [PyData.eqvAll]
  | x :: xs, y :: ys => by
    rw [List.map_cons, List.map_cons]
    simp only [PyData.eqvAll, PyData.eqv]
    rw [eqvAll_ints xs ys]
    by_cases h : x = y <;> by_cases h2 : xs = ys <;> simp [h, h2]
theorem lay_ints : ∀ xs : List Int, PyData.canLayAll0 (xs.map PyData.int) = true
  | [] => rfl
  | x :: xs => by
    rw [List.map_cons]
    simp only [PyData.canLayAll0, PyData.canLay0, Bool.true_and]
    exact lay_ints xs
theorem depth_ints : ∀ xs : List Int, PyData.depthAll (xs.map PyData.int) = 0
  | [] => rfl
  | x :: xs => by
    rw [List.map_cons]
    simp only [PyData.depthAll, PyData.depth, depth_ints xs]
    rfl
theorem shaped_ints (xs : List Int) : SeqAt.shaped (.list (xs.map PyData.int)) = true := by
  unfold SeqAt.shaped
  simp only [PyData.canLay0, PyData.depth, lay_ints, depth_ints]
  rfl
theorem eqD_ints {K : PySem.W.Frag} {H : Hp} {a b : Addr} {xs ys : List Int} {Q : VK} (h1 : SqL K H a (xs.map V.int)) (h2 : SqL K H b (ys.map V.int)) (q : Q (.bl (decide (xs = ys))) H) : rEqD K (.ref a) (.ref b) H Q :=
  ⟨_, _, .lst h1 (dpAll_ints xs), .lst h2 (dpAll_ints ys), shaped_ints xs, shaped_ints ys, by rw [show PyData.eqv (.list (xs.map PyData.int)) (.list (ys.map PyData.int)) = decide (xs = ys) by simp only [PyData.eqv, eqvAll_ints]]; exact q⟩
theorem neD_ints {K : PySem.W.Frag} {H : Hp} {a b : Addr} {xs ys : List Int} {Q : VK} (h1 : SqL K H a (xs.map V.int)) (h2 : SqL K H b (ys.map V.int)) (q : Q (.bl (!decide (xs = ys))) H) : rNeD K (.ref a) (.ref b) H Q :=
  ⟨_, _, .lst h1 (dpAll_ints xs), .lst h2 (dpAll_ints ys), shaped_ints xs, shaped_ints ys, by rw [show PyData.eqv (.list (xs.map PyData.int)) (.list (ys.map PyData.int)) = decide (xs = ys) by simp only [PyData.eqv, eqvAll_ints]]; exact q⟩

theorem pget_list {X : Cx} : PGet X (fun x y H Q => ∃ (p : Addr) (xs : List V) (j : Nat) (z : V), x = .ref p ∧ y = .int (j : Int) ∧ SqL X.K H p xs ∧ xs[j]? = some z ∧ Q z H) := by
  intro pins s σ H x y v u Q I rx ry h
  obtain ⟨p, xs, j, z, rfl, rfl, hq, he, q⟩ := h
  cases rx
  obtain ⟨t, rfl⟩ := ry
  obtain ⟨its, r, pl, hz⟩ := I.list hq
  obtain ⟨w, ew, rw'⟩ := r.get he
  have hl := r.length
  have hn := line63
  have hj := (List.getElem?_eq_some_iff.mp he).1
  exact wpAny_getItem_list pl.isList (by omega) (by omega) (by simpa using ew) ⟨z, H, I, rw', q⟩

/-! the mathematics of split: the greatest quotient, steps, what makes a division the one it is -/
def at0 (ws : List Int) (i : Nat) : Int := ws.getD i 0
theorem at0_lt {ws : List Int} {i : Nat} (h : i < ws.length) : ws[i]? = some (at0 ws i) := by
  unfold at0
  rw [List.getD_eq_getElem?_getD, List.getElem?_eq_getElem h]
  rfl
theorem atI_n {ws : List Int} {j : Nat} (h : j < ws.length) : atI (ws.map V.int) (j : Int) = some (.int (at0 ws j)) := by
  refine at_of (j := j) rfl ?_
  rw [List.getElem?_map, at0_lt h]
  rfl
theorem at0_of {ws : List Int} {i : Nat} {x : Int} (h : ws[i]? = some x) : at0 ws i = x := by
  unfold at0
  rw [List.getD_eq_getElem?_getD, h]
  rfl
theorem at0_out {ws : List Int} {i : Nat} (h : ws.length ≤ i) : at0 ws i = 0 := by
  unfold at0
  rw [List.getD_eq_getElem?_getD, List.getElem?_eq_none h]
  rfl
theorem at0_ext {xs ys : List Int} (hl : xs.length = ys.length) (h : ∀ i, i < xs.length → at0 xs i = at0 ys i) : xs = ys := by
  refine List.ext_getElem? fun i => ?_
  by_cases hi : i < xs.length
  · rw [at0_lt hi, at0_lt (by omega), h i hi]
  · rw [List.getElem?_eq_none (by omega), List.getElem?_eq_none (by omega)]
theorem at0_set {ps : List Int} {k i : Nat} {x : Int} (hk : k < ps.length) : at0 (ps.set k x) i = if i = k then x else at0 ps i := by
  by_cases h : i = k
  · subst h
    rw [if_pos rfl]
    exact at0_of (List.getElem?_set_self hk)
  · rw [if_neg h]
    unfold at0
    rw [List.getD_eq_getElem?_getD, List.getD_eq_getElem?_getD, List.getElem?_set_ne (fun e => h e.symm)]
theorem at0_nonneg {ws : List Int} (h : ∀ w, w ∈ ws → 0 ≤ w) (i : Nat) : 0 ≤ at0 ws i := by
  by_cases hi : i < ws.length
  · exact h _ (List.mem_of_getElem? (at0_lt hi))
  · rw [at0_out (by omega)]; exact Int.le_refl 0

/-- one cent more at k -/
def bump (ps : List Int) (k : Nat) : List Int := ps.set k (at0 ps k + 1)
theorem bump_len (ps : List Int) (k : Nat) : (bump ps k).length = ps.length := List.length_set
theorem at0_bump {ps : List Int} {k i : Nat} (hk : k < ps.length) : at0 (bump ps k) i = if i = k then at0 ps k + 1 else at0 ps i := at0_set hk
theorem sum_set1 : ∀ (ps : List Int) (k : Nat) (x : Int), k < ps.length → (ps.set k x).sum = ps.sum + (x - at0 ps k)
  | [], _, _, h => absurd h (Nat.not_lt_zero _)
  | p :: ps, 0, x, _ => by
    show (x :: ps).sum = (p :: ps).sum + (x - p)
    rw [List.sum_cons, List.sum_cons]
    omega
  | p :: ps, k + 1, x, h => by
    show (p :: ps.set k x).sum = (p :: ps).sum + (x - at0 ps k)
    rw [List.sum_cons, List.sum_cons, sum_set1 ps k x (Nat.lt_of_succ_lt_succ h)]
    omega
theorem bump_sum {ps : List Int} {k : Nat} (h : k < ps.length) : (bump ps k).sum = ps.sum + 1 := by
  unfold bump
  rw [sum_set1 ps k _ h]
  omega
/-- the index with the greatest quotient among the first m -/
def gq (ws ps : List Int) : Nat → Nat
  | 0 => 0
  | m + 1 => if at0 ws (gq ws ps m) * (at0 ps m + 1) < at0 ws m * (at0 ps (gq ws ps m) + 1) then m else gq ws ps m
theorem gq_one (ws ps : List Int) : gq ws ps 1 = 0 := by
  show (if at0 ws 0 * (at0 ps 0 + 1) < at0 ws 0 * (at0 ps 0 + 1) then 0 else 0) = 0
  split <;> rfl
theorem gq_lt (ws ps : List Int) : ∀ m, 0 < m → gq ws ps m < m
  | 0, h => absurd h (Nat.lt_irrefl _)
  | 1, _ => by rw [gq_one]; exact Nat.one_pos
  | m + 2, _ => by
    have ih := gq_lt ws ps (m + 1) (Nat.succ_pos _)
    unfold gq
    split
    · exact Nat.lt_succ_self _
    · exact Nat.lt_succ_of_lt ih
theorem ratio_lt {a A b B c C : Int} (hA : 0 < A) (hB : 0 < B) (hC : 0 < C) (h1 : b * A < a * B) (h2 : c * B ≤ b * C) : c * A < a * C := by
  have e1 : b * A * C < a * B * C := Int.mul_lt_mul_of_pos_right h1 hC
  have e2 : c * B * A ≤ b * C * A := Int.mul_le_mul_of_nonneg_right h2 (by omega)
  have e3 : c * A * B < a * C * B := by grind
  exact Int.lt_of_mul_lt_mul_right e3 (by omega)
theorem ratio_le {a A b B c C : Int} (hA : 0 < A) (hB : 0 < B) (hC : 0 < C) (h1 : b * A ≤ a * B) (h2 : c * B < b * C) : c * A < a * C := by
  have e1 : b * A * C ≤ a * B * C := Int.mul_le_mul_of_nonneg_right h1 (by omega)
  have e2 : c * B * A < b * C * A := Int.mul_lt_mul_of_pos_right h2 hA
  have e3 : c * A * B < a * C * B := by grind
  exact Int.lt_of_mul_lt_mul_right e3 (by omega)
/-- (i, a) goes ahead of (k, b) -/
def Ahead (ws : List Int) (i : Nat) (a : Int) (k : Nat) (b : Int) : Prop := at0 ws k * a < at0 ws i * b ∨ (at0 ws k * a = at0 ws i * b ∧ i ≤ k)
theorem Ahead.le {ws : List Int} {i k : Nat} {a b : Int} (h : Ahead ws i a k b) : at0 ws k * a ≤ at0 ws i * b := by
  rcases h with h | ⟨h, _⟩
  · omega
  · omega
theorem gq_best {ws ps : List Int} (hp : ∀ i, 0 ≤ at0 ps i) : ∀ m k, k < m → Ahead ws (gq ws ps m) (at0 ps (gq ws ps m) + 1) k (at0 ps k + 1)
  | 0, k, h => absurd h (Nat.not_lt_zero _)
  | m + 1, k, h => by
    have hb := hp (gq ws ps m)
    have hm := hp m
    have hk := hp k
    by_cases e : at0 ws (gq ws ps m) * (at0 ps m + 1) < at0 ws m * (at0 ps (gq ws ps m) + 1)
    · have eg : gq ws ps (m + 1) = m := by
        show (if _ then _ else _) = _
        rw [if_pos e]
      rw [eg]
      by_cases hkm : k = m
      · subst hkm
        exact .inr ⟨rfl, Nat.le_refl _⟩
      · have ih := (gq_best (ws := ws) hp m k (by omega)).le
        exact .inl (ratio_lt (by omega) (by omega) (by omega) e ih)
    · have eg : gq ws ps (m + 1) = gq ws ps m := by
        show (if _ then _ else _) = _
        rw [if_neg e]
      rw [eg]
      by_cases hkm : k = m
      · subst hkm
        by_cases e2 : at0 ws k * (at0 ps (gq ws ps k) + 1) = at0 ws (gq ws ps k) * (at0 ps k + 1)
        · refine .inr ⟨e2, ?_⟩
          by_cases h0 : 0 < k
          · exact Nat.le_of_lt (gq_lt ws ps k h0)
          · have : k = 0 := by omega
            subst this
            exact Nat.le_refl _
        · exact .inl (by omega)
      · exact gq_best hp m k (by omega)
/-- n steps -/
def steps (ws : List Int) : Nat → List Int → List Int
  | 0, ps => ps
  | n + 1, ps => bump (steps ws n ps) (gq ws (steps ws n ps) ws.length)
def floors (amount total : Int) (ws : List Int) : List Int := ws.map fun w => amount * w / total
def splitOf (amount : Int) (ws : List Int) : List Int :=
  if ws.sum = 0 then ws.map fun _ => 0 else steps ws (amount - (floors amount ws.sum ws).sum).toNat (floors amount ws.sum ws)
theorem steps_len (ws : List Int) : ∀ n ps, (steps ws n ps).length = ps.length
  | 0, _ => rfl
  | n + 1, ps => by
    show (bump _ _).length = _
    rw [bump_len, steps_len ws n ps]
theorem floors_len (amount total : Int) (ws : List Int) : (floors amount total ws).length = ws.length := List.length_map ..
theorem splitOf_len (amount : Int) (ws : List Int) : (splitOf amount ws).length = ws.length := by
  unfold splitOf
  split
  · exact List.length_map ..
  · rw [steps_len, floors_len]
theorem at0_floors {amount total : Int} {ws : List Int} {i : Nat} (h : i < ws.length) : at0 (floors amount total ws) i = amount * at0 ws i / total := by
  refine at0_of ?_
  unfold floors
  rw [List.getElem?_map, at0_lt h]
  rfl
theorem sum_nonneg : ∀ (ws : List Int), (∀ w, w ∈ ws → 0 ≤ w) → 0 ≤ ws.sum
  | [], _ => Int.le_refl _
  | w :: ws, h => by
    rw [List.sum_cons]
    have h1 := h w List.mem_cons_self
    have h2 := sum_nonneg ws fun x hx => h x (List.mem_cons_of_mem _ hx)
    omega
theorem at0_le_sum : ∀ (ws : List Int) (i : Nat), (∀ w, w ∈ ws → 0 ≤ w) → at0 ws i ≤ ws.sum
  | [], i, _ => by rw [at0_out (Nat.zero_le _)]; exact Int.le_refl _
  | w :: ws, 0, h => by
    show w ≤ (w :: ws).sum
    rw [List.sum_cons]
    have h2 := sum_nonneg ws fun x hx => h x (List.mem_cons_of_mem _ hx)
    omega
  | w :: ws, i + 1, h => by
    show at0 ws i ≤ (w :: ws).sum
    rw [List.sum_cons]
    have h1 := h w List.mem_cons_self
    have h2 := at0_le_sum ws i fun x hx => h x (List.mem_cons_of_mem _ hx)
    omega
theorem floors_mul_le (amount total : Int) (ht : 0 < total) : ∀ ws : List Int, (floors amount total ws).sum * total ≤ amount * ws.sum
  | [] => by show (0 : Int) * total ≤ amount * 0; omega
  | w :: ws => by
    show ((amount * w / total) :: floors amount total ws).sum * total ≤ amount * (w :: ws).sum
    rw [List.sum_cons, List.sum_cons, Int.add_mul, Int.mul_add]
    have h1 := floors_mul_le amount total ht ws
    have h2 := Int.ediv_mul_le (amount * w) (by omega : total ≠ 0)
    omega
theorem floors_le {amount : Int} {ws : List Int} (ht : 0 < ws.sum) : (floors amount ws.sum ws).sum ≤ amount := by
  have h := floors_mul_le amount ws.sum ht ws
  exact Int.le_of_mul_le_mul_right h ht
theorem floors_gt (amount total : Int) (ht : 0 < total) : ∀ ws : List Int, amount * ws.sum ≤ (floors amount total ws).sum * total + (ws.length : Int) * (total - 1)
  | [] => by show amount * 0 ≤ (0 : Int) * total + ((0 : Nat) : Int) * (total - 1); omega
  | w :: ws => by
    show amount * (w :: ws).sum ≤ ((amount * w / total) :: floors amount total ws).sum * total + ((ws.length + 1 : Nat) : Int) * (total - 1)
    rw [List.sum_cons, List.sum_cons, Int.add_mul, Int.mul_add]
    have h1 := floors_gt amount total ht ws
    have h2 := Int.lt_ediv_add_one_mul_self (amount * w) ht
    rw [Int.add_mul, Int.one_mul] at h2
    have h3 : ((ws.length + 1 : Nat) : Int) * (total - 1) = (ws.length : Int) * (total - 1) + (total - 1) := by
      rw [Int.natCast_add, Int.add_mul]
      omega
    omega
/-- fewer steps than weights -/
theorem floors_rest {amount : Int} {ws : List Int} (ht : 0 < ws.sum) : amount - (floors amount ws.sum ws).sum < ws.length := by
  have h := floors_gt amount ws.sum ht ws
  have h2 : (amount - (floors amount ws.sum ws).sum) * ws.sum ≤ (ws.length : Int) * (ws.sum - 1) := by
    rw [Int.sub_mul]
    omega
  by_cases hl : (ws.length : Int) = 0
  · have : ws = [] := by
      cases ws with
      | nil => rfl
      | cons x r => rw [List.length_cons] at hl; omega
    subst this
    exact absurd ht (by decide)
  · refine Int.lt_of_mul_lt_mul_right (Int.lt_of_le_of_lt h2 ?_) (Int.le_of_lt ht)
    rw [Int.mul_sub]
    omega
theorem floors_nonneg {amount total : Int} {ws : List Int} (ha : 0 ≤ amount) (ht : 0 < total) (hw : ∀ w, w ∈ ws → 0 ≤ w) : ∀ p, p ∈ floors amount total ws → 0 ≤ p := by
  intro p hp
  obtain ⟨w, hm, rfl⟩ := List.mem_map.mp hp
  exact Int.ediv_nonneg (Int.mul_nonneg ha (hw w hm)) (by omega)
theorem steps_ge {ws : List Int} (hl : 0 < ws.length) : ∀ n ps, ps.length = ws.length → ∀ i, at0 ps i ≤ at0 (steps ws n ps) i
  | 0, _, _, _ => Int.le_refl _
  | n + 1, ps, h, i => by
    have ih := steps_ge hl n ps h i
    have hk : gq ws (steps ws n ps) ws.length < (steps ws n ps).length := by rw [steps_len, h]; exact gq_lt _ _ _ hl
    show at0 ps i ≤ at0 (bump _ _) i
    rw [at0_bump hk]
    split
    · rename_i e
      rw [← e]
      omega
    · exact ih
theorem steps_sum {ws : List Int} (hl : 0 < ws.length) : ∀ n ps, ps.length = ws.length → (steps ws n ps).sum = ps.sum + n
  | 0, ps, _ => by show ps.sum = ps.sum + ((0 : Nat) : Int); omega
  | n + 1, ps, h => by
    have hk : gq ws (steps ws n ps) ws.length < (steps ws n ps).length := by rw [steps_len, h]; exact gq_lt _ _ _ hl
    show (bump _ _).sum = _
    rw [bump_sum hk, steps_sum hl n ps h]
    omega
theorem len_pos {ws : List Int} (h : 0 < ws.sum) : 0 < ws.length := by
  cases ws with
  | nil => exact absurd h (by decide)
  | cons x r => rw [List.length_cons]; exact Nat.succ_pos _
theorem splitOf_sum {amount : Int} {ws : List Int} (ht : 0 < ws.sum) : (splitOf amount ws).sum = amount := by
  unfold splitOf
  rw [if_neg (by omega), steps_sum (len_pos ht) _ _ (floors_len ..)]
  have := floors_le (amount := amount) ht
  omega
theorem splitOf_ge {amount : Int} {ws : List Int} (ht : 0 < ws.sum) {i : Nat} (hi : i < ws.length) : amount * at0 ws i / ws.sum ≤ at0 (splitOf amount ws) i := by
  unfold splitOf
  rw [if_neg (by omega)]
  have h := steps_ge (len_pos ht) (amount - (floors amount ws.sum ws).sum).toNat (floors amount ws.sum ws) (floors_len ..) i
  rw [at0_floors hi] at h
  exact h
theorem sum_lt_ex : ∀ (ps ws : List Int), ps.length = ws.length → ps.sum < ws.sum → ∃ i, i < ws.length ∧ at0 ps i < at0 ws i
  | [], [], _, h => absurd h (by decide)
  | p :: ps, w :: ws, hl, h => by
    rw [List.sum_cons, List.sum_cons] at h
    by_cases e : p < w
    · exact ⟨0, Nat.succ_pos _, e⟩
    · obtain ⟨i, h1, h2⟩ := sum_lt_ex ps ws (by simpa using hl) (by omega)
      exact ⟨i + 1, Nat.succ_lt_succ h1, h2⟩
  | [], _ :: _, hl, _ => by simp at hl
  | _ :: _, [], hl, _ => by simp at hl
/-- while there are fewer cents than weights in all, nobody gets more than his weight -/
theorem steps_le {ws : List Int} (hw : ∀ w, w ∈ ws → 0 ≤ w) (hl : 0 < ws.length) : ∀ (n : Nat) (ps : List Int), ps.length = ws.length → (∀ i, 0 ≤ at0 ps i) → (∀ i, i < ws.length → at0 ps i ≤ at0 ws i) → ps.sum + (n : Int) ≤ ws.sum → ∀ i, i < ws.length → at0 (steps ws n ps) i ≤ at0 ws i
  | 0, _, _, _, h, _, i, hi => h i hi
  | n + 1, ps, h, h0, h1, h2, i, hi => by
    have ih := steps_le hw hl n ps h h0 h1 (by omega)
    have hn : ∀ i, 0 ≤ at0 (steps ws n ps) i := fun i => Int.le_trans (h0 i) (steps_ge hl n ps h i)
    have hk : gq ws (steps ws n ps) ws.length < (steps ws n ps).length := by rw [steps_len, h]; exact gq_lt _ _ _ hl
    have hs := steps_sum hl n ps h
    obtain ⟨k, hk1, hk2⟩ := sum_lt_ex (steps ws n ps) ws (by rw [steps_len, h]) (by omega)
    have hb := (gq_best (ws := ws) hn ws.length k hk1).le
    show at0 (bump _ _) i ≤ _
    rw [at0_bump hk]
    split
    · rename_i e
      rw [e]
      generalize gq ws (steps ws n ps) ws.length = b at *
      generalize steps ws n ps = qs at *
      have hkn := hn k
      have hbn := hn b
      have h5 : (at0 qs k + 1) * (at0 qs b + 1) ≤ at0 ws k * (at0 qs b + 1) := Int.mul_le_mul_of_nonneg_right (by omega) (by omega)
      have h6 : (at0 qs b + 1) * (at0 qs k + 1) ≤ at0 ws b * (at0 qs k + 1) := by
        rw [Int.mul_comm (at0 qs b + 1)]
        exact Int.le_trans h5 hb
      exact Int.le_of_mul_le_mul_right h6 (by omega)
    · exact ih i hi
theorem splitOf_le {amount : Int} {ws : List Int} (ha : 0 ≤ amount) (hw : ∀ w, w ∈ ws → 0 ≤ w) (ht : 0 < ws.sum) (hle : amount ≤ ws.sum) {i : Nat} (hi : i < ws.length) : at0 (splitOf amount ws) i ≤ at0 ws i := by
  unfold splitOf
  rw [if_neg (by omega)]
  have hf := floors_le (amount := amount) ht
  refine steps_le hw (len_pos ht) _ _ (floors_len ..) (fun i => at0_nonneg (floors_nonneg ha ht hw) i) (fun i hi => ?_) (by omega) i hi
  rw [at0_floors hi]
  have hwi := at0_nonneg hw i
  refine Int.ediv_le_of_le_mul ht ?_
  rw [Int.mul_comm]
  exact Int.mul_le_mul_of_nonneg_left hle hwi

/-! the mathematics of deal: whoever is due first gets the cent, and nobody is ever a cent off -/
def Elig (ws ps : List Int) (W n : Int) (i : Nat) : Prop := at0 ps i * W < n * at0 ws i
instance (ws ps : List Int) (W n : Int) (i : Nat) : Decidable (Elig ws ps W n i) := inferInstanceAs (Decidable (_ < _))
def due (ws ps : List Int) (W : Int) (i : Nat) : Int := ((at0 ps i + 1) * W + at0 ws i - 1) / at0 ws i
/-- the one who is due first, of the first m -/
def nd (ws ps : List Int) (W n : Int) : Nat → Option Nat
  | 0 => none
  | m + 1 => if Elig ws ps W n m then
      match nd ws ps W n m with
      | none => some m
      | some b => if due ws ps W m < due ws ps W b then some m else some b
    else nd ws ps W n m
theorem nd_none {ws ps : List Int} {W n : Int} : ∀ m, nd ws ps W n m = none → ∀ k, k < m → ¬ Elig ws ps W n k
  | 0, _, k, h => absurd h (Nat.not_lt_zero _)
  | m + 1, e, k, h => by
    unfold nd at e
    by_cases he : Elig ws ps W n m
    · rw [if_pos he] at e
      cases hb : nd ws ps W n m with
      | none => rw [hb] at e; cases e
      | some b => rw [hb] at e; dsimp only at e; split at e <;> cases e
    · rw [if_neg he] at e
      by_cases hk : k = m
      · rw [hk]; exact he
      · exact nd_none m e k (by omega)
theorem nd_some {ws ps : List Int} {W n : Int} : ∀ m r, nd ws ps W n m = some r → r < m ∧ Elig ws ps W n r ∧ ∀ k, k < m → Elig ws ps W n k → due ws ps W r < due ws ps W k ∨ (due ws ps W r = due ws ps W k ∧ r ≤ k)
  | 0, r, e => by cases e
  | m + 1, r, e => by
    unfold nd at e
    by_cases he : Elig ws ps W n m
    · rw [if_pos he] at e
      cases hb : nd ws ps W n m with
      | none =>
        rw [hb] at e
        obtain rfl : m = r := Option.some.inj e
        refine ⟨Nat.lt_succ_self _, he, fun k hk hek => ?_⟩
        by_cases hkm : k = m
        · subst hkm
          exact .inr ⟨rfl, Nat.le_refl _⟩
        · exact absurd hek (nd_none m hb k (by omega))
      | some b =>
        rw [hb] at e
        obtain ⟨h1, h2, h3⟩ := nd_some m b hb
        dsimp only at e
        by_cases hd : due ws ps W m < due ws ps W b
        · rw [if_pos hd] at e
          obtain rfl : m = r := Option.some.inj e
          refine ⟨Nat.lt_succ_self _, he, fun k hk hek => ?_⟩
          by_cases hkm : k = m
          · subst hkm
            exact .inr ⟨rfl, Nat.le_refl _⟩
          · have := h3 k (by omega) hek
            exact .inl (by omega)
        · rw [if_neg hd] at e
          obtain rfl : b = r := Option.some.inj e
          refine ⟨by omega, h2, fun k hk hek => ?_⟩
          by_cases hkm : k = m
          · subst hkm
            by_cases hq : due ws ps W b = due ws ps W k
            · exact .inr ⟨hq, by omega⟩
            · exact .inl (by omega)
          · exact h3 k (by omega) hek
    · rw [if_neg he] at e
      obtain ⟨h1, h2, h3⟩ := nd_some m r e
      refine ⟨by omega, h2, fun k hk hek => ?_⟩
      by_cases hkm : k = m
      · rw [hkm] at hek
        exact absurd hek he
      · exact h3 k (by omega) hek
/-- sums, place by place -/
theorem lin_sum (W d : Int) : ∀ (ps qs ws : List Int), ps.length = ws.length → qs.length = ws.length → (∀ k, k < ws.length → W * (at0 ps k - at0 qs k) ≤ d * at0 ws k) → W * (ps.sum - qs.sum) ≤ d * ws.sum
  | [], [], [], _, _, _ => by simp
  | p :: ps, q :: qs, w :: ws, h1, h2, h => by
    have ih := lin_sum W d ps qs ws (by simpa using h1) (by simpa using h2) fun k hk => h (k + 1) (Nat.succ_lt_succ hk)
    have h0 : W * (p - q) ≤ d * w := h 0 (Nat.succ_pos _)
    rw [List.sum_cons, List.sum_cons, List.sum_cons]
    have e1 : W * (p + ps.sum - (q + qs.sum)) = W * (p - q) + W * (ps.sum - qs.sum) := by grind
    rw [e1, Int.mul_add]
    omega
  | [], _ :: _, [], _, h, _ => by simp at h
  | _ :: _, _, [], h, _, _ => by simp at h
  | [], _, _ :: _, h, _, _ => by simp at h
  | _ :: _, [], _ :: _, _, h, _ => by simp at h
theorem lin_sum1 (W d c : Int) : ∀ (ps qs ws : List Int) (i : Nat), ps.length = ws.length → qs.length = ws.length → (∀ k, k < ws.length → W * (at0 ps k - at0 qs k) ≤ d * at0 ws k) → i < ws.length → W * (at0 ps i - at0 qs i) + c ≤ d * at0 ws i → W * (ps.sum - qs.sum) + c ≤ d * ws.sum
  | p :: ps, q :: qs, w :: ws, 0, h1, h2, h, _, hc => by
    have ih := lin_sum W d ps qs ws (by simpa using h1) (by simpa using h2) fun k hk => h (k + 1) (Nat.succ_lt_succ hk)
    have h0 : W * (p - q) + c ≤ d * w := hc
    rw [List.sum_cons, List.sum_cons, List.sum_cons]
    have e1 : W * (p + ps.sum - (q + qs.sum)) = W * (p - q) + W * (ps.sum - qs.sum) := by grind
    rw [e1, Int.mul_add]
    omega
  | p :: ps, q :: qs, w :: ws, i + 1, h1, h2, h, hi, hc => by
    have ih := lin_sum1 W d c ps qs ws i (by simpa using h1) (by simpa using h2) (fun k hk => h (k + 1) (Nat.succ_lt_succ hk)) (Nat.lt_of_succ_lt_succ hi) hc
    have h0 : W * (p - q) ≤ d * w := h 0 (Nat.succ_pos _)
    rw [List.sum_cons, List.sum_cons, List.sum_cons]
    have e1 : W * (p + ps.sum - (q + qs.sum)) = W * (p - q) + W * (ps.sum - qs.sum) := by grind
    rw [e1, Int.mul_add]
    omega
  | _, _, [], _, _, _, _, h, _ => absurd h (Nat.not_lt_zero _)
  | [], _, _ :: _, _, h, _, _, _, _ => by simp at h
  | _ :: _, [], _ :: _, _, _, h, _, _, _ => by simp at h
/-- somebody may get the next cent -/
theorem elig_ex {ws ps : List Int} {n : Int} (hl : ps.length = ws.length) (hW : 0 < ws.sum) (hs : ps.sum < n) : ∃ i, i < ws.length ∧ Elig ws ps ws.sum n i := by
  by_cases h : ∃ i, i < ws.length ∧ Elig ws ps ws.sum n i
  · exact h
  · exfalso
    have h0 : ∀ k, k < ws.length → (-ws.sum) * (at0 ps k - at0 (ws.map fun _ => 0) k) ≤ (-n) * at0 ws k := by
      intro k hk
      have e0 : at0 (ws.map fun _ => (0 : Int)) k = 0 := at0_of (by rw [List.getElem?_map, at0_lt hk]; rfl)
      have h1 : ¬ at0 ps k * ws.sum < n * at0 ws k := fun e => h ⟨k, hk, e⟩
      rw [e0]
      have e1 : (-ws.sum) * (at0 ps k - 0) = -(at0 ps k * ws.sum) := by grind
      have e2 : (-n) * at0 ws k = -(n * at0 ws k) := by grind
      rw [e1, e2]
      omega
    have hz : ∀ l : List Int, (l.map fun _ => (0 : Int)).sum = 0 := by
      intro l
      induction l with
      | nil => rfl
      | cons x r ih => rw [List.map_cons, List.sum_cons, ih]; rfl
    have := lin_sum (-ws.sum) (-n) ps (ws.map fun _ => 0) ws hl (List.length_map ..) h0
    rw [hz] at this
    have e3 : (-ws.sum) * (ps.sum - 0) = -(ps.sum * ws.sum) := by grind
    have e4 : (-n) * ws.sum = -(n * ws.sum) := by grind
    rw [e3, e4] at this
    have h5 : ps.sum * ws.sum < n * ws.sum := Int.mul_lt_mul_of_pos_right hs hW
    omega
/-- whose turn it is -/
def ch (ws ps : List Int) (n : Int) : Nat := (nd ws ps ws.sum n ws.length).getD 0
theorem ch_spec {ws ps : List Int} {n : Int} (hl : ps.length = ws.length) (hW : 0 < ws.sum) (hs : ps.sum < n) : nd ws ps ws.sum n ws.length = some (ch ws ps n) ∧ ch ws ps n < ws.length ∧ Elig ws ps ws.sum n (ch ws ps n) ∧
    ∀ k, k < ws.length → Elig ws ps ws.sum n k → due ws ps ws.sum (ch ws ps n) < due ws ps ws.sum k ∨ (due ws ps ws.sum (ch ws ps n) = due ws ps ws.sum k ∧ ch ws ps n ≤ k) := by
  cases h : nd ws ps ws.sum n ws.length with
  | none =>
    obtain ⟨i, h1, h2⟩ := elig_ex hl hW hs
    exact absurd h2 (nd_none _ h i h1)
  | some r =>
    have e : ch ws ps n = r := by unfold ch; rw [h]; rfl
    rw [e]
    exact ⟨rfl, nd_some _ r h⟩
/-- the parts behind n cents -/
def run (ws : List Int) : Nat → List Int
  | 0 => ws.map fun _ => 0
  | n + 1 => bump (run ws n) (ch ws (run ws n) ((n + 1 : Nat) : Int))
theorem run_len (ws : List Int) : ∀ n, (run ws n).length = ws.length
  | 0 => List.length_map ..
  | n + 1 => by
    show (bump _ _).length = _
    rw [bump_len, run_len ws n]
theorem zeros_sum : ∀ l : List Int, (l.map fun _ => (0 : Int)).sum = 0
  | [] => rfl
  | x :: r => by rw [List.map_cons, List.sum_cons, zeros_sum r]; rfl
theorem at0_zeros (ws : List Int) (i : Nat) : at0 (ws.map fun _ => (0 : Int)) i = 0 := by
  by_cases h : i < ws.length
  · exact at0_of (by rw [List.getElem?_map, at0_lt h]; rfl)
  · exact at0_out (by rw [List.length_map]; omega)
theorem run_sum {ws : List Int} (hW : 0 < ws.sum) : ∀ n : Nat, (run ws n).sum = n
  | 0 => zeros_sum ws
  | n + 1 => by
    have ih := run_sum hW n
    have hc := (ch_spec (n := ((n + 1 : Nat) : Int)) (run_len ws n) hW (by omega)).2.1
    show (bump _ _).sum = _
    rw [bump_sum (by rw [run_len]; exact hc), ih]
    omega
theorem run_ch {ws : List Int} (hW : 0 < ws.sum) (n : Nat) : nd ws (run ws n) ws.sum ((n + 1 : Nat) : Int) ws.length = some (ch ws (run ws n) ((n + 1 : Nat) : Int)) ∧ ch ws (run ws n) ((n + 1 : Nat) : Int) < ws.length ∧ Elig ws (run ws n) ws.sum ((n + 1 : Nat) : Int) (ch ws (run ws n) ((n + 1 : Nat) : Int)) ∧
    ∀ k, k < ws.length → Elig ws (run ws n) ws.sum ((n + 1 : Nat) : Int) k → due ws (run ws n) ws.sum (ch ws (run ws n) ((n + 1 : Nat) : Int)) < due ws (run ws n) ws.sum k ∨ (due ws (run ws n) ws.sum (ch ws (run ws n) ((n + 1 : Nat) : Int)) = due ws (run ws n) ws.sum k ∧ ch ws (run ws n) ((n + 1 : Nat) : Int) ≤ k) :=
  ch_spec (run_len ws n) hW (by rw [run_sum hW]; omega)
theorem run_at {ws : List Int} (hW : 0 < ws.sum) (n i : Nat) : at0 (run ws (n + 1)) i = if i = ch ws (run ws n) ((n + 1 : Nat) : Int) then at0 (run ws n) (ch ws (run ws n) ((n + 1 : Nat) : Int)) + 1 else at0 (run ws n) i :=
  at0_bump (by rw [run_len]; exact (run_ch hW n).2.1)
theorem run_up {ws : List Int} (hW : 0 < ws.sum) (n i : Nat) : at0 (run ws n) i ≤ at0 (run ws (n + 1)) i := by
  rw [run_at hW]
  split
  · rename_i h
    rw [h]
    omega
  · omega
theorem run_mono {ws : List Int} (hW : 0 < ws.sum) (i : Nat) {m n : Nat} (h : m ≤ n) : at0 (run ws m) i ≤ at0 (run ws n) i := by
  induction h with
  | refl => exact Int.le_refl _
  | step _ ih => exact Int.le_trans ih (run_up hW _ i)
theorem run_nn {ws : List Int} (hW : 0 < ws.sum) (n i : Nat) : 0 ≤ at0 (run ws n) i := by
  have := run_mono hW i (Nat.zero_le n)
  have e : at0 (run ws 0) i = 0 := at0_zeros ws i
  omega
/-- not a cent too much -/
theorem run_upper {ws : List Int} (hw : ∀ i, 0 ≤ at0 ws i) (hW : 0 < ws.sum) : ∀ (n i : Nat), at0 (run ws n) i * ws.sum < (n : Int) * at0 ws i + ws.sum
  | 0, i => by
    have e : at0 (run ws 0) i = 0 := at0_zeros ws i
    rw [e]
    simp only [Int.zero_mul, Int.natCast_zero, Int.zero_add]
    exact hW
  | n + 1, i => by
    have ih := run_upper hw hW n i
    have he : at0 (run ws n) _ * ws.sum < ((n + 1 : Nat) : Int) * at0 ws _ := (run_ch hW n).2.2.1
    rw [run_at hW]
    split
    · rename_i h
      rw [← h] at he ⊢
      rw [Int.add_mul]
      omega
    · have e2 : ((n + 1 : Nat) : Int) * at0 ws i = (n : Int) * at0 ws i + at0 ws i := by grind
      have := hw i
      rw [e2]
      omega
theorem due_le {ws ps : List Int} {W n : Int} {i : Nat} (hw : 0 < at0 ws i) : due ws ps W i ≤ n ↔ (at0 ps i + 1) * W ≤ n * at0 ws i := by
  unfold due
  generalize (at0 ps i + 1) * W = x
  generalize at0 ws i = w at *
  constructor
  · intro h
    have h1 := Int.lt_ediv_add_one_mul_self (x + w - 1) hw
    have h2 : (x + w - 1) / w * w ≤ n * w := Int.mul_le_mul_of_nonneg_right h (by omega)
    rw [Int.add_mul] at h1
    omega
  · intro h
    have : (x + w - 1) / w < n + 1 := Int.ediv_lt_of_lt_mul hw (by rw [Int.add_mul]; omega)
    omega
theorem elig_pos {ws ps : List Int} {W n : Int} {i : Nat} (hw : 0 ≤ at0 ws i) (hp : 0 ≤ at0 ps i) (hW : 0 < W) (h : Elig ws ps W n i) : 0 < at0 ws i := by
  by_cases e : at0 ws i = 0
  · unfold Elig at h
    rw [e, Int.mul_zero] at h
    have := Int.mul_nonneg hp (Int.le_of_lt hW)
    omega
  · omega
/-- not a cent too little -/
theorem run_lower {ws : List Int} (hw : ∀ i, 0 ≤ at0 ws i) (hW : 0 < ws.sum) (n i : Nat) (hi : i < ws.length) : (n : Int) * at0 ws i < (at0 (run ws n) i + 1) * ws.sum := by
  by_cases hgoal : (n : Int) * at0 ws i < (at0 (run ws n) i + 1) * ws.sum
  · exact hgoal
  exfalso
  -- the last cent that went to somebody whose time was later than n
  have hlast : ∀ m, m ≤ n → ∃ t, t ≤ m ∧ (∀ s, t < s → s ≤ m → ∀ k, at0 (run ws (s - 1)) k < at0 (run ws s) k → at0 (run ws s) k * ws.sum ≤ (n : Int) * at0 ws k) ∧
      (t = 0 ∨ ∃ a, a = ch ws (run ws (t - 1)) (t : Int) ∧ 0 < t ∧ (n : Int) * at0 ws a < at0 (run ws t) a * ws.sum) := by
    intro m
    induction m with
    | zero => exact fun _ => ⟨0, Nat.le_refl _, fun s h1 h2 => by omega, .inl rfl⟩
    | succ m ih =>
      intro hm
      obtain ⟨t, h1, h2, h3⟩ := ih (by omega)
      by_cases hl : (n : Int) * at0 ws (ch ws (run ws m) ((m + 1 : Nat) : Int)) < at0 (run ws (m + 1)) (ch ws (run ws m) ((m + 1 : Nat) : Int)) * ws.sum
      · exact ⟨m + 1, Nat.le_refl _, fun s h4 h5 => by omega, .inr ⟨_, rfl, Nat.succ_pos _, hl⟩⟩
      · refine ⟨t, by omega, fun s h4 h5 k hk => ?_, h3⟩
        by_cases hs : s = m + 1
        · subst hs
          have hk' : at0 (run ws m) k < at0 (run ws (m + 1)) k := hk
          have : k = ch ws (run ws m) ((m + 1 : Nat) : Int) := by
            rw [run_at hW] at hk'
            by_cases e : k = ch ws (run ws m) ((m + 1 : Nat) : Int)
            · exact e
            · rw [if_neg e] at hk'
              omega
          rw [this]
          omega
        · exact h2 s h4 (by omega) k hk
  obtain ⟨t, ht, hA, hB⟩ := hlast n (Nat.le_refl _)
  have claimA : ∀ k m, t ≤ m → m ≤ n → at0 (run ws m) k = at0 (run ws t) k ∨ at0 (run ws m) k * ws.sum ≤ (n : Int) * at0 ws k := by
    intro k m
    induction m with
    | zero =>
      intro h1 _
      have : t = 0 := by omega
      rw [this]
      exact .inl rfl
    | succ m ih =>
      intro h1 h2
      by_cases e : t = m + 1
      · rw [e]
        exact .inl rfl
      · by_cases hk : at0 (run ws m) k < at0 (run ws (m + 1)) k
        · exact .inr (hA (m + 1) (by omega) h2 k hk)
        · have := run_up hW m k
          have e2 : at0 (run ws (m + 1)) k = at0 (run ws m) k := by omega
          rw [e2]
          exact ih (by omega) (by omega)
  have claimB : ∀ k, k < ws.length → (t : Int) * at0 ws k ≤ at0 (run ws t) k * ws.sum ∨ (n : Int) * at0 ws k < (at0 (run ws t) k + 1) * ws.sum := by
    intro k hk
    rcases hB with h0 | ⟨a, ea, ht0, hl⟩
    · subst h0
      left
      have := Int.mul_nonneg (run_nn hW 0 k) (Int.le_of_lt hW)
      simp only [Int.natCast_zero, Int.zero_mul]
      exact this
    · obtain ⟨m, rfl⟩ : ∃ m, t = m + 1 := ⟨t - 1, by omega⟩
      have ea : a = ch ws (run ws m) ((m + 1 : Nat) : Int) := ea
      subst ea
      obtain ⟨_, hc1, hc2, hc3⟩ := run_ch hW m
      have hup := run_up hW m k
      have hp := run_nn hW m k
      by_cases he : Elig ws (run ws m) ws.sum ((m + 1 : Nat) : Int) k
      · right
        have hd := hc3 k hk he
        rw [run_at hW, if_pos rfl] at hl
        have wa := elig_pos (hw _) (run_nn hW m _) hW hc2
        have wk := elig_pos (hw _) hp hW he
        have d1 : ¬ due ws (run ws m) ws.sum (ch ws (run ws m) ((m + 1 : Nat) : Int)) ≤ (n : Int) := by rw [due_le wa]; omega
        have d2 : ¬ due ws (run ws m) ws.sum k ≤ (n : Int) := by omega
        rw [due_le wk] at d2
        have : (at0 (run ws m) k + 1) * ws.sum ≤ (at0 (run ws (m + 1)) k + 1) * ws.sum := Int.mul_le_mul_of_nonneg_right (by omega) (by omega)
        omega
      · left
        have he' : ¬ at0 (run ws m) k * ws.sum < ((m + 1 : Nat) : Int) * at0 ws k := he
        have : at0 (run ws m) k * ws.sum ≤ at0 (run ws (m + 1)) k * ws.sum := Int.mul_le_mul_of_nonneg_right hup (by omega)
        omega
  have hpoint : ∀ k, k < ws.length → ws.sum * (at0 (run ws n) k - at0 (run ws t) k) ≤ ((n : Int) - t) * at0 ws k := by
    intro k hk
    have hm := run_mono hW k ht
    by_cases e : at0 (run ws n) k = at0 (run ws t) k
    · rw [e, Int.sub_self, Int.mul_zero]
      exact Int.mul_nonneg (by omega) (hw k)
    · have h1 := (claimA k n ht (Nat.le_refl _)).resolve_left e
      rcases claimB k hk with h2 | h2
      · have e1 : ws.sum * (at0 (run ws n) k - at0 (run ws t) k) = at0 (run ws n) k * ws.sum - at0 (run ws t) k * ws.sum := by grind
        have e2 : ((n : Int) - t) * at0 ws k = (n : Int) * at0 ws k - (t : Int) * at0 ws k := by grind
        rw [e1, e2]
        omega
      · have : (at0 (run ws t) k + 1) * ws.sum ≤ at0 (run ws n) k * ws.sum := Int.mul_le_mul_of_nonneg_right (by omega) (by omega)
        omega
  have hi2 : ws.sum * (at0 (run ws n) i - at0 (run ws t) i) + ws.sum ≤ ((n : Int) - t) * at0 ws i := by
    have hm := run_mono hW i ht
    rcases claimB i hi with h2 | h2
    · have e1 : ws.sum * (at0 (run ws n) i - at0 (run ws t) i) + ws.sum = (at0 (run ws n) i + 1) * ws.sum - at0 (run ws t) i * ws.sum := by grind
      have e2 : ((n : Int) - t) * at0 ws i = (n : Int) * at0 ws i - (t : Int) * at0 ws i := by grind
      rw [e1, e2]
      omega
    · have : (at0 (run ws t) i + 1) * ws.sum ≤ (at0 (run ws n) i + 1) * ws.sum := Int.mul_le_mul_of_nonneg_right (by omega) (by omega)
      omega
  have hsum := lin_sum1 ws.sum ((n : Int) - t) ws.sum (run ws n) (run ws t) ws i (run_len ..) (run_len ..) hpoint hi hi2
  rw [run_sum hW, run_sum hW] at hsum
  have : ws.sum * ((n : Int) - t) = ((n : Int) - t) * ws.sum := Int.mul_comm ..
  omega

def nats (G : List Nat) : List V := G.map fun (k : Nat) => V.int (k : Int)

/-! min of a list of pairs of ints: the library's loop, with a comparison that may read the heap -/
section
variable {prog : Program} {w : World} {A : Around} {R : Result → Shared → Prop} {it : Addr} {seen mine : List Addr} {cnt : Nat} {Itm : Nat → Value → Prop} {Pos : Nat → Heap → Prop}
/-- the objects apart from the iterator's and the slot's stay -/
def Stays (mine : List Addr) (slot : Addr) (g g' : Heap) : Prop := ∀ c ob, c ∉ mine → c ≠ slot → g.get? c = some ob → g'.get? c = some ob
theorem pmin_loop (Wk : Walks prog w A.in1 it seen mine cnt Itm Pos) (less : Nat → Nat → Bool) (slot : Addr) (hslot : slot ∉ seen) (Kp : Heap → Prop) (hKp : ∀ g g', Kp g → Stays mine slot g g' → Kp g')
    (hless : ∀ a b va vb (sh : Shared) (Qc : Value → Shared → Prop) (Ec : Value → Shared → Prop), Itm a va → Itm b vb → Kp sh.heap → Qc (.bool (less a b)) sh → wpAny (model prog w) A.in1 (richCompare .Lt va vb) Qc Ec sh) :
    ∀ (left at_ : Nat) (sh : Shared) (best : Value) (tick : Nat), left = cnt - (at_ + 1) → at_ + 1 ≤ cnt → Pos (at_ + 1) sh.heap → Itm (argBest less at_) best → Kp sh.heap →
      sh.heap.get? slot = some { cls := .type "list", dict := none, data := .seq #[best, best] tick, slots := #[] } →
      (∀ res g' tk, Itm (argBest less (cnt - 1)) res → Stays mine slot sh.heap g' → R (.ok (.ret res)) { sh with heap := g', toks := tk }) →
      codeAny (model prog w) A (.builtin "min.loop" ⟨[.ref it, .none, .ref slot], []⟩) R sh := by
  have nmine : slot ∉ mine := fun z => hslot (Wk.sub _ z)
  have nm : (toString "min" ++ toString ".loop" : String) = "min.loop" := by decide
  intro left
  induction left with
  | zero =>
    intro at_ sh best tick e0 e1 hpos hbest hk hs hres
    have e2 : at_ + 1 = cnt := by omega
    rw [e2] at hpos
    refine codeAny_builtin PySem.F.entry_min_loop ?_
    rw [Around.under_plainId PySem.F.plain_min_loop _]
    refine wpAny_bind (wpAny_seqItems hs rfl ?_)
    refine wpAny_bind (wpAny_tryCatch (Wk.done sh _ _ hpos fun g' tk kept => ?_))
    have hs' := kept slot _ nmine hs
    refine wpAny_bind (wpAny_updateSeq hs' rfl (wpAny_bind (wpAny_letGo (wpAny_pure ?_))))
    refine hres best _ tk ?_ fun c ob c1 c2 e => (Heap.get?_update_other _ _ (Ne.symm c2)).trans (kept c ob c1 e)
    have e3 : cnt - 1 = at_ := by omega
    rw [e3]
    exact hbest
  | succ left ih =>
    intro at_ sh best tick e0 e1 hpos hbest hk hs hres
    have hlt : at_ + 1 < cnt := by omega
    refine codeAny_builtin PySem.F.entry_min_loop ?_
    rw [Around.under_plainId PySem.F.plain_min_loop _]
    refine wpAny_bind (wpAny_seqItems hs rfl ?_)
    refine wpAny_bind (wpAny_tryCatch (Wk.item (at_ + 1) sh _ _ hlt hpos fun v g' tk hv hpos' kept => ?_))
    have hs' := kept slot _ nmine hs
    have st1 : Stays mine slot sh.heap g' := fun c ob c1 _ e => kept c ob c1 e
    have hk' : Kp g' := hKp _ _ hk st1
    show wpAny (model prog w) A.in1 (tryCatch (holding [v, v] (richCompare .Lt v best >>= _)) _ >>= _) _ _ _
    refine wpAny_bind (wpAny_tryCatch (wpAny_holding (wpAny_bind (hless (at_ + 1) (argBest less at_) v best _ _ _ hv hbest hk' ?_))))
    refine wpAny_bind (wpAny_holding (wpAny_truthy_bool ?_))
    refine wpAny_bind (wpAny_letGo (wpAny_pure ?_))
    cases hb : less (at_ + 1) (argBest less at_) with
    | true =>
      simp only [if_true]
      have eb : argBest less (at_ + 1) = at_ + 1 := if_pos hb
      refine wpAny_bind (wpAny_updateSeq hs' rfl (wpAny_bind (wpAny_letGo ?_)))
      rw [nm]
      refine wpAny_pure ⟨plainId_quiet PySem.F.plain_min_loop _, ih (at_ + 1) _ v _ (by omega) hlt (Wk.frame _ _ _ hpos' fun c hc ob e => ?_) (by rw [eb]; exact hv) (hKp _ _ hk' fun c ob _ c2 e => (Heap.get?_update_other _ _ (Ne.symm c2)).trans e) (Heap.get?_update_self _ hs' rfl) fun res g2 tk2 r1 r2 => ?_⟩
      · exact (Heap.get?_update_other _ _ (fun z : slot = c => hslot (by rw [z]; exact hc))).trans e
      · exact hres res g2 tk2 r1 fun c ob c1 c2 e => r2 c ob c1 c2 ((Heap.get?_update_other _ _ (Ne.symm c2)).trans (st1 c ob c1 c2 e))
    | false =>
      simp only [Bool.false_eq_true, if_false]
      have eb : argBest less (at_ + 1) = argBest less at_ := if_neg (by rw [hb]; exact Bool.false_ne_true)
      refine wpAny_bind (wpAny_letGo ?_)
      rw [nm]
      refine wpAny_pure ⟨plainId_quiet PySem.F.plain_min_loop _, ih (at_ + 1) _ best tick (by omega) hlt hpos' (by rw [eb]; exact hbest) hk' hs' fun res g2 tk2 r1 r2 => ?_⟩
      exact hres res g2 tk2 r1 fun c ob c1 c2 e => r2 c ob c1 c2 (st1 c ob c1 c2 e)
theorem pmin_start (Wk : Walks prog w A.in1 it seen mine cnt Itm Pos) (less : Nat → Nat → Bool) (slot : Addr) (hslot : slot ∉ seen) (Kp : Heap → Prop) (hKp : ∀ g g', Kp g → Stays mine slot g g' → Kp g')
    (hless : ∀ a b va vb (sh : Shared) (Qc : Value → Shared → Prop) (Ec : Value → Shared → Prop), Itm a va → Itm b vb → Kp sh.heap → Qc (.bool (less a b)) sh → wpAny (model prog w) A.in1 (richCompare .Lt va vb) Qc Ec sh)
    (hcnt : 0 < cnt) {sh : Shared} {tick : Nat} (hpos : Pos 0 sh.heap) (hk : Kp sh.heap) (hs : sh.heap.get? slot = some { cls := .type "list", dict := none, data := .seq #[] tick, slots := #[] })
    (hres : ∀ res g' tk, Itm (argBest less (cnt - 1)) res → Stays mine slot sh.heap g' → R (.ok (.ret res)) { sh with heap := g', toks := tk }) :
    codeAny (model prog w) A (.builtin "min.loop" ⟨[.ref it, .none, .ref slot], []⟩) R sh := by
  have nmine : slot ∉ mine := fun z => hslot (Wk.sub _ z)
  have nm : (toString "min" ++ toString ".loop" : String) = "min.loop" := by decide
  refine codeAny_builtin PySem.F.entry_min_loop ?_
  rw [Around.under_plainId PySem.F.plain_min_loop _]
  refine wpAny_bind (wpAny_seqItems hs rfl ?_)
  refine wpAny_bind (wpAny_tryCatch (Wk.item 0 sh _ _ hcnt hpos fun v g' tk hv hpos' kept => ?_))
  have hs' := kept slot _ nmine hs
  have st1 : Stays mine slot sh.heap g' := fun c ob c1 _ e => kept c ob c1 e
  show wpAny (model prog w) A.in1 (updateSeq slot (fun _ => #[v, v]) >>= _) _ _ _
  refine wpAny_bind (wpAny_updateSeq hs' rfl ?_)
  rw [nm]
  refine wpAny_pure ⟨plainId_quiet PySem.F.plain_min_loop _, pmin_loop Wk less slot hslot Kp hKp hless _ 0 _ v _ rfl hcnt (Wk.frame _ _ _ hpos' fun c hc ob e => ?_) hv
    (hKp _ _ (hKp _ _ hk st1) fun c ob _ c2 e => (Heap.get?_update_other _ _ (Ne.symm c2)).trans e) (Heap.get?_update_self _ hs' rfl) fun res g2 tk2 r1 r2 => ?_⟩
  · exact (Heap.get?_update_other _ _ (fun z : slot = c => hslot (by rw [z]; exact hc))).trans e
  · exact hres res g2 tk2 r1 fun c ob c1 c2 e => r2 c ob c1 c2 ((Heap.get?_update_other _ _ (Ne.symm c2)).trans (st1 c ob c1 c2 e))
end
section
variable {prog : Program} {w : World} {A : Around} {E : Value → Shared → Prop} {sh : Shared}
theorem addr_ne {h : Heap} {c : Addr} {o : Obj} {n : Nat} (e : h.get? c = some o) (hn : h.objs.size ≤ n) : c ≠ n := Nat.ne_of_lt (Nat.lt_of_lt_of_le (Heap.lt_size e) hn)
theorem pmin_call {l : Addr} {its : Array Value} {Q : Value → Shared → Prop} (hh : A.in1.handled = none) (hl : sh.heap.IsList l its) (less : Nat → Nat → Bool) (hcnt : 0 < its.size)
    (hless : ∀ a b va vb (s2 : Shared) (Qc : Value → Shared → Prop) (Ec : Value → Shared → Prop), its[a]? = some va → its[b]? = some vb → (∀ c ob, sh.heap.get? c = some ob → s2.heap.get? c = some ob) → Qc (.bool (less a b)) s2 →
      wpAny (model prog w) A.in1 (richCompare .Lt va vb) Qc Ec s2)
    (hres : ∀ res g' tk, its[argBest less (its.size - 1)]? = some res → (∀ c ob, sh.heap.get? c = some ob → g'.get? c = some ob) → Q res { sh with heap := g', toks := tk }) :
    wpAny (model prog w) A (call (.builtin "min") [.ref l]) Q E sh := by
  have nm : (toString "min" ++ toString ".loop" : String) = "min.loop" := by decide
  have hlt : l < sh.heap.objs.size := by obtain ⟨_, e, _⟩ := hl; exact Heap.lt_size e
  refine call_function_tree PySem.F.kind_min PySem.F.plain_min PySem.F.entry_min (PySem.F.args_min1 _) ?_
  refine wpAny_bind (wpAny_of_eq (show Builtin.Builtins.bindParams "min" ["key", "default"] 0 ⟨[], []⟩ = pure [none, none] from rfl) ?_)
  refine wpAny_bind (wpAny_pure ?_)
  refine wpAny_bind (wpAny_pyIter_list hl ?_)
  refine wpAny_bind (wpAny_newObj_type ?_)
  rw [nm]
  generalize hg1 : sh.heap.push { cls := .type "list_iterator", data := .fields #[.ref l, .int 0 0] } = g1
  have sz1 : g1.objs.size = sh.heap.objs.size + 1 := by rw [← hg1]; exact Heap.size_push _ _
  have old1 : ∀ c ob, sh.heap.get? c = some ob → g1.get? c = some ob := fun c ob e => by rw [← hg1]; exact Heap.get?_push_of_some _ e
  have iter1 : g1.IsListIter sh.heap.objs.size l 0 := by rw [← hg1]; exact ⟨_, Heap.get?_push_size _ rfl, rfl, rfl⟩
  have list1 : g1.IsList l its := by rw [← hg1]; exact hl.push _
  have neI : l ≠ sh.heap.objs.size := Nat.ne_of_lt hlt
  have ns : g1.objs.size ∉ [sh.heap.objs.size, l] := by
    intro z
    rcases List.mem_cons.mp z with z | z
    · have z : g1.objs.size = sh.heap.objs.size := z
      omega
    · have z2 : g1.objs.size = l := List.mem_singleton.mp z
      rw [← z2, sz1] at hlt
      exact Nat.not_succ_lt_self hlt
  have Wk := Walks.list (prog := prog) (w := w) (A := A.in1) hh sh.heap.objs.size l neI its
  have old2 : ∀ o c ob, g1.get? c = some ob → (g1.push o).get? c = some ob := fun o c ob e => Heap.get?_push_of_some _ e
  refine wpAny_pure ⟨plainId_quiet PySem.F.plain_min_loop _, pmin_start Wk less g1.objs.size ns (fun g => ∀ c ob, sh.heap.get? c = some ob → g.get? c = some ob) (fun g g' h1 h2 c ob e => ?_) hless hcnt
    (Wk.frame _ _ _ ⟨iter1, list1⟩ fun c _ ob e => old2 _ c ob e) (fun c ob e => old2 _ c ob (old1 c ob e)) (Heap.get?_push_size _ rfl) fun res g' tk r1 r2 => ?_⟩
  · exact h2 c ob (fun z => addr_ne e (Nat.le_refl _) (List.mem_singleton.mp z)) (addr_ne e (by omega)) (h1 c ob e)
  · exact hres res g' tk r1 fun c ob e => r2 c ob (fun z => addr_ne e (Nat.le_refl _) (List.mem_singleton.mp z)) (addr_ne e (by omega)) (old2 _ c ob (old1 c ob e))
end
/-- one pair goes ahead of another -/
def pLt (p q : Int × Int) : Bool := if p.1 = q.1 then decide (p.2 < q.2) else decide (p.1 < q.1)
theorem pLt_lex (p q : Int × Int) : HT.lexLt [p.1, p.2] [q.1, q.2] = pLt p q := by
  unfold pLt
  rw [HT.lexLt_cons, HT.lexLt_cons, HT.lexLt_nil_nil]
  split
  · split
    · rename_i h
      exact (decide_eq_false (by omega)).symm
    · rfl
  · rfl
theorem pLt_iff (p q : Int × Int) : pLt p q = true ↔ p.1 < q.1 ∨ (p.1 = q.1 ∧ p.2 < q.2) := by
  unfold pLt
  split
  · rw [decide_eq_true_eq]; omega
  · rw [decide_eq_true_eq]; omega
theorem argBest_least (f : Nat → Int × Int) : ∀ n, argBest (fun i j => pLt (f i) (f j)) n ≤ n ∧ ∀ k, k ≤ n → pLt (f k) (f (argBest (fun i j => pLt (f i) (f j)) n)) = false
  | 0 => ⟨Nat.le_refl _, fun k hk => by
      have : k = 0 := by omega
      subst this
      cases h : pLt (f 0) (f 0) with
      | false => exact h
      | true => rw [pLt_iff] at h; omega⟩
  | n + 1 => by
    obtain ⟨h1, h2⟩ := argBest_least f n
    generalize hb : argBest (fun i j => pLt (f i) (f j)) n = b at *
    by_cases e : pLt (f (n + 1)) (f b) = true
    · have eb : argBest (fun i j => pLt (f i) (f j)) (n + 1) = n + 1 := by
        show (if pLt (f (n + 1)) (f (argBest (fun i j => pLt (f i) (f j)) n)) = true then _ else _) = _
        rw [hb, if_pos e]
      rw [eb]
      refine ⟨Nat.le_refl _, fun k hk => ?_⟩
      cases h : pLt (f k) (f (n + 1)) with
      | false => rfl
      | true =>
        rw [pLt_iff] at h e
        by_cases hk2 : k = n + 1
        · rw [hk2] at h
          omega
        · have h3 := h2 k (by omega)
          have h4 : ¬ (pLt (f k) (f b) = true) := by rw [h3]; exact Bool.false_ne_true
          rw [pLt_iff] at h4
          omega
    · have eb : argBest (fun i j => pLt (f i) (f j)) (n + 1) = b := by
        show (if pLt (f (n + 1)) (f (argBest (fun i j => pLt (f i) (f j)) n)) = true then _ else _) = _
        rw [hb, if_neg e]
      rw [eb]
      refine ⟨by omega, fun k hk => ?_⟩
      by_cases hk2 : k = n + 1
      · rw [hk2]
        cases h : pLt (f (n + 1)) (f b) with
        | false => rfl
        | true => exact absurd h e
      · exact h2 k (by omega)
/-- min of a list of pairs of ints -/
def rMinP (K : PySem.W.Frag) : List V → Hp → VK → Prop := fun vs H Q => ∃ (a : Addr) (ts : List (Addr × Int × Int)), vs = [.ref a] ∧ SqL K H a (ts.map fun (t : Addr × Int × Int) => V.ref t.1) ∧ (∀ t, t ∈ ts → H t.1 = some (.tup [.int t.2.1, .int t.2.2])) ∧ 0 < ts.length ∧
  ∀ t, t ∈ ts → (∀ u, u ∈ ts → pLt u.2 t.2 = false) → Q (.ref t.1) H
theorem cr_minP {X : Cx} (hc : X.calm = true) (hu : X.A.in1.units < cLine) : CallR X (.builtin "min") (rMinP X.K) := by
  intro pins s σ H vs us Q I r h
  obtain ⟨a, ts, rfl, hs, ht, hne, q⟩ := h
  obtain ⟨its, rv, hl, _⟩ := I.list hs
  rw [Vals.ref1 r]
  have hlen : ts.length = its.length := by
    have := rv.length
    rw [List.length_map] at this
    exact this
  have hitem : ∀ (i : Nat) (v : Value), its.toArray[i]? = some v → ∃ t : Addr × Int × Int, ts[i]? = some t ∧ v = Value.ref t.1 := by
    intro i v e
    have hi : i < ts.length := by
      have := (Array.getElem?_eq_some_iff.mp e).1
      rw [List.size_toArray] at this
      omega
    obtain ⟨u, e1, e2⟩ := rv.get (i := i) (x := V.ref ts[i].1) (by rw [List.getElem?_map, List.getElem?_eq_getElem hi]; rfl)
    have e3 : its[i]? = some v := by simpa using e
    rw [e1] at e3
    cases e3
    exact ⟨ts[i], List.getElem?_eq_getElem hi, e2⟩
  let f : Nat → Int × Int := fun i => (ts.getD i (0, 0, 0)).2
  have hf : ∀ (i : Nat) (t : Addr × Int × Int), ts[i]? = some t → f i = t.2 := fun i t e => by
    show (ts.getD i (0, 0, 0)).2 = t.2
    rw [List.getD_eq_getElem?_getD, e]
    rfl
  have hh : X.A.in1.handled = none := I.ok.hd hc
  refine pmin_call hh hl.isList (fun i j => pLt (f i) (f j)) (by rw [List.size_toArray]; omega) ?_ ?_
  · intro i j va vb s2 Qc Ec ea eb keep hq
    obtain ⟨t, e1, rfl⟩ := hitem i va ea
    obtain ⟨u, e2, rfl⟩ := hitem j vb eb
    obtain ⟨_, its1, r1, p1⟩ := I.hok _ _ (ht t (List.mem_of_getElem? e1))
    obtain ⟨_, its2, r2, p2⟩ := I.hok _ _ (ht u (List.mem_of_getElem? e2))
    have k1 : IsTup s2.heap t.1 its1.toArray := by
      obtain ⟨o, h1, h2⟩ := p1
      exact ⟨o, keep _ _ h1, h2⟩
    have k2 : IsTup s2.heap u.1 its2.toArray := by
      obtain ⟨o, h1, h2⟩ := p2
      exact ⟨o, keep _ _ h1, h2⟩
    have i1 : IntsAre its1.toArray.toList [t.2.1, t.2.2] := intsAre_of r1
    have i2 : IntsAre its2.toArray.toList [u.2.1, u.2.2] := intsAre_of r2
    refine (HT.lt_tupInts k1 k2 i1 i2 hu ?_ : wpAny (model X.prog X.w) X.A.in1 (compareOp .Lt (.ref t.1) (.ref u.1)) Qc Ec s2)
    rw [show HT.lexLt [t.2.1, t.2.2] [u.2.1, u.2.2] = pLt t.2 u.2 from pLt_lex t.2 u.2, ← hf i t e1, ← hf j u e2]
    exact hq
  · intro res g' tk e keep
    obtain ⟨t, e1, rfl⟩ := hitem _ res e
    obtain ⟨_, hb⟩ := argBest_least f (its.toArray.size - 1)
    refine ⟨.ref t.1, H, I.kept keep, rfl, q t (List.mem_of_getElem? e1) fun u hu' => ?_⟩
    obtain ⟨i, hi, rfl⟩ := List.mem_iff_getElem.mp hu'
    have := hb i (by rw [List.size_toArray]; omega)
    rw [hf i _ (List.getElem?_eq_getElem hi), hf _ t e1] at this
    exact this

theorem in1_lt {k : Nat} {A : Around} (hr : Room k A) : A.in1.units < cLine := by
  have := hr.un
  simp only [Around.in1_units]
  omega
/-- a comprehension over enumerate(xs) -/
theorem lc_enum {K : PySem.W.Frag} {a : Addr} {xs : List V} {g : TG} {tt : TT} {te : TE} {vs : List Nat} {σ : L2.St} {H1 : Hp} {D : Addr} {Qd : Hp → Prop} (Pv : Nat → Hp → Prop) (h0 : Pv 0 (upd H1 D (.lst []))) (hl : ∀ i H, i ≤ xs.length → Pv i H → SqL K H a xs)
    (hs : ∀ (i : Nat) (x : V) (H : Hp) (T : Addr), xs[i]? = some x → Pv i H → H T = none → g (.ref T) (wipe σ vs) (upd H T (.tup [.int (i : Int), x])) fun σ2 H2 => wipe σ2 vs = wipe σ vs ∧ tt σ2 H2 fun b H3 =>
      if b = true then te σ2 H3 fun y H4 => ∃ acc, H4 D = some (.lst acc) ∧ acc.length < sizeLine ∧ Pv (i + 1) (upd H4 D (.lst (acc ++ [y]))) else Pv (i + 1) H3) (hd : ∀ H, Pv xs.length H → Qd H) :
    ∃ W : Nat → Nat → Hp → Prop, (∃ m, W 0 m (upd H1 D (.lst []))) ∧ ∀ i m H, W i m H →
      ((Ite K a).stop i H ∧ Qd H) ∨ ((Ite K a).go i H ∧ ∃ Nx : Hp → Prop, (∀ H', Nx H' → ∃ m', m' < m ∧ W (i + 1) m' H') ∧ ∀ x H', (Ite K a).yld i H x H' → g x (wipe σ vs) H' fun σ2 H2 => wipe σ2 vs = wipe σ vs ∧ tt σ2 H2 fun b H3 =>
        if b = true then te σ2 H3 fun y H4 => ∃ acc, H4 D = some (.lst acc) ∧ acc.length < sizeLine ∧ Nx (upd H4 D (.lst (acc ++ [y]))) else Nx H3) := by
  refine ⟨fun i m H => m + i = xs.length ∧ Pv i H, ⟨xs.length, rfl, h0⟩, ?_⟩
  rintro i m H ⟨em, p⟩
  have q := hl i H (by omega) p
  by_cases hlt : i < xs.length
  · refine .inr ⟨⟨xs, xs[i], q, List.getElem?_eq_getElem hlt⟩, Pv (i + 1), fun H' p' => ⟨m - 1, by omega, by omega, p'⟩, fun x H' y => ?_⟩
    obtain ⟨T, z, rfl, nT, rfl, hz⟩ := y
    exact hs i z H T (hz xs q) p nT
  · have e : i = xs.length := by omega
    subst e
    exact .inl ⟨⟨xs, q, Nat.le_refl _⟩, hd H p⟩

/-- for i, x in enumerate(xs): each turn a new pair -/
theorem for_enum {K : PySem.W.Frag} {a : Addr} {xs : List V} {g : TG} {tb : TS} {D : Ends} {σ : L2.St} {H : Hp} (Pv : Nat → L2.St → Hp → Prop) (h0 : Pv 0 σ H) (hl : ∀ i σ H, i ≤ xs.length → Pv i σ H → SqL K H a xs)
    (hs : ∀ (i : Nat) (x : V) (σ : L2.St) (H : Hp) (T : Addr), xs[i]? = some x → Pv i σ H → H T = none → g (.ref T) σ (upd H T (.tup [.int (i : Int), x])) fun σ2 H2 => tb { D with nx := Pv (i + 1), ct := Pv (i + 1), bk := D.nx } σ2 H2) (hd : ∀ σ H, Pv xs.length σ H → D.nx σ H) :
    ∃ W : Nat → Nat → L2.St → Hp → Prop, (∃ m, W 0 m σ H) ∧ ∀ i m σ H, W i m σ H →
      ((Ite K a).stop i H ∧ D.nx σ H) ∨ ((Ite K a).go i H ∧ ∃ N : L2.St → Hp → Prop, (∀ σ' H', N σ' H' → ∃ m', m' < m ∧ W (i + 1) m' σ' H') ∧ ∀ x H', (Ite K a).yld i H x H' → g x σ H' fun σ2 H2 => tb { D with nx := N, ct := N, bk := D.nx } σ2 H2) := by
  refine ⟨fun i m σ H => m + i = xs.length ∧ Pv i σ H, ⟨xs.length, rfl, h0⟩, ?_⟩
  rintro i m σ H ⟨em, p⟩
  have q := hl i σ H (by omega) p
  by_cases hlt : i < xs.length
  · refine .inr ⟨⟨xs, xs[i], q, List.getElem?_eq_getElem hlt⟩, Pv (i + 1), fun σ' H' p' => ⟨m - 1, by omega, by omega, p'⟩, fun x H' y => ?_⟩
    obtain ⟨T, z, rfl, nT, rfl, hz⟩ := y
    exact hs i z σ H T (hz xs q) p nT
  · have e : i = xs.length := by omega
    subst e
    exact .inl ⟨⟨xs, q, Nat.le_refl _⟩, hd σ H p⟩
theorem call_int_b {X : Cx} : CallR X (.type "int") (fun xs H Q => ∃ b : Bool, xs = [.bl b] ∧ Q (.int (if b = true then 1 else 0)) H) := by
  intro pins s σ H xs us Q I r h
  obtain ⟨i, e, q⟩ := h
  exact call_int1 pins s σ H xs us Q I r (.inr ⟨i, e, q⟩)

/-- how items of one kind are told as data; equal data are equal items -/
structure LayD {α : Type} [DecidableEq α] (L : α → PyData) (k : Nat) (G : α → Prop) : Prop where
  lay : ∀ x, G x → (L x).canLay0 = true
  dep : ∀ x, (L x).depth ≤ k
  eqv : ∀ x y, PyData.eqv (L x) (L y) = decide (x = y)
theorem LayD.shaped {α : Type} [DecidableEq α] {L : α → PyData} {k : Nat} {G : α → Prop} (h : LayD L k G) (hk : k ≤ 64) {x : α} (g : G x) : SeqAt.shaped (L x) = true := by
  have h1 := h.lay x g
  have h2 := h.dep x
  unfold SeqAt.shaped
  rw [h1, Bool.true_and]
  exact decide_eq_true (by omega)
theorem layD_int : LayD PyData.int 0 (fun _ => True) := ⟨fun _ _ => rfl, fun _ => Nat.le_refl _, fun x y => by simp only [PyData.eqv]; exact (Bool.beq_eq_decide_eq x y)⟩
theorem layD_str : LayD PyData.str 0 (fun x => PyData.strOk x = true) := ⟨fun _ h => by simp only [PyData.canLay0]; exact h, fun _ => Nat.le_refl _, fun x y => by simp only [PyData.eqv]; exact (Bool.beq_eq_decide_eq x y)⟩
theorem decide_and2 {p q r : Prop} [Decidable p] [Decidable q] [Decidable r] (h : r ↔ p ∧ q) : (decide p && decide q) = decide r := by
  by_cases hp : p <;> by_cases hq : q <;> simp [h, hp, hq]
theorem layD_all {α : Type} [DecidableEq α] {L : α → PyData} {k : Nat} {G : α → Prop} (h : LayD L k G) : (∀ xs : List α, (∀ x, x ∈ xs → G x) → PyData.canLayAll0 (xs.map L) = true) ∧ (∀ xs : List α, PyData.depthAll (xs.map L) ≤ k) ∧ ∀ xs ys : List α, PyData.eqvAll (xs.map L) (ys.map L) = decide (xs = ys) := by
  refine ⟨fun xs => ?_, fun xs => ?_, fun xs => ?_⟩
  · induction xs with
    | nil => exact fun _ => rfl
    | cons x xs ih =>
      intro g
      rw [List.map_cons]
      simp only [PyData.canLayAll0, ih fun y hy => g y (List.mem_cons_of_mem _ hy), h.lay x (g x List.mem_cons_self)]
      rfl
  · induction xs with
    | nil => exact Nat.zero_le _
    | cons x xs ih => rw [List.map_cons]; simp only [PyData.depthAll]; exact Nat.max_le.mpr ⟨h.dep x, ih⟩
  · induction xs with
    | nil =>
      intro ys
      cases ys with
      | nil => rfl
      | cons y ys => simp [PyData.eqvAll]
    | cons x xs ih =>
      intro ys
      cases ys with
      | nil => simp [PyData.eqvAll]
      | cons y ys =>
        rw [List.map_cons, List.map_cons]
        simp only [PyData.eqvAll]
        rw [ih ys, h.eqv x y]
        exact decide_and2 (by rw [List.cons.injEq])
theorem LayD.list {α : Type} [DecidableEq α] {L : α → PyData} {k : Nat} {G : α → Prop} (h : LayD L k G) : LayD (fun xs : List α => PyData.list (xs.map L)) (k + 1) (fun xs => ∀ x, x ∈ xs → G x) := by
  obtain ⟨h1, h2, h3⟩ := layD_all h
  refine ⟨fun xs g => ?_, fun xs => ?_, fun xs ys => ?_⟩
  · simp only [PyData.canLay0]; exact h1 xs g
  · simp only [PyData.depth]; exact Nat.succ_le_succ (h2 xs)
  · simp only [PyData.eqv]; exact h3 xs ys
theorem LayD.tup2 {α β : Type} [DecidableEq α] [DecidableEq β] {L : α → PyData} {M : β → PyData} {k : Nat} {G : α → Prop} {G2 : β → Prop} (h : LayD L k G) (g : LayD M k G2) : LayD (fun x : α × β => PyData.tuple [L x.1, M x.2]) (k + 1) (fun x => G x.1 ∧ G2 x.2) := by
  refine ⟨fun x a => ?_, fun x => ?_, fun x y => ?_⟩
  · simp only [PyData.canLay0, PyData.canLayAll0, h.lay _ a.1, g.lay _ a.2, Bool.and_true]
  · simp only [PyData.depth, PyData.depthAll]
    have := h.dep x.1
    have := g.dep x.2
    omega
  · simp only [PyData.eqv, PyData.eqvAll, h.eqv, g.eqv, Bool.and_true]
    exact decide_and2 (by rw [Prod.ext_iff])
theorem LayD.tup3 {α β γ : Type} [DecidableEq α] [DecidableEq β] [DecidableEq γ] {L : α → PyData} {M : β → PyData} {N : γ → PyData} {k : Nat} {G : α → Prop} {G2 : β → Prop} {G3 : γ → Prop} (h : LayD L k G) (g : LayD M k G2) (e : LayD N k G3) : LayD (fun x : α × β × γ => PyData.tuple [L x.1, M x.2.1, N x.2.2]) (k + 1) (fun x => G x.1 ∧ G2 x.2.1 ∧ G3 x.2.2) := by
  refine ⟨fun x a => ?_, fun x => ?_, fun x y => ?_⟩
  · simp only [PyData.canLay0, PyData.canLayAll0, h.lay _ a.1, g.lay _ a.2.1, e.lay _ a.2.2, Bool.and_true]
  · simp only [PyData.depth, PyData.depthAll]
    have := h.dep x.1
    have := g.dep x.2.1
    have := e.dep x.2.2
    omega
  · simp only [PyData.eqv, PyData.eqvAll, h.eqv, g.eqv, e.eqv, Bool.and_true]
    rw [decide_and2 (r := x.2 = y.2) (by rw [Prod.ext_iff])]
    exact decide_and2 (by rw [Prod.ext_iff])
theorem LayD.tup4 {α β γ δ : Type} [DecidableEq α] [DecidableEq β] [DecidableEq γ] [DecidableEq δ] {L : α → PyData} {M : β → PyData} {N : γ → PyData} {O : δ → PyData} {k : Nat} {G : α → Prop} {G2 : β → Prop} {G3 : γ → Prop} {G4 : δ → Prop} (h : LayD L k G) (g : LayD M k G2) (e : LayD N k G3) (d : LayD O k G4) : LayD (fun x : α × β × γ × δ => PyData.tuple [L x.1, M x.2.1, N x.2.2.1, O x.2.2.2]) (k + 1) (fun x => G x.1 ∧ G2 x.2.1 ∧ G3 x.2.2.1 ∧ G4 x.2.2.2) := by
  refine ⟨fun x a => ?_, fun x => ?_, fun x y => ?_⟩
  · simp only [PyData.canLay0, PyData.canLayAll0, h.lay _ a.1, g.lay _ a.2.1, e.lay _ a.2.2.1, d.lay _ a.2.2.2, Bool.and_true]
  · simp only [PyData.depth, PyData.depthAll]
    have := h.dep x.1
    have := g.dep x.2.1
    have := e.dep x.2.2.1
    have := d.dep x.2.2.2
    omega
  · simp only [PyData.eqv, PyData.eqvAll, h.eqv, g.eqv, e.eqv, d.eqv, Bool.and_true]
    rw [decide_and2 (r := x.2.2 = y.2.2) (by rw [Prod.ext_iff]), decide_and2 (r := x.2 = y.2) (by rw [Prod.ext_iff])]
    exact decide_and2 (by rw [Prod.ext_iff])
theorem eqL {α : Type} [DecidableEq α] {L : α → PyData} {k : Nat} {G : α → Prop} (h : LayD L k G) (hk : k ≤ 64) {K : PySem.W.Frag} {H : Hp} {x y : V} {a b : α} {Q : VK} (ga : G a) (gb : G b) (h1 : Dp K H x (L a)) (h2 : Dp K H y (L b)) (q : Q (.bl (decide (a = b))) H) : rEqD K x y H Q :=
  ⟨_, _, h1, h2, h.shaped hk ga, h.shaped hk gb, by rw [h.eqv]; exact q⟩
theorem neL {α : Type} [DecidableEq α] {L : α → PyData} {k : Nat} {G : α → Prop} (h : LayD L k G) (hk : k ≤ 64) {K : PySem.W.Frag} {H : Hp} {x y : V} {a b : α} {Q : VK} (ga : G a) (gb : G b) (h1 : Dp K H x (L a)) (h2 : Dp K H y (L b)) (q : Q (.bl (!decide (a = b))) H) : rNeD K x y H Q :=
  ⟨_, _, h1, h2, h.shaped hk ga, h.shaped hk gb, by rw [h.eqv]; exact q⟩
theorem dpAll_refs {α : Type} {L : α → PyData} {K : PySem.W.Frag} {H : Hp} : ∀ {ps : List Addr} {xs : List α}, ps.length = xs.length → (∀ (i : Nat) (p : Addr) (x : α), ps[i]? = some p → xs[i]? = some x → Dp K H (.ref p) (L x)) → DpAll K H (ps.map V.ref) (xs.map L)
  | [], [], _, _ => .nil
  | [], _ :: _, h, _ => by cases h
  | _ :: _, [], h, _ => by cases h
  | p :: ps, x :: xs, h, e => .cons (e 0 p x rfl rfl) (dpAll_refs (Nat.succ.inj h) fun i p' x' h1 h2 => e (i + 1) p' x' h1 h2)

/-! two named except clauses behind one try (the library has one named clause, or several without names) -/
section
variable {X : Cx} {x y n : Str} {c e : Value} {i : Nat} {body su1 su2 : List Stmt} {f1 f2 : Stmt} {p1 p2 p3 p4 pos : Pos} {tb : WX → TS} {t1 t2 : Addr → Value → Option Addr → TS} {Wout : WX}
theorem ps_try_as2 (hst : X.stack = X.env :: X.outer) (hfr : X.env.frame = some X.env.locals) (nd : X.N.Nodup) (at_i : X.N[i]? = some n) (loc_n : X.env.kindOf n = some .local) (nm1 : Names X x c) (nm2 : Names X y e) (tk : Takes X Wout)
    (hbody : ∀ (W : WX) (pn : List (Addr × Obj)) (xe : Value → Shared → Prop), Takes (X.tr pn xe) W → PassesOwn (model X.prog X.w) X.A X.env xe → PSs (X.tr pn xe) body (tb W))
    (hs1 : ∀ (a : Addr) (o : Obj) (cls : Value) (d : Option Addr) (pn : List (Addr × Obj)), Zc cls d o → (∃ vs, o.data = .fields vs) → PSs (X.suite a ((a, o) :: pn)) (f1 :: su1) (t1 a cls d))
    (hs2 : ∀ (a : Addr) (o : Obj) (cls : Value) (d : Option Addr) (pn : List (Addr × Obj)), Zc cls d o → (∃ vs, o.data = .fields vs) → PSs (X.suite a ((a, o) :: pn)) (f2 :: su2) (t2 a cls d)) :
    PS X (.Try body [.ExceptHandler (some (.Name x p1)) (some n) (f1 :: su1) p2, .ExceptHandler (some (.Name y p3)) (some n) (f2 :: su2) p4] [] [] pos) (fun D σ H => tb (wAs X.K c i t1 (wAs X.K e i t2 Wout D) D) D σ H) := by
  refine ⟨fun pins sh st Hh D inv hyp => ?_⟩
  have okX := inv.ok
  have frs0 : X.A.frames = some (X.env :: X.outer) := okX.frames.trans (congrArg some hst)
  refine wpAny_Try_except ?_
  refine wpAny_mono ((hbody (wAs X.K c i t1 (wAs X.K e i t2 Wout D) D) (X.pn ++ pins) (fun ev q₁ => wpAny (model X.prog X.w) X.A (noteFrame ev X.env) (fun _ q₂ => wpAny (model X.prog X.w) X.A (setFlight ev none) (fun _ q₃ =>
    wpAny (model X.prog X.w) X.A (handleBy ev X.env [.ExceptHandler (some (.Name x p1)) (some n) (f1 :: su1) p2, .ExceptHandler (some (.Name y p3)) (some n) (f2 :: su2) p4]) (SP X pins D) X.xe q₃) X.xe q₂) X.xe q₁) (fun u z xx => ?_) PassesOwn.looking).run [] sh st Hh D (inv.toTry _) hyp) (fun fl z1 left => ?_) (fun _ _ same => same)
  · obtain ⟨a, B, zI, pins2, st2, Hh2, cls, d, rfl, JT, nb, up, sky, na, os, ag, wish⟩ := xx
    have J : Inv X pins st2 Hh2 zI := JT.ofTry okX
    have skyX : Sky B (X.env :: X.outer) a (Zc cls d) X.env.locals z.heap := hst ▸ sky
    show wpAny (model X.prog X.w) X.A (noteFrame (Value.ref a) X.env) _ _ _
    refine Sky.land Zc.steady frs0 hfr skyX fun hp flz upz => ?_
    have J3 : Inv X pins st2 Hh2 { z with heap := hp } := J.landed nb flz.1 (up.trans upz) os ag
    obtain ⟨oA, vsA, atA, zA, dA⟩ := flz.there
    have apart : a ∉ frs (X.env :: X.outer) := fun hm => by
      obtain ⟨_, o', e', hnf⟩ := flz.2.2.1.mem hm
      rw [atA] at e'
      cases e'
      exact hnf _ dA
    have n1 : a ≠ X.env.locals := fun w => apart (List.mem_filterMap.mpr ⟨X.env, List.mem_cons_self, hfr.trans (congrArg some w.symm)⟩)
    have n2 : a ∉ X.fs := fun hm => by
      obtain ⟨ee, he, q⟩ := List.mem_filterMap.mp hm
      exact apart (List.mem_filterMap.mpr ⟨ee, List.mem_cons_of_mem _ he, q⟩)
    have S3 := J3.suite atA dA na n1 n2
    -- one clause
    have one : ∀ {x' : Str} {c' : Value} {np pp : Pos} {ff : Stmt} {ss : List Stmt} {tt : Addr → Value → Option Addr → TS} {Wn : WX} {more : List ExceptHandler}, Names X x' c' →
        (∀ (a : Addr) (o : Obj) (cls : Value) (d : Option Addr) (pn : List (Addr × Obj)), Zc cls d o → (∃ vs, o.data = .fields vs) → PSs (X.suite a ((a, o) :: pn)) (ff :: ss) (tt a cls d)) →
        wAs X.K c' i tt Wn D cls d st2 Hh2 → (Wn cls d st2 Hh2 → wpAny (model X.prog X.w) X.A (handleBy (.ref a) X.env more) (SP X pins D) X.xe { z with heap := hp }) →
        wpAny (model X.prog X.w) X.A (handleBy (.ref a) X.env (.ExceptHandler (some (.Name x' np)) (some n) (ff :: ss) pp :: more)) (SP X pins D) X.xe { z with heap := hp } := by
      intro x' c' np pp ff ss tt Wn more nm hsu ⟨b, isb, yes, no⟩ next
      refine wpAny_handleBy_cons (codeAny_handlers_test ?_) (fun q => by cases q)
      have looks : PySem.W.Looks (model X.prog X.w) hp (typeOf (.ref a)) cls := fun A Q E s k q => wpAny_typeOf_ref (k _ _ atA) (by rw [zA.1]; exact q)
      have test : ∀ {Q E : Value → Shared → Prop}, Q c' { z with heap := hp } → wpAny (model X.prog X.w) (X.A.mark (some (.ref a))) (eval (.Name x' np) X.env) Q E { z with heap := hp } := fun {Q E} q => by
        rcases nm with ⟨gl, nodb, known | ⟨unk, boot, nn⟩⟩
        · exact ld_glob (X := X.suite a ((a, oA) :: (X.pn ++ pins))) S3 gl known q nodb
        · exact ld_blt (X := X.suite a ((a, oA) :: (X.pn ++ pins))) S3 gl unk boot q nn nodb
      refine test ((PySem.W.exm_one (M := model X.prog X.w) J3.kIn looks isb).here ?_)
      cases b with
      | false => exact next (no rfl)
      | true =>
        refine (codeAny_handlers_suite_as ?_)
        refine HandSPX.lands_againZ flz fun hq flq upq => ?_
        have J4 : Inv X pins st2 Hh2 { z with heap := hq } := J.landed nb flq.1 ((up.trans upz).trans upq) os ag
        obtain ⟨oB, vsB, atB, zB, dB⟩ := flq.there
        have S4 := J4.suite atB dB na n1 n2
        refine store_ok (X := X.suite a ((a, oB) :: (X.pn ++ pins))) (v := .ref a) S4 nd at_i (.inl loc_n) rfl (fun r5 S5 => ?_) (.inr loc_n)
        refine wpAny_mono ((hsu a oB cls d (X.pn ++ pins) zB ⟨_, dB⟩).run [] r5 _ Hh2 _ S5 (yes rfl a na)) (fun fl r6 got => ?_) (fun _ _ w => False.elim w)
        have close : ∀ {σ6 : L2.St} {H6 : Hp} {Q : Shared → Prop}, Inv (X.suite a ((a, oB) :: (X.pn ++ pins))) [] σ6 H6 r6 → (∀ r7, Inv X pins (σ6.set i none) H6 r7 → Q r7) →
            wpAny (model X.prog X.w) X.A (do bindName X.env n .none; unbindBehindTheSuite X.env n pp) (fun _ r7 => Q r7) X.xe r6 := fun {σ6 H6 Q} S6 hq => gone_ok (S6.unsuite okX) nd at_i loc_n hq
        cases fl with
        | next =>
          obtain ⟨σ6, H6, S6, w⟩ := got
          exact close S6 fun r7 J7 => ⟨_, _, J7, w⟩
        | brk =>
          obtain ⟨σ6, H6, S6, w⟩ := got
          exact close S6 fun r7 J7 => ⟨_, _, J7, w⟩
        | cont =>
          obtain ⟨σ6, H6, S6, w⟩ := got
          exact close S6 fun r7 J7 => ⟨_, _, J7, w⟩
        | ret u =>
          obtain ⟨v6, σ6, H6, S6, r6', w⟩ := got
          exact close S6 fun r7 J7 => ⟨_, _, _, J7, r6', w⟩
    refine one nm1 hs1 wish fun wish2 => one nm2 hs2 wish2 fun out => ?_
    refine wpAny_handleBy_nil ?_
    obtain ⟨j1, j2, j3, oC, vC, T, oT, tC, atC, zC, dC, fC, rC⟩ := id flz
    unfold PySem.passOn
    refine wpAny_bind (wpAny_field atC dC fC ?_)
    rw [if_neg (show ¬ ((Value.ref T == Value.none) = true) by simp)]
    have fin : wpAny (model X.prog X.w) X.A (setFlight (.ref a) X.env.frame) (fun _ q4 => wpAny (model X.prog X.w) X.A (throw (.ref a) : Sem Flow) (SP X pins D) X.xe q4) X.xe { z with heap := hp } := by
      rw [hfr]
      refine HandSPX.setFlight_upZ flz fun hq fq uq => wpAny_throw (tk _ _ ?_)
      exact ⟨a, B, zI, pins, st2, Hh2, cls, d, rfl, J, nb, (up.trans upz).trans uq, .inr (.inr (hst.symm ▸ fq)), na, os, ag, out⟩
    first | (exact wpAny_bind (wpAny_pure (wpAny_bind fin))) | (exact wpAny_bind fin)
  · cases fl with
    | next =>
      obtain ⟨σ', H', J', q⟩ := left
      exact wpAny_execs_nil ⟨σ', H', J'.ofTry okX, q⟩
    | brk =>
      obtain ⟨σ', H', J', q⟩ := left
      exact ⟨σ', H', J'.ofTry okX, q⟩
    | cont =>
      obtain ⟨σ', H', J', q⟩ := left
      exact ⟨σ', H', J'.ofTry okX, q⟩
    | ret u =>
      obtain ⟨v, σ', H', J', r, q⟩ := left
      exact ⟨v, σ', H', J'.ofTry okX, r, q⟩
end

section
variable {X : Cx}
/-- isinstance(e, C), e the error that the suite holds, of the class D -/
def rIsE' (K : PySem.W.Frag) (D a : Addr) (cls : Value) (d : Option Addr) : List V → Hp → VK → Prop := fun xs H Q => cls = .ref D ∧ d = none ∧ rIsE K D a xs H Q
theorem call_isE' {a D : Addr} {cls : Value} {d : Option Addr} {oe : Obj} {pn : List (Addr × Obj)} (C : ExcC X.K D) (hz : Zc cls d oe) (hf : ∃ vs, oe.data = .fields vs) : CallR (X.suite a ((a, oe) :: pn)) (.builtin "isinstance") (rIsE' X.K D a cls d) := by
  intro pins s σ H xs us Q I r h
  obtain ⟨rfl, rfl, h⟩ := h
  exact call_isE C hz hf pins s σ H xs us Q I r h
end


section
variable {P : Program} {w : World} {K : PySem.W.Frag} {mg : Str → Option Value} {base : Heap}
/-- weights in range -/
def WtsAll (ws : List Int) : Prop := 1 ≤ ws.length ∧ ws.length ≤ 40 ∧ ∀ w, w ∈ ws → 0 ≤ w ∧ w ≤ 1000000000000000
def sp_check_amount (K : PySem.W.Frag) (C : Addr) : Sp := fun vs H Q E => ∃ a m : Int, vs = [.int a, .int m] ∧ (0 ≤ a → a ≤ m → Q .non H) ∧ (¬ (0 ≤ a ∧ a ≤ m) → E (.ref C) none H)
theorem ok_check_amount (T : Txt K mg) : FnOk P w K mg base (L2.CX P w) 1 T.f_check_amount T.d_check_amount ["amount", "most"] (sp_check_amount K T.c_InvalidAmount) := by
  refine T.F_check_amount.okX sc_check_amount (fun vs H Q E h => ?_) (fun cdv A outer s H vs Q E hr h => ?_)
  · obtain ⟨a, m, rfl, _⟩ := h
    rfl
  · obtain ⟨a, m, rfl, q, qe⟩ := h
    refine ⟨_, (pss_one (ps_if (pt_not (pt_chain op_le op_le pe_int (pv 0) (pv 1)))
      (pss_one (ps_raise rfl (takes_of rfl rfl rfl rfl) (pmk_own PySem.F.excBase_ValueError T.x_InvalidAmount T.m_InvalidAmount T.k_InvalidAmount (raises_own T.b_InvalidAmount T.t_InvalidAmount) (by rfl))))
      pss_nil)), ?_⟩
    walk_at "st"
    refine iteB (fun h1 => ?_) (fun h1 => ?_)
    · walk_at "st"
      refine iteB (fun h2 => ?_) (fun h2 => ?_)
      · exact qe fun z => ndec_t h2 z.2
      · exact q (dec_t h1) (ndec_f h2)
    · walk_at "st"
      exact qe fun z => dec_f h1 z.1
def inW (w : Int) : Bool := decide (0 ≤ w ∧ w ≤ 1000000000000000)
def sp_check_weights (K : PySem.W.Frag) (C : Addr) : Sp := fun vs H Q E => ∃ (a : Addr) (ws : List Int) (amount : Int), vs = [.ref a, .int amount] ∧ SqL K H a (ws.map V.int) ∧ ws.length ≤ 900 ∧
  (WtsAll ws → (0 < amount → ws.sum ≠ 0) → ∀ H', Same H H' → Q .non H') ∧ (¬ (WtsAll ws ∧ (0 < amount → ws.sum ≠ 0)) → ∀ H', Same H H' → E (.ref C) none H')
theorem ok_check_weights (T : Txt K mg) : FnOk P w K mg base (L2.CX P w) 1 T.f_check_weights T.d_check_weights ["weights", "amount"] (sp_check_weights K T.c_InvalidWeights) := by
  refine T.F_check_weights.okX sc_check_weights (fun vs H Q E h => ?_) (fun cdv A outer s H vs Q E hr h => ?_)
  · obtain ⟨a, ws, amount, rfl, _⟩ := h
    rfl
  · obtain ⟨a, ws, amount, rfl, hs, hlen, q, qe⟩ := h
    refine ⟨_, (pss_cons (ps_if (pt_not (pt_chain op_le op_le pe_int (pe_callB call_len_seq (by rfl) T.z_len PySem.boot_len (pa_cons (pv 0) pa_nil)) (pe_glob (v := .int 40) rfl T.m_MOST_WEIGHTS ⟨_, rfl⟩)))
      (pss_one (ps_raise rfl (takes_of rfl rfl rfl rfl) (pmk_own PySem.F.excBase_ValueError T.x_InvalidWeights T.m_InvalidWeights T.k_InvalidWeights (raises_own T.b_InvalidWeights T.t_InvalidWeights) (by rfl))))
      pss_nil)
    (pss_cons (ps_if (pt_not (pt_val (pe_callB (cr_all rfl) (by rfl) T.z_all (by decide +kernel) (pa_cons (pe_lc (own := [("weight", 2)]) (g := gName 2) (tt := tYes) rfl sc_check_weights.nd (pi_list (pv 0)) (blkOk_by (own := [("weight", 2)]) (N := N_check_weights) (sc := defScope s_check_weights) (by decide +kernel)) (fun _ _ _ _ _ => (pg_name (i := 2) sc_check_weights.nd rfl (Or.inl rfl))) (fun _ _ _ _ _ => pts_nil) (fun _ _ _ _ _ => (pe_chain op_le op_le pe_int (pv 2) (pe_glob (v := .int 1000000000000000) rfl T.m_MOST_WEIGHT ⟨_, rfl⟩)))) pa_nil))))
      (pss_one (ps_raise rfl (takes_of rfl rfl rfl rfl) (pmk_own PySem.F.excBase_ValueError T.x_InvalidWeights T.m_InvalidWeights T.k_InvalidWeights (raises_own T.b_InvalidWeights T.t_InvalidWeights) (by rfl))))
      pss_nil)
    (pss_one (ps_if (PW.pt (pw_and (pt_cmpR op_gt (pv 1) pe_int (nomark _)) (pw_and1 (pt_cmpR op_eq (pe_callB (cr_sum rfl) (by rfl) T.z_sum (by decide +kernel) (pa_cons (pv 0) pa_nil)) pe_int (nomark _)))))
      (pss_one (ps_raise rfl (takes_of rfl rfl rfl rfl) (pmk_own PySem.F.excBase_ValueError T.x_InvalidWeights T.m_InvalidWeights T.k_InvalidWeights (raises_own T.b_InvalidWeights T.t_InvalidWeights) (by rfl))))
      pss_nil)))), ?_⟩
    walk_at "st"
    refine iteB (fun h => ?_) (fun h => ?_)
    · have h1 : 1 ≤ ws.length := by
        have := dec_t h
        rw [List.length_map] at this
        omega
      walk_at "st"
      refine iteB (fun h => ?_) (fun h => ?_)
      · refine qe (fun z => ?_) H (Same.refl H)
        have := ndec_t h
        have h2 := z.1.2.1
        rw [List.length_map] at this
        omega
      · have h2 : ws.length ≤ 40 := by
          have := ndec_f h
          rw [List.length_map] at this
          omega
        walk_at "st"
        intro D nD
        refine lc_list (K := K) (a := a) (xs := ws.map V.int) (fun i H' => H' = upd H D (.lst (((ws.take i).map inW).map V.bl))) rfl (fun i H' _ e => by rw [e]; exact (same_upd nD).seq hs) ?_ ?_
        · rintro i x H' hx rfl
          obtain ⟨z, hz', rfl⟩ := ints_at hx
          have hi := (List.getElem?_eq_some_iff.mp hz').1
          have hend : ∀ b : Bool, b = inW z → (((ws.take i).map inW).map V.bl).length < sizeLine ∧ upd (upd H D (.lst (((ws.take i).map inW).map V.bl))) D (.lst (((ws.take i).map inW).map V.bl ++ [V.bl b])) = upd H D (.lst (((ws.take (i + 1)).map inW).map V.bl)) := fun b hb => by
            refine ⟨small1000 ?_, ?_⟩
            · rw [List.length_map, List.length_map, List.length_take]
              omega
            · rw [upd_upd, take_succ hz', List.map_append, List.map_append, hb]
              rfl
          refine ⟨rfl, ?_⟩
          walk_at "st"
          refine iteB (fun g1 => ?_) (fun g1 => ?_)
          · walk_at "st"
            refine hend _ ?_
            unfold inW
            exact decide_eq_decide.mpr ⟨fun g => ⟨dec_t g1, g⟩, fun g => g.2⟩
          · refine ⟨_, upd_same, hend _ ?_⟩
            unfold inW
            exact (decide_eq_false fun g => dec_f g1 g.1).symm
        · rintro H' rfl
          rw [show ws.take (ws.map V.int).length = ws by rw [List.length_map, List.take_length]]
          have sD := same_upd (o := .lst ((ws.map inW).map V.bl)) nD
          have hs' := sD.seq hs
          have hD : upd H D (.lst ((ws.map inW).map V.bl)) D = some (.lst ((ws.map inW).map V.bl)) := upd_same
          generalize upd H D (.lst ((ws.map inW).map V.bl)) = H1 at *
          walk_at "st"
          refine ⟨ws.map inW, rfl, SqL.of hD, ?_⟩
          have hall : (ws.map inW).all id = true ↔ ∀ w, w ∈ ws → 0 ≤ w ∧ w ≤ 1000000000000000 := by
            rw [List.all_eq_true]
            constructor
            · intro g w hw
              have := g _ (List.mem_map.mpr ⟨w, hw, rfl⟩)
              exact of_decide_eq_true this
            · intro g b hb
              obtain ⟨w, hw, e⟩ := List.mem_map.mp hb
              rw [← e]
              exact decide_eq_true (g w hw)
          walk_at "st"
          refine iteB (fun g => ?_) (fun g => ?_)
          · refine qe (fun z => ?_) H1 sD
            rw [hall.mpr z.1.2.2] at g
            cases g
          · have hw : WtsAll ws := ⟨h1, h2, hall.mp (by cases e : (ws.map inW).all id with | true => rfl | false => rw [e] at g; cases g)⟩
            walk_at "st"
            refine iteB (fun g => ?_) (fun g => ?_)
            · walk_at "st"
              refine iteB (fun g2 => ?_) (fun g2 => ?_)
              · exact qe (fun z => z.2 (dec_t g) (V.int.inj (dec_t g2))) H1 sD
              · exact q hw (fun _ z => dec_f g2 (congrArg V.int z)) H1 sD
            · exact q hw (fun z => absurd z (dec_f g)) H1 sD
    · walk_at "st"
      refine qe (fun z => ?_) H (Same.refl H)
      have := dec_f h
      have h2 := z.1.1
      rw [List.length_map] at this
      omega

/-- good weights -/
structure Wts (ws : List Int) : Prop where
  l0 : 0 < ws.length
  l1 : ws.length ≤ 40
  b0 : ∀ w, w ∈ ws → 0 ≤ w
  b1 : ∀ w, w ∈ ws → w ≤ 1000000000000000
theorem WtsAll.wts {ws : List Int} (h : WtsAll ws) : Wts ws := ⟨h.1, h.2.1, fun w hw => (h.2.2 w hw).1, fun w hw => (h.2.2 w hw).2⟩
def sp_greatest_quotient (K : PySem.W.Frag) : Sp := fun vs H Q _ => ∃ (a b : Addr) (ws ps : List Int), vs = [.ref a, .ref b] ∧ SqL K H a (ws.map V.int) ∧ SqL K H b (ps.map V.int) ∧ Wts ws ∧ ps.length = ws.length ∧ Q (.int (gq ws ps ws.length)) H
theorem ok_greatest_quotient (T : Txt K mg) : FnOk P w K mg base CX0 1 T.f_greatest_quotient T.d_greatest_quotient ["weights", "parts"] (sp_greatest_quotient K) := by
  refine T.F_greatest_quotient.ok sc_greatest_quotient (fun vs H Q E h => ?_) (fun cdv A outer s H vs Q E hr h => ?_)
  · obtain ⟨a, b, ws, ps, rfl, _⟩ := h
    rfl
  · obtain ⟨a, b, ws, ps, rfl, hs, ht, hw, hl, q⟩ := h
    refine ⟨_, (pss_cons (ps_set (i := 2) sc_greatest_quotient.nd rfl (Or.inl rfl) pe_int)
    (pss_cons (ps_for PassesOwn.never rfl (pi_range2 (by rfl) T.z_range (pa_cons pe_int (pa_cons (pe_callB call_len_seq (by rfl) T.z_len PySem.boot_len (pa_cons (pv 0) pa_nil)) pa_nil))) (pg_name (i := 3) sc_greatest_quotient.nd rfl (Or.inl rfl))
      (pss_one (ps_if (pt_cmpR op_gt (pe_op op_mul (pe_ix ix_list (pv 0) (pv 3) (fun _ _ => rfl)) (pe_op op_add (pe_ix ix_list (pv 1) (pv 2) (fun _ _ => rfl)) pe_int)) (pe_op op_mul (pe_ix ix_list (pv 0) (pv 2) (fun _ _ => rfl)) (pe_op op_add (pe_ix ix_list (pv 1) (pv 3) (fun _ _ => rfl)) pe_int)) (nomark _))
        (pss_one (ps_set (i := 2) sc_greatest_quotient.nd rfl (Or.inl rfl) (pv 3)))
        pss_nil)))
    (pss_one (ps_ret (pv 2))))), ?_⟩
    have l0 := hw.l0
    have l1 := hw.l1
    walk_at "st"
    refine for_range (lo := 1) (n := (((ws.map V.int).length : Int) - 1).toNat) (fun i σ H' => H' = H ∧ ∃ v, σ = [some (.ref a), some (.ref b), some (.int ((gq ws ps (i + 1) : Nat) : Int)), v]) ⟨rfl, none, ?_⟩ ?_ ?_
    · rw [gq_one]
      rfl
    · rintro i σ H' hi ⟨rfl, v, rfl⟩
      rw [List.length_map] at hi
      have hi2 : i + 1 < ws.length := by omega
      have hg := gq_lt ws ps (i + 1) (Nat.succ_pos _)
      have hg2 : gq ws ps (i + 1) < ws.length := by omega
      rw [show (1 : Int) + i = ((i + 1 : Nat) : Int) by omega]
      have a1 := atI_n hi2
      have a2 := atI_n hg2
      have a3 := atI_n (ws := ps) (j := i + 1) (by omega)
      have a4 := atI_n (ws := ps) (j := gq ws ps (i + 1)) (by omega)
      have b1 := at0_nonneg hw.b0 (i + 1)
      have b2 := at0_nonneg hw.b0 (gq ws ps (i + 1))
      have b3 := hw.b1 _ (List.mem_of_getElem? (at0_lt hi2))
      have b4 := hw.b1 _ (List.mem_of_getElem? (at0_lt hg2))
      walk_at "st"
      refine iteB (fun h => ?_) (fun h => ?_)
      · have e : gq ws ps (i + 1 + 1) = i + 1 := if_pos (dec_t h)
        rw [e]
        exact ⟨_, rfl, rfl, _, rfl⟩
      · have e : gq ws ps (i + 1 + 1) = gq ws ps (i + 1) := if_neg (dec_f h)
        rw [e]
        exact ⟨rfl, _, rfl⟩
    · rintro σ H' ⟨rfl, v, rfl⟩
      rw [List.length_map, show (((ws.length : Int) - 1).toNat + 1) = ws.length by omega]
      walk_at "st"
      exact q
def sp_split (K : PySem.W.Frag) (CA CW : Addr) : Sp := fun vs H Q E => ∃ (a : Addr) (ws : List Int) (amount : Int), vs = [.int amount, .ref a] ∧ SqL K H a (ws.map V.int) ∧ ws.length ≤ 900 ∧
  (∀ p H', 0 ≤ amount → amount ≤ 1000000000000000000 → WtsAll ws → (0 < amount → ws.sum ≠ 0) → Same H H' → H p = none → H' p = some (.lst ((splitOf amount ws).map V.int)) → Q (.ref p) H') ∧
  (¬ (0 ≤ amount ∧ amount ≤ 1000000000000000000) → ∀ H', Same H H' → E (.ref CA) none H') ∧
  (0 ≤ amount → amount ≤ 1000000000000000000 → ¬ (WtsAll ws ∧ (0 < amount → ws.sum ≠ 0)) → ∀ H', Same H H' → E (.ref CW) none H')
theorem ok_split (T : Txt K mg) : FnOk P w K mg base (L2.CX P w) 2 T.f_split T.d_split ["amount", "weights"] (sp_split K T.c_InvalidAmount T.c_InvalidWeights) := by
  refine T.F_split.okX sc_split (fun vs H Q E h => ?_) (fun cdv A outer s H vs Q E hr h => ?_)
  · obtain ⟨a, ws, amount, rfl, _⟩ := h
    rfl
  · obtain ⟨a, ws, amount, rfl, hs, hlen, q, qa, qw⟩ := h
    have G_check_amount : FnOk P w K mg base (L2.CX P w) 1 T.f_check_amount T.d_check_amount ["amount", "most"] (sp_check_amount K T.c_InvalidAmount) := ok_check_amount T
    have G_check_weights : FnOk P w K mg base (L2.CX P w) 1 T.f_check_weights T.d_check_weights ["weights", "amount"] (sp_check_weights K T.c_InvalidWeights) := ok_check_weights T
    have G_greatest_quotient : FnOk P w K mg base CX0 1 T.f_greatest_quotient T.d_greatest_quotient ["weights", "parts"] (sp_greatest_quotient K) := ok_greatest_quotient T
    refine ⟨_, (pss_cons (ps_expr (pe_callS G_check_amount hr (by rfl) T.m_check_amount T.F_check_amount.kp T.b_check_amount (fun σ => passAt (takes_of rfl rfl rfl rfl) σ) (pa_cons (pv 0) (pa_cons (pe_glob (v := .int 1000000000000000000) rfl T.m_MOST_AMOUNT ⟨_, rfl⟩) pa_nil))))
    (pss_cons (ps_expr (pe_callS G_check_weights hr (by rfl) T.m_check_weights T.F_check_weights.kp T.b_check_weights (fun σ => passAt (takes_of rfl rfl rfl rfl) σ) (pa_cons (pv 1) (pa_cons (pv 0) pa_nil))))
    (pss_cons (ps_set (i := 2) sc_split.nd rfl (Or.inr rfl) (pe_callB (cr_sum rfl) (by rfl) T.z_sum (by decide +kernel) (pa_cons (pv 1) pa_nil)))
    (pss_cons (ps_if (pt_cmpR op_eq (pv 2) pe_int (nomark _))
      (pss_one (ps_ret (pe_op op_rep (pe_lst (pa_cons pe_int pa_nil)) (pe_callB call_len_seq (by rfl) T.z_len PySem.boot_len (pa_cons (pv 1) pa_nil)))))
      pss_nil)
    (pss_cons (ps_setLc (i := 3) (own := [("weight", 4)]) (g := gName 4) (tt := tYes) rfl sc_split.nd rfl rfl (sw_true rfl rfl rfl (by decide +kernel)) (pi_list (pv 1)) (blkOk_by (own := [("weight", 4)]) (N := N_split) (sc := defScope s_split) (by decide +kernel)) (fun _ _ _ _ _ => (pg_name (i := 4) sc_split.nd rfl (Or.inl rfl))) (fun _ _ _ _ _ => pts_nil) (fun _ _ _ _ _ => (pe_op op_fdivW (pe_op op_mul (pv 0) (pv 4)) (pv 2))))
    (pss_cons (ps_for (passes_of rfl) rfl (pi_range1 (by rfl) T.z_range (pa_cons (pe_op op_sub (pv 0) (pe_callB (cr_sum rfl) (by rfl) T.z_sum (by decide +kernel) (pa_cons (pv 3) pa_nil))) pa_nil)) (pg_name (i := 5) sc_split.nd rfl (Or.inl rfl))
      (pss_one (ps_augS (pv 3) (pe_call G_greatest_quotient hr (by rfl) T.m_greatest_quotient T.F_greatest_quotient.kp T.b_greatest_quotient .nil pass0 (pa_cons (pv 1) (pa_cons (pv 3) pa_nil))) pget_list pe_int ip_add set_list)))
    (pss_one (ps_ret (pv 3))))))))), ?_⟩
    walk_at "st"
    refine ⟨fun ha0 ha1 => ?_, fun g => qa g H (Same.refl H)⟩
    walk_at "st"
    refine ⟨fun hwa hz H1 e1 => ?_, fun g H' e => qw ha0 ha1 g H' e⟩
    have hw := hwa.wts
    have l0 := hw.l0
    have l1 := hw.l1
    have hs1 := e1.seq hs
    walk_at "st"
    have hs0 := sum_nonneg ws hw.b0
    refine iteB (fun h => ?_) (fun h => ?_)
    · have hz0 : ws.sum = 0 := V.int.inj (dec_t h)
      walk_at "st"
      intro p np
      have e2 := e1.trans (same_upd (o := .lst [.int 0]) np)
      have hs2 := e2.seq hs
      refine ⟨_, rfl, _, _, rfl, .inl hs2, ?_⟩
      rw [List.length_map]
      refine ⟨p, _, [.int 0], rfl, rfl, upd_same, by omega, by omega, ?_, fun p2 np2 => ?_⟩
      · refine Nat.le_of_lt (small1000 ?_)
        show 1 * (ws.length : Int).toNat ≤ 1000
        omega
      refine q p2 _ ha0 ha1 hwa hz (e2.trans (same_upd np2)) (e2.free np2) ?_
      rw [upd_same]
      refine congrArg (fun z => some (HO.lst z)) ?_
      unfold splitOf
      rw [if_pos hz0, List.map_map, Int.toNat_natCast]
      have : ∀ (l : List Int), (List.replicate l.length [V.int 0]).flatten = l.map (V.int ∘ fun _ => 0) := by
        intro l
        induction l with
        | nil => rfl
        | cons x r ih =>
          rw [List.length_cons, List.replicate_succ, List.flatten_cons, ih]
          rfl
      exact this ws
    · have hz0 : ws.sum ≠ 0 := fun z => dec_f h (congrArg V.int z)
      have ht : 0 < ws.sum := by omega
      have hsl := sum_le_mul ws _ hw.b1
      walk_at "st"
      intro D nD
      refine lc_list (K := K) (a := a) (xs := ws.map V.int) (fun i H' => H' = upd H1 D (.lst ((floors amount ws.sum (ws.take i)).map V.int))) rfl (fun i H' _ e => by rw [e]; exact (same_upd nD).seq hs1) ?_ ?_
      · rintro i x H' hx rfl
        obtain ⟨z, hz', rfl⟩ := ints_at hx
        have hm := List.mem_of_getElem? hz'
        have hi := (List.getElem?_eq_some_iff.mp hz').1
        refine ⟨rfl, ?_⟩
        walk_at "st"
        refine ⟨wide_div (b := 64) ht (by omega) (by decide) (by decide), ?_⟩
        walk_at "st"
        refine ⟨?_, ?_⟩
        · refine small1000 ?_
          rw [List.length_map, floors_len, List.length_take]
          omega
        · rw [upd_upd, take_succ hz']
          unfold floors
          rw [List.map_append, List.map_append]
          rfl
      · rintro H' rfl
        rw [List.take_of_length_le (by rw [List.length_map]; exact Nat.le_refl _)]
        have hD : (upd H1 D (.lst ((floors amount ws.sum ws).map V.int))) D = some (.lst ((floors amount ws.sum ws).map V.int)) := upd_same
        have e2 := e1.trans (same_upd (o := .lst ((floors amount ws.sum ws).map V.int)) nD)
        have nD0 := e1.free nD
        generalize upd H1 D (.lst ((floors amount ws.sum ws).map V.int)) = H2 at hD e2
        have f1 := floors_le (amount := amount) ht
        have f2 := floors_rest (amount := amount) ht
        have f3 := sum_nonneg _ (floors_nonneg ha0 ht hw.b0)
        walk_at "st"
        have hs2 := e2.seq hs
        refine for_range (lo := 0) (n := (amount - (floors amount ws.sum ws).sum).toNat) (fun i σ H' => (∃ v5, σ = [some (.int amount), some (.ref a), some (.int ws.sum), some (.ref D), none, v5]) ∧ Same H H' ∧ H' D = some (.lst ((steps ws i (floors amount ws.sum ws)).map V.int))) ⟨⟨none, rfl⟩, e2, hD⟩ ?_ ?_
        · rintro i σ H' hi ⟨⟨v5, rfl⟩, e3, hD3⟩
          have hs3 := e3.seq hs
          have hlen3 : (steps ws i (floors amount ws.sum ws)).length = ws.length := by rw [steps_len, floors_len]
          have hg := gq_lt ws (steps ws i (floors amount ws.sum ws)) ws.length l0
          have hat : ((steps ws i (floors amount ws.sum ws)).map V.int)[gq ws (steps ws i (floors amount ws.sum ws)) ws.length]? = some (.int (at0 (steps ws i (floors amount ws.sum ws)) (gq ws (steps ws i (floors amount ws.sum ws)) ws.length))) := by
            rw [List.getElem?_map, at0_lt (by omega)]
            rfl
          walk_at "st"
          refine ⟨ixN_nat (by rw [List.length_map]; omega), ⟨some (.int (0 + (i : Int))), rfl⟩, fun b o e => ?_, ?_⟩
          · rw [upd_ne (ne_of_none e nD0)]
            exact e3 b o e
          · rw [upd_same]
            refine congrArg (fun z => some (HO.lst z)) ?_
            rw [← List.map_set]
            rfl
        · rintro σ H' ⟨⟨v5, rfl⟩, e3, hD3⟩
          walk_at "st"
          refine q D H' ha0 ha1 hwa hz e3 nD0 ?_
          rw [hD3]
          unfold splitOf
          rw [if_neg hz0]

def sp_due (K : PySem.W.Frag) : Sp := fun vs H Q _ => ∃ (wt p total : Int), vs = [.int wt, .int p, .int total] ∧ (0 < wt ∧ wt ≤ 1000000000000000) ∧ (0 ≤ p ∧ p ≤ 100000) ∧ (0 < total ∧ total ≤ 100000000000000000) ∧ Q (.int (((p + 1) * total + wt - 1) / wt)) H
theorem ok_due (T : Txt K mg) : FnOk P w K mg base CX0 1 T.f_due T.d_due ["weight", "part", "total"] (sp_due K) := by
  refine T.F_due.ok sc_due (fun vs H Q E h => ?_) (fun cdv A outer s H vs Q E hr h => ?_)
  · obtain ⟨wt, p, total, rfl, _⟩ := h
    rfl
  · obtain ⟨wt, p, total, rfl, h1, h2, h3, q⟩ := h
    refine ⟨_, (pss_one (ps_ret (pe_op op_fdivW (pe_op op_sub (pe_op op_add (pe_op op_mul (pe_op op_add (pv 1) pe_int) (pv 2)) (pv 0)) pe_int) (pv 0)))), ?_⟩
    walk_at "st"
    refine ⟨wide_div (b := 64) h1.1 (by omega) (by decide) (by decide), q⟩
/-- the pairs of the eligible ones, of the first m -/
def dues (ws ps : List Int) (n : Int) (m : Nat) : List (Int × Int) := ((List.range m).filter fun k => decide (Elig ws ps ws.sum n k)).map fun (k : Nat) => (due ws ps ws.sum k, (k : Int))
theorem dues_succ (ws ps : List Int) (n : Int) (m : Nat) : dues ws ps n (m + 1) = if Elig ws ps ws.sum n m then dues ws ps n m ++ [(due ws ps ws.sum m, (m : Int))] else dues ws ps n m := by
  unfold dues
  rw [List.range_succ, List.filter_append]
  by_cases h : Elig ws ps ws.sum n m
  · rw [if_pos h, List.filter_cons_of_pos (by rw [decide_eq_true h]), List.filter_nil, List.map_append]
    rfl
  · rw [if_neg h, List.filter_cons_of_neg (by rw [decide_eq_false h]; exact Bool.false_ne_true), List.filter_nil, List.append_nil]
theorem dues_mem {ws ps : List Int} {n : Int} {m : Nat} {p : Int × Int} : p ∈ dues ws ps n m ↔ ∃ k : Nat, k < m ∧ Elig ws ps ws.sum n k ∧ p = (due ws ps ws.sum k, (k : Int)) := by
  unfold dues
  rw [List.mem_map]
  constructor
  · rintro ⟨k, hk, rfl⟩
    obtain ⟨h1, h2⟩ := List.mem_filter.mp hk
    exact ⟨k, List.mem_range.mp h1, of_decide_eq_true h2, rfl⟩
  · rintro ⟨k, h1, h2, rfl⟩
    exact ⟨k, List.mem_filter.mpr ⟨List.mem_range.mpr h1, decide_eq_true h2⟩, rfl⟩
/-- parts behind less than n cents -/
structure Pts (ws ps : List Int) (n : Int) : Prop where
  len : ps.length = ws.length
  nn : ∀ i, 0 ≤ at0 ps i
  sum : ps.sum + 1 = n
  top : n ≤ 9999
def sp_first_due (K : PySem.W.Frag) : Sp := fun vs H Q _ => ∃ (a b : Addr) (ws ps : List Int) (n : Int), vs = [.int n, .ref a, .ref b, .int ws.sum] ∧ SqL K H a (ws.map V.int) ∧ SqL K H b (ps.map V.int) ∧ Wts ws ∧ 0 < ws.sum ∧ Pts ws ps n ∧ ∀ H', Same H H' → Q (.int (ch ws ps n : Nat)) H'
theorem ok_first_due (T : Txt K mg) : FnOk P w K mg base CX0 2 T.f_first_due T.d_first_due ["number", "weights", "parts", "total"] (sp_first_due K) := by
  refine T.F_first_due.ok sc_first_due (fun vs H Q E h => ?_) (fun cdv A outer s H vs Q E hr h => ?_)
  · obtain ⟨a, b, ws, ps, n, rfl, _⟩ := h
    rfl
  · obtain ⟨a, b, ws, ps, n, rfl, ha, hb, hw, ht, hp, q⟩ := h
    have G_due : FnOk P w K mg base CX0 1 T.f_due T.d_due ["weight", "part", "total"] (sp_due K) := ok_due T
    have l0 := hw.l0
    have l1 := hw.l1
    have hsl := sum_le_mul ws _ hw.b1
    have hps := hp.len
    have hsum := hp.sum
    have htop := hp.top
    have hpn : ∀ x, x ∈ ps → 0 ≤ x := fun x hx => by
      obtain ⟨i, hi, rfl⟩ := List.mem_iff_getElem.mp hx
      have := hp.nn i
      rw [at0_of (List.getElem?_eq_getElem hi)] at this
      exact this
    have hple : ∀ i, at0 ps i ≤ ps.sum := fun i => at0_le_sum ps i hpn
    refine ⟨_, (pss_cons (ps_setLc (i := 4) (own := [("at", 5), ("weight", 6)]) rfl sc_first_due.nd rfl rfl (sw_true rfl rfl rfl (by decide +kernel)) (pi_enum (by rfl) T.z_enumerate (pa_cons (pv 1) pa_nil)) (blkOk_by (own := [("at", 5), ("weight", 6)]) (N := N_first_due) (sc := defScope s_first_due) (by decide +kernel)) (fun _ _ _ _ _ => (show PG _ _ (gTup K 2 (gCons (gName 5) (gCons (gName 6) gNil))) from (pg_tup rfl (pgs_cons (pg_name (i := 5) sc_first_due.nd rfl (Or.inl rfl)) (pgs_cons (pg_name (i := 6) sc_first_due.nd rfl (Or.inl rfl)) pgs_nil))))) (fun _ _ _ _ _ => pts_one (pt_cmpR op_lt (pe_op op_mul (pe_ix (show IxR _ (rIxL K) from ix_list) (pv 2) (pv 5) (fun _ _ => rfl)) (pv 3)) (pe_op op_mul (pv 0) (pv 6)) (nomark _))) (fun _ _ _ _ _ => (pe_tup (pa_cons (pe_call G_due hr (by rfl) T.m_due T.F_due.kp T.b_due .nil pass0 (pa_cons (pv 6) (pa_cons (pe_ix (show IxR _ (rIxL K) from ix_list) (pv 2) (pv 5) (fun _ _ => rfl)) (pa_cons (pv 3) pa_nil)))) (pa_cons (pv 5) pa_nil)))))
    (pss_one (ps_ret (pe_ix ix_tup (pe_callB (cr_minP rfl (in1_lt hr)) (by rfl) T.z_min (by decide +kernel) (pa_cons (pv 4) pa_nil)) pe_int (fun _ _ => rfl))))), ?_⟩
    walk_at "st"
    intro D nD
    refine lc_enum (K := K) (a := a) (xs := ws.map V.int) (fun i H' => ∃ ts : List (Addr × Int × Int), H' D = some (.lst (ts.map fun t => V.ref t.1)) ∧ (∀ t, t ∈ ts → H' t.1 = some (.tup [.int t.2.1, .int t.2.2])) ∧ ts.map (·.2) = dues ws ps n i ∧ ts.length ≤ i ∧ Same H H')
      ⟨[], upd_same, (fun _ ht => by cases ht), rfl, Nat.le_refl _, same_upd nD⟩ (fun i H' _ ⟨_, _, _, _, _, e⟩ => e.seq ha) ?_ ?_
    · rintro i x H' T' hx ⟨ts, hD, hts, hd, hlen, e⟩ nT
      obtain ⟨z, hz, rfl⟩ := ints_at hx
      have hi := (List.getElem?_eq_some_iff.mp hz).1
      have ez : at0 ws i = z := at0_of hz
      have eT := e.trans (same_upd (o := .tup [.int (i : Int), .int z]) nT)
      have hb2 := eT.seq hb
      have hat := atI_n (ws := ps) (j := i) (by omega)
      have w0 := hw.b0 z (List.mem_of_getElem? hz)
      have w1 := hw.b1 z (List.mem_of_getElem? hz)
      have p0 := hp.nn i
      have p1 := hple i
      have hD2 : (upd H' T' (.tup [.int (i : Int), .int z])) D = some (.lst (ts.map fun t => V.ref t.1)) := (upd_ne (ne_of_none hD nT)).trans hD
      have hts2 : ∀ t, t ∈ ts → (upd H' T' (.tup [.int (i : Int), .int z])) t.1 = some (.tup [.int t.2.1, .int t.2.2]) := fun t h => (upd_ne (ne_of_none (hts t h) nT)).trans (hts t h)
      refine ⟨T', [.int (i : Int), .int z], rfl, SqT.of upd_same, rfl, ?_⟩
      generalize upd H' T' (.tup [.int (i : Int), .int z]) = H2 at *
      refine ⟨_, _, rfl, _, _, rfl, rfl, rfl, ?_⟩
      walk_at "st"
      refine iteB (fun h => ?_) (fun h => ?_)
      · have hel : Elig ws ps ws.sum n i := by
          unfold Elig
          rw [ez]
          exact dec_t h
        have wz : 0 < z := by
          have := elig_pos (ws := ws) (ps := ps) (W := ws.sum) (n := n) (i := i) (at0_nonneg hw.b0 i) p0 ht hel
          omega
        walk_at "st"
        intro p np
        have npD : D ≠ p := ne_of_none hD2 np
        refine ⟨_, (upd_ne npD).trans hD2, ?_, ts ++ [(p, due ws ps ws.sum i, (i : Int))], ?_, fun t h => ?_, ?_, ?_, fun b o z' => ?_⟩
        · rw [List.length_map]
          exact small1000 (by omega)
        · rw [upd_same, List.map_append]
          rfl
        · have hnD : t.1 ≠ D := fun e' => by
            rcases List.mem_append.mp h with h | h
            · have := hts2 t h
              rw [e', hD2] at this
              cases this
            · rw [List.mem_singleton.mp h] at e'
              exact npD e'.symm
          rw [upd_ne hnD]
          rcases List.mem_append.mp h with h | h
          · rw [upd_ne (ne_of_none (hts2 t h) np)]
            exact hts2 t h
          · rw [List.mem_singleton.mp h, upd_same]
            unfold due
            rw [ez]
        · rw [List.map_append, hd, dues_succ, if_pos hel]
          rfl
        · rw [List.length_append]
          show ts.length + 1 ≤ i + 1
          omega
        · have hbD : b ≠ D := fun e' => by rw [e'] at z'; rw [z'] at nD; cases nD
          rw [upd_ne hbD, upd_ne (ne_of_none (eT _ _ z') np)]
          exact eT _ _ z'
      · have hel : ¬ Elig ws ps ws.sum n i := by
          unfold Elig
          rw [ez]
          exact dec_f h
        exact ⟨ts, hD2, hts2, by rw [hd, dues_succ, if_neg hel], by omega, eT⟩
    · rintro H' ⟨ts, hD, hts, hd, hlen, e⟩
      rw [List.length_map] at hd
      obtain ⟨_, hc1, hc2, hc3⟩ := ch_spec (n := n) hps ht (by omega)
      have hmem : ∀ p, p ∈ ts.map (·.2) ↔ ∃ k : Nat, k < ws.length ∧ Elig ws ps ws.sum n k ∧ p = (due ws ps ws.sum k, (k : Int)) := fun p => by rw [hd]; exact dues_mem
      have hne : 0 < ts.length := by
        obtain ⟨t, ht', _⟩ := List.mem_map.mp ((hmem _).mpr ⟨_, hc1, hc2, rfl⟩)
        exact List.length_pos_of_mem ht'
      walk_at "st"
      refine ⟨ts, rfl, SqL.of hD, hts, hne, fun t htm hmin => ?_⟩
      have et : t.2 = (due ws ps ws.sum (ch ws ps n), ((ch ws ps n : Nat) : Int)) := by
        obtain ⟨k, hk1, hk2, hk3⟩ := (hmem t.2).mp (List.mem_map.mpr ⟨t, htm, rfl⟩)
        obtain ⟨u, hu1, hu2⟩ := List.mem_map.mp ((hmem _).mpr ⟨_, hc1, hc2, rfl⟩)
        have h1 := hmin u hu1
        have hu2' : u.2 = (due ws ps ws.sum (ch ws ps n), ((ch ws ps n : Nat) : Int)) := hu2
        rw [hu2', hk3] at h1
        have h2 : ¬ (pLt (due ws ps ws.sum (ch ws ps n), ((ch ws ps n : Nat) : Int)) (due ws ps ws.sum k, (k : Int)) = true) := by rw [h1]; exact Bool.false_ne_true
        rw [pLt_iff] at h2
        dsimp only at h2
        have h3 := hc3 k hk1 hk2
        have hkc : k = ch ws ps n := by omega
        rw [hk3, hkc]
      have hT := hts t htm
      walk_at "st"
      rw [et]
      exact q H' e
theorem small_m {n : Nat} (h : n ≤ 100000) : n < sizeLine := Nat.lt_of_le_of_lt h (by decide)
/-- the order of N cents -/
def ordr (ws : List Int) (N : Nat) : List Nat := (List.range N).map fun n => ch ws (run ws n) ((n + 1 : Nat) : Int)
theorem ordr_succ (ws : List Int) (n : Nat) : ordr ws (n + 1) = ordr ws n ++ [ch ws (run ws n) ((n + 1 : Nat) : Int)] := by
  unfold ordr
  rw [List.range_succ, List.map_append]
  rfl
theorem ordr_len (ws : List Int) (n : Nat) : (ordr ws n).length = n := by
  unfold ordr
  rw [List.length_map, List.length_range]
theorem reps_zero (ws : List Int) : (List.replicate (ws.length : Int).toNat [V.int 0]).flatten = (run ws 0).map V.int := by
  rw [Int.toNat_natCast]
  have : ∀ (l : List Int), (List.replicate l.length [V.int 0]).flatten = (l.map fun _ => (0 : Int)).map V.int := by
    intro l
    induction l with
    | nil => rfl
    | cons x r ih =>
      rw [List.length_cons, List.replicate_succ, List.flatten_cons, ih]
      rfl
  exact this ws
def sp_deal_order (K : PySem.W.Frag) (CA CW : Addr) : Sp := fun vs H Q E => ∃ (a : Addr) (ws : List Int) (amount : Int), vs = [.int amount, .ref a] ∧ SqL K H a (ws.map V.int) ∧ ws.length ≤ 900 ∧
  (∀ p H' (N : Nat), amount = (N : Int) → N ≤ 9999 → WtsAll ws → (0 < amount → ws.sum ≠ 0) → Same H H' → H p = none → H' p = some (.lst (nats (ordr ws N))) → Q (.ref p) H') ∧
  (¬ (0 ≤ amount ∧ amount ≤ 9999) → ∀ H', Same H H' → E (.ref CA) none H') ∧
  (0 ≤ amount → amount ≤ 9999 → ¬ (WtsAll ws ∧ (0 < amount → ws.sum ≠ 0)) → ∀ H', Same H H' → E (.ref CW) none H')
theorem ok_deal_order (T : Txt K mg) : FnOk P w K mg base (L2.CX P w) 3 T.f_deal_order T.d_deal_order ["amount", "weights"] (sp_deal_order K T.c_InvalidAmount T.c_InvalidWeights) := by
  refine T.F_deal_order.okX sc_deal_order (fun vs H Q E h => ?_) (fun cdv A outer s H vs Q E hr h => ?_)
  · obtain ⟨a, ws, amount, rfl, _⟩ := h
    rfl
  · obtain ⟨a, ws, amount, rfl, hs, hlen, q, qa, qw⟩ := h
    have G_check_amount : FnOk P w K mg base (L2.CX P w) 1 T.f_check_amount T.d_check_amount ["amount", "most"] (sp_check_amount K T.c_InvalidAmount) := ok_check_amount T
    have G_check_weights : FnOk P w K mg base (L2.CX P w) 1 T.f_check_weights T.d_check_weights ["weights", "amount"] (sp_check_weights K T.c_InvalidWeights) := ok_check_weights T
    have G_first_due : FnOk P w K mg base CX0 2 T.f_first_due T.d_first_due ["number", "weights", "parts", "total"] (sp_first_due K) := ok_first_due T
    refine ⟨_, (pss_cons (ps_expr (pe_callS G_check_amount (hr.mono (by decide)) (by rfl) T.m_check_amount T.F_check_amount.kp T.b_check_amount (fun σ => passAt (takes_of rfl rfl rfl rfl) σ) (pa_cons (pv 0) (pa_cons (pe_glob (v := .int 9999) rfl T.m_MOST_DEALT ⟨_, rfl⟩) pa_nil))))
    (pss_cons (ps_expr (pe_callS G_check_weights (hr.mono (by decide)) (by rfl) T.m_check_weights T.F_check_weights.kp T.b_check_weights (fun σ => passAt (takes_of rfl rfl rfl rfl) σ) (pa_cons (pv 1) (pa_cons (pv 0) pa_nil))))
    (pss_cons (ps_set (i := 2) sc_deal_order.nd rfl (Or.inl rfl) (pe_callB (cr_sum rfl) (by rfl) T.z_sum (by decide +kernel) (pa_cons (pv 1) pa_nil)))
    (pss_cons (ps_set (i := 3) sc_deal_order.nd rfl (Or.inl rfl) (pe_op op_rep (pe_lst (pa_cons pe_int pa_nil)) (pe_callB call_len_seq (by rfl) T.z_len PySem.boot_len (pa_cons (pv 1) pa_nil))))
    (pss_cons (ps_set (i := 4) sc_deal_order.nd rfl (Or.inl rfl) (pe_lst pa_nil))
    (pss_cons (ps_for (passes_of rfl) rfl (pi_range2 (by rfl) T.z_range (pa_cons pe_int (pa_cons (pe_op op_add (pv 0) pe_int) pa_nil))) (pg_name (i := 5) sc_deal_order.nd rfl (Or.inl rfl))
      (pss_cons (ps_set (i := 6) sc_deal_order.nd rfl (Or.inl rfl) (pe_call G_first_due hr (by rfl) T.m_first_due T.F_first_due.kp T.b_first_due .nil pass0 (pa_cons (pv 5) (pa_cons (pv 1) (pa_cons (pv 3) (pa_cons (pv 2) pa_nil))))))
      (pss_cons (ps_augS (pv 3) (pv 6) pget_list pe_int ip_add set_list)
      (pss_one (ps_expr (pe_bm PySem.F.plainAttrs_list PySem.F.slot_list_append PySem.F.type_list_append mt_append (pv 4) (pa_cons (pv 6) pa_nil)))))))
    (pss_one (ps_ret (pv 4))))))))), ?_⟩
    walk_at "st"
    refine ⟨fun ha0 ha1 => ?_, fun g => qa g H (Same.refl H)⟩
    obtain ⟨N, rfl⟩ : ∃ N : Nat, amount = (N : Int) := ⟨amount.toNat, by omega⟩
    have hN : N ≤ 9999 := by omega
    walk_at "st"
    refine ⟨fun hwa hz' H1 e1 => ?_, fun g H' e => qw ha0 ha1 g H' e⟩
    have hw := hwa.wts
    have l0 := hw.l0
    have l1 := hw.l1
    have hz : 0 < N → 0 < ws.sum := fun h => by
      have h1 := hz' (by omega)
      have h2 := sum_nonneg ws hw.b0
      omega
    have hs1 := e1.seq hs
    walk_at "st"
    intro Z nZ
    have e2 := e1.trans (same_upd (o := .lst [.int 0]) nZ)
    have hs2 := e2.seq hs
    have hZ : (upd H1 Z (.lst [.int 0])) Z = some (.lst [.int 0]) := upd_same
    generalize upd H1 Z (.lst [.int 0]) = H2 at *
    refine ⟨_, rfl, _, _, rfl, .inl hs2, ?_⟩
    rw [List.length_map]
    refine ⟨Z, _, [.int 0], rfl, rfl, hZ, by omega, by omega, ?_, fun p np => ?_⟩
    · refine Nat.le_of_lt (small1000 ?_)
      show 1 * (ws.length : Int).toNat ≤ 1000
      omega
    rw [reps_zero]
    have e3 := e2.trans (same_upd (o := .lst ((run ws 0).map V.int)) np)
    have hp3 : (upd H2 p (.lst ((run ws 0).map V.int))) p = some (.lst ((run ws 0).map V.int)) := upd_same
    have np0 := e2.free np
    generalize upd H2 p (.lst ((run ws 0).map V.int)) = H3 at *
    walk_at "st"
    intro o no
    have e4 := e3.trans (same_upd (o := .lst (nats (ordr ws 0))) no)
    have ho4 : (upd H3 o (.lst (nats (ordr ws 0)))) o = some (.lst (nats (ordr ws 0))) := upd_same
    have hp4 : (upd H3 o (.lst (nats (ordr ws 0)))) p = some (.lst ((run ws 0).map V.int)) := (upd_ne (ne_of_none hp3 no)).trans hp3
    have no0 := e3.free no
    have npo : p ≠ o := ne_of_none hp3 no
    have eo : (.lst [] : HO) = .lst (nats (ordr ws 0)) := rfl
    rw [eo]
    generalize upd H3 o (.lst (nats (ordr ws 0))) = H4 at *
    walk_at "st"
    refine for_range (lo := 1) (n := ((N : Int) + 1 - 1).toNat) (fun i σ H' => (∃ v5 v6, σ = [some (.int (N : Int)), some (.ref a), some (.int ws.sum), some (.ref p), some (.ref o), v5, v6]) ∧ Same H H' ∧ H' p = some (.lst ((run ws i).map V.int)) ∧ H' o = some (.lst (nats (ordr ws i)))) ⟨⟨none, none, rfl⟩, e4, hp4, ho4⟩ ?_ ?_
    · rintro i σ H5 hi ⟨⟨v5, v6, rfl⟩, e5, hp5, ho5⟩
      have hiN : i < N := by omega
      have ht : 0 < ws.sum := hz (by omega)
      rw [show (1 : Int) + i = ((i + 1 : Nat) : Int) by omega]
      have hs5 := e5.seq hs
      have hp5' : SqL K H5 p ((run ws i).map V.int) := SqL.of hp5
      have hpts : Pts ws (run ws i) ((i + 1 : Nat) : Int) := ⟨run_len ws i, run_nn ht i, by rw [run_sum ht]; omega, by omega⟩
      walk_at "st"
      intro H6 e6
      have hp6 := e6 _ _ hp5
      have ho6 := e6 _ _ ho5
      have hp6' : SqL K H6 p ((run ws i).map V.int) := SqL.of hp6
      obtain ⟨_, hc1, _⟩ := run_ch ht i
      have hat : ((run ws i).map V.int)[ch ws (run ws i) ((i + 1 : Nat) : Int)]? = some (.int (at0 (run ws i) (ch ws (run ws i) ((i + 1 : Nat) : Int)))) := by
        rw [List.getElem?_map, at0_lt (by rw [run_len]; exact hc1)]
        rfl
      have hix : ixN ((run ws i).map V.int).length ((ch ws (run ws i) ((i + 1 : Nat) : Int) : Nat) : Int) = some (ch ws (run ws i) ((i + 1 : Nat) : Int)) := ixN_nat (by rw [List.length_map, run_len]; exact hc1)
      have hos : (nats (ordr ws i)).length < sizeLine := by
        unfold nats
        rw [List.length_map, ordr_len]
        exact small_m (by omega)
      walk_at "st"
      refine ⟨.inl ⟨rfl, _, SqL.of ((upd_ne npo.symm).trans ho6)⟩, _, rfl, o, _, _, rfl, rfl, (upd_ne npo.symm).trans ho6, hos, ⟨_, _, rfl⟩, fun b z hb => ?_, ?_, ?_⟩
      · rw [upd_ne (ne_of_none hb no0), upd_ne (ne_of_none hb np0)]
        exact e6 _ _ (e5 _ _ hb)
      · rw [upd_ne npo, upd_same, ← List.map_set]
        rfl
      · rw [upd_same, ordr_succ]
        unfold nats
        rw [List.map_append]
        rfl
    · rintro σ H5 ⟨⟨v5, v6, rfl⟩, e5, hp5, ho5⟩
      walk_at "st"
      refine q o H5 N rfl hN hwa hz' e5 no0 ?_
      rw [ho5, show ((N : Int) + 1 - 1).toNat = N by omega]
theorem run_ordr {ws : List Int} (ht : 0 < ws.sum) : ∀ n, run ws n = (ordr ws n).foldl bump (run ws 0)
  | 0 => rfl
  | n + 1 => by
    rw [ordr_succ, List.foldl_append, ← run_ordr ht n]
    rfl
def sp_deal (K : PySem.W.Frag) (CA CW : Addr) : Sp := fun vs H Q E => ∃ (a : Addr) (ws : List Int) (amount : Int), vs = [.int amount, .ref a] ∧ SqL K H a (ws.map V.int) ∧ ws.length ≤ 900 ∧
  (∀ p H' (N : Nat), amount = (N : Int) → N ≤ 9999 → WtsAll ws → (0 < amount → ws.sum ≠ 0) → Same H H' → H p = none → H' p = some (.lst ((run ws N).map V.int)) → Q (.ref p) H') ∧
  (¬ (0 ≤ amount ∧ amount ≤ 9999) → ∀ H', Same H H' → E (.ref CA) none H') ∧
  (0 ≤ amount → amount ≤ 9999 → ¬ (WtsAll ws ∧ (0 < amount → ws.sum ≠ 0)) → ∀ H', Same H H' → E (.ref CW) none H')
theorem ok_deal (T : Txt K mg) : FnOk P w K mg base (L2.CX P w) 4 T.f_deal T.d_deal ["amount", "weights"] (sp_deal K T.c_InvalidAmount T.c_InvalidWeights) := by
  refine T.F_deal.okX sc_deal (fun vs H Q E h => ?_) (fun cdv A outer s H vs Q E hr h => ?_)
  · obtain ⟨a, ws, amount, rfl, _⟩ := h
    rfl
  · obtain ⟨a, ws, amount, rfl, hs, hlen, q, qa, qw⟩ := h
    have G_deal_order : FnOk P w K mg base (L2.CX P w) 3 T.f_deal_order T.d_deal_order ["amount", "weights"] (sp_deal_order K T.c_InvalidAmount T.c_InvalidWeights) := ok_deal_order T
    refine ⟨_, (pss_cons (ps_set (i := 2) sc_deal.nd rfl (Or.inl rfl) (pe_op op_rep (pe_lst (pa_cons pe_int pa_nil)) (pe_callB call_len_seq (by rfl) T.z_len PySem.boot_len (pa_cons (pv 1) pa_nil))))
    (pss_cons (ps_for (passes_of rfl) rfl (pi_list (pe_callS G_deal_order hr (by rfl) T.m_deal_order T.F_deal_order.kp T.b_deal_order (fun σ => passAt (takes_of rfl rfl rfl rfl) σ) (pa_cons (pv 0) (pa_cons (pv 1) pa_nil)))) (pg_name (i := 3) sc_deal.nd rfl (Or.inl rfl))
      (pss_one (ps_augS (pv 2) (pv 3) pget_list pe_int ip_add set_list)))
    (pss_one (ps_ret (pv 2))))), ?_⟩
    walk_at "st"
    intro Z nZ
    have e2 := same_upd (o := .lst [.int 0]) nZ
    have hs2 := e2.seq hs
    have hZ : (upd H Z (.lst [.int 0])) Z = some (.lst [.int 0]) := upd_same
    generalize upd H Z (.lst [.int 0]) = H2 at *
    refine ⟨_, rfl, _, _, rfl, .inl hs2, ?_⟩
    rw [List.length_map]
    refine ⟨Z, _, [.int 0], rfl, rfl, hZ, by omega, by omega, ?_, fun p np => ?_⟩
    · refine Nat.le_of_lt (small1000 ?_)
      show 1 * (ws.length : Int).toNat ≤ 1000
      omega
    rw [reps_zero]
    have e3 := e2.trans (same_upd (o := .lst ((run ws 0).map V.int)) np)
    have hp3 : (upd H2 p (.lst ((run ws 0).map V.int))) p = some (.lst ((run ws 0).map V.int)) := upd_same
    have np0 := e2.free np
    have hs3 := e3.seq hs
    generalize upd H2 p (.lst ((run ws 0).map V.int)) = H3 at *
    walk_at "st"
    refine ⟨fun o H4 N eN hN hwa hz' e4 no ho4 => ?_, fun g H' e => qa g H' (e3.trans e), fun g1 g2 g H' e => qw g1 g2 g H' (e3.trans e)⟩
    subst eN
    have hw := hwa.wts
    have l0 := hw.l0
    have l1 := hw.l1
    have hz : 0 < N → 0 < ws.sum := fun h => by
      have h1 := hz' (by omega)
      have h2 := sum_nonneg ws hw.b0
      omega
    have hp4 := e4 _ _ hp3
    have npo : p ≠ o := ne_of_none hp3 no
    refine ⟨o, rfl, ⟨_, SqL.of ho4⟩, ?_⟩
    refine for_list (K := K) (a := o) (xs := nats (ordr ws N)) (fun i σ H' => (∃ v3, σ = [some (.int (N : Int)), some (.ref a), some (.ref p), v3]) ∧ Same H H' ∧ H' p = some (.lst ((run ws i).map V.int)) ∧ H' o = some (.lst (nats (ordr ws N)))) ⟨⟨none, rfl⟩, e3.trans e4, hp4, ho4⟩ (fun i σ H' _ ⟨_, _, _, e⟩ => SqL.of e) ?_ ?_
    · rintro i x σ H5 hx ⟨⟨v3, rfl⟩, e5, hp5, ho5⟩
      unfold nats ordr at hx
      rw [List.map_map, List.getElem?_map] at hx
      have hi : i < N := by
        by_cases h : i < N
        · exact h
        · rw [List.getElem?_eq_none (by rw [List.length_range]; omega)] at hx
          cases hx
      rw [List.getElem?_range hi] at hx
      have ex : V.int ((ch ws (run ws i) ((i + 1 : Nat) : Int) : Nat) : Int) = x := Option.some.inj hx
      subst ex
      obtain ⟨_, hc1, _⟩ := run_ch (hz (by omega)) i
      have hat : ((run ws i).map V.int)[ch ws (run ws i) ((i + 1 : Nat) : Int)]? = some (.int (at0 (run ws i) (ch ws (run ws i) ((i + 1 : Nat) : Int)))) := by
        rw [List.getElem?_map, at0_lt (by rw [run_len]; exact hc1)]
        rfl
      have hix : ixN ((run ws i).map V.int).length ((ch ws (run ws i) ((i + 1 : Nat) : Int) : Nat) : Int) = some (ch ws (run ws i) ((i + 1 : Nat) : Int)) := ixN_nat (by rw [List.length_map, run_len]; exact hc1)
      have hp5' : SqL K H5 p ((run ws i).map V.int) := SqL.of hp5
      walk_at "st"
      refine ⟨⟨_, rfl⟩, fun b z hb => ?_, ?_, ?_⟩
      · rw [upd_ne (ne_of_none hb np0)]
        exact e5 _ _ hb
      · rw [upd_same, ← List.map_set]
        rfl
      · rw [upd_ne npo.symm]
        exact ho5
    · rintro σ H5 ⟨⟨v3, rfl⟩, e5, hp5, ho5⟩
      walk_at "st"
      refine q p H5 N rfl hN hwa hz' e5 np0 ?_
      rw [hp5]
      unfold nats
      rw [List.length_map, ordr_len]

def sp_fee (K : PySem.W.Frag) (C : Addr) : Sp := fun vs H Q E => ∃ a r c : Int, vs = [.int a, .int r, .int c] ∧
  ((0 ≤ a ∧ a ≤ 1000000000000000000) → (0 ≤ r ∧ r ≤ 1000000) → (0 ≤ c ∧ c ≤ 999999) → ∀ p, H p = none → Q (.ref p) (upd H p (.tup [.int ((a * r + c) / 1000000), .int ((a * r + c) % 1000000)]))) ∧
  (¬ ((0 ≤ a ∧ a ≤ 1000000000000000000) ∧ (0 ≤ r ∧ r ≤ 1000000) ∧ (0 ≤ c ∧ c ≤ 999999)) → E (.ref C) none H)
theorem ok_fee (T : Txt K mg) : FnOk P w K mg base (L2.CX P w) 2 T.f_fee T.d_fee ["amount", "rate", "carried"] (sp_fee K T.c_InvalidAmount) := by
  refine T.F_fee.ok sc_fee (fun vs H Q E h => ?_) (fun cdv A outer s H vs Q E hr h => ?_)
  · obtain ⟨a, r, c, rfl, _⟩ := h
    rfl
  · obtain ⟨a, r, c, rfl, q, qe⟩ := h
    have G_check_amount : FnOk P w K mg base (L2.CX P w) 1 T.f_check_amount T.d_check_amount ["amount", "most"] (sp_check_amount K T.c_InvalidAmount) := ok_check_amount T
    refine ⟨_, (pss_cons (ps_expr (pe_callS G_check_amount hr (by rfl) T.m_check_amount T.F_check_amount.kp T.b_check_amount (fun σ => passAt (takes_of rfl rfl rfl rfl) σ) (pa_cons (pv 0) (pa_cons (pe_glob (v := .int 1000000000000000000) rfl T.m_MOST_AMOUNT ⟨_, rfl⟩) pa_nil))))
    (pss_cons (ps_expr (pe_callS G_check_amount hr (by rfl) T.m_check_amount T.F_check_amount.kp T.b_check_amount (fun σ => passAt (takes_of rfl rfl rfl rfl) σ) (pa_cons (pv 1) (pa_cons (pe_glob (v := .int 1000000) rfl T.m_MILLION ⟨_, rfl⟩) pa_nil))))
    (pss_cons (ps_expr (pe_callS G_check_amount hr (by rfl) T.m_check_amount T.F_check_amount.kp T.b_check_amount (fun σ => passAt (takes_of rfl rfl rfl rfl) σ) (pa_cons (pv 2) (pa_cons (pe_op op_sub (pe_glob (v := .int 1000000) rfl T.m_MILLION ⟨_, rfl⟩) pe_int) pa_nil))))
    (pss_one (ps_ret (pe_callB call_divmod (by rfl) T.z_divmod (by decide +kernel) (pa_cons (pe_op op_add (pe_op op_mul (pv 0) (pv 1)) (pv 2)) (pa_cons (pe_glob (v := .int 1000000) rfl T.m_MILLION ⟨_, rfl⟩) pa_nil)))))))), ?_⟩
    walk_at "st"
    refine ⟨fun a0 a1 => ?_, fun g => qe fun z => g z.1⟩
    walk_at "st"
    refine ⟨fun r0 r1 => ?_, fun g => qe fun z => g z.2.1⟩
    walk_at "st"
    refine ⟨fun c0 c1 => ?_, fun g => qe fun z => g z.2.2⟩
    walk_at "st"
    exact q ⟨a0, a1⟩ ⟨r0, r1⟩ ⟨c0, c1⟩

def sp_law_cell (K : PySem.W.Frag) : Sp := fun vs H Q _ => ∃ (a : Addr) (ns : List Int) (j : Nat), vs = [.ref a, .int j] ∧ SqL K H a (ns.map V.int) ∧ Q (.int (cellOf ns j)) H
theorem ok_law_cell (T : Txt K mg) : FnOk P w K mg base CX0 1 T.f_law_cell T.d_law_cell ["script", "k"] (sp_law_cell K) := by
  refine T.F_law_cell.ok sc_law_cell (fun vs H Q E h => ?_) (fun cdv A outer s H vs Q E hr h => ?_)
  · obtain ⟨a, ns, j, rfl, _⟩ := h
    rfl
  · obtain ⟨a, ns, j, rfl, hs, q⟩ := h
    refine ⟨_, (pss_cons (ps_if (pt_cmpR op_lt (pv 1) (pe_callB call_len_seq (by rfl) T.z_len PySem.boot_len (pa_cons (pv 0) pa_nil)) (nomark _))
      (pss_one (ps_ret (pe_ix ix_list (pv 0) (pv 1) (fun _ _ => rfl))))
      pss_nil)
    (pss_one (ps_ret pe_int))), ?_⟩
    walk_at "st"
    refine iteD (fun h => ?_) (fun h => ?_)
    · have hj : j < ns.length := by rw [List.length_map] at h; omega
      walk_at "st"
      exact ⟨atI_ints hj, q⟩
    · have hj : ¬ j < ns.length := by rw [List.length_map] at h; omega
      rw [cellOf_out hj] at q
      exact q

/-- what the draws are: only their number and their bounds matter -/
def sp_law_draws (K : PySem.W.Frag) : Sp := fun vs H Q _ => ∃ (cell : Int) (n : Nat) (size : Int), vs = [.int cell, .int (n : Int), .int size] ∧ n ≤ 1000 ∧ 0 < size ∧ size < 1073741824 ∧
  ∀ p H' (ds : List Int), Same H H' → H p = none → H' p = some (.lst (ds.map V.int)) → ds.length = n → (∀ d, d ∈ ds → 0 ≤ d ∧ d < size) → Q (.ref p) H'
theorem ok_law_draws (T : Txt K mg) : FnOk P w K mg base CX0 1 T.f_law_draws T.d_law_draws ["cell", "count", "size"] (sp_law_draws K) := by
  refine T.F_law_draws.ok sc_law_draws (fun vs H Q E h => ?_) (fun cdv A outer s H vs Q E hr h => ?_)
  · obtain ⟨cell, n, size, rfl, _⟩ := h
    rfl
  · obtain ⟨cell, n, size, rfl, hn, h0, h1, q⟩ := h
    refine ⟨_, (pss_cons (ps_set (i := 3) sc_law_draws.nd rfl (Or.inl rfl) (pe_lst pa_nil))
    (pss_cons (ps_set (i := 4) sc_law_draws.nd rfl (Or.inl rfl) (pe_callB call_abs (by rfl) T.z_abs (by decide +kernel) (pa_cons (pv 0) pa_nil)))
    (pss_cons (ps_if (pt_cmpR op_ge (pv 4) pe_int (nomark _))
      (pss_cons (ps_for PassesOwn.never rfl (pi_range1 (by rfl) T.z_range (pa_cons (pv 1) pa_nil)) (pg_name (i := 5) sc_law_draws.nd rfl (Or.inl rfl))
        (pss_cons (ps_expr (pe_bm PySem.F.plainAttrs_list PySem.F.slot_list_append PySem.F.type_list_append mt_append (pv 3) (pa_cons (pe_op op_mod (pe_callTy call_int_i (by rfl) T.z_int (by decide +kernel) (pa_cons (pv 4) pa_nil)) (pv 2)) pa_nil)))
        (pss_one (ps_set (i := 4) sc_law_draws.nd rfl (Or.inl rfl) (pe_op op_fdiv (pv 4) (pv 2))))))
      (pss_one (ps_ret (pv 3))))
      pss_nil)
    (pss_cons (ps_for PassesOwn.never rfl (pi_range1 (by rfl) T.z_range (pa_cons (pv 1) pa_nil)) (pg_name (i := 5) sc_law_draws.nd rfl (Or.inl rfl))
      (pss_cons (ps_set (i := 4) sc_law_draws.nd rfl (Or.inl rfl) (pe_op op_mod (pe_callTy call_int_i (by rfl) T.z_int (by decide +kernel) (pa_cons (pe_op op_add (pe_op op_add (pe_op op_mul (pv 4) pe_int) (pe_op op_mul (pv 5) pe_int)) pe_int) pa_nil)) pe_int))
      (pss_one (ps_expr (pe_bm PySem.F.plainAttrs_list PySem.F.slot_list_append PySem.F.type_list_append mt_append (pv 3) (pa_cons (pe_op op_mod (pe_op op_mod (pe_callTy call_int_i (by rfl) T.z_int (by decide +kernel) (pa_cons (pe_op op_add (pe_op op_mul (pv 4) pe_int) (pv 5)) pa_nil)) pe_int) (pv 2)) pa_nil))))))
    (pss_one (ps_ret (pv 3))))))), ?_⟩
    walk_at "st"
    intro D nD
    walk_at "st"
    generalize hrest : (if cell < 0 then -cell else cell) = rest
    have hrest0 : 0 ≤ rest := by rw [← hrest]; split <;> omega
    have eD : (upd H D (.lst [])) D = some (.lst (([] : List Int).map V.int)) := upd_same
    have s1 : Same H (upd H D (.lst [])) := same_upd nD
    generalize upd H D (.lst []) = H1 at eD s1
    refine iteB (fun h => ?_) (fun h => ?_)
    · walk_at "st"
      refine for_range (lo := 0) (n := ((n : Int)).toNat) (fun i σ H' => ∃ (v5 : Option V) (r : Int) (ds : List Int), σ = [some (.int cell), some (.int (n : Int)), some (.int size), some (.ref D), some (.int r), v5] ∧ 0 ≤ r ∧ H' D = some (.lst (ds.map V.int)) ∧ ds.length = i ∧ (∀ d, d ∈ ds → 0 ≤ d ∧ d < size) ∧ Same H H')
        ⟨none, rest, [], rfl, hrest0, eD, rfl, (fun _ hd => by cases hd), s1⟩ ?_ ?_
      · rintro i σ H' hi ⟨v5, r, ds, rfl, hr0, hD, hl, hb, e⟩
        have hlt : (ds.map V.int).length < sizeLine := small1000 (by rw [List.length_map]; omega)
        walk_at "st"
        refine ⟨some (.int (0 + (i : Int))), r / size, ds ++ [r % size], rfl, ?_, ?_, ?_, ?_, fun b o z => ?_⟩
        · exact Int.ediv_nonneg hr0 (by omega)
        · rw [upd_same, List.map_append]
          rfl
        · rw [List.length_append, hl]
          rfl
        · intro d hd
          rcases List.mem_append.mp hd with hd | hd
          · exact hb d hd
          · rw [List.mem_singleton.mp hd]
            exact ⟨Int.emod_nonneg _ (by omega), Int.emod_lt_of_pos _ h0⟩
        · rw [upd_ne (ne_of_none z nD)]
          exact e b o z
      · rintro σ H' ⟨v5, r, ds, rfl, hr0, hD, hl, hb, e⟩
        walk_at "st"
        exact q D H' ds e nD hD (by omega) hb
    · walk_at "st"
      refine for_range (lo := 0) (n := ((n : Int)).toNat) (fun i σ H' => ∃ (v5 : Option V) (r : Int) (ds : List Int), σ = [some (.int cell), some (.int (n : Int)), some (.int size), some (.ref D), some (.int r), v5] ∧ 0 ≤ r ∧ H' D = some (.lst (ds.map V.int)) ∧ ds.length = i ∧ (∀ d, d ∈ ds → 0 ≤ d ∧ d < size) ∧ Same H H')
        ⟨none, rest, [], rfl, hrest0, eD, rfl, (fun _ hd => by cases hd), s1⟩ ?_ ?_
      · rintro i σ H' hi ⟨v5, r, ds, rfl, hr0, hD, hl, hb, e⟩
        have hlt : (ds.map V.int).length < sizeLine := small1000 (by rw [List.length_map]; omega)
        walk_at "st"
        refine ⟨some (.int (0 + (i : Int))), (r * 48271 + (0 + (i : Int)) * 69621 + 11) % 2147483647, ds ++ [((r * 48271 + (0 + (i : Int)) * 69621 + 11) % 2147483647 * 16807 + (0 + (i : Int))) % 2147483629 % size], rfl, ?_, ?_, ?_, ?_, fun b o z => ?_⟩
        · exact Int.emod_nonneg _ (by decide)
        · rw [upd_same, List.map_append]
          rfl
        · rw [List.length_append, hl]
          rfl
        · intro d hd
          rcases List.mem_append.mp hd with hd | hd
          · exact hb d hd
          · rw [List.mem_singleton.mp hd]
            exact ⟨Int.emod_nonneg _ (by omega), Int.emod_lt_of_pos _ h0⟩
        · rw [upd_ne (ne_of_none z nD)]
          exact e b o z
      · rintro σ H' ⟨v5, r, ds, rfl, hr0, hD, hl, hb, e⟩
        walk_at "st"
        exact q D H' ds e nD hD (by omega) hb

/-- a told end: its name and a nought -/
def ends (H : Hp) (p : Addr) (s : Str) : Prop := H p = some (.tup [.str s, .int 0])
open Classical in
noncomputable def dueOf (amount largest : Int) (ws : List Int) : Str := if 0 ≤ amount ∧ amount ≤ largest then (if WtsAll ws ∧ (0 < amount → ws.sum ≠ 0) then "list" else "weights") else "amount"
def sp_law_due (K : PySem.W.Frag) : Sp := fun vs H Q _ => ∃ (a : Addr) (ws : List Int) (amount largest : Int), vs = [.int amount, .int largest, .ref a] ∧ SqL K H a (ws.map V.int) ∧ ws.length ≤ 900 ∧
  ∀ p H', Same H H' → ends H' p (dueOf amount largest ws) → Q (.ref p) H'
theorem ok_law_due (T : Txt K mg) : FnOk P w K mg base CX0 1 T.f_law_due T.d_law_due ["amount", "largest", "weights"] (sp_law_due K) := by
  refine T.F_law_due.ok sc_law_due (fun vs H Q E h => ?_) (fun cdv A outer s H vs Q E hr h => ?_)
  · obtain ⟨a, ws, amount, largest, rfl, _⟩ := h
    rfl
  · obtain ⟨a, ws, amount, largest, rfl, hs, hlen, q⟩ := h
    
    have fin : ∀ {s : Str} {b : Addr}, H b = none → s = dueOf amount largest ws → Q (.ref b) (upd H b (.tup [.str s, .int 0])) := fun {s b} nb e => q b _ (same_upd nb) (by rw [← e]; exact upd_same)
    have eA : ¬ (0 ≤ amount ∧ amount ≤ largest) → "amount" = dueOf amount largest ws := fun z => by unfold dueOf; rw [if_neg z]
    have eW : (0 ≤ amount ∧ amount ≤ largest) → ¬ (WtsAll ws ∧ (0 < amount → ws.sum ≠ 0)) → "weights" = dueOf amount largest ws := fun z y => by unfold dueOf; rw [if_pos z, if_neg y]
    have eL : (0 ≤ amount ∧ amount ≤ largest) → (WtsAll ws ∧ (0 < amount → ws.sum ≠ 0)) → "list" = dueOf amount largest ws := fun z y => by unfold dueOf; rw [if_pos z, if_pos y]
    refine ⟨_, (pss_cons (ps_if (PW.pt (pw_or (pt_cmpR op_lt (pv 0) pe_int (nomark _)) (pw_or1 (pt_cmpR op_gt (pv 0) (pv 1) (nomark _)))))
      (pss_one (ps_ret (pe_tup (pa_cons pe_str (pa_cons pe_int pa_nil)))))
      pss_nil)
    (pss_cons (ps_if (PW.pt (pw_or (pt_cmpR op_lt (pe_callB call_len_seq (by rfl) T.z_len PySem.boot_len (pa_cons (pv 2) pa_nil)) pe_int (nomark _)) (pw_or1 (pt_cmpR op_gt (pe_callB call_len_seq (by rfl) T.z_len PySem.boot_len (pa_cons (pv 2) pa_nil)) pe_int (nomark _)))))
      (pss_one (ps_ret (pe_tup (pa_cons pe_str (pa_cons pe_int pa_nil)))))
      pss_nil)
    (pss_cons (ps_for PassesOwn.never rfl (pi_list (pv 2)) (pg_name (i := 3) sc_law_due.nd rfl (Or.inl rfl))
      (pss_one (ps_if (PW.pt (pw_or (pt_cmpR op_lt (pv 3) pe_int (nomark _)) (pw_or1 (pt_cmpR op_gt (pv 3) pe_int (nomark _)))))
        (pss_one (ps_ret (pe_tup (pa_cons pe_str (pa_cons pe_int pa_nil)))))
        pss_nil)))
    (pss_cons (ps_if (PW.pt (pw_and (pt_cmpR op_gt (pv 0) pe_int (nomark _)) (pw_and1 (pt_cmpR op_eq (pe_callB (cr_sum rfl) (by rfl) T.z_sum (by decide +kernel) (pa_cons (pv 2) pa_nil)) pe_int (nomark _)))))
      (pss_one (ps_ret (pe_tup (pa_cons pe_str (pa_cons pe_int pa_nil)))))
      pss_nil)
    (pss_one (ps_ret (pe_tup (pa_cons pe_str (pa_cons pe_int pa_nil))))))))), ?_⟩
    walk_at "st"
    refine iteB (fun h => ?_) (fun h => ?_)
    · have h := dec_t h
      walk_at "st"
      exact fun b nb => fin nb (eA fun z => by omega)
    have a0 := dec_f h
    walk_at "st"
    refine iteB (fun h => ?_) (fun h => ?_)
    · have h := dec_t h
      walk_at "st"
      exact fun b nb => fin nb (eA fun z => by omega)
    have a1 := dec_f h
    have am : 0 ≤ amount ∧ amount ≤ largest := ⟨by omega, by omega⟩
    walk_at "st"
    refine iteB (fun h => ?_) (fun h => ?_)
    · have h := dec_t h
      rw [List.length_map] at h
      walk_at "st"
      exact fun b nb => fin nb (eW am fun z => by have := z.1.1; omega)
    have l0 := dec_f h
    rw [List.length_map] at l0
    walk_at "st"
    refine iteB (fun h => ?_) (fun h => ?_)
    · have h := dec_t h
      rw [List.length_map] at h
      walk_at "st"
      exact fun b nb => fin nb (eW am fun z => by have := z.1.2.1; omega)
    have l1 := dec_f h
    rw [List.length_map] at l1
    walk_at "st"
    refine for_list (K := K) (a := a) (xs := ws.map V.int) (fun i σ H' => (∃ v, σ = [some (.int amount), some (.int largest), some (.ref a), v]) ∧ H' = H ∧ ∀ w, w ∈ ws.take i → 0 ≤ w ∧ w ≤ 1000000000000000) ⟨⟨none, rfl⟩, rfl, fun _ h => by cases h⟩ (fun i σ H' _ ⟨_, e, _⟩ => by rw [e]; exact hs) ?_ ?_
    · rintro i x σ H' hx ⟨⟨v, rfl⟩, rfl, hb⟩
      obtain ⟨z, hz, rfl⟩ := ints_at hx
      have hm := List.mem_of_getElem? hz
      walk_at "st"
      refine iteB (fun h => ?_) (fun h => ?_)
      · have h := dec_t h
        walk_at "st"
        exact fun b nb => fin nb (eW am fun y => by have := (y.1.2.2 z hm).1; omega)
      have z0 := dec_f h
      walk_at "st"
      refine iteB (fun h => ?_) (fun h => ?_)
      · have h := dec_t h
        walk_at "st"
        exact fun b nb => fin nb (eW am fun y => by have := (y.1.2.2 z hm).2; omega)
      have z1 := dec_f h
      refine ⟨⟨_, rfl⟩, rfl, fun w hw => ?_⟩
      rw [take_succ hz] at hw
      rcases List.mem_append.mp hw with hw | hw
      · exact hb w hw
      · rw [List.mem_singleton.mp hw]
        exact ⟨by omega, by omega⟩
    · rintro σ H' ⟨⟨v, rfl⟩, rfl, hb⟩
      rw [show ws.take (ws.map V.int).length = ws by rw [List.length_map, List.take_length]] at hb
      have hw : WtsAll ws := ⟨by omega, by omega, hb⟩
      walk_at "st"
      refine iteB (fun h => ?_) (fun h => ?_)
      · have h := dec_t h
        walk_at "st"
        refine iteB (fun g => ?_) (fun g => ?_)
        · have g := V.int.inj (dec_t g)
          walk_at "st"
          exact fun b nb => fin nb (eW am fun y => y.2 h g)
        · walk_at "st"
          exact fun b nb => fin nb (eL am ⟨hw, fun _ y => dec_f g (congrArg V.int y)⟩)
      · walk_at "st"
        exact fun b nb => fin nb (eL am ⟨hw, fun y => absurd y (dec_f h)⟩)
def sp_law_kind (K : PySem.W.Frag) : Sp := fun vs H Q _ => ∃ (a : Addr) (ws : List Int) (amount : Int) (name : Str), vs = [.str name, .int amount, .ref a] ∧ SqL K H a (ws.map V.int) ∧ ws.length ≤ 900 ∧ (name = "split" ∨ name = "deal" ∨ name = "order") ∧
  ∀ p H', Same H H' → ends H' p (dueOf amount (if name = "split" then 1000000000000000000 else 9999) ws) → Q (.ref p) H'
theorem ok_law_kind (T : Txt K mg) : FnOk P w K mg base CX0 5 T.f_law_kind T.d_law_kind ["name", "amount", "weights"] (sp_law_kind K) := by
  refine T.F_law_kind.ok sc_law_kind (fun vs H Q E h => ?_) (fun cdv A outer s H vs Q E hr h => ?_)
  · obtain ⟨a, ws, amount, name, rfl, _⟩ := h
    rfl
  · obtain ⟨a, ws, amount, name, rfl, hs, hlen, hn, q⟩ := h
    have G_split : FnOk P w K mg base (L2.CX P w) 2 T.f_split T.d_split ["amount", "weights"] (sp_split K T.c_InvalidAmount T.c_InvalidWeights) := ok_split T
    have G_deal : FnOk P w K mg base (L2.CX P w) 4 T.f_deal T.d_deal ["amount", "weights"] (sp_deal K T.c_InvalidAmount T.c_InvalidWeights) := ok_deal T
    have G_deal_order : FnOk P w K mg base (L2.CX P w) 3 T.f_deal_order T.d_deal_order ["amount", "weights"] (sp_deal_order K T.c_InvalidAmount T.c_InvalidWeights) := ok_deal_order T
    have teA := PySem.W.exm_ref T.b_InvalidAmount T.d_InvalidAmount T.t_InvalidAmount T.s_InvalidAmount
    have teW := PySem.W.exm_ref T.b_InvalidWeights T.d_InvalidWeights T.t_InvalidWeights T.s_InvalidWeights
    have teN := PySem.W.exm_ref T.b_InvalidAmount T.d_InvalidAmount T.t_InvalidAmount T.su_InvalidWeights_InvalidAmount
    generalize hM : (if name = "split" then (1000000000000000000 : Int) else 9999) = M at q
    have dA : ¬ (0 ≤ amount ∧ amount ≤ M) → dueOf amount M ws = "amount" := fun z => by unfold dueOf; rw [if_neg z]
    have dW : 0 ≤ amount → amount ≤ M → ¬ (WtsAll ws ∧ (0 < amount → ws.sum ≠ 0)) → dueOf amount M ws = "weights" := fun y1 y2 z => by unfold dueOf; rw [if_pos ⟨y1, y2⟩, if_neg z]
    have dL : 0 ≤ amount → amount ≤ M → (WtsAll ws ∧ (0 < amount → ws.sum ≠ 0)) → dueOf amount M ws = "list" := fun y1 y2 z => by unfold dueOf; rw [if_pos ⟨y1, y2⟩, if_pos z]
    refine ⟨_, (C8.pss_cut (ps_try_as2 (i := 4) rfl rfl sc_law_kind.nd rfl rfl ⟨rfl, by decide, Or.inl T.m_InvalidAmount⟩ ⟨rfl, by decide, Or.inl T.m_InvalidWeights⟩ takes0
      (fun W pn xe tk _ => (pss_one (ps_if (pt_cmpR op_eq (pv 0) pe_str (nomark _))
        (pss_one (ps_set (i := 3) sc_law_kind.nd rfl (Or.inl rfl) (pe_callS G_split (hr.mono (by decide)) (by rfl) T.m_split T.F_split.kp T.b_split (fun σ => passAt tk σ) (pa_cons (pv 1) (pa_cons (pe_callTy (show CallR _ (.type "list") (rListOf K) from call_list_of) (by rfl) T.z_list (by decide +kernel) (pa_cons (pv 2) pa_nil)) pa_nil)))))
        (pss_one (ps_if (pt_cmpR op_eq (pv 0) pe_str (nomark _))
          (pss_one (ps_set (i := 3) sc_law_kind.nd rfl (Or.inl rfl) (pe_callS G_deal hr (by rfl) T.m_deal T.F_deal.kp T.b_deal (fun σ => passAt tk σ) (pa_cons (pv 1) (pa_cons (pe_callTy (show CallR _ (.type "list") (rListOf K) from call_list_of) (by rfl) T.z_list (by decide +kernel) (pa_cons (pv 2) pa_nil)) pa_nil)))))
          (pss_one (ps_set (i := 3) sc_law_kind.nd rfl (Or.inl rfl) (pe_callS G_deal_order (hr.mono (by decide)) (by rfl) T.m_deal_order T.F_deal_order.kp T.b_deal_order (fun σ => passAt tk σ) (pa_cons (pv 1) (pa_cons (pe_callTy (show CallR _ (.type "list") (rListOf K) from call_list_of) (by rfl) T.z_list (by decide +kernel) (pa_cons (pv 2) pa_nil)) pa_nil))))))))))
      (fun a oe cls d pn hz hf => (pss_cons (ps_if (PW.pt (pw_and (pt_val (pe_callB (call_isE' T.e_InvalidAmount hz hf) (by rfl) T.z_isinstance (by decide +kernel) (pa_cons (pv 4) (pa_cons (pe_glob (v := .ref T.c_BourseError) rfl T.m_BourseError rfl) pa_nil)))) (pw_and1 (pt_not (pt_val (pe_callB (call_isE' T.e_InvalidAmount hz hf) (by rfl) T.z_isinstance (by decide +kernel) (pa_cons (pv 4) (pa_cons (pe_glob (v := .ref T.c_InvalidWeights) rfl T.m_InvalidWeights rfl) pa_nil))))))))
        (pss_one (ps_ret (pe_tup (pa_cons pe_str (pa_cons pe_int pa_nil)))))
        pss_nil)
      (pss_one (ps_ret (pe_tup (pa_cons pe_str (pa_cons pe_int pa_nil)))))))
      (fun a oe cls d pn hz hf => (pss_cons (ps_if (pt_val (pe_callB (call_isE' T.e_InvalidWeights hz hf) (by rfl) T.z_isinstance (by decide +kernel) (pa_cons (pv 4) (pa_cons (pe_glob (v := .ref T.c_BourseError) rfl T.m_BourseError rfl) pa_nil))))
        (pss_one (ps_ret (pe_tup (pa_cons pe_str (pa_cons pe_int pa_nil)))))
        pss_nil)
      (pss_one (ps_ret (pe_tup (pa_cons pe_str (pa_cons pe_int pa_nil))))))))
    (pss_cons (ps_if (pt_not (pt_val (pe_callB call_isi (by rfl) T.z_isinstance (by decide +kernel) (pa_cons (pv 3) (pa_cons (pe_bltn (v := .ty "list") (u := .type "list") (by rfl) T.z_list (by decide +kernel) rfl) pa_nil)))))
      (pss_one (ps_ret (pe_tup (pa_cons pe_str (pa_cons pe_int pa_nil)))))
      pss_nil)
    (C8.pss_cut (ps_if (PW.pt (pw_and (pt_cmpR op_ne (pv 0) pe_str (nomark _)) (pw_and1 (pt_cmpR op_ne (pe_callB call_len_seq (by rfl) T.z_len PySem.boot_len (pa_cons (pv 3) pa_nil)) (pe_callB call_len_seq (by rfl) T.z_len PySem.boot_len (pa_cons (pv 2) pa_nil)) (nomark _)))))
      (pss_one (ps_ret (pe_tup (pa_cons pe_str (pa_cons pe_int pa_nil)))))
      pss_nil)
    (C8.pss_cut (ps_if (PW.pt (pw_and (pt_cmpR op_eq (pe_callB (cr_sum rfl) (by rfl) T.z_sum (by decide +kernel) (pa_cons (pv 2) pa_nil)) pe_int (nomark _)) (pw_and1 (pt_cmpR (op_neD hr.units) (pe_lc (own := [("part", 5)]) (g := gName 5) rfl sc_law_kind.nd (pi_list (pv 3)) (blkOk_by (own := [("part", 5)]) (N := N_law_kind) (sc := defScope s_law_kind) (by decide +kernel)) (fun _ _ _ _ _ => (pg_name (i := 5) sc_law_kind.nd rfl (Or.inl rfl))) (fun _ _ _ _ _ => pts_one (pt_cmpR op_ne (pv 5) pe_int (nomark _))) (fun _ _ _ _ _ => (pv 5))) (pe_lst pa_nil) (nomark _)))))
      (pss_one (ps_ret (pe_tup (pa_cons pe_str (pa_cons pe_int pa_nil)))))
      pss_nil)
    (pss_cons (ps_if (PW.pt (pw_and (pt_cmpR op_eq (pv 0) pe_str (nomark _)) (pw_and1 (pt_cmpR op_ne (pe_callB call_len_seq (by rfl) T.z_len PySem.boot_len (pa_cons (pv 3) pa_nil)) (pv 1) (nomark _)))))
      (pss_one (ps_ret (pe_tup (pa_cons pe_str (pa_cons pe_int pa_nil)))))
      pss_nil)
    (pss_one (ps_ret (pe_tup (pa_cons pe_str (pa_cons pe_int pa_nil)))))))))), ?_⟩
    refine ⟨fun σ' H' => Same H H' ∧ ∃ (p : Addr) (zs : List Int), σ' = [some (.str name), some (.int amount), some (.ref a), some (.ref p), none, none] ∧ H' p = some (.lst (zs.map V.int)) ∧ (name ≠ "order" → zs.length = ws.length) ∧ (ws.sum = 0 → ∀ z, z ∈ zs → z = 0) ∧ (name = "order" → (zs.length : Int) = amount) ∧ dueOf amount M ws = "list" ∧ zs.length ≤ 10000, ?_, ?_⟩
    · walk_at "st"
      refine iteB (fun h => ?_) (fun h => ?_)
      · have hnm : name = "split" := V.str.inj (dec_t h)
        rw [if_pos hnm] at hM
        subst hM
        walk_at "st"
        intro l nl
        have sl := same_upd (o := .lst (ws.map V.int)) nl
        have hl : SqL K (upd H l (.lst (ws.map V.int))) l (ws.map V.int) := SqL.of upd_same
        generalize upd H l (.lst (ws.map V.int)) = H1 at *
        walk_at "st"
        refine ⟨fun p H2 g0 g1 g2 g3 e2 np hp => ?_, fun g H2 e2 => ?_, fun g0 g1 g H2 e2 => ?_⟩
        · refine ⟨sl.trans e2, p, splitOf amount ws, rfl, hp, fun _ => splitOf_len amount ws, fun z => ?_, fun z => absurd (hnm.symm.trans z) (by decide), dL g0 g1 ⟨g2, g3⟩, by rw [splitOf_len]; omega⟩
          intro x hx
          unfold splitOf at hx
          rw [if_pos z] at hx
          obtain ⟨_, _, rfl⟩ := List.mem_map.mp hx
          rfl
        · refine ⟨true, teA, fun _ a0 _ => ?_, fun q => Bool.noConfusion q⟩
          walk_at "st"
          refine ⟨_, true, rfl, fun u hu => hu, T.kt_InvalidAmount_BourseError, ?_⟩
          refine ⟨true, rfl, iteT ?_⟩
          walk_at "st"
          refine ⟨_, false, rfl, fun u hu => hu, T.kt_InvalidAmount_InvalidWeights, ?_⟩
          walk_at "st"
          intro b nb
          exact q b _ ((sl.trans e2).trans (same_upd nb)) (by rw [dA g]; exact upd_same)
        · refine ⟨false, teN, fun q => Bool.noConfusion q, fun _ => ?_⟩
          refine ⟨true, teW, fun _ a0 _ => ?_, fun q => Bool.noConfusion q⟩
          walk_at "st"
          refine ⟨_, true, rfl, fun u hu => hu, T.kt_InvalidWeights_BourseError, ?_⟩
          walk_at "st"
          intro b nb
          exact q b _ ((sl.trans e2).trans (same_upd nb)) (by rw [dW g0 g1 g]; exact upd_same)
      · have hns : name ≠ "split" := fun z => dec_f h (congrArg V.str z)
        rw [if_neg hns] at hM
        subst hM
        walk_at "st"
        refine iteB (fun h => ?_) (fun h => ?_)
        · have hnm : name = "deal" := V.str.inj (dec_t h)
          walk_at "st"
          intro l nl
          have sl := same_upd (o := .lst (ws.map V.int)) nl
          have hl : SqL K (upd H l (.lst (ws.map V.int))) l (ws.map V.int) := SqL.of upd_same
          generalize upd H l (.lst (ws.map V.int)) = H1 at *
          walk_at "st"
          refine ⟨fun p H2 N eN g1 g2 g3 e2 np hp => ?_, fun g H2 e2 => ?_, fun g0 g1 g H2 e2 => ?_⟩
          · refine ⟨sl.trans e2, p, run ws N, rfl, hp, fun _ => run_len ws N, fun z => ?_, fun z => absurd (hnm.symm.trans z) (by decide), dL (by omega) (by omega) ⟨g2, g3⟩, by rw [run_len]; omega⟩
            have hN0 : N = 0 := by
              by_cases w : N = 0
              · exact w
              · exact absurd z (g3 (by omega))
            subst hN0
            intro x hx
            obtain ⟨_, _, rfl⟩ := List.mem_map.mp hx
            rfl
          · refine ⟨true, teA, fun _ a0 _ => ?_, fun q => Bool.noConfusion q⟩
            walk_at "st"
            refine ⟨_, true, rfl, fun u hu => hu, T.kt_InvalidAmount_BourseError, ?_⟩
            refine ⟨true, rfl, iteT ?_⟩
            walk_at "st"
            refine ⟨_, false, rfl, fun u hu => hu, T.kt_InvalidAmount_InvalidWeights, ?_⟩
            walk_at "st"
            intro b nb
            exact q b _ ((sl.trans e2).trans (same_upd nb)) (by rw [dA g]; exact upd_same)
          · refine ⟨false, teN, fun q => Bool.noConfusion q, fun _ => ?_⟩
            refine ⟨true, teW, fun _ a0 _ => ?_, fun q => Bool.noConfusion q⟩
            walk_at "st"
            refine ⟨_, true, rfl, fun u hu => hu, T.kt_InvalidWeights_BourseError, ?_⟩
            walk_at "st"
            intro b nb
            exact q b _ ((sl.trans e2).trans (same_upd nb)) (by rw [dW g0 g1 g]; exact upd_same)
        · have hnm : name = "order" := (hn.resolve_left hns).resolve_left fun z => dec_f h (congrArg V.str z)
          walk_at "st"
          intro l nl
          have sl := same_upd (o := .lst (ws.map V.int)) nl
          have hl : SqL K (upd H l (.lst (ws.map V.int))) l (ws.map V.int) := SqL.of upd_same
          generalize upd H l (.lst (ws.map V.int)) = H1 at *
          walk_at "st"
          refine ⟨fun p H2 N eN g1 g2 g3 e2 np hp => ?_, fun g H2 e2 => ?_, fun g0 g1 g H2 e2 => ?_⟩
          · refine ⟨sl.trans e2, p, (ordr ws N).map fun (k : Nat) => (k : Int), rfl, by rw [hp]; unfold nats; rw [List.map_map]; rfl, fun z => absurd hnm z, fun z => ?_, fun _ => by rw [List.length_map, ordr_len]; exact eN.symm, dL (by omega) (by omega) ⟨g2, g3⟩, by rw [List.length_map, ordr_len]; omega⟩
            have hN0 : N = 0 := by
              by_cases w : N = 0
              · exact w
              · exact absurd z (g3 (by omega))
            subst hN0
            intro x hx
            cases hx
          · refine ⟨true, teA, fun _ a0 _ => ?_, fun q => Bool.noConfusion q⟩
            walk_at "st"
            refine ⟨_, true, rfl, fun u hu => hu, T.kt_InvalidAmount_BourseError, ?_⟩
            refine ⟨true, rfl, iteT ?_⟩
            walk_at "st"
            refine ⟨_, false, rfl, fun u hu => hu, T.kt_InvalidAmount_InvalidWeights, ?_⟩
            walk_at "st"
            intro b nb
            exact q b _ ((sl.trans e2).trans (same_upd nb)) (by rw [dA g]; exact upd_same)
          · refine ⟨false, teN, fun q => Bool.noConfusion q, fun _ => ?_⟩
            refine ⟨true, teW, fun _ a0 _ => ?_, fun q => Bool.noConfusion q⟩
            walk_at "st"
            refine ⟨_, true, rfl, fun u hu => hu, T.kt_InvalidWeights_BourseError, ?_⟩
            walk_at "st"
            intro b nb
            exact q b _ ((sl.trans e2).trans (same_upd nb)) (by rw [dW g0 g1 g]; exact upd_same)
    · rintro σ' H' ⟨e, p, zs, rfl, hp, z1, z2, z3, hd, hzl⟩
      have hp' : SqL K H' p (zs.map V.int) := SqL.of hp
      have hs' := e.seq hs
      refine ⟨_, rfl, ?_⟩
      refine ⟨_, _, _, _, true, rfl, .ty _, .base (.lst hp), kit_ty (by decide +kernel), ?_⟩
      refine ⟨_, rfl, iteF ?_⟩
      refine ⟨fun σ'' H'' => H'' = H' ∧ σ'' = [some (.str name), some (.int amount), some (.ref a), some (.ref p), none, none], ?_, ?_⟩
      · walk_at "st"
        refine iteB (fun h => ?_) (fun h => ?_)
        · have hno : name ≠ "order" := fun z => ndec_t h (congrArg V.str z)
          walk_at "st"
          refine iteB (fun h => (ndec_t h (congrArg V.int (by rw [List.length_map, List.length_map, z1 hno]))).elim) (fun _ => ?_)
          exact ⟨rfl, rfl⟩
        · exact ⟨rfl, rfl⟩
      rintro σ'' H'' ⟨rfl, rfl⟩
      refine ⟨fun σ' H' => Same H'' H' ∧ σ' = [some (.str name), some (.int amount), some (.ref a), some (.ref p), none, none], ?_, ?_⟩
      · walk_at "st"
        refine iteB (fun h => ?_) (fun h => ?_)
        · have hz0 : ws.sum = 0 := V.int.inj (dec_t h)
          have hall := z2 hz0
          walk_at "st"
          intro D nD
          refine lc_list (K := K) (a := p) (xs := zs.map V.int) (fun i H' => H' = upd H'' D (.lst [])) rfl (fun i H' _ e => by rw [e]; exact (same_upd nD).seq hp') ?_ ?_
          · rintro i x H3 hx rfl
            obtain ⟨z, hz, rfl⟩ := ints_at hx
            have hz1 := hall z (List.mem_of_getElem? hz)
            subst hz1
            refine ⟨rfl, ?_⟩
            walk_at "st"
            refine iteB (fun h => (ndec_t h rfl).elim) (fun _ => ?_)
            rfl
          · rintro H3 rfl
            walk_at "st"
            intro E nE
            have sD := same_upd (o := .lst []) nD
            have sE := same_upd (o := .lst []) nE
            refine neD_ints (xs := []) (ys := []) (sE.seq (K := K) (SqL.of upd_same)) (SqL.of upd_same) ?_
            refine ⟨_, rfl, iteB (fun h => (ndec_t h rfl).elim) (fun _ => ?_)⟩
            exact ⟨sD.trans sE, rfl⟩
        · exact ⟨Same.refl _, rfl⟩
      · rintro σ' H3 ⟨e3, rfl⟩
        have hp3 := e3.seq hp'
        have fin : ∀ b, H3 b = none → Q (.ref b) (upd H3 b (.tup [.str "list", .int 0])) := fun b nb => q b _ ((e.trans e3).trans (same_upd nb)) (by rw [hd]; exact upd_same)
        walk_at "st"
        refine iteB (fun h => ?_) (fun h => ?_)
        · have hno : name = "order" := V.str.inj (dec_t h)
          walk_at "st"
          refine iteB (fun h => (ndec_t h (congrArg V.int (by rw [List.length_map]; exact z3 hno))).elim) (fun _ => ?_)
          walk_at "st"
          exact fin
        · walk_at "st"
          exact fin

def sp_law_near (K : PySem.W.Frag) : Sp := fun vs H Q _ => ∃ (cell bound : Int), vs = [.int cell, .int bound] ∧ ∀ x H', Same H H' → Q (.int x) H'
theorem ok_law_near (T : Txt K mg) : FnOk P w K mg base CX0 1 T.f_law_near T.d_law_near ["cell", "bound"] (sp_law_near K) := by
  refine T.F_law_near.ok sc_law_near (fun vs H Q E h => ?_) (fun cdv A outer s H vs Q E hr h => ?_)
  · obtain ⟨cell, bound, rfl, _⟩ := h
    rfl
  · obtain ⟨cell, bound, rfl, q⟩ := h
    refine ⟨_, (pss_one (ps_ret (pe_op op_sub (pe_op op_add (pe_ix ix_list (pe_lst (pa_cons pe_int (pa_cons pe_int (pa_cons pe_int (pa_cons (pv 1) pa_nil))))) (pe_op op_mod (pe_callB call_abs (by rfl) T.z_abs (by decide +kernel) (pa_cons (pv 0) pa_nil)) pe_int) (fun _ _ => rfl)) (pe_op op_mod (pe_op op_fdiv (pe_callB call_abs (by rfl) T.z_abs (by decide +kernel) (pa_cons (pv 0) pa_nil)) pe_int) pe_int)) pe_int))), ?_⟩
    obtain ⟨z, hat⟩ : ∃ z : Int, atI [V.int 0, V.int 0, V.int 0, V.int bound] ((if cell < 0 then -cell else cell) % 4) = some (.int z) := by
      generalize (if cell < 0 then -cell else cell) = s
      have h1 := Int.emod_nonneg s (by decide : (4 : Int) ≠ 0)
      have h2 := Int.emod_lt_of_pos s (by decide : (0 : Int) < 4)
      generalize s % 4 = m at *
      rcases (by omega : m = 0 ∨ m = 1 ∨ m = 2 ∨ m = 3) with e | e | e | e
      · exact ⟨0, by rw [e]; rfl⟩
      · exact ⟨0, by rw [e]; rfl⟩
      · exact ⟨0, by rw [e]; rfl⟩
      · exact ⟨bound, by rw [e]; rfl⟩
    walk_at "st"
    intro L nL
    walk_at "st"
    exact q _ _ (same_upd nL)
def sp_law_weights_near (K : PySem.W.Frag) : Sp := fun vs H Q _ => ∃ (cell shape : Int), vs = [.int cell, .int shape] ∧ ∀ p H' (ws : List Int), Same H H' → H p = none → H' p = some (.lst (ws.map V.int)) → ws.length ≤ 60 → Q (.ref p) H'
theorem ok_law_weights_near (T : Txt K mg) : FnOk P w K mg base CX0 2 T.f_law_weights_near T.d_law_weights_near ["cell", "shape"] (sp_law_weights_near K) := by
  refine T.F_law_weights_near.ok sc_law_weights_near (fun vs H Q E h => ?_) (fun cdv A outer s H vs Q E hr h => ?_)
  · obtain ⟨cell, shape, rfl, _⟩ := h
    rfl
  · obtain ⟨cell, shape, rfl, q⟩ := h
    have G_law_draws : FnOk P w K mg base CX0 1 T.f_law_draws T.d_law_draws ["cell", "count", "size"] (sp_law_draws K) := ok_law_draws T
    refine ⟨_, (pss_cons (ps_set (i := 2) sc_law_weights_near.nd rfl (Or.inr rfl) (pe_op op_mod (pe_callB call_abs (by rfl) T.z_abs (by decide +kernel) (pa_cons (pv 1) pa_nil)) pe_int))
    (pss_cons (ps_if (pt_cmpR op_eq (pv 2) pe_int (nomark _))
      (pss_one (ps_ret (pe_lc (own := [("k", 3)]) (g := gName 3) (tt := tYes) rfl sc_law_weights_near.nd (pi_range1 (by rfl) T.z_range (pa_cons (pe_ix ix_list (pe_lst (pa_cons pe_int (pa_cons pe_int (pa_cons pe_int pa_nil)))) (pe_op op_mod (pe_callB call_abs (by rfl) T.z_abs (by decide +kernel) (pa_cons (pv 0) pa_nil)) pe_int) (fun _ _ => rfl)) pa_nil)) (blkOk_by (own := [("k", 3)]) (N := N_law_weights_near) (sc := defScope s_law_weights_near) (by decide +kernel)) (fun _ _ _ _ _ => (pg_name (i := 3) sc_law_weights_near.nd rfl (Or.inl rfl))) (fun _ _ _ _ _ => pts_nil) (fun _ _ _ _ _ => pe_int))))
      pss_nil)
    (pss_cons (ps_if (pt_cmpR op_eq (pv 2) pe_int (nomark _))
      (pss_cons (ps_set (i := 4) sc_law_weights_near.nd rfl (Or.inl rfl) (pe_call G_law_draws hr (by rfl) T.m_law_draws T.F_law_draws.kp T.b_law_draws .nil pass0 (pa_cons (pv 0) (pa_cons (pe_op op_add pe_int (pe_op op_mod (pe_op op_fdiv (pe_callB call_abs (by rfl) T.z_abs (by decide +kernel) (pa_cons (pv 1) pa_nil)) pe_int) pe_int)) (pa_cons pe_int pa_nil)))))
      (pss_cons (ps_asg (pe_op op_add pe_int (pe_op op_mod (pe_callB call_abs (by rfl) T.z_abs (by decide +kernel) (pa_cons (pv 0) pa_nil)) pe_int)) (pg_sub (pv 4) (pe_op op_mod (pe_op op_fdiv (pe_callB call_abs (by rfl) T.z_abs (by decide +kernel) (pa_cons (pv 0) pa_nil)) pe_int) (pe_callB call_len_seq (by rfl) T.z_len PySem.boot_len (pa_cons (pv 4) pa_nil))) set_list))
      (pss_one (ps_ret (pv 4)))))
      pss_nil)
    (pss_cons (ps_if (pt_cmpR op_eq (pv 2) pe_int (nomark _))
      (pss_one (ps_ret (pe_lc (own := [("k", 3)]) (g := gName 3) (tt := tYes) rfl sc_law_weights_near.nd (pi_range1 (by rfl) T.z_range (pa_cons (pe_op op_add pe_int (pe_op op_mod (pe_callB call_abs (by rfl) T.z_abs (by decide +kernel) (pa_cons (pv 0) pa_nil)) pe_int)) pa_nil)) (blkOk_by (own := [("k", 3)]) (N := N_law_weights_near) (sc := defScope s_law_weights_near) (by decide +kernel)) (fun _ _ _ _ _ => (pg_name (i := 3) sc_law_weights_near.nd rfl (Or.inl rfl))) (fun _ _ _ _ _ => pts_nil) (fun _ _ _ _ _ => pe_int))))
      pss_nil)
    (pss_one (ps_ret (pe_lc (own := [("draw", 5)]) (g := gName 5) (tt := tYes) rfl sc_law_weights_near.nd (pi_list (pe_call G_law_draws hr (by rfl) T.m_law_draws T.F_law_draws.kp T.b_law_draws .nil pass0 (pa_cons (pv 0) (pa_cons (pe_op op_add pe_int (pe_op op_mod (pe_op op_fdiv (pe_callB call_abs (by rfl) T.z_abs (by decide +kernel) (pa_cons (pv 1) pa_nil)) pe_int) pe_int)) (pa_cons pe_int pa_nil))))) (blkOk_by (own := [("draw", 5)]) (N := N_law_weights_near) (sc := defScope s_law_weights_near) (by decide +kernel)) (fun _ _ _ _ _ => (pg_name (i := 5) sc_law_weights_near.nd rfl (Or.inl rfl))) (fun _ _ _ _ _ => pts_nil) (fun _ _ _ _ _ => (pe_op op_sub (pv 5) (pe_op op_mul pe_int (pe_callTy call_int_b (by rfl) T.z_int (by decide +kernel) (pa_cons (pe_cmpR op_eq (pv 2) pe_int (nomark _)) pa_nil)))))))))))), ?_⟩
    obtain ⟨s, hs⟩ : ∃ s, (if shape < 0 then -shape else shape) = s := ⟨_, rfl⟩
    obtain ⟨c, hc⟩ : ∃ c, (if cell < 0 then -cell else cell) = c := ⟨_, rfl⟩
    have k1 := Int.emod_nonneg (s / 8) (by decide : (4 : Int) ≠ 0)
    have k2 := Int.emod_lt_of_pos (s / 8) (by decide : (0 : Int) < 4)
    have k3 := Int.emod_nonneg c (by decide : (3 : Int) ≠ 0)
    have k4 := Int.emod_lt_of_pos c (by decide : (0 : Int) < 3)
    obtain ⟨z, hat, hz0, hz1⟩ : ∃ z : Int, atI [V.int 0, V.int 40, V.int 41] ((if cell < 0 then -cell else cell) % 3) = some (.int z) ∧ 0 ≤ z ∧ z ≤ 41 := by
      rw [hc]
      generalize c % 3 = m at *
      rcases (by omega : m = 0 ∨ m = 1 ∨ m = 2) with e | e | e
      · exact ⟨0, by rw [e]; rfl, by decide, by decide⟩
      · exact ⟨40, by rw [e]; rfl, by decide, by decide⟩
      · exact ⟨41, by rw [e]; rfl, by decide, by decide⟩
    walk_at "st"
    refine iteB (fun _ => ?_) (fun _ => ?_)
    · walk_at "st"
      intro L nL
      have sL := same_upd (o := .lst [.int 0, .int 40, .int 41]) nL
      walk_at "st"
      intro D nD
      refine lc_range (lo := 0) (n := z.toNat) (fun i H' => H' = upd (upd H L (.lst [.int 0, .int 40, .int 41])) D (.lst ((List.replicate i (1 : Int)).map V.int))) rfl ?_ ?_
      · rintro i H' hi rfl
        refine ⟨rfl, _, upd_same, small1000 (by rw [List.length_map, List.length_replicate]; omega), ?_⟩
        rw [upd_upd, List.replicate_succ', List.map_append]
        rfl
      · rintro H' rfl
        exact q D _ _ (sL.trans (same_upd nD)) (sL.free nD) upd_same (by rw [List.length_replicate]; omega)
    · obtain ⟨n, en⟩ : ∃ n : Nat, 1 + (if shape < 0 then -shape else shape) / 8 % 4 = (n : Int) := by
        rw [hs]
        exact ⟨(1 + s / 8 % 4).toNat, by omega⟩
      have hn0 : 1 ≤ n := by rw [hs] at en; omega
      have hn1 : n ≤ 4 := by rw [hs] at en; omega
      walk_at "st"
      refine iteB (fun _ => ?_) (fun _ => ?_)
      · walk_at "st"
        refine ⟨show [V.int cell, V.int (1 + (if shape < 0 then -shape else shape) / 8 % 4), V.int 3] = [V.int cell, V.int (n : Int), V.int 3] by rw [en], by omega, by decide, by decide, fun p H1 ds e1 np hp hdl hdb => ?_⟩
        have hp1 : SqL K H1 p (ds.map V.int) := SqL.of hp
        have hlp : (0 : Int) < ((ds.map V.int).length : Nat) := by rw [List.length_map]; omega
        obtain ⟨j, ej, hj⟩ : ∃ j : Nat, (if cell < 0 then -cell else cell) / 2 % ((ds.map V.int).length : Nat) = (j : Int) ∧ j < ds.length := by
          have m1 := Int.emod_nonneg ((if cell < 0 then -cell else cell) / 2) (by omega : (((ds.map V.int).length : Nat) : Int) ≠ 0)
          have m2 := Int.emod_lt_of_pos ((if cell < 0 then -cell else cell) / 2) hlp
          rw [List.length_map] at m1 m2 ⊢
          exact ⟨((if cell < 0 then -cell else cell) / 2 % (ds.length : Int)).toNat, by omega, by omega⟩
        have hix : ixN (ds.map V.int).length ((if cell < 0 then -cell else cell) / 2 % ((ds.map V.int).length : Nat)) = some j := by
          rw [ej]
          exact ixN_nat (by rw [List.length_map]; exact hj)
        walk_at "st"
        refine q p _ (ds.set j (1000000000000000 + (if cell < 0 then -cell else cell) % 2)) (fun b o z => ?_) np ?_ (by rw [List.length_set]; omega)
        · rw [upd_ne (ne_of_none z np)]
          exact e1 b o z
        · rw [upd_same, List.map_set]
      · walk_at "st"
        refine iteB (fun _ => ?_) (fun _ => ?_)
        · obtain ⟨m, em⟩ : ∃ m : Nat, 1 + (if cell < 0 then -cell else cell) % 3 = (m : Int) := by
            rw [hc]
            exact ⟨(1 + c % 3).toNat, by omega⟩
          have hm1 : m ≤ 3 := by rw [hc] at em; omega
          have hr0 : -(2 ^ 62) ≤ 1 + (if cell < 0 then -cell else cell) % 3 := by omega
          have hr1 : 1 + (if cell < 0 then -cell else cell) % 3 < 2 ^ 62 := by omega
          walk_at "st"
          intro D nD
          refine lc_range (lo := 0) (n := (1 + (if cell < 0 then -cell else cell) % 3).toNat) (fun i H' => H' = upd H D (.lst ((List.replicate i (0 : Int)).map V.int))) rfl ?_ ?_
          · rintro i H' hi rfl
            refine ⟨rfl, _, upd_same, small1000 (by rw [List.length_map, List.length_replicate]; omega), ?_⟩
            rw [upd_upd, List.replicate_succ', List.map_append]
            rfl
          · rintro H' rfl
            exact q D _ _ (same_upd nD) nD upd_same (by rw [List.length_replicate]; omega)
        · walk_at "st"
          refine ⟨show [V.int cell, V.int (1 + (if shape < 0 then -shape else shape) / 8 % 4), V.int 8] = [V.int cell, V.int (n : Int), V.int 8] by rw [en], by omega, by decide, by decide, fun p H1 ds e1 np hp hdl hdb => ?_⟩
          have hp1 : SqL K H1 p (ds.map V.int) := SqL.of hp
          walk_at "st"
          intro D nD
          refine lc_list (K := K) (a := p) (xs := ds.map V.int) (fun i H' => ∃ es : List Int, H' = upd H1 D (.lst (es.map V.int)) ∧ es.length = i) ⟨[], rfl, rfl⟩ (fun i H' _ ⟨es, e, _⟩ => by rw [e]; exact (same_upd nD).seq hp1) ?_ ?_
          · rintro i x H' hx ⟨es, rfl, le⟩
            obtain ⟨z, hz, rfl⟩ := ints_at hx
            have hi := (List.getElem?_eq_some_iff.mp hz).1
            refine ⟨rfl, ?_⟩
            walk_at "st"
            refine ⟨small1000 (by rw [List.length_map]; omega), es ++ [z - 2 * (if decide (V.int ((if shape < 0 then -shape else shape) % 8) = V.int 4) = true then 1 else 0)], ?_, by rw [List.length_append, le]; rfl⟩
            rw [upd_upd, List.map_append]
            rfl
          · rintro H' ⟨es, rfl, le⟩
            refine q D _ es (e1.trans (same_upd nD)) (e1.free nD) upd_same ?_
            rw [le, List.length_map, hdl]
            omega
def sp_law_fee_fits (K : PySem.W.Frag) : Sp := fun vs H Q _ => ∃ a r c : Int, vs = [.int a, .int r, .int c] ∧ ∀ H', Same H H' → Q (.bl true) H'
theorem ok_law_fee_fits (T : Txt K mg) : FnOk P w K mg base CX0 3 T.f_law_fee_fits T.d_law_fee_fits ["amount", "rate", "carried"] (sp_law_fee_fits K) := by
  refine T.F_law_fee_fits.ok sc_law_fee_fits (fun vs H Q E h => ?_) (fun cdv A outer s H vs Q E hr h => ?_)
  · obtain ⟨a, r, c, rfl, _⟩ := h
    rfl
  · obtain ⟨a, r, c, rfl, q⟩ := h
    have G_fee : FnOk P w K mg base (L2.CX P w) 2 T.f_fee T.d_fee ["amount", "rate", "carried"] (sp_fee K T.c_InvalidAmount) := ok_fee T
    have teA := PySem.W.exm_ref T.b_InvalidAmount T.d_InvalidAmount T.t_InvalidAmount T.s_InvalidAmount
    refine ⟨_, (C8.pss_cut (ps_set (i := 3) sc_law_fee_fits.nd rfl (Or.inl rfl) (pe_and (pe_chain op_le op_le pe_int (pv 0) pe_int) (pe_and (pe_chain op_le op_le pe_int (pv 1) pe_int) (pe_one (pe_chain op_le op_lt pe_int (pv 2) pe_int)))))
    (pss_cons (ps_try_as (i := 5) rfl rfl sc_law_fee_fits.nd rfl rfl ⟨rfl, by decide, Or.inl T.m_InvalidAmount⟩ takes0
      (fun W pn xe tk _ => (pss_one (ps_set (i := 4) sc_law_fee_fits.nd rfl (Or.inl rfl) (pe_callS G_fee hr (by rfl) T.m_fee T.F_fee.kp T.b_fee (fun σ => passAt tk σ) (pa_cons (pv 0) (pa_cons (pv 1) (pa_cons (pv 2) pa_nil)))))))
      (fun a oe cls d pn hz hf => (pss_one (ps_ret (pe_and (pe_not (pv 3)) (pe_and (pe_callB (call_isE' T.e_InvalidAmount hz hf) (by rfl) T.z_isinstance (by decide +kernel) (pa_cons (pv 5) (pa_cons (pe_glob (v := .ref T.c_BourseError) rfl T.m_BourseError rfl) pa_nil))) (pe_one (pe_not (pe_callB (call_isE' T.e_InvalidAmount hz hf) (by rfl) T.z_isinstance (by decide +kernel) (pa_cons (pv 5) (pa_cons (pe_glob (v := .ref T.c_InvalidWeights) rfl T.m_InvalidWeights rfl) pa_nil)))))))))))
    (pss_one (ps_ret (pe_and (pv 3) (pe_and (pe_callB call_isi (by rfl) T.z_isinstance (by decide +kernel) (pa_cons (pv 4) (pa_cons (pe_bltn (v := .ty "tuple") (u := .type "tuple") (by rfl) T.z_tuple (by decide +kernel) rfl) pa_nil))) (pe_one (pe_cmpR op_eq (pe_callB call_len_seq (by rfl) T.z_len PySem.boot_len (pa_cons (pv 4) pa_nil)) pe_int (nomark _))))))))), ?_⟩
    refine ⟨fun σ' H' => H' = H ∧ σ' = [some (.int a), some (.int r), some (.int c), some (.bl (decide ((0 ≤ a ∧ a ≤ 1000000000000000000) ∧ (0 ≤ r ∧ r ≤ 1000000) ∧ (0 ≤ c ∧ c ≤ 999999)))), none, none], ?_, ?_⟩
    · have no : ∀ {b : Bool}, b = false → ¬ ((0 ≤ a ∧ a ≤ 1000000000000000000) ∧ (0 ≤ r ∧ r ≤ 1000000) ∧ (0 ≤ c ∧ c ≤ 999999)) → V.bl b = V.bl (decide ((0 ≤ a ∧ a ≤ 1000000000000000000) ∧ (0 ≤ r ∧ r ≤ 1000000) ∧ (0 ≤ c ∧ c ≤ 999999))) := fun e z => by rw [e, decide_eq_false z]
      have bad : ¬ ((0 ≤ a ∧ a ≤ 1000000000000000000) ∧ (0 ≤ r ∧ r ≤ 1000000) ∧ (0 ≤ c ∧ c ≤ 999999)) → H = H ∧ [some (V.int a), some (V.int r), some (V.int c), some (V.bl false), none, none] = [some (V.int a), some (V.int r), some (V.int c), some (V.bl (decide ((0 ≤ a ∧ a ≤ 1000000000000000000) ∧ (0 ≤ r ∧ r ≤ 1000000) ∧ (0 ≤ c ∧ c ≤ 999999)))), none, none] := fun z => ⟨rfl, by rw [decide_eq_false z]⟩
      walk_at "st"
      refine iteB (fun h1 => ?_) (fun h1 => ?_)
      · walk_at "st"
        refine iteB (fun h2 => ?_) (fun h2 => ?_)
        · walk_at "st"
          refine iteB (fun h3 => ?_) (fun h3 => ?_)
          · walk_at "st"
            refine iteB (fun h4 => ?_) (fun h4 => ?_)
            · walk_at "st"
              refine iteB (fun h5 => ?_) (fun h5 => ?_)
              · walk_at "st"
                have w1 := dec_t h1
                have w2 := dec_t h2
                have w3 := dec_t h3
                have w4 := dec_t h4
                have w5 := dec_t h5
                rw [show decide ((0 ≤ a ∧ a ≤ 1000000000000000000) ∧ (0 ≤ r ∧ r ≤ 1000000) ∧ (0 ≤ c ∧ c ≤ 999999)) = decide (c < 1000000) from decide_eq_decide.mpr ⟨fun z => by omega, fun z => ⟨⟨w1, w2⟩, ⟨w3, w4⟩, w5, by omega⟩⟩]
                rfl
              · walk_at "st"
                exact (bad fun z => dec_f h5 z.2.2.1).2
            · walk_at "st"
              exact (bad fun z => dec_f h4 z.2.1.2).2
          · walk_at "st"
            exact (bad fun z => dec_f h3 z.2.1.1).2
        · walk_at "st"
          exact (bad fun z => dec_f h2 z.1.2).2
      · walk_at "st"
        exact (bad fun z => dec_f h1 z.1.1).2
    · rintro σ' H' ⟨rfl, rfl⟩
      walk_at "st"
      refine ⟨fun g0 g1 g2 p np => ?_, fun g => ?_⟩
      · rw [decide_eq_true (show ((0 ≤ a ∧ a ≤ 1000000000000000000) ∧ (0 ≤ r ∧ r ≤ 1000000) ∧ (0 ≤ c ∧ c ≤ 999999)) from ⟨g0, g1, g2⟩)]
        have ht : upd H' p (.tup [.int ((a * r + c) / 1000000), .int ((a * r + c) % 1000000)]) p = some (.tup [.int ((a * r + c) / 1000000), .int ((a * r + c) % 1000000)]) := upd_same
        have ht2 : SqT K (upd H' p (.tup [.int ((a * r + c) / 1000000), .int ((a * r + c) % 1000000)])) p [.int ((a * r + c) / 1000000), .int ((a * r + c) % 1000000)] := SqT.of ht
        have s2 := same_upd (o := .tup [.int ((a * r + c) / 1000000), .int ((a * r + c) % 1000000)]) np
        generalize upd H' p (.tup [.int ((a * r + c) / 1000000), .int ((a * r + c) % 1000000)]) = H2 at *
        walk_at "st"
        refine ⟨_, _, true, rfl, .ty _, .base (.tup ht), kit_ty (by decide +kernel), ?_⟩
        walk_at "st"
        exact q _ s2
      · refine ⟨true, teA, fun _ a0 _ => ?_, fun q => Bool.noConfusion q⟩
        rw [decide_eq_false g]
        walk_at "st"
        refine ⟨_, true, rfl, fun u hu => hu, T.kt_InvalidAmount_BourseError, ?_⟩
        walk_at "st"
        refine ⟨_, false, rfl, fun u hu => hu, T.kt_InvalidAmount_InvalidWeights, ?_⟩
        walk_at "st"
        exact q _ (Same.refl _)

def layE (x : Str × Int) : PyData := .tuple [.str x.1, .int x.2]
theorem layD_E : LayD layE 1 (fun x => PyData.strOk x.1 = true ∧ True) := layD_str.tup2 layD_int
theorem due_ok (amount M : Int) (ws : List Int) : PyData.strOk (dueOf amount M ws) = true := by
  unfold dueOf
  split
  · split <;> decide +kernel
  · decide +kernel
theorem ends_dp {K : PySem.W.Frag} {H : Hp} {p : Addr} {s : Str} (h : ends H p s) : Dp K H (.ref p) (layE (s, 0)) := .tup (SqT.of h) (.cons (.str _) (.cons (.int _) .nil))
def sp_law (K : PySem.W.Frag) : Sp := fun vs H Q _ => ∃ (a : Addr) (ns : List Int), vs = [.ref a] ∧ SqL K H a (ns.map V.int) ∧ ns.length ≤ 63 ∧ ∀ H', Q (.bl true) H'
theorem ok_law {f : Addr} {fd : FuncData} (T : Txt K mg) (F : Fun K "law" "law" s_law f fd) : FnOk P w K mg base CX0 6 f fd ["script"] (sp_law K) := by
  refine F.ok sc_law (fun vs H Q E h => ?_) (fun cdv A outer s H vs Q E hr h => ?_)
  · obtain ⟨a, ns, rfl, _⟩ := h
    rfl
  · obtain ⟨a, ns, rfl, hs, hlen, q⟩ := h
    have G_law_weights_near : FnOk P w K mg base CX0 2 T.f_law_weights_near T.d_law_weights_near ["cell", "shape"] (sp_law_weights_near K) := ok_law_weights_near T
    have G_law_near : FnOk P w K mg base CX0 1 T.f_law_near T.d_law_near ["cell", "bound"] (sp_law_near K) := ok_law_near T
    have G_law_fee_fits : FnOk P w K mg base CX0 3 T.f_law_fee_fits T.d_law_fee_fits ["amount", "rate", "carried"] (sp_law_fee_fits K) := ok_law_fee_fits T
    have G_law_cell : FnOk P w K mg base CX0 1 T.f_law_cell T.d_law_cell ["script", "k"] (sp_law_cell K) := ok_law_cell T
    have G_law_kind : FnOk P w K mg base CX0 5 T.f_law_kind T.d_law_kind ["name", "amount", "weights"] (sp_law_kind K) := ok_law_kind T
    have G_law_due : FnOk P w K mg base CX0 1 T.f_law_due T.d_law_due ["amount", "largest", "weights"] (sp_law_due K) := ok_law_due T
    refine ⟨_, (pss_cons (ps_set (i := 1) sc_law.nd rfl (Or.inl rfl) (pe_call G_law_weights_near (hr.mono (by decide)) (by rfl) T.m_law_weights_near T.F_law_weights_near.kp T.b_law_weights_near .nil pass0 (pa_cons (pe_call G_law_cell (hr.mono (by decide)) (by rfl) T.m_law_cell T.F_law_cell.kp T.b_law_cell .nil pass0 (pa_cons (pv 0) (pa_cons pe_int pa_nil))) (pa_cons (pe_call G_law_cell (hr.mono (by decide)) (by rfl) T.m_law_cell T.F_law_cell.kp T.b_law_cell .nil pass0 (pa_cons (pv 0) (pa_cons pe_int pa_nil))) pa_nil))))
    (pss_cons (ps_set (i := 2) sc_law.nd rfl (Or.inl rfl) (pe_call G_law_near (hr.mono (by decide)) (by rfl) T.m_law_near T.F_law_near.kp T.b_law_near .nil pass0 (pa_cons (pe_call G_law_cell (hr.mono (by decide)) (by rfl) T.m_law_cell T.F_law_cell.kp T.b_law_cell .nil pass0 (pa_cons (pv 0) (pa_cons pe_int pa_nil))) (pa_cons pe_int pa_nil))))
    (pss_cons (ps_if (pt_cmpR (op_neD hr.units) (pe_call G_law_kind hr (by rfl) T.m_law_kind T.F_law_kind.kp T.b_law_kind .nil pass0 (pa_cons pe_str (pa_cons (pv 2) (pa_cons (pv 1) pa_nil)))) (pe_call G_law_due (hr.mono (by decide)) (by rfl) T.m_law_due T.F_law_due.kp T.b_law_due .nil pass0 (pa_cons (pv 2) (pa_cons pe_int (pa_cons (pv 1) pa_nil)))) (nomark _))
      (pss_one (ps_ret pe_bl))
      pss_nil)
    (pss_cons (ps_set (i := 2) sc_law.nd rfl (Or.inl rfl) (pe_call G_law_near (hr.mono (by decide)) (by rfl) T.m_law_near T.F_law_near.kp T.b_law_near .nil pass0 (pa_cons (pe_call G_law_cell (hr.mono (by decide)) (by rfl) T.m_law_cell T.F_law_cell.kp T.b_law_cell .nil pass0 (pa_cons (pv 0) (pa_cons pe_int pa_nil))) (pa_cons pe_int pa_nil))))
    (pss_cons (ps_for PassesOwn.never rfl (pi_tup (pe_tup (pa_cons pe_str (pa_cons pe_str pa_nil)))) (pg_name (i := 3) sc_law.nd rfl (Or.inl rfl))
      (pss_one (ps_if (pt_cmpR (op_neD hr.units) (pe_call G_law_kind hr (by rfl) T.m_law_kind T.F_law_kind.kp T.b_law_kind .nil pass0 (pa_cons (pv 3) (pa_cons (pv 2) (pa_cons (pv 1) pa_nil)))) (pe_call G_law_due (hr.mono (by decide)) (by rfl) T.m_law_due T.F_law_due.kp T.b_law_due .nil pass0 (pa_cons (pv 2) (pa_cons pe_int (pa_cons (pv 1) pa_nil)))) (nomark _))
        (pss_one (ps_ret pe_bl))
        pss_nil)))
    (pss_cons (ps_set (i := 2) sc_law.nd rfl (Or.inl rfl) (pe_call G_law_near (hr.mono (by decide)) (by rfl) T.m_law_near T.F_law_near.kp T.b_law_near .nil pass0 (pa_cons (pe_call G_law_cell (hr.mono (by decide)) (by rfl) T.m_law_cell T.F_law_cell.kp T.b_law_cell .nil pass0 (pa_cons (pv 0) (pa_cons pe_int pa_nil))) (pa_cons pe_int pa_nil))))
    (pss_cons (ps_set (i := 4) sc_law.nd rfl (Or.inl rfl) (pe_call G_law_near (hr.mono (by decide)) (by rfl) T.m_law_near T.F_law_near.kp T.b_law_near .nil pass0 (pa_cons (pe_call G_law_cell (hr.mono (by decide)) (by rfl) T.m_law_cell T.F_law_cell.kp T.b_law_cell .nil pass0 (pa_cons (pv 0) (pa_cons pe_int pa_nil))) (pa_cons pe_int pa_nil))))
    (pss_cons (ps_set (i := 5) sc_law.nd rfl (Or.inl rfl) (pe_call G_law_near (hr.mono (by decide)) (by rfl) T.m_law_near T.F_law_near.kp T.b_law_near .nil pass0 (pa_cons (pe_call G_law_cell (hr.mono (by decide)) (by rfl) T.m_law_cell T.F_law_cell.kp T.b_law_cell .nil pass0 (pa_cons (pv 0) (pa_cons pe_int pa_nil))) (pa_cons pe_int pa_nil))))
    (pss_cons (ps_if (pt_not (pt_val (pe_call G_law_fee_fits (hr.mono (by decide)) (by rfl) T.m_law_fee_fits T.F_law_fee_fits.kp T.b_law_fee_fits .nil pass0 (pa_cons (pv 2) (pa_cons (pv 4) (pa_cons (pv 5) pa_nil))))))
      (pss_one (ps_ret pe_bl))
      pss_nil)
    (pss_one (ps_ret (pe_call G_law_fee_fits (hr.mono (by decide)) (by rfl) T.m_law_fee_fits T.F_law_fee_fits.kp T.b_law_fee_fits .nil pass0 (pa_cons (pe_op op_mod (pe_callB call_abs (by rfl) T.z_abs (by decide +kernel) (pa_cons (pv 2) pa_nil)) pe_int) (pa_cons (pe_op op_mod (pe_callB call_abs (by rfl) T.z_abs (by decide +kernel) (pa_cons (pv 4) pa_nil)) pe_int) (pa_cons (pe_op op_mod (pe_callB call_abs (by rfl) T.z_abs (by decide +kernel) (pa_cons (pv 5) pa_nil)) pe_int) pa_nil))))))))))))))), ?_⟩
    walk_at "st"
    intro p H1 ws e1 np hp hwl
    have hs1 := e1.seq hs
    have hp1 : SqL K H1 p (ws.map V.int) := SqL.of hp
    walk_at "st"
    intro amount H2 e2
    have hp2 := e2.seq hp1
    walk_at "st"
    refine ⟨.inl rfl, fun p3 H3 e3 he3 => ?_⟩
    have hp3 := e3.seq hp2
    walk_at "st"
    intro p4 H4 e4 he4
    have he3' : ends H4 p3 (dueOf amount 1000000000000000000 ws) := e4 _ _ (by rw [if_pos rfl] at he3; exact he3)
    refine neL (a := (dueOf amount 1000000000000000000 ws, 0)) (b := (dueOf amount 1000000000000000000 ws, 0)) layD_E (by decide) ⟨due_ok _ _ _, trivial⟩ ⟨due_ok _ _ _, trivial⟩ (ends_dp he3') (ends_dp he4) ?_
    refine ⟨_, rfl, iteB (fun h => (ndec_t h rfl).elim) (fun _ => ?_)⟩
    have e04 := ((e1.trans e2).trans e3).trans e4
    have hs4 := e04.seq hs
    have hp4 := e4.seq hp3
    walk_at "st"
    intro amount2 H5 e5
    have e05 := e04.trans e5
    have hp5 := e5.seq hp4
    walk_at "st"
    intro U nU
    have sU := same_upd (o := .tup [.str "deal", .str "order"]) nU
    have hU : SqT K (upd H5 U (.tup [.str "deal", .str "order"])) U [.str "deal", .str "order"] := SqT.of upd_same
    have hp6 := sU.seq hp5
    have e06 := e05.trans sU
    generalize upd H5 U (.tup [.str "deal", .str "order"]) = H6 at *
    walk_at "st"
    refine for_tup (K := K) (a := U) (xs := [.str "deal", .str "order"]) (fun i σ H' => (∃ v, σ = [some (.ref a), some (.ref p), some (.int amount2), v, none, none]) ∧ Same H6 H') ⟨⟨none, rfl⟩, Same.refl _⟩ (fun i σ H' _ ⟨_, e⟩ => ?tup) ?_ ?_
    case tup =>
      rcases hU with h | ⟨o, its, h1, h2⟩
      · rcases h with h | ⟨o, h⟩
        · exact .inl (.inl (e _ _ h))
        · exact .inl (.inr ⟨o, e _ _ h⟩)
      · exact .inr ⟨o, its, h1, h2⟩
    · rintro i x σ H7 hx ⟨⟨v, rfl⟩, e7⟩
      obtain ⟨name, rfl, hname⟩ : ∃ name : Str, x = .str name ∧ (name = "deal" ∨ name = "order") := by
        match i, hx with
        | 0, h => exact ⟨_, (Option.some.inj h).symm, .inl rfl⟩
        | 1, h => exact ⟨_, (Option.some.inj h).symm, .inr rfl⟩
        | i + 2, h => cases h
      have hns : name ≠ "split" := by
        rcases hname with e | e
        · rw [e]; decide
        · rw [e]; decide
      have hp7 := e7.seq hp6
      walk_at "st"
      intro p8 H8 e8 he8
      rw [if_neg hns] at he8
      have hp8 := e8.seq hp7
      walk_at "st"
      intro p9 H9 e9 he9
      have he8' : ends H9 p8 (dueOf amount2 9999 ws) := e9 _ _ he8
      refine neL (a := (dueOf amount2 9999 ws, 0)) (b := (dueOf amount2 9999 ws, 0)) layD_E (by decide) ⟨due_ok _ _ _, trivial⟩ ⟨due_ok _ _ _, trivial⟩ (ends_dp he8') (ends_dp he9) ?_
      refine ⟨_, rfl, iteB (fun h => (ndec_t h rfl).elim) (fun _ => ?_)⟩
      exact ⟨⟨_, rfl⟩, (e7.trans e8).trans e9⟩
    · rintro σ H7 ⟨⟨v, rfl⟩, e7⟩
      have hs7 := (e06.trans e7).seq hs
      walk_at "st"
      intro amount3 H8 e8
      have hs8 := e8.seq hs7
      walk_at "st"
      intro rate H9 e9
      have hs9 := e9.seq hs8
      walk_at "st"
      intro carried H10 e10
      walk_at "st"
      intro H11 e11
      walk_at "st"
      intro H12 e12
      exact q _
end
set_option maxHeartbeats 0 in
theorem all_mk {l : PySem.W.OpenLaw} {w : World} {K : PySem.W.Frag} {h : Heap} {mg : Str → Option Value} {fa f1 f2 f3 f4 f5 f6 f7 f8 f9 f10 f11 f12 f13 f14 f15 f16 f17 : Addr} (X : K.In h) (G : h.Ns mainGlobals mg) (hfa : mg "law" = some (.ref fa))
    {c_BourseError c_InvalidAmount c_InvalidWeights : Addr}
    {od1 an1 od2 an2 od3 an3 od4 an4 od5 an5 od6 an6 od7 an7 od8 an8 od9 an9 od10 an10 od11 an11 od12 an12 od13 an13 od14 an14 od15 an15 od16 an16 od17 an17 : Option Addr} {sl1 sl2 sl3 sl4 sl5 sl6 sl7 sl8 sl9 sl10 sl11 sl12 sl13 sl14 sl15 sl16 sl17 : Array (Option Value)} {oc1 kV1 dc1 pm1 cd1 ct1 oc2 kV2 dc2 pm2 cd2 ct2 oc3 kV3 dc3 pm3 cd3 ct3 oc4 kV4 dc4 pm4 cd4 ct4 oc5 kV5 dc5 pm5 cd5 ct5 oc6 kV6 dc6 pm6 cd6 ct6 oc7 kV7 dc7 pm7 cd7 ct7 oc8 kV8 dc8 pm8 cd8 ct8 oc9 kV9 dc9 pm9 cd9 ct9 oc10 kV10 dc10 pm10 cd10 ct10 oc11 kV11 dc11 pm11 cd11 ct11 oc12 kV12 dc12 pm12 cd12 ct12 oc13 kV13 dc13 pm13 cd13 ct13 oc14 kV14 dc14 pm14 cd14 ct14 oc15 kV15 dc15 pm15 cd15 ct15 oc16 kV16 dc16 pm16 cd16 ct16 oc17 kV17 dc17 pm17 cd17 ct17 : Value}
    (a1 : PySem.W.nsIn K mainGlobals "_check_amount" = some (some (.ref f1)))
    (l1 : K.lookup f1 = some ⟨oc1, od1, .func (PySem.W.fnOf "_check_amount" "_check_amount" (defArgs s_check_amount) (defBody s_check_amount) (defScope s_check_amount) .none kV1 dc1 pm1 an1 cd1 ct1), sl1⟩) (c1 : PySem.W.codeIn K cd1 "_check_amount" = true) (k1 : PySem.W.keepIn K (.ref f1) = true)
    (a2 : PySem.W.nsIn K mainGlobals "_check_weights" = some (some (.ref f2)))
    (l2 : K.lookup f2 = some ⟨oc2, od2, .func (PySem.W.fnOf "_check_weights" "_check_weights" (defArgs s_check_weights) (defBody s_check_weights) (defScope s_check_weights) .none kV2 dc2 pm2 an2 cd2 ct2), sl2⟩) (c2 : PySem.W.codeIn K cd2 "_check_weights" = true) (k2 : PySem.W.keepIn K (.ref f2) = true)
    (a3 : PySem.W.nsIn K mainGlobals "split" = some (some (.ref f3)))
    (l3 : K.lookup f3 = some ⟨oc3, od3, .func (PySem.W.fnOf "split" "split" (defArgs s_split) (defBody s_split) (defScope s_split) .none kV3 dc3 pm3 an3 cd3 ct3), sl3⟩) (c3 : PySem.W.codeIn K cd3 "split" = true) (k3 : PySem.W.keepIn K (.ref f3) = true)
    (a4 : PySem.W.nsIn K mainGlobals "_greatest_quotient" = some (some (.ref f4)))
    (l4 : K.lookup f4 = some ⟨oc4, od4, .func (PySem.W.fnOf "_greatest_quotient" "_greatest_quotient" (defArgs s_greatest_quotient) (defBody s_greatest_quotient) (defScope s_greatest_quotient) .none kV4 dc4 pm4 an4 cd4 ct4), sl4⟩) (c4 : PySem.W.codeIn K cd4 "_greatest_quotient" = true) (k4 : PySem.W.keepIn K (.ref f4) = true)
    (a5 : PySem.W.nsIn K mainGlobals "deal_order" = some (some (.ref f5)))
    (l5 : K.lookup f5 = some ⟨oc5, od5, .func (PySem.W.fnOf "deal_order" "deal_order" (defArgs s_deal_order) (defBody s_deal_order) (defScope s_deal_order) .none kV5 dc5 pm5 an5 cd5 ct5), sl5⟩) (c5 : PySem.W.codeIn K cd5 "deal_order" = true) (k5 : PySem.W.keepIn K (.ref f5) = true)
    (a6 : PySem.W.nsIn K mainGlobals "_first_due" = some (some (.ref f6)))
    (l6 : K.lookup f6 = some ⟨oc6, od6, .func (PySem.W.fnOf "_first_due" "_first_due" (defArgs s_first_due) (defBody s_first_due) (defScope s_first_due) .none kV6 dc6 pm6 an6 cd6 ct6), sl6⟩) (c6 : PySem.W.codeIn K cd6 "_first_due" = true) (k6 : PySem.W.keepIn K (.ref f6) = true)
    (a7 : PySem.W.nsIn K mainGlobals "_due" = some (some (.ref f7)))
    (l7 : K.lookup f7 = some ⟨oc7, od7, .func (PySem.W.fnOf "_due" "_due" (defArgs s_due) (defBody s_due) (defScope s_due) .none kV7 dc7 pm7 an7 cd7 ct7), sl7⟩) (c7 : PySem.W.codeIn K cd7 "_due" = true) (k7 : PySem.W.keepIn K (.ref f7) = true)
    (a8 : PySem.W.nsIn K mainGlobals "deal" = some (some (.ref f8)))
    (l8 : K.lookup f8 = some ⟨oc8, od8, .func (PySem.W.fnOf "deal" "deal" (defArgs s_deal) (defBody s_deal) (defScope s_deal) .none kV8 dc8 pm8 an8 cd8 ct8), sl8⟩) (c8 : PySem.W.codeIn K cd8 "deal" = true) (k8 : PySem.W.keepIn K (.ref f8) = true)
    (a9 : PySem.W.nsIn K mainGlobals "fee" = some (some (.ref f9)))
    {T9 : Addr} {ocT9 : Value} {odT9 : Option Addr} {slT9 : Array (Option Value)} {nT9 : Nat} {tT9_0 : Tok}
    (l9 : K.lookup f9 = some ⟨oc9, od9, .func (PySem.W.fnOf "fee" "fee" (defArgs s_fee) (defBody s_fee) (defScope s_fee) (.ref T9) kV9 dc9 pm9 an9 cd9 ct9), sl9⟩)
    (lT9 : K.lookup T9 = some ⟨ocT9, odT9, .seq #[.int 0 tT9_0] nT9, slT9⟩)
    (c9 : PySem.W.codeIn K cd9 "fee" = true) (k9 : PySem.W.keepIn K (.ref f9) = true)
    (a10 : PySem.W.nsIn K mainGlobals "_law_cell" = some (some (.ref f10)))
    (l10 : K.lookup f10 = some ⟨oc10, od10, .func (PySem.W.fnOf "_law_cell" "_law_cell" (defArgs s_law_cell) (defBody s_law_cell) (defScope s_law_cell) .none kV10 dc10 pm10 an10 cd10 ct10), sl10⟩) (c10 : PySem.W.codeIn K cd10 "_law_cell" = true) (k10 : PySem.W.keepIn K (.ref f10) = true)
    (a11 : PySem.W.nsIn K mainGlobals "_law_draws" = some (some (.ref f11)))
    (l11 : K.lookup f11 = some ⟨oc11, od11, .func (PySem.W.fnOf "_law_draws" "_law_draws" (defArgs s_law_draws) (defBody s_law_draws) (defScope s_law_draws) .none kV11 dc11 pm11 an11 cd11 ct11), sl11⟩) (c11 : PySem.W.codeIn K cd11 "_law_draws" = true) (k11 : PySem.W.keepIn K (.ref f11) = true)
    (a12 : PySem.W.nsIn K mainGlobals "_law_kind" = some (some (.ref f12)))
    (l12 : K.lookup f12 = some ⟨oc12, od12, .func (PySem.W.fnOf "_law_kind" "_law_kind" (defArgs s_law_kind) (defBody s_law_kind) (defScope s_law_kind) .none kV12 dc12 pm12 an12 cd12 ct12), sl12⟩) (c12 : PySem.W.codeIn K cd12 "_law_kind" = true) (k12 : PySem.W.keepIn K (.ref f12) = true)
    (a13 : PySem.W.nsIn K mainGlobals "_law_due" = some (some (.ref f13)))
    (l13 : K.lookup f13 = some ⟨oc13, od13, .func (PySem.W.fnOf "_law_due" "_law_due" (defArgs s_law_due) (defBody s_law_due) (defScope s_law_due) .none kV13 dc13 pm13 an13 cd13 ct13), sl13⟩) (c13 : PySem.W.codeIn K cd13 "_law_due" = true) (k13 : PySem.W.keepIn K (.ref f13) = true)
    (a14 : PySem.W.nsIn K mainGlobals "_law_weights_near" = some (some (.ref f14)))
    (l14 : K.lookup f14 = some ⟨oc14, od14, .func (PySem.W.fnOf "_law_weights_near" "_law_weights_near" (defArgs s_law_weights_near) (defBody s_law_weights_near) (defScope s_law_weights_near) .none kV14 dc14 pm14 an14 cd14 ct14), sl14⟩) (c14 : PySem.W.codeIn K cd14 "_law_weights_near" = true) (k14 : PySem.W.keepIn K (.ref f14) = true)
    (a15 : PySem.W.nsIn K mainGlobals "_law_near" = some (some (.ref f15)))
    (l15 : K.lookup f15 = some ⟨oc15, od15, .func (PySem.W.fnOf "_law_near" "_law_near" (defArgs s_law_near) (defBody s_law_near) (defScope s_law_near) .none kV15 dc15 pm15 an15 cd15 ct15), sl15⟩) (c15 : PySem.W.codeIn K cd15 "_law_near" = true) (k15 : PySem.W.keepIn K (.ref f15) = true)
    (a16 : PySem.W.nsIn K mainGlobals "_law_fee_fits" = some (some (.ref f16)))
    (l16 : K.lookup f16 = some ⟨oc16, od16, .func (PySem.W.fnOf "_law_fee_fits" "_law_fee_fits" (defArgs s_law_fee_fits) (defBody s_law_fee_fits) (defScope s_law_fee_fits) .none kV16 dc16 pm16 an16 cd16 ct16), sl16⟩) (c16 : PySem.W.codeIn K cd16 "_law_fee_fits" = true) (k16 : PySem.W.keepIn K (.ref f16) = true)
    (a17 : PySem.W.nsIn K mainGlobals "law" = some (some (.ref f17)))
    (l17 : K.lookup f17 = some ⟨oc17, od17, .func (PySem.W.fnOf "law" "law" (defArgs s_law) (defBody s_law) (defScope s_law) .none kV17 dc17 pm17 an17 cd17 ct17), sl17⟩) (c17 : PySem.W.codeIn K cd17 "law" = true) (k17 : PySem.W.keepIn K (.ref f17) = true)
    (z_abs : PySem.W.nsIn K mainGlobals "abs" = some none)
    (z_all : PySem.W.nsIn K mainGlobals "all" = some none)
    (z_divmod : PySem.W.nsIn K mainGlobals "divmod" = some none)
    (z_enumerate : PySem.W.nsIn K mainGlobals "enumerate" = some none)
    (z_int : PySem.W.nsIn K mainGlobals "int" = some none)
    (z_isinstance : PySem.W.nsIn K mainGlobals "isinstance" = some none)
    (z_len : PySem.W.nsIn K mainGlobals "len" = some none)
    (z_list : PySem.W.nsIn K mainGlobals "list" = some none)
    (z_min : PySem.W.nsIn K mainGlobals "min" = some none)
    (z_range : PySem.W.nsIn K mainGlobals "range" = some none)
    (z_sum : PySem.W.nsIn K mainGlobals "sum" = some none)
    (z_tuple : PySem.W.nsIn K mainGlobals "tuple" = some none)
    {t_MOST_AMOUNT t_MOST_DEALT t_MOST_WEIGHTS t_MOST_WEIGHT t_MILLION : Tok}
    (v_MOST_AMOUNT : PySem.W.nsIn K mainGlobals "MOST_AMOUNT" = some (some (.int 1000000000000000000 t_MOST_AMOUNT)))
    (v_MOST_DEALT : PySem.W.nsIn K mainGlobals "MOST_DEALT" = some (some (.int 9999 t_MOST_DEALT)))
    (v_MOST_WEIGHTS : PySem.W.nsIn K mainGlobals "MOST_WEIGHTS" = some (some (.int 40 t_MOST_WEIGHTS)))
    (v_MOST_WEIGHT : PySem.W.nsIn K mainGlobals "MOST_WEIGHT" = some (some (.int 1000000000000000 t_MOST_WEIGHT)))
    (v_MILLION : PySem.W.nsIn K mainGlobals "MILLION" = some (some (.int 1000000 t_MILLION)))
    (g_BourseError : PySem.W.nsIn K mainGlobals "BourseError" = some (some (.ref c_BourseError)))
    (g_InvalidAmount : PySem.W.nsIn K mainGlobals "InvalidAmount" = some (some (.ref c_InvalidAmount)))
    (x_InvalidAmount : PySem.W.excIn K c_InvalidAmount [.type "ValueError", .type "Exception", .type "BaseException", .type "object"] "ValueError.__new__" = true)
    (k_InvalidAmount : PySem.W.keepIn K (.ref c_InvalidAmount) = true)
    (b_InvalidAmount : PySem.W.subIn K (.ref c_InvalidAmount) (.type "BaseException") = some true)
    (t_InvalidAmount : PySem.W.typeIn K (.ref c_InvalidAmount) = some (.type "type"))
    (d_InvalidAmount : PySem.W.hasDictIn K c_InvalidAmount = true)
    (s_InvalidAmount : PySem.W.subIn K (.ref c_InvalidAmount) (.ref c_InvalidAmount) = some true)
    (eg_InvalidAmount : PySem.W.findIn K (.ref c_InvalidAmount) "__getattribute__" = some (some (.builtin "BaseException.__getattribute__")))
    (ek_InvalidAmount : PySem.W.findIn K (.ref c_InvalidAmount) "__getattr__" = some none)
    (ea_InvalidAmount : PySem.W.findIn K (.ref c_InvalidAmount) "__class__" = some (some (.builtin "object.__class__")))
    (en_InvalidAmount : PySem.W.specialIn K (.builtin "object.__class__") "__get__" = some (some (.builtin "getset_descriptor.__get__")))
    (et_InvalidAmount : PySem.W.takesIn K (.builtin "object.__class__") = some true)
    (em_InvalidAmount : PySem.W.mroIn K c_InvalidAmount (.type "object") = some true)
    (g_InvalidWeights : PySem.W.nsIn K mainGlobals "InvalidWeights" = some (some (.ref c_InvalidWeights)))
    (x_InvalidWeights : PySem.W.excIn K c_InvalidWeights [.type "ValueError", .type "Exception", .type "BaseException", .type "object"] "ValueError.__new__" = true)
    (k_InvalidWeights : PySem.W.keepIn K (.ref c_InvalidWeights) = true)
    (b_InvalidWeights : PySem.W.subIn K (.ref c_InvalidWeights) (.type "BaseException") = some true)
    (t_InvalidWeights : PySem.W.typeIn K (.ref c_InvalidWeights) = some (.type "type"))
    (d_InvalidWeights : PySem.W.hasDictIn K c_InvalidWeights = true)
    (s_InvalidWeights : PySem.W.subIn K (.ref c_InvalidWeights) (.ref c_InvalidWeights) = some true)
    (eg_InvalidWeights : PySem.W.findIn K (.ref c_InvalidWeights) "__getattribute__" = some (some (.builtin "BaseException.__getattribute__")))
    (ek_InvalidWeights : PySem.W.findIn K (.ref c_InvalidWeights) "__getattr__" = some none)
    (ea_InvalidWeights : PySem.W.findIn K (.ref c_InvalidWeights) "__class__" = some (some (.builtin "object.__class__")))
    (en_InvalidWeights : PySem.W.specialIn K (.builtin "object.__class__") "__get__" = some (some (.builtin "getset_descriptor.__get__")))
    (et_InvalidWeights : PySem.W.takesIn K (.builtin "object.__class__") = some true)
    (em_InvalidWeights : PySem.W.mroIn K c_InvalidWeights (.type "object") = some true)
    (kt_InvalidAmount_BourseError : PySem.W.kitOne K (.ref c_InvalidAmount) (.ref c_BourseError) = some true)
    (kt_InvalidAmount_InvalidWeights : PySem.W.kitOne K (.ref c_InvalidAmount) (.ref c_InvalidWeights) = some false)
    (kt_InvalidWeights_BourseError : PySem.W.kitOne K (.ref c_InvalidWeights) (.ref c_BourseError) = some true)
    (su_InvalidWeights_InvalidAmount : PySem.W.subIn K (.ref c_InvalidWeights) (.ref c_InvalidAmount) = some false) :
    ∃ fd : FuncData, (∀ (s : Shared) (v : Value), BindsTo s fd ⟨[v], []⟩ [("script", v)]) ∧ ∀ base : Heap, K.In base → base.Ns mainGlobals mg → FnOk l.prog w K mg base CX0 6 fa fd ["script"] (sp_law K) := by
  have e := hfa.symm.trans (PySem.W.mg_of X G a17)
  cases e
  have F1 := fun_mk (st := s_check_amount) l1 c1 k1
  have b1 := F1.binds (ps := ["amount", "most"]) fun _ _ _ _ _ _ us hl => match us, hl with | [_, _], _ => rfl
  have F2 := fun_mk (st := s_check_weights) l2 c2 k2
  have b2 := F2.binds (ps := ["weights", "amount"]) fun _ _ _ _ _ _ us hl => match us, hl with | [_, _], _ => rfl
  have F3 := fun_mk (st := s_split) l3 c3 k3
  have b3 := F3.binds (ps := ["amount", "weights"]) fun _ _ _ _ _ _ us hl => match us, hl with | [_, _], _ => rfl
  have F4 := fun_mk (st := s_greatest_quotient) l4 c4 k4
  have b4 := F4.binds (ps := ["weights", "parts"]) fun _ _ _ _ _ _ us hl => match us, hl with | [_, _], _ => rfl
  have F5 := fun_mk (st := s_deal_order) l5 c5 k5
  have b5 := F5.binds (ps := ["amount", "weights"]) fun _ _ _ _ _ _ us hl => match us, hl with | [_, _], _ => rfl
  have F6 := fun_mk (st := s_first_due) l6 c6 k6
  have b6 := F6.binds (ps := ["number", "weights", "parts", "total"]) fun _ _ _ _ _ _ us hl => match us, hl with | [_, _, _, _], _ => rfl
  have F7 := fun_mk (st := s_due) l7 c7 k7
  have b7 := F7.binds (ps := ["weight", "part", "total"]) fun _ _ _ _ _ _ us hl => match us, hl with | [_, _, _], _ => rfl
  have F8 := fun_mk (st := s_deal) l8 c8 k8
  have b8 := F8.binds (ps := ["amount", "weights"]) fun _ _ _ _ _ _ us hl => match us, hl with | [_, _], _ => rfl
  have F9 : FunD K "fee" "fee" (defArgs s_fee) (defBody s_fee) (defScope s_fee) [.int 0] [] f9 (PySem.W.fnOf "fee" "fee" (defArgs s_fee) (defBody s_fee) (defScope s_fee) (.ref T9) kV9 dc9 pm9 an9 cd9 ct9) := ⟨⟨_, _, _, _, _, _, _, _, _, _, rfl, l9, c9, .inr ⟨by simp, T9, _, _, _, rfl, lT9, rfl, .cons ⟨_, rfl⟩ (.nil)⟩, .inl rfl⟩, k9⟩
  have b9_0 := F9.binds1 (ps := ["amount", "rate", "carried"]) 2 0 (by simp) rfl fun _ _ _ _ _ _ _ us its h1 h2 => match us, its, h1, h2 with | [_, _], [_], _, _ => ⟨_, rfl, rfl⟩
  have b9 : Binds K (PySem.W.fnOf "fee" "fee" (defArgs s_fee) (defBody s_fee) (defScope s_fee) (.ref T9) kV9 dc9 pm9 an9 cd9 ct9) ["amount", "rate", "carried"] [] := by
    obtain ⟨ds, v, b⟩ := F9.binds1 (ps := ["amount", "rate", "carried"]) 3 1 (by simp) rfl fun _ _ _ _ _ _ _ us its h1 h2 => match us, its, h1, h2 with | [_, _, _], [_], _, _ => ⟨_, rfl, rfl⟩
    cases v
    exact b
  have F10 := fun_mk (st := s_law_cell) l10 c10 k10
  have b10 := F10.binds (ps := ["script", "k"]) fun _ _ _ _ _ _ us hl => match us, hl with | [_, _], _ => rfl
  have F11 := fun_mk (st := s_law_draws) l11 c11 k11
  have b11 := F11.binds (ps := ["cell", "count", "size"]) fun _ _ _ _ _ _ us hl => match us, hl with | [_, _, _], _ => rfl
  have F12 := fun_mk (st := s_law_kind) l12 c12 k12
  have b12 := F12.binds (ps := ["name", "amount", "weights"]) fun _ _ _ _ _ _ us hl => match us, hl with | [_, _, _], _ => rfl
  have F13 := fun_mk (st := s_law_due) l13 c13 k13
  have b13 := F13.binds (ps := ["amount", "largest", "weights"]) fun _ _ _ _ _ _ us hl => match us, hl with | [_, _, _], _ => rfl
  have F14 := fun_mk (st := s_law_weights_near) l14 c14 k14
  have b14 := F14.binds (ps := ["cell", "shape"]) fun _ _ _ _ _ _ us hl => match us, hl with | [_, _], _ => rfl
  have F15 := fun_mk (st := s_law_near) l15 c15 k15
  have b15 := F15.binds (ps := ["cell", "bound"]) fun _ _ _ _ _ _ us hl => match us, hl with | [_, _], _ => rfl
  have F16 := fun_mk (st := s_law_fee_fits) l16 c16 k16
  have b16 := F16.binds (ps := ["amount", "rate", "carried"]) fun _ _ _ _ _ _ us hl => match us, hl with | [_, _, _], _ => rfl
  have F17 := fun_mk (st := s_law) l17 c17 k17
  have b17 := F17.binds (ps := ["script"]) fun _ _ _ _ _ _ us hl => match us, hl with | [_], _ => rfl
  have T : Txt K mg := ⟨f1, _, F1, PySem.W.mg_of X G a1, b1, f2, _, F2, PySem.W.mg_of X G a2, b2, f3, _, F3, PySem.W.mg_of X G a3, b3, f4, _, F4, PySem.W.mg_of X G a4, b4, f5, _, F5, PySem.W.mg_of X G a5, b5, f6, _, F6, PySem.W.mg_of X G a6, b6, f7, _, F7, PySem.W.mg_of X G a7, b7, f8, _, F8, PySem.W.mg_of X G a8, b8, f9, _, F9, b9_0, PySem.W.mg_of X G a9, b9, f10, _, F10, PySem.W.mg_of X G a10, b10, f11, _, F11, PySem.W.mg_of X G a11, b11, f12, _, F12, PySem.W.mg_of X G a12, b12, f13, _, F13, PySem.W.mg_of X G a13, b13, f14, _, F14, PySem.W.mg_of X G a14, b14, f15, _, F15, PySem.W.mg_of X G a15, b15, f16, _, F16, PySem.W.mg_of X G a16, b16, c_BourseError, PySem.W.mg_of X G g_BourseError, c_InvalidAmount, PySem.W.mg_of X G g_InvalidAmount, x_InvalidAmount, k_InvalidAmount, b_InvalidAmount, t_InvalidAmount, d_InvalidAmount, s_InvalidAmount, eg_InvalidAmount, ek_InvalidAmount, ea_InvalidAmount, en_InvalidAmount, et_InvalidAmount, em_InvalidAmount, ⟨eg_InvalidAmount, ek_InvalidAmount, b_InvalidAmount, d_InvalidAmount, ea_InvalidAmount, en_InvalidAmount, et_InvalidAmount, em_InvalidAmount⟩, c_InvalidWeights, PySem.W.mg_of X G g_InvalidWeights, x_InvalidWeights, k_InvalidWeights, b_InvalidWeights, t_InvalidWeights, d_InvalidWeights, s_InvalidWeights, eg_InvalidWeights, ek_InvalidWeights, ea_InvalidWeights, en_InvalidWeights, et_InvalidWeights, em_InvalidWeights, ⟨eg_InvalidWeights, ek_InvalidWeights, b_InvalidWeights, d_InvalidWeights, ea_InvalidWeights, en_InvalidWeights, et_InvalidWeights, em_InvalidWeights⟩, kt_InvalidAmount_BourseError, kt_InvalidAmount_InvalidWeights, kt_InvalidWeights_BourseError, su_InvalidWeights_InvalidAmount, PySem.W.mg_none_of X G z_abs, PySem.W.mg_none_of X G z_all, PySem.W.mg_none_of X G z_divmod, PySem.W.mg_none_of X G z_enumerate, PySem.W.mg_none_of X G z_int, PySem.W.mg_none_of X G z_isinstance, PySem.W.mg_none_of X G z_len, PySem.W.mg_none_of X G z_list, PySem.W.mg_none_of X G z_min, PySem.W.mg_none_of X G z_range, PySem.W.mg_none_of X G z_sum, PySem.W.mg_none_of X G z_tuple, t_MOST_AMOUNT, PySem.W.mg_of X G v_MOST_AMOUNT, t_MOST_DEALT, PySem.W.mg_of X G v_MOST_DEALT, t_MOST_WEIGHTS, PySem.W.mg_of X G v_MOST_WEIGHTS, t_MOST_WEIGHT, PySem.W.mg_of X G v_MOST_WEIGHT, t_MILLION, PySem.W.mg_of X G v_MILLION⟩
  exact ⟨PySem.W.fnOf "law" "law" (defArgs s_law) (defBody s_law) (defScope s_law) .none kV17 dc17 pm17 an17 cd17 ct17, fun s v => .of_eq rfl, fun base _ _ => ok_law T F17⟩
end FB
open PySem PySem.W PyProof.Rows
set_option maxRecDepth 100000 in
set_option maxHeartbeats 0 in
theorem PySem.Challenge.cw_fairbourse_k15_errors_of_amounts_holds : PySem.Challenge.rw_fairbourse_k15_errors_of_amounts.Holds := by
  w_on; o_law; k_head; (case hw => w_witness2)
  k_fill
  refine L2.walk_of (l := PySem.Challenge.rw_fairbourse_k15_errors_of_amounts) (n := 63) (k := 6) (x := "script") (CX := fun _ => L2.CX0) (sp := fun w => FB.sp_law _) rfl (by decide) rfl ⟨rfl, by decide, by decide⟩ (fun w h Y => PySem.W.kIn_of Y) ?F (fun _ _ a ns hl _ hS => ⟨a, ns, rfl, hS, hl, fun _ => rfl⟩) (fun _ _ _ _ _ h => h)
  case F =>
    intro w mg fa h KX G hmg
    refine' FB.all_mk KX G hmg ?a1 ?l1 ?c1 ?k1 ?a2 ?l2 ?c2 ?k2 ?a3 ?l3 ?c3 ?k3 ?a4 ?l4 ?c4 ?k4 ?a5 ?l5 ?c5 ?k5 ?a6 ?l6 ?c6 ?k6 ?a7 ?l7 ?c7 ?k7 ?a8 ?l8 ?c8 ?k8 ?a9 ?l9 ?lT9 ?c9 ?k9 ?a10 ?l10 ?c10 ?k10 ?a11 ?l11 ?c11 ?k11 ?a12 ?l12 ?c12 ?k12 ?a13 ?l13 ?c13 ?k13 ?a14 ?l14 ?c14 ?k14 ?a15 ?l15 ?c15 ?k15 ?a16 ?l16 ?c16 ?k16 ?a17 ?l17 ?c17 ?k17 ?z_abs ?z_all ?z_divmod ?z_enumerate ?z_int ?z_isinstance ?z_len ?z_list ?z_min ?z_range ?z_sum ?z_tuple ?v_MOST_AMOUNT ?v_MOST_DEALT ?v_MOST_WEIGHTS ?v_MOST_WEIGHT ?v_MILLION ?g_BourseError ?g_InvalidAmount ?x_InvalidAmount ?k_InvalidAmount ?b_InvalidAmount ?t_InvalidAmount ?d_InvalidAmount ?s_InvalidAmount ?eg_InvalidAmount ?ek_InvalidAmount ?ea_InvalidAmount ?en_InvalidAmount ?et_InvalidAmount ?em_InvalidAmount ?g_InvalidWeights ?x_InvalidWeights ?k_InvalidWeights ?b_InvalidWeights ?t_InvalidWeights ?d_InvalidWeights ?s_InvalidWeights ?eg_InvalidWeights ?ek_InvalidWeights ?ea_InvalidWeights ?en_InvalidWeights ?et_InvalidWeights ?em_InvalidWeights ?kt_InvalidAmount_BourseError ?kt_InvalidAmount_InvalidWeights ?kt_InvalidWeights_BourseError ?su_InvalidWeights_InvalidAmount
    (case g_BourseError => k_is)
    (case g_InvalidAmount => k_is)
    (case g_InvalidWeights => k_is)
    (case a1 => k_is)
    (case l1 => k_is)
    (case c1 => k_is)
    (case k1 => k_is)
    (case a2 => k_is)
    (case l2 => k_is)
    (case c2 => k_is)
    (case k2 => k_is)
    (case a3 => k_is)
    (case l3 => k_is)
    (case c3 => k_is)
    (case k3 => k_is)
    (case a4 => k_is)
    (case l4 => k_is)
    (case c4 => k_is)
    (case k4 => k_is)
    (case a5 => k_is)
    (case l5 => k_is)
    (case c5 => k_is)
    (case k5 => k_is)
    (case a6 => k_is)
    (case l6 => k_is)
    (case c6 => k_is)
    (case k6 => k_is)
    (case a7 => k_is)
    (case l7 => k_is)
    (case c7 => k_is)
    (case k7 => k_is)
    (case a8 => k_is)
    (case l8 => k_is)
    (case c8 => k_is)
    (case k8 => k_is)
    (case a9 => k_is)
    (case l9 => k_is)
    (case lT9 => k_is)
    (case c9 => k_is)
    (case k9 => k_is)
    (case a10 => k_is)
    (case l10 => k_is)
    (case c10 => k_is)
    (case k10 => k_is)
    (case a11 => k_is)
    (case l11 => k_is)
    (case c11 => k_is)
    (case k11 => k_is)
    (case a12 => k_is)
    (case l12 => k_is)
    (case c12 => k_is)
    (case k12 => k_is)
    (case a13 => k_is)
    (case l13 => k_is)
    (case c13 => k_is)
    (case k13 => k_is)
    (case a14 => k_is)
    (case l14 => k_is)
    (case c14 => k_is)
    (case k14 => k_is)
    (case a15 => k_is)
    (case l15 => k_is)
    (case c15 => k_is)
    (case k15 => k_is)
    (case a16 => k_is)
    (case l16 => k_is)
    (case c16 => k_is)
    (case k16 => k_is)
    (case a17 => k_is)
    (case l17 => k_is)
    (case c17 => k_is)
    (case k17 => k_is)
    (case z_abs => k_is)
    (case z_all => k_is)
    (case z_divmod => k_is)
    (case z_enumerate => k_is)
    (case z_int => k_is)
    (case z_isinstance => k_is)
    (case z_len => k_is)
    (case z_list => k_is)
    (case z_min => k_is)
    (case z_range => k_is)
    (case z_sum => k_is)
    (case z_tuple => k_is)
    (case v_MOST_AMOUNT => k_is)
    (case v_MOST_DEALT => k_is)
    (case v_MOST_WEIGHTS => k_is)
    (case v_MOST_WEIGHT => k_is)
    (case v_MILLION => k_is)
    (case x_InvalidAmount => k_exc)
    (case k_InvalidAmount => k_is)
    (case b_InvalidAmount => k_is)
    (case t_InvalidAmount => k_is)
    (case d_InvalidAmount => k_is)
    (case s_InvalidAmount => first | rfl | k_is)
    (case eg_InvalidAmount => k_is)
    (case ek_InvalidAmount => k_is)
    (case ea_InvalidAmount => k_is)
    (case en_InvalidAmount => k_is)
    (case et_InvalidAmount => k_is)
    (case em_InvalidAmount => k_is)
    (case x_InvalidWeights => k_exc)
    (case k_InvalidWeights => k_is)
    (case b_InvalidWeights => k_is)
    (case t_InvalidWeights => k_is)
    (case d_InvalidWeights => k_is)
    (case s_InvalidWeights => first | rfl | k_is)
    (case eg_InvalidWeights => k_is)
    (case ek_InvalidWeights => k_is)
    (case ea_InvalidWeights => k_is)
    (case en_InvalidWeights => k_is)
    (case et_InvalidWeights => k_is)
    (case em_InvalidWeights => k_is)
    (case kt_InvalidAmount_BourseError => kit_is)
    (case kt_InvalidAmount_InvalidWeights => kit_is)
    (case kt_InvalidWeights_BourseError => kit_is)
    (case su_InvalidWeights_InvalidAmount => first | rfl | k_is)
#print axioms PySem.Challenge.cw_fairbourse_k15_errors_of_amounts_holds
