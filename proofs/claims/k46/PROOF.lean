import PyProof.Rows.All
import Wide.All
import OpenK.AllK
import Wide.FinOn
import HandS.ForMost
import HandS.Defaults
import HandS.IsInst
import HandS.Wide
import HandS.Codes
import HandS.Conv
import HandS.ListItems
import HandS.SetFor
import HandS.More
import HandS.ForExc
import HandS.ExcIs
import HandS.TryMany
import HandS.Replace
import HandS.Style
import KE.KDictZip
import PySem.Challenge.RW_fairbourse_k46_errors_of_netting
set_option Elab.async false
set_option linter.all false
set_option maxRecDepth 100000
namespace FB
open PySem PySem.Spec PyProof.Rows L2
def topS (i : Nat) : Stmt := PySem.Challenge.pw_fairbourse_k46_errors_of_netting.main.body.getD i (.Pass ⟨0, 0, 0, 0⟩)
abbrev s_is_integral : Stmt := topS 5
abbrev N_is_integral : List Str := ["value"]
theorem sc_is_integral : FnScope N_is_integral ["value"] (defScope s_is_integral) := ⟨rfl, rfl, rfl, by decide +kernel, rfl, by decide +kernel, by decide +kernel⟩
abbrev s_is_within : Stmt := topS 6
abbrev N_is_within : List Str := ["least", "most", "value"]
theorem sc_is_within : FnScope N_is_within ["least", "most", "value"] (defScope s_is_within) := ⟨rfl, rfl, rfl, by decide +kernel, rfl, by decide +kernel, by decide +kernel⟩
abbrev s_pair_off : Stmt := topS 8
abbrev N_pair_off : List Str := ["givers", "takers", "pairs", "wanted", "_", "amount", "at", "giver", "rest", "part"]
theorem sc_pair_off : FnScope N_pair_off ["givers", "takers"] (defScope s_pair_off) := ⟨rfl, rfl, rfl, by decide +kernel, rfl, by decide +kernel, by decide +kernel⟩
abbrev s_nets : Stmt := topS 12
abbrev N_nets : List Str := ["trades", "units", "cents", "buyer", "seller", "bought", "paid", "house"]
theorem sc_nets : FnScope N_nets ["trades"] (defScope s_nets) := ⟨rfl, rfl, rfl, by decide +kernel, rfl, by decide +kernel, by decide +kernel⟩
abbrev s_novate : Stmt := topS 13
abbrev N_novate : List Str := ["trades", "center", "novated", "buyer", "seller", "units", "cents"]
theorem sc_novate : FnScope N_novate ["trades", "center"] (defScope s_novate) := ⟨rfl, rfl, rfl, by decide +kernel, rfl, by decide +kernel, by decide +kernel⟩
abbrev s_check_debts : Stmt := topS 14
abbrev N_check_debts : List Str := ["owed", "house", "row", "debt"]
theorem sc_check_debts : FnScope N_check_debts ["owed"] (defScope s_check_debts) := ⟨rfl, rfl, rfl, by decide +kernel, rfl, by decide +kernel, by decide +kernel⟩
abbrev s_net_amounts : Stmt := topS 15
abbrev N_net_amounts : List Str := ["owed", "row", "house"]
theorem sc_net_amounts : FnScope N_net_amounts ["owed"] (defScope s_net_amounts) := ⟨rfl, rfl, rfl, by decide +kernel, rfl, by decide +kernel, by decide +kernel⟩
abbrev s_bilateral : Stmt := topS 16
abbrev N_bilateral : List Str := ["owed", "houses", "creditor", "debtor"]
theorem sc_bilateral : FnScope N_bilateral ["owed"] (defScope s_bilateral) := ⟨rfl, rfl, rfl, by decide +kernel, rfl, by decide +kernel, by decide +kernel⟩
abbrev s_compress : Stmt := topS 17
abbrev N_compress : List Str := ["owed", "amounts", "payers", "house", "amount", "receivers"]
theorem sc_compress : FnScope N_compress ["owed"] (defScope s_compress) := ⟨rfl, rfl, rfl, by decide +kernel, rfl, by decide +kernel, by decide +kernel⟩
abbrev s_unwind : Stmt := topS 18
abbrev N_unwind : List Str := ["owed", "debts", "row", "order", "waiting", "house"]
theorem sc_unwind : FnScope N_unwind ["owed"] (defScope s_unwind) := ⟨rfl, rfl, rfl, by decide +kernel, rfl, by decide +kernel, by decide +kernel⟩
abbrev s_check_trades : Stmt := topS 19
abbrev N_check_trades : List Str := ["trades", "buyer", "seller", "units", "cents"]
theorem sc_check_trades : FnScope N_check_trades ["trades"] (defScope s_check_trades) := ⟨rfl, rfl, rfl, by decide +kernel, rfl, by decide +kernel, by decide +kernel⟩
abbrev s_first_unowed : Stmt := topS 20
abbrev N_first_unowed : List Str := ["debts", "houses", "house"]
theorem sc_first_unowed : FnScope N_first_unowed ["debts", "houses"] (defScope s_first_unowed) := ⟨rfl, rfl, rfl, by decide +kernel, rfl, by decide +kernel, by decide +kernel⟩
abbrev s_first_debtor : Stmt := topS 21
abbrev N_first_debtor : List Str := ["debts", "houses", "creditor", "debtor"]
theorem sc_first_debtor : FnScope N_first_debtor ["debts", "houses", "creditor"] (defScope s_first_debtor) := ⟨rfl, rfl, rfl, by decide +kernel, rfl, by decide +kernel, by decide +kernel⟩
abbrev s_ring_among : Stmt := topS 22
abbrev N_ring_among : List Str := ["debts", "houses", "path", "debtor", "ring"]
theorem sc_ring_among : FnScope N_ring_among ["debts", "houses"] (defScope s_ring_among) := ⟨rfl, rfl, rfl, by decide +kernel, rfl, by decide +kernel, by decide +kernel⟩
abbrev s_without_ring : Stmt := topS 23
abbrev N_without_ring : List Str := ["debts", "ring", "least", "debtor", "creditor", "reduced", "row"]
theorem sc_without_ring : FnScope N_without_ring ["debts", "ring"] (defScope s_without_ring) := ⟨rfl, rfl, rfl, by decide +kernel, rfl, by decide +kernel, by decide +kernel⟩
abbrev s_law_cell : Stmt := topS 25
abbrev N_law_cell : List Str := ["script", "k"]
theorem sc_law_cell : FnScope N_law_cell ["script", "k"] (defScope s_law_cell) := ⟨rfl, rfl, rfl, by decide +kernel, rfl, by decide +kernel, by decide +kernel⟩
abbrev s_law_draws : Stmt := topS 26
abbrev N_law_draws : List Str := ["cell", "count", "size", "draws", "rest", "k"]
theorem sc_law_draws : FnScope N_law_draws ["cell", "count", "size"] (defScope s_law_draws) := ⟨rfl, rfl, rfl, by decide +kernel, rfl, by decide +kernel, by decide +kernel⟩
abbrev s_law_called : Stmt := topS 27
abbrev N_law_called : List Str := ["name", "value"]
theorem sc_law_called : FnScope N_law_called ["name", "value"] (defScope s_law_called) := ⟨rfl, rfl, rfl, by decide +kernel, rfl, by decide +kernel, by decide +kernel⟩
abbrev s_law_raises : Stmt := topS 28
abbrev N_law_raises : List Str := ["name", "value", "actual", "error"]
theorem sc_law_raises : FnScope N_law_raises ["name", "value"] (defScope s_law_raises) := ⟨rfl, rfl, rfl, by decide +kernel, rfl, by decide +kernel, by decide +kernel⟩
abbrev s_law_trades : Stmt := topS 29
abbrev N_law_trades : List Str := ["script", "trades", "kind", "below", "added", "at"]
theorem sc_law_trades : FnScope N_law_trades ["script"] (defScope s_law_trades) := ⟨rfl, rfl, rfl, by decide +kernel, rfl, by decide +kernel, by decide +kernel⟩
abbrev s_law_debts : Stmt := topS 30
abbrev N_law_debts : List Str := ["script", "count", "debts", "k", "a", "b", "kind", "column", "row"]
theorem sc_law_debts : FnScope N_law_debts ["script"] (defScope s_law_debts) := ⟨rfl, rfl, rfl, by decide +kernel, rfl, by decide +kernel, by decide +kernel⟩
abbrev s_law : Stmt := topS 31
abbrev N_law : List Str := ["script", "trades", "wrong", "name", "renamed", "trade", "debts", "row"]
theorem sc_law : FnScope N_law ["script"] (defScope s_law) := ⟨rfl, rfl, rfl, by decide +kernel, rfl, by decide +kernel, by decide +kernel⟩
set_option maxHeartbeats 0 in
structure Txt (K : PySem.W.Frag) (mg : Str → Option Value) where
  f_is_integral : Addr
  d_is_integral : FuncData
  F_is_integral : Fun K "is_integral" "is_integral" s_is_integral f_is_integral d_is_integral
  m_is_integral : mg "is_integral" = some (.ref f_is_integral)
  b_is_integral : Binds K d_is_integral ["value"] []
  f_is_within : Addr
  d_is_within : FuncData
  F_is_within : Fun K "is_within" "is_within" s_is_within f_is_within d_is_within
  m_is_within : mg "is_within" = some (.ref f_is_within)
  b_is_within : Binds K d_is_within ["least", "most", "value"] []
  f_pair_off : Addr
  d_pair_off : FuncData
  F_pair_off : Fun K "pair_off" "pair_off" s_pair_off f_pair_off d_pair_off
  m_pair_off : mg "pair_off" = some (.ref f_pair_off)
  b_pair_off : Binds K d_pair_off ["givers", "takers"] []
  f_nets : Addr
  d_nets : FuncData
  F_nets : Fun K "nets" "nets" s_nets f_nets d_nets
  m_nets : mg "nets" = some (.ref f_nets)
  b_nets : Binds K d_nets ["trades"] []
  f_novate : Addr
  d_novate : FuncData
  F_novate : Fun K "novate" "novate" s_novate f_novate d_novate
  m_novate : mg "novate" = some (.ref f_novate)
  b_novate : Binds K d_novate ["trades", "center"] []
  f_check_debts : Addr
  d_check_debts : FuncData
  F_check_debts : Fun K "check_debts" "check_debts" s_check_debts f_check_debts d_check_debts
  m_check_debts : mg "check_debts" = some (.ref f_check_debts)
  b_check_debts : Binds K d_check_debts ["owed"] []
  f_net_amounts : Addr
  d_net_amounts : FuncData
  F_net_amounts : Fun K "net_amounts" "net_amounts" s_net_amounts f_net_amounts d_net_amounts
  m_net_amounts : mg "net_amounts" = some (.ref f_net_amounts)
  b_net_amounts : Binds K d_net_amounts ["owed"] []
  f_bilateral : Addr
  d_bilateral : FuncData
  F_bilateral : Fun K "bilateral" "bilateral" s_bilateral f_bilateral d_bilateral
  m_bilateral : mg "bilateral" = some (.ref f_bilateral)
  b_bilateral : Binds K d_bilateral ["owed"] []
  f_compress : Addr
  d_compress : FuncData
  F_compress : Fun K "compress" "compress" s_compress f_compress d_compress
  m_compress : mg "compress" = some (.ref f_compress)
  b_compress : Binds K d_compress ["owed"] []
  f_unwind : Addr
  d_unwind : FuncData
  F_unwind : Fun K "unwind" "unwind" s_unwind f_unwind d_unwind
  m_unwind : mg "unwind" = some (.ref f_unwind)
  b_unwind : Binds K d_unwind ["owed"] []
  f_check_trades : Addr
  d_check_trades : FuncData
  F_check_trades : Fun K "_check_trades" "_check_trades" s_check_trades f_check_trades d_check_trades
  m_check_trades : mg "_check_trades" = some (.ref f_check_trades)
  b_check_trades : Binds K d_check_trades ["trades"] []
  f_first_unowed : Addr
  d_first_unowed : FuncData
  F_first_unowed : Fun K "_first_unowed" "_first_unowed" s_first_unowed f_first_unowed d_first_unowed
  m_first_unowed : mg "_first_unowed" = some (.ref f_first_unowed)
  b_first_unowed : Binds K d_first_unowed ["debts", "houses"] []
  f_first_debtor : Addr
  d_first_debtor : FuncData
  F_first_debtor : Fun K "_first_debtor" "_first_debtor" s_first_debtor f_first_debtor d_first_debtor
  m_first_debtor : mg "_first_debtor" = some (.ref f_first_debtor)
  b_first_debtor : Binds K d_first_debtor ["debts", "houses", "creditor"] []
  f_ring_among : Addr
  d_ring_among : FuncData
  F_ring_among : Fun K "_ring_among" "_ring_among" s_ring_among f_ring_among d_ring_among
  m_ring_among : mg "_ring_among" = some (.ref f_ring_among)
  b_ring_among : Binds K d_ring_among ["debts", "houses"] []
  f_without_ring : Addr
  d_without_ring : FuncData
  F_without_ring : Fun K "_without_ring" "_without_ring" s_without_ring f_without_ring d_without_ring
  m_without_ring : mg "_without_ring" = some (.ref f_without_ring)
  b_without_ring : Binds K d_without_ring ["debts", "ring"] []
  f_law_cell : Addr
  d_law_cell : FuncData
  F_law_cell : Fun K "_law_cell" "_law_cell" s_law_cell f_law_cell d_law_cell
  m_law_cell : mg "_law_cell" = some (.ref f_law_cell)
  b_law_cell : Binds K d_law_cell ["script", "k"] []
  f_law_draws : Addr
  d_law_draws : FuncData
  F_law_draws : Fun K "_law_draws" "_law_draws" s_law_draws f_law_draws d_law_draws
  m_law_draws : mg "_law_draws" = some (.ref f_law_draws)
  b_law_draws : Binds K d_law_draws ["cell", "count", "size"] []
  f_law_called : Addr
  d_law_called : FuncData
  F_law_called : Fun K "_law_called" "_law_called" s_law_called f_law_called d_law_called
  m_law_called : mg "_law_called" = some (.ref f_law_called)
  b_law_called : Binds K d_law_called ["name", "value"] []
  f_law_raises : Addr
  d_law_raises : FuncData
  F_law_raises : Fun K "_law_raises" "_law_raises" s_law_raises f_law_raises d_law_raises
  m_law_raises : mg "_law_raises" = some (.ref f_law_raises)
  b_law_raises : Binds K d_law_raises ["name", "value"] []
  f_law_trades : Addr
  d_law_trades : FuncData
  F_law_trades : Fun K "_law_trades" "_law_trades" s_law_trades f_law_trades d_law_trades
  m_law_trades : mg "_law_trades" = some (.ref f_law_trades)
  b_law_trades : Binds K d_law_trades ["script"] []
  f_law_debts : Addr
  d_law_debts : FuncData
  F_law_debts : Fun K "_law_debts" "_law_debts" s_law_debts f_law_debts d_law_debts
  m_law_debts : mg "_law_debts" = some (.ref f_law_debts)
  b_law_debts : Binds K d_law_debts ["script"] []
  c_BourseError : Addr
  m_BourseError : mg "BourseError" = some (.ref c_BourseError)
  c_InvalidAmount : Addr
  m_InvalidAmount : mg "InvalidAmount" = some (.ref c_InvalidAmount)
  c_InvalidTrade : Addr
  m_InvalidTrade : mg "InvalidTrade" = some (.ref c_InvalidTrade)
  x_InvalidTrade : PySem.W.excIn K c_InvalidTrade [.type "ValueError", .type "Exception", .type "BaseException", .type "object"] "ValueError.__new__" = true
  k_InvalidTrade : PySem.W.keepIn K (.ref c_InvalidTrade) = true
  b_InvalidTrade : PySem.W.subIn K (.ref c_InvalidTrade) (.type "BaseException") = some true
  t_InvalidTrade : PySem.W.typeIn K (.ref c_InvalidTrade) = some (.type "type")
  d_InvalidTrade : PySem.W.hasDictIn K c_InvalidTrade = true
  s_InvalidTrade : PySem.W.subIn K (.ref c_InvalidTrade) (.ref c_InvalidTrade) = some true
  eg_InvalidTrade : PySem.W.findIn K (.ref c_InvalidTrade) "__getattribute__" = some (some (.builtin "BaseException.__getattribute__"))
  ek_InvalidTrade : PySem.W.findIn K (.ref c_InvalidTrade) "__getattr__" = some none
  ea_InvalidTrade : PySem.W.findIn K (.ref c_InvalidTrade) "__class__" = some (some (.builtin "object.__class__"))
  en_InvalidTrade : PySem.W.specialIn K (.builtin "object.__class__") "__get__" = some (some (.builtin "getset_descriptor.__get__"))
  et_InvalidTrade : PySem.W.takesIn K (.builtin "object.__class__") = some true
  em_InvalidTrade : PySem.W.mroIn K c_InvalidTrade (.type "object") = some true
  e_InvalidTrade : ExcC K c_InvalidTrade
  kt_InvalidTrade_BourseError : PySem.W.kitOne K (.ref c_InvalidTrade) (.ref c_BourseError) = some true
  kt_InvalidTrade_InvalidAmount : PySem.W.kitOne K (.ref c_InvalidTrade) (.ref c_InvalidAmount) = some false
  z_abs : mg "abs" = none
  z_all : mg "all" = none
  z_bool : mg "bool" = none
  z_enumerate : mg "enumerate" = none
  z_int : mg "int" = none
  z_isinstance : mg "isinstance" = none
  z_len : mg "len" = none
  z_list : mg "list" = none
  z_max : mg "max" = none
  z_min : mg "min" = none
  z_range : mg "range" = none
  z_sorted : mg "sorted" = none
  z_sum : mg "sum" = none
  z_tuple : mg "tuple" = none
  z_zip : mg "zip" = none
  t_MOST_HOUSES : Tok
  m_MOST_HOUSES : mg "MOST_HOUSES" = some (.int 13 t_MOST_HOUSES)
  t_MOST_DEBT : Tok
  m_MOST_DEBT : mg "MOST_DEBT" = some (.int 1000000000000000 t_MOST_DEBT)
/-! own short words -/
theorem iteD {p A B : Prop} [Decidable p] (h1 : p → A) (h2 : ¬ p → B) : if decide p = true then A else B := by
  by_cases h : p
  · rw [decide_eq_true h, if_pos rfl]; exact h1 h
  · rw [decide_eq_false h, if_neg Bool.false_ne_true]; exact h2 h
theorem iteDN {p A B : Prop} [Decidable p] (h1 : ¬ p → A) (h2 : p → B) : if (!decide p) = true then A else B := by
  by_cases h : p
  · rw [decide_eq_true h]; exact iteF (h2 h)
  · rw [decide_eq_false h]; exact iteT (h1 h)
theorem len_le {n : Nat} (h : Nat.ble n 1000 = true) : n ≤ sizeLine := Nat.le_trans (Nat.le_of_ble_eq_true h) (by decide)
theorem iteB {b : Bool} {A B : Prop} (h1 : b = true → A) (h2 : b = false → B) : if b = true then A else B := by
  cases b with
  | true => exact iteT (h1 rfl)
  | false => exact iteF (h2 rfl)
theorem cmul_l {i j : Int} (h : -(2 ^ 64) < i) (h' : i < 2 ^ 64) : CMul i j := .inl ⟨h, h'⟩
theorem cmul_r {i j : Int} (h : -(2 ^ 64) < j) (h' : j < 2 ^ 64) : CMul i j := .inr ⟨h, h'⟩
theorem dec_t {p : Prop} [Decidable p] (h : decide p = true) : p := of_decide_eq_true h
theorem dec_f {p : Prop} [Decidable p] (h : decide p = false) : ¬ p := of_decide_eq_false h
theorem ndec_t {p : Prop} [Decidable p] (h : (!decide p) = true) : ¬ p := fun q => by rw [decide_eq_true q] at h; cases h
theorem ndec_f {p : Prop} [Decidable p] (h : (!decide p) = false) : p := by
  by_cases q : p
  · exact q
  · rw [decide_eq_false q] at h; cases h
theorem fld_lt {n : Nat} (h : Nat.ble (n + 1) 1000 = true) : n < 1000 := Nat.le_of_ble_eq_true h
def rLen (K : PySem.W.Frag) : List V → Hp → VK → Prop := fun xs H Q => ∃ p ys, xs = [.ref p] ∧ (SqL K H p ys ∨ SqT K H p ys) ∧ Q (.int ys.length) H
def rListOf (K : PySem.W.Frag) : List V → Hp → VK → Prop := fun xs H Q => ∃ p ys, xs = [.ref p] ∧ (SqL K H p ys ∨ SqT K H p ys) ∧ ∀ l, H l = none → Q (.ref l) (upd H l (.lst ys))
def rTupleOf (K : PySem.W.Frag) : List V → Hp → VK → Prop := fun xs H Q => ∃ p ys, xs = [.ref p] ∧ ((SqL K H p ys ∧ ∀ l, H l = none → Q (.ref l) (upd H l (.tup ys))) ∨ (SqT K H p ys ∧ Q (.ref p) H))
theorem len0 : ([] : List V).length ≤ sizeLine := len_le rfl
theorem len1 {a : V} : [a].length ≤ sizeLine := len_le rfl
theorem len2 {a b : V} : [a, b].length ≤ sizeLine := len_le rfl
theorem len3 {a b c : V} : [a, b, c].length ≤ sizeLine := len_le rfl
theorem len4 {a b c d : V} : [a, b, c, d].length ≤ sizeLine := len_le rfl
theorem len5 {a b c d e : V} : [a, b, c, d, e].length ≤ sizeLine := len_le rfl
local macro_rules | `(tactic| walk_at "st") => `(tactic| repeat (first
  | (apply Exists.intro (α := V))
  | (apply Exists.intro (α := Int))
  | (apply Exists.intro (α := Bool))
  | (apply Exists.intro (α := Addr))
  | (apply Exists.intro (α := List V))
  | (apply Exists.intro (α := List Int))
  | (apply Exists.intro (α := List (Str × V)))
  | (apply Exists.intro (α := Str))
  | (apply And.intro; focus (first | omega | (dsimp only; omega) | (simp only [List.length_map, List.length_replicate]; omega) | exact rfl | assumption | exact SqL.of (by assumption) | exact Or.inl (by assumption) | exact Or.inr (by assumption) | exact Or.inr (SqT.of (by assumption)) | exact Or.inl (Or.inl upd_same) | exact Or.inl (Or.inl (Or.inl upd_same)) | (with_reducible exact len0) | (with_reducible exact len1) | (with_reducible exact len2) | (with_reducible exact len3) | (with_reducible exact len4) | (with_reducible exact len5) | exact upd_same | exact ⟨_, Or.inl (Or.inl upd_same)⟩ | exact ⟨_, SqL.of (by assumption)⟩ | exact ⟨_, by assumption⟩ | exact Or.inl ⟨rfl, _, SqL.of (by assumption)⟩ | exact Or.inl ⟨rfl, _, SqL.of upd_same⟩ | exact cmul_l (by omega) (by omega) | exact cmul_r (by omega) (by omega) | exact ⟨by omega, by omega⟩ | (simp only [List.length_map, List.length_replicate]; omega) | exact Or.inl (SqL.of (by assumption)) | exact SqT.of (by assumption) | exact fld_lt rfl | exact Or.inl ⟨_, by assumption, rfl⟩))))
/-- the script's cell at j, 0 where there is none -/
def cellOf (ns : List Int) (j : Nat) : Int := ns.getD j 0
theorem atI_ints {ns : List Int} {j : Nat} (h : j < ns.length) : atI (ns.map V.int) (j : Int) = some (.int (cellOf ns j)) := by
  refine at_of (j := j) rfl ?_
  rw [List.getElem?_map, List.getElem?_eq_getElem h]
  unfold cellOf
  rw [List.getD_eq_getElem?_getD, List.getElem?_eq_getElem h]
  rfl
theorem cellOf_out {ns : List Int} {j : Nat} (h : ¬ j < ns.length) : cellOf ns j = 0 := by
  unfold cellOf
  rw [List.getD_eq_getElem?_getD, List.getElem?_eq_none (by omega)]
  rfl
theorem same_upd {H : Hp} {p : Addr} {o : HO} (h : H p = none) : Same H (upd H p o) := fun b x e => by
  rw [upd_ne (ne_of_none e h)]
  exact e
/-- a slice of a list of ints -/
def cutI (ns : List Int) (lo hi : Option Int) : List Int := (ns.drop (HT.sIx ns.length 0 lo)).take (HT.sIx ns.length ns.length hi - HT.sIx ns.length 0 lo)
theorem cutV_ints (ns : List Int) (lo hi : Option Int) : cutV (ns.map V.int) lo hi = (cutI ns lo hi).map V.int := by
  unfold cutV cutI
  rw [List.length_map, List.map_take, List.map_drop]
theorem cutI_len (ns : List Int) (lo hi : Option Int) : (cutI ns lo hi).length ≤ ns.length := by
  unfold cutI
  rw [List.length_take, List.length_drop]
  omega
theorem ints_at {ns : List Int} {i : Nat} {x : V} (h : (ns.map V.int)[i]? = some x) : ∃ z, ns[i]? = some z ∧ x = V.int z := by
  rw [List.getElem?_map] at h
  cases e : ns[i]? with
  | none => rw [e] at h; cases h
  | some z => rw [e] at h; exact ⟨z, rfl, (Option.some.inj h).symm⟩
theorem take_succ {α : Type} {xs : List α} {i : Nat} {x : α} (h : xs[i]? = some x) : xs.take (i + 1) = xs.take i ++ [x] := by
  rw [List.take_add_one, h]
  rfl
theorem sum_le_mul : ∀ (ws : List Int) (b : Int), (∀ w, w ∈ ws → w ≤ b) → ws.sum ≤ (ws.length : Int) * b
  | [], b, _ => by show (0 : Int) ≤ ((0 : Nat) : Int) * b; omega
  | w :: ws, b, h => by
    rw [List.sum_cons, List.length_cons, Int.natCast_add, Int.add_mul]
    have h1 := h w List.mem_cons_self
    have h2 := sum_le_mul ws b fun x hx => h x (List.mem_cons_of_mem _ hx)
    omega
theorem ixN_nat {n j : Nat} (h : j < n) : ixN n (j : Int) = some j := by
  unfold ixN
  rw [if_pos (by omega), if_pos (by omega), Int.toNat_natCast]
theorem call_int_i {X : Cx} : CallR X (.type "int") (fun xs H Q => ∃ i : Int, xs = [.int i] ∧ Q (.int i) H) := by
  intro pins s σ H xs us Q I r h
  obtain ⟨i, e, q⟩ := h
  exact call_int1 pins s σ H xs us Q I r (.inl ⟨i, e, q⟩)
theorem dpAll_ints {K : PySem.W.Frag} {H : Hp} : ∀ xs : List Int, DpAll K H (xs.map V.int) (xs.map PyData.int)
  | [] => .nil
  | x :: xs => .cons (.int x) (dpAll_ints xs)
theorem eqvAll_ints : ∀ xs ys : List Int, PyData.eqvAll (xs.map PyData.int) (ys.map PyData.int) = decide (xs = ys)
  | [], [] => by simp [PyData.eqvAll]
  | [], _ :: _ => by simp [PyData.eqvAll]
  | _ :: _, [] => by simp [PyData.eqvAll]
  | x :: xs, y :: ys => by
    rw [List.map_cons, List.map_cons]
    simp only [PyData.eqvAll, PyData.eqv]
    rw [eqvAll_ints xs ys]
    by_cases h : x = y <;> by_cases h2 : xs = ys <;> simp [h, h2]
theorem lay_ints : ∀ xs : List Int, PyData.canLayAll0 (xs.map PyData.int) = true
  | [] => rfl
  | x :: xs => by
    rw [List.map_cons]
    simp only [PyData.canLayAll0, PyData.canLay0, Bool.true_and]
    exact lay_ints xs
theorem depth_ints : ∀ xs : List Int, PyData.depthAll (xs.map PyData.int) = 0
  | [] => rfl
  | x :: xs => by
    rw [List.map_cons]
    simp only [PyData.depthAll, PyData.depth, depth_ints xs]
    rfl
theorem shaped_ints (xs : List Int) : SeqAt.shaped (.list (xs.map PyData.int)) = true := by
  unfold SeqAt.shaped
  simp only [PyData.canLay0, PyData.depth, lay_ints, depth_ints]
  rfl
theorem eqD_ints {K : PySem.W.Frag} {H : Hp} {a b : Addr} {xs ys : List Int} {Q : VK} (h1 : SqL K H a (xs.map V.int)) (h2 : SqL K H b (ys.map V.int)) (q : Q (.bl (decide (xs = ys))) H) : rEqD K (.ref a) (.ref b) H Q :=
  ⟨_, _, .lst h1 (dpAll_ints xs), .lst h2 (dpAll_ints ys), shaped_ints xs, shaped_ints ys, by rw [show PyData.eqv (.list (xs.map PyData.int)) (.list (ys.map PyData.int)) = decide (xs = ys) by simp only [PyData.eqv, eqvAll_ints]]; exact q⟩
theorem neD_ints {K : PySem.W.Frag} {H : Hp} {a b : Addr} {xs ys : List Int} {Q : VK} (h1 : SqL K H a (xs.map V.int)) (h2 : SqL K H b (ys.map V.int)) (q : Q (.bl (!decide (xs = ys))) H) : rNeD K (.ref a) (.ref b) H Q :=
  ⟨_, _, .lst h1 (dpAll_ints xs), .lst h2 (dpAll_ints ys), shaped_ints xs, shaped_ints ys, by rw [show PyData.eqv (.list (xs.map PyData.int)) (.list (ys.map PyData.int)) = decide (xs = ys) by simp only [PyData.eqv, eqvAll_ints]]; exact q⟩

def at0 (ws : List Int) (i : Nat) : Int := ws.getD i 0
theorem at0_lt {ws : List Int} {i : Nat} (h : i < ws.length) : ws[i]? = some (at0 ws i) := by
  unfold at0
  rw [List.getD_eq_getElem?_getD, List.getElem?_eq_getElem h]
  rfl
theorem atI_n {ws : List Int} {j : Nat} (h : j < ws.length) : atI (ws.map V.int) (j : Int) = some (.int (at0 ws j)) := by
  refine at_of (j := j) rfl ?_
  rw [List.getElem?_map, at0_lt h]
  rfl
theorem at0_of {ws : List Int} {i : Nat} {x : Int} (h : ws[i]? = some x) : at0 ws i = x := by
  unfold at0
  rw [List.getD_eq_getElem?_getD, h]
  rfl
theorem at0_out {ws : List Int} {i : Nat} (h : ws.length ≤ i) : at0 ws i = 0 := by
  unfold at0
  rw [List.getD_eq_getElem?_getD, List.getElem?_eq_none h]
  rfl
theorem at0_ext {xs ys : List Int} (hl : xs.length = ys.length) (h : ∀ i, i < xs.length → at0 xs i = at0 ys i) : xs = ys := by
  refine List.ext_getElem? fun i => ?_
  by_cases hi : i < xs.length
  · rw [at0_lt hi, at0_lt (by omega), h i hi]
  · rw [List.getElem?_eq_none (by omega), List.getElem?_eq_none (by omega)]
theorem at0_set {ps : List Int} {k i : Nat} {x : Int} (hk : k < ps.length) : at0 (ps.set k x) i = if i = k then x else at0 ps i := by
  by_cases h : i = k
  · subst h
    rw [if_pos rfl]
    exact at0_of (List.getElem?_set_self hk)
  · rw [if_neg h]
    unfold at0
    rw [List.getD_eq_getElem?_getD, List.getD_eq_getElem?_getD, List.getElem?_set_ne (fun e => h e.symm)]
theorem at0_nonneg {ws : List Int} (h : ∀ w, w ∈ ws → 0 ≤ w) (i : Nat) : 0 ≤ at0 ws i := by
  by_cases hi : i < ws.length
  · exact h _ (List.mem_of_getElem? (at0_lt hi))
  · rw [at0_out (by omega)]; exact Int.le_refl 0

/-- how items of one kind are told as data; equal data are equal items -/
structure LayD {α : Type} [DecidableEq α] (L : α → PyData) (k : Nat) (G : α → Prop) : Prop where
  lay : ∀ x, G x → (L x).canLay0 = true
  dep : ∀ x, (L x).depth ≤ k
  eqv : ∀ x y, PyData.eqv (L x) (L y) = decide (x = y)
theorem LayD.shaped {α : Type} [DecidableEq α] {L : α → PyData} {k : Nat} {G : α → Prop} (h : LayD L k G) (hk : k ≤ 64) {x : α} (g : G x) : SeqAt.shaped (L x) = true := by
  have h1 := h.lay x g
  have h2 := h.dep x
  unfold SeqAt.shaped
  rw [h1, Bool.true_and]
  exact decide_eq_true (by omega)
theorem layD_int : LayD PyData.int 0 (fun _ => True) := ⟨fun _ _ => rfl, fun _ => Nat.le_refl _, fun x y => by simp only [PyData.eqv]; exact (Bool.beq_eq_decide_eq x y)⟩
theorem layD_str : LayD PyData.str 0 (fun x => PyData.strOk x = true) := ⟨fun _ h => by simp only [PyData.canLay0]; exact h, fun _ => Nat.le_refl _, fun x y => by simp only [PyData.eqv]; exact (Bool.beq_eq_decide_eq x y)⟩
theorem decide_and2 {p q r : Prop} [Decidable p] [Decidable q] [Decidable r] (h : r ↔ p ∧ q) : (decide p && decide q) = decide r := by
  by_cases hp : p <;> by_cases hq : q <;> simp [h, hp, hq]
theorem layD_all {α : Type} [DecidableEq α] {L : α → PyData} {k : Nat} {G : α → Prop} (h : LayD L k G) : (∀ xs : List α, (∀ x, x ∈ xs → G x) → PyData.canLayAll0 (xs.map L) = true) ∧ (∀ xs : List α, PyData.depthAll (xs.map L) ≤ k) ∧ ∀ xs ys : List α, PyData.eqvAll (xs.map L) (ys.map L) = decide (xs = ys) := by
  refine ⟨fun xs => ?_, fun xs => ?_, fun xs => ?_⟩
  · induction xs with
    | nil => exact fun _ => rfl
    | cons x xs ih =>
      intro g
      rw [List.map_cons]
      simp only [PyData.canLayAll0, ih fun y hy => g y (List.mem_cons_of_mem _ hy), h.lay x (g x List.mem_cons_self)]
      rfl
  · induction xs with
    | nil => exact Nat.zero_le _
    | cons x xs ih => rw [List.map_cons]; simp only [PyData.depthAll]; exact Nat.max_le.mpr ⟨h.dep x, ih⟩
  · induction xs with
    | nil =>
      intro ys
      cases ys with
      | nil => rfl
      | cons y ys => simp [PyData.eqvAll]
    | cons x xs ih =>
      intro ys
      cases ys with
      | nil => simp [PyData.eqvAll]
      | cons y ys =>
        rw [List.map_cons, List.map_cons]
        simp only [PyData.eqvAll]
        rw [ih ys, h.eqv x y]
        exact decide_and2 (by rw [List.cons.injEq])
theorem LayD.list {α : Type} [DecidableEq α] {L : α → PyData} {k : Nat} {G : α → Prop} (h : LayD L k G) : LayD (fun xs : List α => PyData.list (xs.map L)) (k + 1) (fun xs => ∀ x, x ∈ xs → G x) := by
  obtain ⟨h1, h2, h3⟩ := layD_all h
  refine ⟨fun xs g => ?_, fun xs => ?_, fun xs ys => ?_⟩
  · simp only [PyData.canLay0]; exact h1 xs g
  · simp only [PyData.depth]; exact Nat.succ_le_succ (h2 xs)
  · simp only [PyData.eqv]; exact h3 xs ys
theorem LayD.tup2 {α β : Type} [DecidableEq α] [DecidableEq β] {L : α → PyData} {M : β → PyData} {k : Nat} {G : α → Prop} {G2 : β → Prop} (h : LayD L k G) (g : LayD M k G2) : LayD (fun x : α × β => PyData.tuple [L x.1, M x.2]) (k + 1) (fun x => G x.1 ∧ G2 x.2) := by
  refine ⟨fun x a => ?_, fun x => ?_, fun x y => ?_⟩
  · simp only [PyData.canLay0, PyData.canLayAll0, h.lay _ a.1, g.lay _ a.2, Bool.and_true]
  · simp only [PyData.depth, PyData.depthAll]
    have := h.dep x.1
    have := g.dep x.2
    omega
  · simp only [PyData.eqv, PyData.eqvAll, h.eqv, g.eqv, Bool.and_true]
    exact decide_and2 (by rw [Prod.ext_iff])
theorem LayD.tup3 {α β γ : Type} [DecidableEq α] [DecidableEq β] [DecidableEq γ] {L : α → PyData} {M : β → PyData} {N : γ → PyData} {k : Nat} {G : α → Prop} {G2 : β → Prop} {G3 : γ → Prop} (h : LayD L k G) (g : LayD M k G2) (e : LayD N k G3) : LayD (fun x : α × β × γ => PyData.tuple [L x.1, M x.2.1, N x.2.2]) (k + 1) (fun x => G x.1 ∧ G2 x.2.1 ∧ G3 x.2.2) := by
  refine ⟨fun x a => ?_, fun x => ?_, fun x y => ?_⟩
  · simp only [PyData.canLay0, PyData.canLayAll0, h.lay _ a.1, g.lay _ a.2.1, e.lay _ a.2.2, Bool.and_true]
  · simp only [PyData.depth, PyData.depthAll]
    have := h.dep x.1
    have := g.dep x.2.1
    have := e.dep x.2.2
    omega
  · simp only [PyData.eqv, PyData.eqvAll, h.eqv, g.eqv, e.eqv, Bool.and_true]
    rw [decide_and2 (r := x.2 = y.2) (by rw [Prod.ext_iff])]
    exact decide_and2 (by rw [Prod.ext_iff])
theorem LayD.tup4 {α β γ δ : Type} [DecidableEq α] [DecidableEq β] [DecidableEq γ] [DecidableEq δ] {L : α → PyData} {M : β → PyData} {N : γ → PyData} {O : δ → PyData} {k : Nat} {G : α → Prop} {G2 : β → Prop} {G3 : γ → Prop} {G4 : δ → Prop} (h : LayD L k G) (g : LayD M k G2) (e : LayD N k G3) (d : LayD O k G4) : LayD (fun x : α × β × γ × δ => PyData.tuple [L x.1, M x.2.1, N x.2.2.1, O x.2.2.2]) (k + 1) (fun x => G x.1 ∧ G2 x.2.1 ∧ G3 x.2.2.1 ∧ G4 x.2.2.2) := by
  refine ⟨fun x a => ?_, fun x => ?_, fun x y => ?_⟩
  · simp only [PyData.canLay0, PyData.canLayAll0, h.lay _ a.1, g.lay _ a.2.1, e.lay _ a.2.2.1, d.lay _ a.2.2.2, Bool.and_true]
  · simp only [PyData.depth, PyData.depthAll]
    have := h.dep x.1
    have := g.dep x.2.1
    have := e.dep x.2.2.1
    have := d.dep x.2.2.2
    omega
  · simp only [PyData.eqv, PyData.eqvAll, h.eqv, g.eqv, e.eqv, d.eqv, Bool.and_true]
    rw [decide_and2 (r := x.2.2 = y.2.2) (by rw [Prod.ext_iff]), decide_and2 (r := x.2 = y.2) (by rw [Prod.ext_iff])]
    exact decide_and2 (by rw [Prod.ext_iff])
theorem eqL {α : Type} [DecidableEq α] {L : α → PyData} {k : Nat} {G : α → Prop} (h : LayD L k G) (hk : k ≤ 64) {K : PySem.W.Frag} {H : Hp} {x y : V} {a b : α} {Q : VK} (ga : G a) (gb : G b) (h1 : Dp K H x (L a)) (h2 : Dp K H y (L b)) (q : Q (.bl (decide (a = b))) H) : rEqD K x y H Q :=
  ⟨_, _, h1, h2, h.shaped hk ga, h.shaped hk gb, by rw [h.eqv]; exact q⟩
theorem neL {α : Type} [DecidableEq α] {L : α → PyData} {k : Nat} {G : α → Prop} (h : LayD L k G) (hk : k ≤ 64) {K : PySem.W.Frag} {H : Hp} {x y : V} {a b : α} {Q : VK} (ga : G a) (gb : G b) (h1 : Dp K H x (L a)) (h2 : Dp K H y (L b)) (q : Q (.bl (!decide (a = b))) H) : rNeD K x y H Q :=
  ⟨_, _, h1, h2, h.shaped hk ga, h.shaped hk gb, by rw [h.eqv]; exact q⟩
theorem dpAll_refs {α : Type} {L : α → PyData} {K : PySem.W.Frag} {H : Hp} : ∀ {ps : List Addr} {xs : List α}, ps.length = xs.length → (∀ (i : Nat) (p : Addr) (x : α), ps[i]? = some p → xs[i]? = some x → Dp K H (.ref p) (L x)) → DpAll K H (ps.map V.ref) (xs.map L)
  | [], [], _, _ => .nil
  | [], _ :: _, h, _ => by cases h
  | _ :: _, [], h, _ => by cases h
  | p :: ps, x :: xs, h, e => .cons (e 0 p x rfl rfl) (dpAll_refs (Nat.succ.inj h) fun i p' x' h1 h2 => e (i + 1) p' x' h1 h2)

/-- for i, x in enumerate(xs): each turn a new pair -/
theorem for_enum {K : PySem.W.Frag} {a : Addr} {xs : List V} {g : TG} {tb : TS} {D : Ends} {σ : L2.St} {H : Hp} (Pv : Nat → L2.St → Hp → Prop) (h0 : Pv 0 σ H) (hl : ∀ i σ H, i ≤ xs.length → Pv i σ H → SqL K H a xs)
    (hs : ∀ (i : Nat) (x : V) (σ : L2.St) (H : Hp) (T : Addr), xs[i]? = some x → Pv i σ H → H T = none → g (.ref T) σ (upd H T (.tup [.int (i : Int), x])) fun σ2 H2 => tb { D with nx := Pv (i + 1), ct := Pv (i + 1), bk := D.nx } σ2 H2) (hd : ∀ σ H, Pv xs.length σ H → D.nx σ H) :
    ∃ W : Nat → Nat → L2.St → Hp → Prop, (∃ m, W 0 m σ H) ∧ ∀ i m σ H, W i m σ H →
      ((Ite K a).stop i H ∧ D.nx σ H) ∨ ((Ite K a).go i H ∧ ∃ N : L2.St → Hp → Prop, (∀ σ' H', N σ' H' → ∃ m', m' < m ∧ W (i + 1) m' σ' H') ∧ ∀ x H', (Ite K a).yld i H x H' → g x σ H' fun σ2 H2 => tb { D with nx := N, ct := N, bk := D.nx } σ2 H2) := by
  refine ⟨fun i m σ H => m + i = xs.length ∧ Pv i σ H, ⟨xs.length, rfl, h0⟩, ?_⟩
  rintro i m σ H ⟨em, p⟩
  have q := hl i σ H (by omega) p
  by_cases hlt : i < xs.length
  · refine .inr ⟨⟨xs, xs[i], q, List.getElem?_eq_getElem hlt⟩, Pv (i + 1), fun σ' H' p' => ⟨m - 1, by omega, by omega, p'⟩, fun x H' y => ?_⟩
    obtain ⟨T, z, rfl, nT, rfl, hz⟩ := y
    exact hs i z σ H T (hz xs q) p nT
  · have e : i = xs.length := by omega
    subst e
    exact .inl ⟨⟨xs, q, Nat.le_refl _⟩, hd σ H p⟩
theorem call_int_b {X : Cx} : CallR X (.type "int") (fun xs H Q => ∃ b : Bool, xs = [.bl b] ∧ Q (.int (if b = true then 1 else 0)) H) := by
  intro pins s σ H xs us Q I r h
  obtain ⟨i, e, q⟩ := h
  exact call_int1 pins s σ H xs us Q I r (.inr ⟨i, e, q⟩)

/-- the first n values of g -/
def rowI (n : Nat) (g : Nat → Int) : List Int := (List.range n).map g
theorem rowI_len (n : Nat) (g : Nat → Int) : (rowI n g).length = n := by
  unfold rowI
  rw [List.length_map, List.length_range]
theorem rowI_at {n : Nat} {g : Nat → Int} {i : Nat} (h : i < n) : (rowI n g)[i]? = some (g i) := by
  unfold rowI
  rw [List.getElem?_map, List.getElem?_range h]
  rfl
theorem atI_row {n : Nat} {g : Nat → Int} {i : Nat} (h : i < n) : atI ((rowI n g).map V.int) (i : Int) = some (.int (g i)) := by
  refine at_of (j := i) rfl ?_
  rw [List.getElem?_map, rowI_at h]
  rfl
theorem rowI_succ (n : Nat) (g : Nat → Int) : rowI (n + 1) g = rowI n g ++ [g n] := by
  unfold rowI
  rw [List.range_succ, List.map_append]
  rfl
theorem rowI_eq {n : Nat} {f g : Nat → Int} : rowI n f = rowI n g ↔ ∀ i, i < n → f i = g i := by
  unfold rowI
  rw [List.map_inj_left]
  exact ⟨fun h i hi => h i (List.mem_range.mpr hi), fun h i hi => h i (List.mem_range.mp hi)⟩
theorem rowI_of (ws : List Int) : rowI ws.length (at0 ws) = ws := by
  refine List.ext_getElem? fun i => ?_
  by_cases h : i < ws.length
  · rw [rowI_at h, at0_lt h]
  · rw [List.getElem?_eq_none (by rw [rowI_len]; omega), List.getElem?_eq_none (by omega)]
theorem rowI_mem {n : Nat} {g : Nat → Int} {x : Int} : x ∈ rowI n g ↔ ∃ i, i < n ∧ g i = x := by
  unfold rowI
  rw [List.mem_map]
  exact ⟨fun ⟨i, h, e⟩ => ⟨i, List.mem_range.mp h, e⟩, fun ⟨i, h, e⟩ => ⟨i, List.mem_range.mpr h, e⟩⟩
/-- the sum of the first n values of g -/
def sumI (n : Nat) (g : Nat → Int) : Int := (rowI n g).sum
theorem sumI_succ (n : Nat) (g : Nat → Int) : sumI (n + 1) g = sumI n g + g n := by
  unfold sumI
  rw [rowI_succ, List.sum_append, List.sum_cons, List.sum_nil]
  omega
theorem sumI_congr {n : Nat} {f g : Nat → Int} (h : ∀ i, i < n → f i = g i) : sumI n f = sumI n g := by
  unfold sumI
  rw [rowI_eq.mpr h]
theorem sumI_sub : ∀ (n : Nat) (f g : Nat → Int), sumI n (fun i => f i - g i) = sumI n f - sumI n g
  | 0, _, _ => rfl
  | n + 1, f, g => by rw [sumI_succ, sumI_succ, sumI_succ, sumI_sub n f g]; omega
theorem sumI_bound {n : Nat} {g : Nat → Int} {m : Int} (h : ∀ i, i < n → 0 ≤ g i ∧ g i ≤ m) : 0 ≤ sumI n g ∧ sumI n g ≤ n * m := by
  induction n with
  | zero => exact ⟨Int.le_refl 0, by show (0 : Int) ≤ ((0 : Nat) : Int) * m; omega⟩
  | succ n ih =>
    have h1 := ih fun i hi => h i (by omega)
    have h2 := h n (by omega)
    rw [sumI_succ]
    have e : ((n + 1 : Nat) : Int) * m = n * m + m := by rw [Int.natCast_add, Int.add_mul]; omega
    omega
/-- a square table of numbers, its rows at ps -/
structure Tab (H : Hp) (t : Addr) (ps : List Addr) (n : Nat) (f : Nat → Nat → Int) : Prop where
  lst : H t = some (.lst (ps.map V.ref))
  len : ps.length = n
  row : ∀ i p, ps[i]? = some p → H p = some (.lst ((rowI n (f i)).map V.int))
  nod : ps.Nodup
  out : t ∉ ps
theorem Tab.same {H H' : Hp} {t : Addr} {ps : List Addr} {n : Nat} {f : Nat → Nat → Int} (h : Tab H t ps n f) (e : Same H H') : Tab H' t ps n f :=
  ⟨e _ _ h.lst, h.len, fun i p hp => e _ _ (h.row i p hp), h.nod, h.out⟩
def tabL (n : Nat) (f : Nat → Nat → Int) : List (List Int) := (List.range n).map fun i => rowI n (f i)
theorem tabL_at {n : Nat} {f : Nat → Nat → Int} {i : Nat} (h : i < n) : (tabL n f)[i]? = some (rowI n (f i)) := by
  unfold tabL
  rw [List.getElem?_map, List.getElem?_range h]
  rfl
theorem tabL_eq {n : Nat} {f g : Nat → Nat → Int} : tabL n f = tabL n g ↔ ∀ i, i < n → ∀ j, j < n → f i j = g i j := by
  unfold tabL
  rw [List.map_inj_left]
  exact ⟨fun h i hi => rowI_eq.mp (h i (List.mem_range.mpr hi)), fun h i hi => rowI_eq.mpr (h i (List.mem_range.mp hi))⟩
theorem layD_tab : LayD (fun xs : List (List Int) => PyData.list (xs.map fun ys => PyData.list (ys.map PyData.int))) 2 (fun xs => ∀ x, x ∈ xs → ∀ y, y ∈ x → True) := layD_int.list.list
theorem Tab.dp {K : PySem.W.Frag} {H : Hp} {t : Addr} {ps : List Addr} {n : Nat} {f : Nat → Nat → Int} (h : Tab H t ps n f) : Dp K H (.ref t) (PyData.list ((tabL n f).map fun ys => PyData.list (ys.map PyData.int))) := by
  refine .lst (SqL.of h.lst) (dpAll_refs ?_ fun i p x h1 h2 => ?_)
  · rw [h.len]
    unfold tabL
    rw [List.length_map, List.length_range]
  · have hi := (List.getElem?_eq_some_iff.mp h1).1
    rw [h.len] at hi
    rw [tabL_at hi] at h2
    cases h2
    exact .lst (SqL.of (h.row i p h1)) (dpAll_ints _)
theorem refs_at {ps : List Addr} {i : Nat} {x : V} (h : (ps.map V.ref)[i]? = some x) : ∃ p, ps[i]? = some p ∧ x = V.ref p := by
  rw [List.getElem?_map] at h
  cases e : ps[i]? with
  | none => rw [e] at h; cases h
  | some z => rw [e] at h; exact ⟨z, rfl, (Option.some.inj h).symm⟩
theorem Tab.at {H : Hp} {t : Addr} {ps : List Addr} {n : Nat} {f : Nat → Nat → Int} (h : Tab H t ps n f) {i : Nat} (hi : i < n) : ∃ p, ps[i]? = some p ∧ atI (ps.map V.ref) (i : Int) = some (.ref p) ∧ H p = some (.lst ((rowI n (f i)).map V.int)) := by
  have hl : i < ps.length := by rw [h.len]; exact hi
  refine ⟨ps[i], List.getElem?_eq_getElem hl, at_of (j := i) rfl ?_, h.row i _ (List.getElem?_eq_getElem hl)⟩
  rw [List.getElem?_map, List.getElem?_eq_getElem hl]
  rfl

/-- a table that grows: m rows of n numbers -/
structure TabR (H : Hp) (t : Addr) (ps : List Addr) (m n : Nat) (f : Nat → Nat → Int) : Prop where
  lst : H t = some (.lst (ps.map V.ref))
  len : ps.length = m
  row : ∀ i p, ps[i]? = some p → H p = some (.lst ((rowI n (f i)).map V.int))
  nod : ps.Nodup
  out : t ∉ ps
theorem TabR.nil {H : Hp} {t : Addr} (n : Nat) (f : Nat → Nat → Int) (h : H t = some (.lst [])) : TabR H t [] 0 n f :=
  ⟨h, rfl, fun _ _ e => (by rw [List.getElem?_nil] at e; cases e), List.nodup_nil, fun h => (by cases h)⟩
theorem TabR.congr {H : Hp} {t : Addr} {ps : List Addr} {m n : Nat} {f g : Nat → Nat → Int} (h : TabR H t ps m n f) (e : ∀ i, i < m → ∀ j, j < n → f i j = g i j) : TabR H t ps m n g :=
  ⟨h.lst, h.len, fun i p hp => by
    have hi := (List.getElem?_eq_some_iff.mp hp).1
    rw [h.row i p hp, rowI_eq.mpr (e i (by rw [← h.len]; exact hi))], h.nod, h.out⟩
theorem TabR.push {H H' : Hp} {t p : Addr} {ps : List Addr} {m n : Nat} {f : Nat → Nat → Int} (h : TabR H t ps m n f) (e : Same H H') (np : H p = none) (hp : H' p = some (.lst ((rowI n (f m)).map V.int))) : TabR (upd H' t (.lst (ps.map V.ref ++ [V.ref p]))) t (ps ++ [p]) (m + 1) n f := by
  have hmem : ∀ q, q ∈ ps → ∃ o, H q = some o := fun q hq => by
    obtain ⟨i, hi⟩ := List.mem_iff_getElem?.mp hq
    exact ⟨_, h.row i q hi⟩
  have hpt : p ≠ t := fun z => by rw [z, h.lst] at np; cases np
  have hnp : p ∉ ps := fun z => by
    obtain ⟨o, ho⟩ := hmem p z
    rw [np] at ho
    cases ho
  refine ⟨?_, ?_, fun i q hq => ?_, ?_, ?_⟩
  · rw [upd_same, List.map_append]
    rfl
  · rw [List.length_append, h.len]
    rfl
  · by_cases hi : i < ps.length
    · rw [List.getElem?_append_left hi] at hq
      have hm := List.mem_of_getElem? hq
      rw [upd_ne (fun z => h.out (by rw [← z]; exact hm))]
      exact e _ _ (h.row i q hq)
    · rw [List.getElem?_append_right (by omega)] at hq
      have hi2 := (List.getElem?_eq_some_iff.mp hq).1
      have : i - ps.length = 0 := by
        rw [List.length_cons, List.length_nil] at hi2
        omega
      rw [this] at hq
      have hqp : p = q := Option.some.inj hq
      subst hqp
      rw [upd_ne hpt, hp]
      have : i = m := by have := h.len; omega
      rw [this]
  · rw [List.nodup_append]
    refine ⟨h.nod, List.nodup_cons.mpr ⟨fun z => (by cases z), List.nodup_nil⟩, fun a ha b hb z => ?_⟩
    rw [List.mem_singleton] at hb
    rw [hb] at z
    rw [z] at ha
    exact hnp ha
  · intro z
    rcases List.mem_append.mp z with z | z
    · exact h.out z
    · rw [List.mem_singleton] at z
      exact hpt z.symm
theorem TabR.tab {H : Hp} {t : Addr} {ps : List Addr} {n : Nat} {f : Nat → Nat → Int} (h : TabR H t ps n n f) : Tab H t ps n f := ⟨h.lst, h.len, h.row, h.nod, h.out⟩
theorem TabR.keep {H H0 : Hp} {t : Addr} {xs : List V} (s : Same H0 H) (nt : H0 t = none) : Same H0 (upd H t (.lst xs)) := fun b o e => by
  rw [upd_ne (ne_of_none e nt)]
  exact s b o e
/-- debts: one to thirteen houses, nobody owes itself -/
structure Debts (n : Nat) (f : Nat → Nat → Int) (m : Int) : Prop where
  n0 : 1 ≤ n
  n1 : n ≤ 13
  b : ∀ i, i < n → ∀ j, j < n → 0 ≤ f i j ∧ f i j ≤ m
  d : ∀ i, i < n → f i i = 0
theorem Debts.mono {n : Nat} {f : Nat → Nat → Int} {m k : Int} (h : Debts n f m) (e : m ≤ k) : Debts n f k := ⟨h.n0, h.n1, fun i hi j hj => ⟨(h.b i hi j hj).1, Int.le_trans (h.b i hi j hj).2 e⟩, h.d⟩

/-- [row[h] for row in t]: a column of a table -/
theorem lc_col {K : PySem.W.Frag} {t : Addr} {ps : List Addr} {n : Nat} {f : Nat → Nat → Int} {σ : L2.St} {H1 : Hp} {D : Addr} {j l h : Nat} {Qd : Hp → Prop} (ht : Tab H1 t ps n f) (hn : n ≤ 1000) (hh : h < n) (nD : H1 D = none) (hj : Nat.ble (j + 1) σ.length = true) (hlj : l ≠ j) (hl : σ[l]? = some (some (.int (h : Int))))
    (q : Qd (upd H1 D (.lst ((rowI n fun a => f a h).map V.int)))) :
    ∃ W : Nat → Nat → Hp → Prop, (∃ m, W 0 m (upd H1 D (.lst []))) ∧ ∀ i m H, W i m H →
      ((Itl K t).stop i H ∧ Qd H) ∨ ((Itl K t).go i H ∧ ∃ Nx : Hp → Prop, (∀ H', Nx H' → ∃ m', m' < m ∧ W (i + 1) m' H') ∧ ∀ x H', (Itl K t).yld i H x H' → gName j x (wipe σ [j]) H' fun σ2 H2 => wipe σ2 [j] = wipe σ [j] ∧ tYes σ2 H2 fun b H3 =>
        if b = true then tOp (rIxL K) (tVar j) (tVar l) σ2 H3 fun y H4 => ∃ acc, H4 D = some (.lst acc) ∧ acc.length < sizeLine ∧ Nx (upd H4 D (.lst (acc ++ [y]))) else Nx H3) := by
  have hs : SqL K H1 t (ps.map V.ref) := SqL.of ht.lst
  have hj' : j < (wipe σ [j]).length := by rw [wipe_length]; exact Nat.le_of_ble_eq_true hj
  refine lc_list (K := K) (a := t) (xs := ps.map V.ref) (fun i H' => H' = upd H1 D (.lst ((rowI i fun a => f a h).map V.int))) rfl (fun i H' _ e => by rw [e]; exact (same_upd nD).seq hs) ?_ ?_
  · rintro i x H' hx rfl
    obtain ⟨p, hp, rfl⟩ := refs_at hx
    have hi := (List.getElem?_eq_some_iff.mp hp).1
    rw [ht.len] at hi
    refine ⟨?_, ?_⟩
    · show ((wipe σ [j]).set j (some (V.ref p))).set j none = σ.set j none
      show ((σ.set j none).set j (some (V.ref p))).set j none = σ.set j none
      rw [List.set_set, List.set_set]
    · refine ⟨_, List.getElem?_set_self hj', _, ?_, p, (rowI n (f i)).map V.int, (h : Int), _, rfl, rfl, (same_upd nD).seq (SqL.of (ht.row i p hp)), atI_row hh, ?_⟩
      · show ((wipe σ [j]).set j (some (V.ref p)))[l]? = some (some (V.int (h : Int)))
        rw [List.getElem?_set_ne (fun e => hlj e.symm)]
        show (σ.set j none)[l]? = _
        rw [List.getElem?_set_ne (fun e => hlj e.symm)]
        exact hl
      · refine ⟨_, upd_same, ?_, ?_⟩
        · refine small1000 ?_
          rw [List.length_map, rowI_len]
          omega
        · rw [upd_upd, rowI_succ, List.map_append]
          rfl
  · rintro H' rfl
    rw [List.length_map, ht.len]
    exact q
/-- [t[b][h] for b in range(n)]: the same column -/
theorem lc_colR {K : PySem.W.Frag} {t : Addr} {ps : List Addr} {n : Nat} {f : Nat → Nat → Int} {σ : L2.St} {H1 : Hp} {D : Addr} {j l u h m : Nat} {Qd : Hp → Prop} (ht : Tab H1 t ps n f) (hn : n ≤ 1000) (hh : h < n) (nD : H1 D = none) (hm : m = n) (hj : Nat.ble (j + 1) σ.length = true) (hlj : l ≠ j) (huj : u ≠ j) (hl : σ[l]? = some (some (.int (h : Int)))) (hu : σ[u]? = some (some (.ref t)))
    (q : Qd (upd H1 D (.lst ((rowI n fun a => f a h).map V.int)))) :
    ∃ W : Nat → Nat → Hp → Prop, (∃ m, W 0 m (upd H1 D (.lst []))) ∧ ∀ i k H, W i k H →
      ((Itr 0 m).stop i H ∧ Qd H) ∨ ((Itr 0 m).go i H ∧ ∃ Nx : Hp → Prop, (∀ H', Nx H' → ∃ m', m' < k ∧ W (i + 1) m' H') ∧ ∀ x H', (Itr 0 m).yld i H x H' → gName j x (wipe σ [j]) H' fun σ2 H2 => wipe σ2 [j] = wipe σ [j] ∧ tYes σ2 H2 fun b H3 =>
        if b = true then tOp (rIxL K) (tOp (rIxL K) (tVar u) (tVar j)) (tVar l) σ2 H3 fun y H4 => ∃ acc, H4 D = some (.lst acc) ∧ acc.length < sizeLine ∧ Nx (upd H4 D (.lst (acc ++ [y]))) else Nx H3) := by
  subst hm
  have hj' : j < (wipe σ [j]).length := by rw [wipe_length]; exact Nat.le_of_ble_eq_true hj
  have keep : ∀ (y : V) (i : Nat) (x : Option V), i ≠ j → σ[i]? = some x → ((wipe σ [j]).set j (some y))[i]? = some x := fun y i x e z => by
    rw [List.getElem?_set_ne fun w => e w.symm]
    show (σ.set j none)[i]? = _
    rw [List.getElem?_set_ne fun w => e w.symm]
    exact z
  refine lc_range (lo := 0) (n := m) (fun i H' => H' = upd H1 D (.lst ((rowI i fun a => f a h).map V.int))) rfl ?_ ?_
  · rintro i H' hi rfl
    rw [show (0 : Int) + i = ((i : Nat) : Int) by omega]
    have s1 : Same H1 (upd H1 D (.lst ((rowI i fun a => f a h).map V.int))) := same_upd nD
    obtain ⟨p, hp, ha, hr⟩ := (ht.same s1).at hi
    refine ⟨?_, ?_⟩
    · show ((wipe σ [j]).set j (some (V.int (i : Int)))).set j none = σ.set j none
      show ((σ.set j none).set j (some (V.int (i : Int)))).set j none = σ.set j none
      rw [List.set_set, List.set_set]
    · refine ⟨_, keep _ _ _ huj hu, _, List.getElem?_set_self hj', t, ps.map V.ref, (i : Int), _, rfl, rfl, SqL.of (ht.same s1).lst, ha, _, keep _ _ _ hlj hl, p, (rowI m (f i)).map V.int, (h : Int), _, rfl, rfl, SqL.of hr, atI_row hh, ?_⟩
      refine ⟨_, upd_same, ?_, ?_⟩
      · refine small1000 ?_
        rw [List.length_map, rowI_len]
        omega
      · rw [upd_upd, rowI_succ, List.map_append]
        rfl
  · rintro H' rfl
    exact q
/-- [list(row) for row in t]: a table copied -/
theorem lc_copy {K : PySem.W.Frag} {t : Addr} {ps : List Addr} {n : Nat} {f : Nat → Nat → Int} {σ : L2.St} {H1 : Hp} {D : Addr} {j : Nat} {Qd : Hp → Prop} (ht : Tab H1 t ps n f) (hn : n ≤ 1000) (nD : H1 D = none) (hj : Nat.ble (j + 1) σ.length = true)
    (q : ∀ H' qs, Same H1 H' → Tab H' D qs n f → (∀ q, q ∈ qs → H1 q = none) → Qd H') :
    ∃ W : Nat → Nat → Hp → Prop, (∃ m, W 0 m (upd H1 D (.lst []))) ∧ ∀ i m H, W i m H →
      ((Itl K t).stop i H ∧ Qd H) ∨ ((Itl K t).go i H ∧ ∃ Nx : Hp → Prop, (∀ H', Nx H' → ∃ m', m' < m ∧ W (i + 1) m' H') ∧ ∀ x H', (Itl K t).yld i H x H' → gName j x (wipe σ [j]) H' fun σ2 H2 => wipe σ2 [j] = wipe σ [j] ∧ tYes σ2 H2 fun b H3 =>
        if b = true then tCB (rListOf K) (tCons (tVar j) tNil) σ2 H3 fun y H4 => ∃ acc, H4 D = some (.lst acc) ∧ acc.length < sizeLine ∧ Nx (upd H4 D (.lst (acc ++ [y]))) else Nx H3) := by
  have hs : SqL K H1 t (ps.map V.ref) := SqL.of ht.lst
  have hj' : j < (wipe σ [j]).length := by rw [wipe_length]; exact Nat.le_of_ble_eq_true hj
  refine lc_list (K := K) (a := t) (xs := ps.map V.ref) (fun i H' => ∃ qs, TabR H' D qs i n f ∧ Same H1 H' ∧ ∀ q, q ∈ qs → H1 q = none) ⟨[], .nil n f upd_same, same_upd nD, fun _ h => by cases h⟩ (fun i H' _ ⟨_, _, e, _⟩ => e.seq hs) ?_ ?_
  · rintro i x H' hx ⟨qs, hT, e, hfree⟩
    obtain ⟨p, hp, rfl⟩ := refs_at hx
    have hi := (List.getElem?_eq_some_iff.mp hp).1
    rw [ht.len] at hi
    refine ⟨?_, ?_⟩
    · show ((wipe σ [j]).set j (some (V.ref p))).set j none = σ.set j none
      show ((σ.set j none).set j (some (V.ref p))).set j none = σ.set j none
      rw [List.set_set, List.set_set]
    · refine ⟨_, List.getElem?_set_self hj', p, (rowI n (f i)).map V.int, rfl, .inl (e.seq (SqL.of (ht.row i p hp))), fun l nl => ?_⟩
      have sl := same_upd (o := .lst ((rowI n (f i)).map V.int)) nl
      refine ⟨_, sl _ _ hT.lst, ?_, qs ++ [l], hT.push sl nl upd_same, TabR.keep (e.trans sl) nD, fun q hq => ?_⟩
      · refine small1000 ?_
        rw [List.length_map, hT.len]
        omega
      · rcases List.mem_append.mp hq with hq | hq
        · exact hfree q hq
        · rw [List.mem_singleton.mp hq]
          exact e.free nl
  · rintro H' ⟨qs, hT, e, hfree⟩
    rw [List.length_map, ht.len] at hT
    exact q H' qs e hT.tab hfree
/-- [sum(row) for row in t] -/
theorem lc_sums {K : PySem.W.Frag} {t : Addr} {ps : List Addr} {n : Nat} {f : Nat → Nat → Int} {σ : L2.St} {H1 : Hp} {D : Addr} {j : Nat} {Qd : Hp → Prop} (ht : Tab H1 t ps n f) (hn : n ≤ 1000) (nD : H1 D = none) (hj : Nat.ble (j + 1) σ.length = true)
    (q : Qd (upd H1 D (.lst ((rowI n fun a => sumI n (f a)).map V.int)))) :
    ∃ W : Nat → Nat → Hp → Prop, (∃ m, W 0 m (upd H1 D (.lst []))) ∧ ∀ i m H, W i m H →
      ((Itl K t).stop i H ∧ Qd H) ∨ ((Itl K t).go i H ∧ ∃ Nx : Hp → Prop, (∀ H', Nx H' → ∃ m', m' < m ∧ W (i + 1) m' H') ∧ ∀ x H', (Itl K t).yld i H x H' → gName j x (wipe σ [j]) H' fun σ2 H2 => wipe σ2 [j] = wipe σ [j] ∧ tYes σ2 H2 fun b H3 =>
        if b = true then tCB (rSum K) (tCons (tVar j) tNil) σ2 H3 fun y H4 => ∃ acc, H4 D = some (.lst acc) ∧ acc.length < sizeLine ∧ Nx (upd H4 D (.lst (acc ++ [y]))) else Nx H3) := by
  have hs : SqL K H1 t (ps.map V.ref) := SqL.of ht.lst
  have hj' : j < (wipe σ [j]).length := by rw [wipe_length]; exact Nat.le_of_ble_eq_true hj
  refine lc_list (K := K) (a := t) (xs := ps.map V.ref) (fun i H' => H' = upd H1 D (.lst ((rowI i fun a => sumI n (f a)).map V.int))) rfl (fun i H' _ e => by rw [e]; exact (same_upd nD).seq hs) ?_ ?_
  · rintro i x H' hx rfl
    obtain ⟨p, hp, rfl⟩ := refs_at hx
    have hi := (List.getElem?_eq_some_iff.mp hp).1
    rw [ht.len] at hi
    refine ⟨?_, ?_⟩
    · show ((wipe σ [j]).set j (some (V.ref p))).set j none = σ.set j none
      show ((σ.set j none).set j (some (V.ref p))).set j none = σ.set j none
      rw [List.set_set, List.set_set]
    · refine ⟨_, List.getElem?_set_self hj', p, rowI n (f i), rfl, (same_upd nD).seq (SqL.of (ht.row i p hp)), ?_⟩
      refine ⟨_, upd_same, ?_, ?_⟩
      · refine small1000 ?_
        rw [List.length_map, rowI_len]
        omega
      · rw [upd_upd, rowI_succ, List.map_append]
        rfl
  · rintro H' rfl
    rw [List.length_map, ht.len]
    exact q

/-- a table of rows of any lengths: m rows -/
structure JagR (H : Hp) (t : Addr) (ps : List Addr) (m : Nat) (f : Nat → List Int) : Prop where
  lst : H t = some (.lst (ps.map V.ref))
  len : ps.length = m
  row : ∀ i p, ps[i]? = some p → H p = some (.lst ((f i).map V.int))
  nod : ps.Nodup
  out : t ∉ ps
theorem JagR.nil {H : Hp} {t : Addr} (f : Nat → List Int) (h : H t = some (.lst [])) : JagR H t [] 0 f :=
  ⟨h, rfl, fun _ _ e => (by rw [List.getElem?_nil] at e; cases e), List.nodup_nil, fun h => (by cases h)⟩
theorem JagR.congr {H : Hp} {t : Addr} {ps : List Addr} {m : Nat} {f g : Nat → List Int} (h : JagR H t ps m f) (e : ∀ i, i < m → f i = g i) : JagR H t ps m g :=
  ⟨h.lst, h.len, fun i p hp => by
    have hi := (List.getElem?_eq_some_iff.mp hp).1
    rw [h.row i p hp, e i (by rw [← h.len]; exact hi)], h.nod, h.out⟩
theorem JagR.push {H H' : Hp} {t p : Addr} {ps : List Addr} {m : Nat} {f : Nat → List Int} (h : JagR H t ps m f) (e : Same H H') (np : H p = none) (hp : H' p = some (.lst ((f m).map V.int))) : JagR (upd H' t (.lst (ps.map V.ref ++ [V.ref p]))) t (ps ++ [p]) (m + 1) f := by
  have hmem : ∀ q, q ∈ ps → ∃ o, H q = some o := fun q hq => by
    obtain ⟨i, hi⟩ := List.mem_iff_getElem?.mp hq
    exact ⟨_, h.row i q hi⟩
  have hpt : p ≠ t := fun z => by rw [z, h.lst] at np; cases np
  have hnp : p ∉ ps := fun z => by
    obtain ⟨o, ho⟩ := hmem p z
    rw [np] at ho
    cases ho
  refine ⟨?_, ?_, fun i q hq => ?_, ?_, ?_⟩
  · rw [upd_same, List.map_append]
    rfl
  · rw [List.length_append, h.len]
    rfl
  · by_cases hi : i < ps.length
    · rw [List.getElem?_append_left hi] at hq
      have hm := List.mem_of_getElem? hq
      rw [upd_ne (fun z => h.out (by rw [← z]; exact hm))]
      exact e _ _ (h.row i q hq)
    · rw [List.getElem?_append_right (by omega)] at hq
      have hi2 := (List.getElem?_eq_some_iff.mp hq).1
      have : i - ps.length = 0 := by
        rw [List.length_cons, List.length_nil] at hi2
        omega
      rw [this] at hq
      have hqp : p = q := Option.some.inj hq
      subst hqp
      rw [upd_ne hpt, hp]
      have : i = m := by have := h.len; omega
      rw [this]
  · rw [List.nodup_append]
    refine ⟨h.nod, List.nodup_cons.mpr ⟨fun z => (by cases z), List.nodup_nil⟩, fun a ha b hb z => ?_⟩
    rw [List.mem_singleton] at hb
    rw [hb] at z
    rw [z] at ha
    exact hnp ha
  · intro z
    rcases List.mem_append.mp z with z | z
    · exact h.out z
    · rw [List.mem_singleton] at z
      exact hpt z.symm
theorem JagR.same {H H' : Hp} {t : Addr} {ps : List Addr} {m : Nat} {f : Nat → List Int} (h : JagR H t ps m f) (e : Same H H') : JagR H' t ps m f :=
  ⟨e _ _ h.lst, h.len, fun i p hp => e _ _ (h.row i p hp), h.nod, h.out⟩
theorem JagR.at {H : Hp} {t : Addr} {ps : List Addr} {m : Nat} {f : Nat → List Int} (h : JagR H t ps m f) {i : Nat} (hi : i < m) : ∃ p, ps[i]? = some p ∧ atI (ps.map V.ref) (i : Int) = some (.ref p) ∧ H p = some (.lst ((f i).map V.int)) := by
  have hl : i < ps.length := by rw [h.len]; exact hi
  refine ⟨ps[i], List.getElem?_eq_getElem hl, at_of (j := i) rfl ?_, h.row i _ (List.getElem?_eq_getElem hl)⟩
  rw [List.getElem?_map, List.getElem?_eq_getElem hl]
  rfl
def jagL (m : Nat) (f : Nat → List Int) : List (List Int) := (List.range m).map f
theorem jagL_at {m : Nat} {f : Nat → List Int} {i : Nat} (h : i < m) : (jagL m f)[i]? = some (f i) := by
  unfold jagL
  rw [List.getElem?_map, List.getElem?_range h]
  rfl
theorem jagL_eq {m : Nat} {f g : Nat → List Int} (h : ∀ i, i < m → f i = g i) : jagL m f = jagL m g := by
  unfold jagL
  rw [List.map_inj_left]
  exact fun i hi => h i (List.mem_range.mp hi)
theorem JagR.dp {K : PySem.W.Frag} {H : Hp} {t : Addr} {ps : List Addr} {m : Nat} {f : Nat → List Int} (h : JagR H t ps m f) : Dp K H (.ref t) (PyData.list ((jagL m f).map fun ys => PyData.list (ys.map PyData.int))) := by
  refine .lst (SqL.of h.lst) (dpAll_refs ?_ fun i p x h1 h2 => ?_)
  · rw [h.len]
    unfold jagL
    rw [List.length_map, List.length_range]
  · have hi := (List.getElem?_eq_some_iff.mp h1).1
    rw [h.len] at hi
    rw [jagL_at hi] at h2
    cases h2
    exact .lst (SqL.of (h.row i p h1)) (dpAll_ints _)
/-- [list(row) for row in t]: copied -/
theorem lc_copyJ {K : PySem.W.Frag} {t : Addr} {ps : List Addr} {m : Nat} {f : Nat → List Int} {σ : L2.St} {H1 : Hp} {D : Addr} {j : Nat} {Qd : Hp → Prop} (ht : JagR H1 t ps m f) (hm : m ≤ 900) (nD : H1 D = none) (hj : Nat.ble (j + 1) σ.length = true)
    (q : ∀ H' qs, Same H1 H' → JagR H' D qs m f → (∀ q, q ∈ qs → H1 q = none) → Qd H') :
    ∃ W : Nat → Nat → Hp → Prop, (∃ m, W 0 m (upd H1 D (.lst []))) ∧ ∀ i m H, W i m H →
      ((Itl K t).stop i H ∧ Qd H) ∨ ((Itl K t).go i H ∧ ∃ Nx : Hp → Prop, (∀ H', Nx H' → ∃ m', m' < m ∧ W (i + 1) m' H') ∧ ∀ x H', (Itl K t).yld i H x H' → gName j x (wipe σ [j]) H' fun σ2 H2 => wipe σ2 [j] = wipe σ [j] ∧ tYes σ2 H2 fun b H3 =>
        if b = true then tCB (rListOf K) (tCons (tVar j) tNil) σ2 H3 fun y H4 => ∃ acc, H4 D = some (.lst acc) ∧ acc.length < sizeLine ∧ Nx (upd H4 D (.lst (acc ++ [y]))) else Nx H3) := by
  have hs : SqL K H1 t (ps.map V.ref) := SqL.of ht.lst
  have hj' : j < (wipe σ [j]).length := by rw [wipe_length]; exact Nat.le_of_ble_eq_true hj
  refine lc_list (K := K) (a := t) (xs := ps.map V.ref) (fun i H' => ∃ qs, JagR H' D qs i f ∧ Same H1 H' ∧ ∀ q, q ∈ qs → H1 q = none) ⟨[], .nil f upd_same, same_upd nD, fun _ h => by cases h⟩ (fun i H' _ ⟨_, _, e, _⟩ => e.seq hs) ?_ ?_
  · rintro i x H' hx ⟨qs, hT, e, hfree⟩
    obtain ⟨p, hp, rfl⟩ := refs_at hx
    have hi := (List.getElem?_eq_some_iff.mp hp).1
    rw [ht.len] at hi
    refine ⟨?_, ?_⟩
    · show ((wipe σ [j]).set j (some (V.ref p))).set j none = σ.set j none
      show ((σ.set j none).set j (some (V.ref p))).set j none = σ.set j none
      rw [List.set_set, List.set_set]
    · refine ⟨_, List.getElem?_set_self hj', p, (f i).map V.int, rfl, .inl (e.seq (SqL.of (ht.row i p hp))), fun l nl => ?_⟩
      have sl := same_upd (o := .lst ((f i).map V.int)) nl
      refine ⟨_, sl _ _ hT.lst, ?_, qs ++ [l], hT.push sl nl upd_same, TabR.keep (e.trans sl) nD, fun q hq => ?_⟩
      · refine small1000 ?_
        rw [List.length_map, hT.len]
        omega
      · rcases List.mem_append.mp hq with hq | hq
        · exact hfree q hq
        · rw [List.mem_singleton.mp hq]
          exact e.free nl
  · rintro H' ⟨qs, hT, e, hfree⟩
    rw [List.length_map, ht.len] at hT
    exact q H' qs e hT hfree
/-- [sum(row) for row in t] -/
theorem lc_sumJ {K : PySem.W.Frag} {t : Addr} {ps : List Addr} {m : Nat} {f : Nat → List Int} {σ : L2.St} {H1 : Hp} {D : Addr} {j : Nat} {Qd : Hp → Prop} (ht : JagR H1 t ps m f) (hm : m ≤ 900) (nD : H1 D = none) (hj : Nat.ble (j + 1) σ.length = true)
    (q : Qd (upd H1 D (.lst ((rowI m fun a => (f a).sum).map V.int)))) :
    ∃ W : Nat → Nat → Hp → Prop, (∃ m, W 0 m (upd H1 D (.lst []))) ∧ ∀ i m H, W i m H →
      ((Itl K t).stop i H ∧ Qd H) ∨ ((Itl K t).go i H ∧ ∃ Nx : Hp → Prop, (∀ H', Nx H' → ∃ m', m' < m ∧ W (i + 1) m' H') ∧ ∀ x H', (Itl K t).yld i H x H' → gName j x (wipe σ [j]) H' fun σ2 H2 => wipe σ2 [j] = wipe σ [j] ∧ tYes σ2 H2 fun b H3 =>
        if b = true then tCB (rSum K) (tCons (tVar j) tNil) σ2 H3 fun y H4 => ∃ acc, H4 D = some (.lst acc) ∧ acc.length < sizeLine ∧ Nx (upd H4 D (.lst (acc ++ [y]))) else Nx H3) := by
  have hs : SqL K H1 t (ps.map V.ref) := SqL.of ht.lst
  have hj' : j < (wipe σ [j]).length := by rw [wipe_length]; exact Nat.le_of_ble_eq_true hj
  refine lc_list (K := K) (a := t) (xs := ps.map V.ref) (fun i H' => H' = upd H1 D (.lst ((rowI i fun a => (f a).sum).map V.int))) rfl (fun i H' _ e => by rw [e]; exact (same_upd nD).seq hs) ?_ ?_
  · rintro i x H' hx rfl
    obtain ⟨p, hp, rfl⟩ := refs_at hx
    have hi := (List.getElem?_eq_some_iff.mp hp).1
    rw [ht.len] at hi
    refine ⟨?_, ?_⟩
    · show ((wipe σ [j]).set j (some (V.ref p))).set j none = σ.set j none
      show ((σ.set j none).set j (some (V.ref p))).set j none = σ.set j none
      rw [List.set_set, List.set_set]
    · refine ⟨_, List.getElem?_set_self hj', p, f i, rfl, (same_upd nD).seq (SqL.of (ht.row i p hp)), ?_⟩
      refine ⟨_, upd_same, ?_, ?_⟩
      · refine small1000 ?_
        rw [List.length_map, rowI_len]
        omega
      · rw [upd_upd, rowI_succ, List.map_append]
        rfl
  · rintro H' rfl
    rw [List.length_map, ht.len]
    exact q

/-- a list of tuples: the tuple of each item -/
structure Tups {α : Type} (enc : α → List V) (H : Hp) (l : Addr) (ps : List Addr) (xs : List α) : Prop where
  lst : H l = some (.lst (ps.map V.ref))
  len : ps.length = xs.length
  row : ∀ (i : Nat) (p : Addr) (x : α), ps[i]? = some p → xs[i]? = some x → H p = some (.tup (enc x))
theorem Tups.nil {α : Type} {enc : α → List V} {H : Hp} {l : Addr} (h : H l = some (.lst [])) : Tups enc H l [] ([] : List α) :=
  ⟨h, rfl, fun _ _ _ e => (by rw [List.getElem?_nil] at e; cases e)⟩
theorem Tups.same {α : Type} {enc : α → List V} {H H' : Hp} {l : Addr} {ps : List Addr} {xs : List α} (h : Tups enc H l ps xs) (e : Same H H') : Tups enc H' l ps xs :=
  ⟨e _ _ h.lst, h.len, fun i p x a b => e _ _ (h.row i p x a b)⟩
theorem Tups.at {α : Type} {enc : α → List V} {H : Hp} {l : Addr} {ps : List Addr} {xs : List α} (h : Tups enc H l ps xs) {i : Nat} {x : α} (e : xs[i]? = some x) : ∃ p, ps[i]? = some p ∧ atI (ps.map V.ref) (i : Int) = some (.ref p) ∧ H p = some (.tup (enc x)) := by
  have hi := (List.getElem?_eq_some_iff.mp e).1
  have hl : i < ps.length := by rw [h.len]; exact hi
  refine ⟨ps[i], List.getElem?_eq_getElem hl, at_of (j := i) rfl ?_, h.row i _ x (List.getElem?_eq_getElem hl) e⟩
  rw [List.getElem?_map, List.getElem?_eq_getElem hl]
  rfl
theorem Tups.item {α : Type} {enc : α → List V} {H : Hp} {l : Addr} {ps : List Addr} {xs : List α} (h : Tups enc H l ps xs) {i : Nat} {v : V} (e : (ps.map V.ref)[i]? = some v) : ∃ p x, ps[i]? = some p ∧ xs[i]? = some x ∧ v = .ref p ∧ H p = some (.tup (enc x)) := by
  obtain ⟨p, hp, rfl⟩ := refs_at e
  have hi := (List.getElem?_eq_some_iff.mp hp).1
  rw [h.len] at hi
  exact ⟨p, xs[i], hp, List.getElem?_eq_getElem hi, rfl, h.row i p _ hp (List.getElem?_eq_getElem hi)⟩
theorem Tups.push {α : Type} {enc : α → List V} {H H' : Hp} {l p : Addr} {ps : List Addr} {xs : List α} {x : α} (h : Tups enc H l ps xs) (e : Same H H') (np : H p = none) (hp : H' p = some (.tup (enc x))) : Tups enc (upd H' l (.lst (ps.map V.ref ++ [V.ref p]))) l (ps ++ [p]) (xs ++ [x]) := by
  have hpl : p ≠ l := fun z => by rw [z, h.lst] at np; cases np
  refine ⟨?_, ?_, fun i q y hq hy => ?_⟩
  · rw [upd_same, List.map_append]
    rfl
  · rw [List.length_append, List.length_append, h.len]
    rfl
  · by_cases hi : i < ps.length
    · rw [List.getElem?_append_left hi] at hq
      rw [List.getElem?_append_left (by rw [← h.len]; exact hi)] at hy
      have hq2 := h.row i q y hq hy
      rw [upd_ne (fun z => by rw [z, h.lst] at hq2; cases hq2)]
      exact e _ _ hq2
    · rw [List.getElem?_append_right (by omega)] at hq
      rw [List.getElem?_append_right (by have := h.len; omega)] at hy
      have h1 := (List.getElem?_eq_some_iff.mp hq).1
      rw [List.length_cons, List.length_nil] at h1
      have e0 : i - ps.length = 0 := by omega
      have e1 : i - xs.length = 0 := by have := h.len; omega
      rw [e0] at hq
      rw [e1] at hy
      have z1 : p = q := Option.some.inj hq
      have z2 : x = y := Option.some.inj hy
      rw [← z1, ← z2, upd_ne hpl]
      exact hp
theorem Tups.dp {α : Type} {enc : α → List V} {L : α → PyData} {K : PySem.W.Frag} {H : Hp} {l : Addr} {ps : List Addr} {xs : List α} (h : Tups enc H l ps xs) (he : ∀ x (p : Addr), H p = some (.tup (enc x)) → Dp K H (.ref p) (L x)) : Dp K H (.ref l) (PyData.list (xs.map L)) :=
  .lst (SqL.of h.lst) (dpAll_refs h.len fun i p x h1 h2 => he x p (h.row i p x h1 h2))
def enc2 (x : Int × Int) : List V := [.int x.1, .int x.2]
def enc3 (x : Int × Int × Int) : List V := [.int x.1, .int x.2.1, .int x.2.2]
def lay3 (x : Int × Int × Int) : PyData := .tuple [.int x.1, .int x.2.1, .int x.2.2]
theorem layD_3 : LayD lay3 1 (fun x => True ∧ True ∧ True) := layD_int.tup3 layD_int layD_int
theorem dp3 {K : PySem.W.Frag} {H : Hp} (x : Int × Int × Int) (p : Addr) (h : H p = some (.tup (enc3 x))) : Dp K H (.ref p) (lay3 x) :=
  .tup (SqT.of h) (.cons (.int _) (.cons (.int _) (.cons (.int _) .nil)))
theorem Tups.push2 {α : Type} {enc : α → List V} {H : Hp} {l p : Addr} {ps : List Addr} {xs : List α} {x : α} (h : Tups enc H l ps xs) (hp : H p = some (.tup (enc x))) : Tups enc (upd H l (.lst (ps.map V.ref ++ [V.ref p]))) l (ps ++ [p]) (xs ++ [x]) := by
  have hpl : p ≠ l := fun z => by rw [z, h.lst] at hp; cases hp
  refine ⟨?_, ?_, fun i q y hq hy => ?_⟩
  · rw [upd_same, List.map_append]
    rfl
  · rw [List.length_append, List.length_append, h.len]
    rfl
  · by_cases hi : i < ps.length
    · rw [List.getElem?_append_left hi] at hq
      rw [List.getElem?_append_left (by rw [← h.len]; exact hi)] at hy
      have hq2 := h.row i q y hq hy
      rw [upd_ne (fun z => by rw [z, h.lst] at hq2; cases hq2)]
      exact hq2
    · rw [List.getElem?_append_right (by omega)] at hq
      rw [List.getElem?_append_right (by have := h.len; omega)] at hy
      have h1 := (List.getElem?_eq_some_iff.mp hq).1
      rw [List.length_cons, List.length_nil] at h1
      have e0 : i - ps.length = 0 := by omega
      have e1 : i - xs.length = 0 := by have := h.len; omega
      rw [e0] at hq
      rw [e1] at hy
      have z1 : p = q := Option.some.inj hq
      have z2 : x = y := Option.some.inj hy
      rw [← z1, ← z2, upd_ne hpl]
      exact hp
theorem Tups.copy {α : Type} {enc : α → List V} {H H' : Hp} {l l2 : Addr} {ps : List Addr} {xs : List α} (h : Tups enc H l ps xs) (e : Same H H') (h2 : H' l2 = some (.lst (ps.map V.ref))) : Tups enc H' l2 ps xs :=
  ⟨h2, h.len, fun i p x a b => e _ _ (h.row i p x a b)⟩
theorem Tups.other {α : Type} {enc : α → List V} {H : Hp} {l A : Addr} {ps : List Addr} {xs : List α} {ys zs : List V} (h : Tups enc H l ps xs) (hA : H A = some (.lst ys)) (ne : l ≠ A) : Tups enc (upd H A (.lst zs)) l ps xs :=
  ⟨by rw [upd_ne ne]; exact h.lst, h.len, fun i p x a b => by
    have hp := h.row i p x a b
    rw [upd_ne (fun z => by rw [z, hA] at hp; cases hp)]
    exact hp⟩

theorem in1_lt {k : Nat} {A : Around} (hr : Room k A) : A.in1.units < cLine := by
  have := hr.un
  simp only [Around.in1_units]
  omega
/-- a comprehension over enumerate(xs) -/
theorem lc_enum {K : PySem.W.Frag} {a : Addr} {xs : List V} {g : TG} {tt : TT} {te : TE} {vs : List Nat} {σ : L2.St} {H1 : Hp} {D : Addr} {Qd : Hp → Prop} (Pv : Nat → Hp → Prop) (h0 : Pv 0 (upd H1 D (.lst []))) (hl : ∀ i H, i ≤ xs.length → Pv i H → SqL K H a xs)
    (hs : ∀ (i : Nat) (x : V) (H : Hp) (T : Addr), xs[i]? = some x → Pv i H → H T = none → g (.ref T) (wipe σ vs) (upd H T (.tup [.int (i : Int), x])) fun σ2 H2 => wipe σ2 vs = wipe σ vs ∧ tt σ2 H2 fun b H3 =>
      if b = true then te σ2 H3 fun y H4 => ∃ acc, H4 D = some (.lst acc) ∧ acc.length < sizeLine ∧ Pv (i + 1) (upd H4 D (.lst (acc ++ [y]))) else Pv (i + 1) H3) (hd : ∀ H, Pv xs.length H → Qd H) :
    ∃ W : Nat → Nat → Hp → Prop, (∃ m, W 0 m (upd H1 D (.lst []))) ∧ ∀ i m H, W i m H →
      ((Ite K a).stop i H ∧ Qd H) ∨ ((Ite K a).go i H ∧ ∃ Nx : Hp → Prop, (∀ H', Nx H' → ∃ m', m' < m ∧ W (i + 1) m' H') ∧ ∀ x H', (Ite K a).yld i H x H' → g x (wipe σ vs) H' fun σ2 H2 => wipe σ2 vs = wipe σ vs ∧ tt σ2 H2 fun b H3 =>
        if b = true then te σ2 H3 fun y H4 => ∃ acc, H4 D = some (.lst acc) ∧ acc.length < sizeLine ∧ Nx (upd H4 D (.lst (acc ++ [y]))) else Nx H3) := by
  refine ⟨fun i m H => m + i = xs.length ∧ Pv i H, ⟨xs.length, rfl, h0⟩, ?_⟩
  rintro i m H ⟨em, p⟩
  have q := hl i H (by omega) p
  by_cases hlt : i < xs.length
  · refine .inr ⟨⟨xs, xs[i], q, List.getElem?_eq_getElem hlt⟩, Pv (i + 1), fun H' p' => ⟨m - 1, by omega, by omega, p'⟩, fun x H' y => ?_⟩
    obtain ⟨T, z, rfl, nT, rfl, hz⟩ := y
    exact hs i z H T (hz xs q) p nT
  · have e : i = xs.length := by omega
    subst e
    exact .inl ⟨⟨xs, q, Nat.le_refl _⟩, hd H p⟩

theorem pget_list {X : Cx} : PGet X (fun x y H Q => ∃ (p : Addr) (xs : List V) (j : Nat) (z : V), x = .ref p ∧ y = .int (j : Int) ∧ SqL X.K H p xs ∧ xs[j]? = some z ∧ Q z H) := by
  intro pins s σ H x y v u Q I rx ry h
  obtain ⟨p, xs, j, z, rfl, rfl, hq, he, q⟩ := h
  cases rx
  obtain ⟨t, rfl⟩ := ry
  obtain ⟨its, r, pl, hz⟩ := I.list hq
  obtain ⟨w, ew, rw'⟩ := r.get he
  have hl := r.length
  have hn := line63
  have hj := (List.getElem?_eq_some_iff.mp he).1
  exact wpAny_getItem_list pl.isList (by omega) (by omega) (by simpa using ew) ⟨z, H, I, rw', q⟩

/-! a range that is kept under a name -/
theorem mk_rng {X : Cx} : CallR X (.type "range") (fun xs H Q => ∃ top, xs = [V.int top] ∧ ∀ a, H a = none → Q (.ref a) (upd H a (.rng 0 top))) := by
  intro pn sh st Hh xs us Q inv rel hyp
  obtain ⟨top, rfl, go⟩ := hyp
  obtain ⟨w1, rfl, tk1, rfl⟩ := vals1 rel
  refine call_range_1 ⟨.ref sh.heap.objs.size, upd Hh sh.heap.objs.size (.rng 0 top), ?_, rfl, go _ (inv.hok.fresh (Nat.le_refl _))⟩
  refine inv.laid (t' := sh.toks + 2) (fun b o e => Heap.get?_push_of_some _ e) (Nat.le_refl _) ?_
  exact ⟨sh.toks, tk1, sh.toks + 1, Heap.get?_push_size _ rfl⟩
/-- walking it: lo, the bounds, the turns -/
def iRngV (tv : TE) : TI := fun σ H R => tv σ H fun x H1 => ∃ (a : Addr) (n : Nat), x = .ref a ∧ H1 a = some (.rng 0 (n : Int)) ∧ (n : Int) < 2 ^ 62 ∧ R (Itr 0 n) H1
theorem pi_rng {X : Cx} {tg l : Expr} {tv : TE} (hl : PE X l tv) : PI X tg l (iRngV tv) := by
  refine ⟨fun pn sh st Hh R inv hyp => ?_⟩
  refine thn (hl.run pn sh st Hh _ inv hyp) fun vv s2 ⟨y, H2, inv2, rel2, more⟩ => ?_
  obtain ⟨a, n, ea, ha, hb, go⟩ := more
  subst ea
  cases rel2
  obtain ⟨k1, k2, k3, hobj⟩ := inv2.hok a _ ha
  have small : Builtin.Range.small 0 (n : Int) 1 = true := small_one (by omega) (by omega) (by omega) (by omega)
  refine wpAny_pyIter_range (a := 0) (b := (n : Int)) (c := 1) hobj small ?_
  have inv3 : Inv X pn st H2 { s2 with heap := s2.heap.push { cls := Value.type "range_iterator", data := Data.fields #[rawInt 0, rawInt (Builtin.Range.rangeSize 0 (n : Int) 1), rawInt 1] } } := inv2.kept (t' := s2.toks) fun _ _ was => Heap.get?_push_of_some _ was
  have size : (n : Int) - ((0 : Nat) : Int) = Builtin.Range.rangeSize 0 (n : Int) 1 := by
    rw [rangeSize_one]
    split <;> omega
  refine ⟨s2.heap.objs.size, [s2.heap.objs.size], _, _, H2, rfl, inv3, turn_range _ 0 n, ?_, fun c hc => ?_, go⟩
  · rw [show IsRangeIter _ _ _ _ _ = _ from rfl, size]
    exact (Heap.get?_push_size _ rfl)
  · obtain rfl : c = s2.heap.objs.size := List.mem_singleton.mp hc
    exact inv2.fpOk (Nat.le_refl _) (inv2.hok.fresh (Nat.le_refl _))

/-! a dict from texts to whole numbers -/
def encD (d : List (Str × Int)) : List (Key × V) := d.map fun x => (Sum.inr x.1, V.int x.2)
def getS (d : List (Str × Int)) (s : Str) : Option Int := (d.find? fun x => decide (x.1 = s)).map (·.2)
def keysS (d : List (Str × Int)) : List Str := d.map (·.1)
def putS (d : List (Str × Int)) (s : Str) (v : Int) : List (Str × Int) := if s ∈ keysS d then d.map (fun x => if x.1 = s then (x.1, v) else x) else d ++ [(s, v)]
def gD (d : List (Str × Int)) (s : Str) : Int := (getS d s).getD 0
theorem inr_eq {a b : Str} : ((Sum.inr a : Key) = Sum.inr b) ↔ a = b := ⟨fun h => Sum.inr.inj h, fun h => by rw [h]⟩
theorem valV_enc (s : Str) : ∀ d : List (Str × Int), valV (encD d) (Sum.inr s) = (getS d s).map V.int
  | [] => rfl
  | x :: d => by
    unfold encD getS
    rw [List.map_cons, List.find?_cons]
    by_cases h : x.1 = s
    · rw [valV_pos (by rw [h]), decide_eq_true h]; rfl
    · rw [valV_neg (fun z => h (Sum.inr.inj z)), decide_eq_false h]
      exact valV_enc s d
theorem any_enc (s : Str) : ∀ d : List (Str × Int), ((encD d).any fun kv => decide (kv.1 = Sum.inr s)) = decide (s ∈ keysS d)
  | [] => rfl
  | x :: d => by
    have ih := any_enc s d
    unfold encD at ih ⊢
    rw [List.map_cons, List.any_cons, ih]
    unfold keysS
    rw [List.map_cons]
    by_cases h : x.1 = s
    · have hm : s ∈ x.1 :: List.map (fun x => x.1) d := by rw [← h]; exact List.mem_cons_self
      rw [decide_eq_true (show ((Sum.inr x.1 : Key) = Sum.inr s) by rw [h]), decide_eq_true hm]; rfl
    · rw [decide_eq_false (fun z => h (Sum.inr.inj z)), Bool.false_or]
      exact decide_eq_decide.mpr ⟨fun z => List.mem_cons_of_mem _ z, fun z => (List.mem_cons.mp z).resolve_left fun e => h e.symm⟩
theorem putK_enc (d : List (Str × Int)) (s : Str) (v : Int) : putK (encD d) (Sum.inr s) (V.int v) = encD (putS d s v) := by
  unfold putK putS
  rw [any_enc]
  by_cases h : s ∈ keysS d
  · rw [if_pos (decide_eq_true h), if_pos h]
    unfold encD
    rw [List.map_map, List.map_map]
    refine List.map_congr_left fun x _ => ?_
    show (if (Sum.inr x.1 : Key) = Sum.inr s then ((Sum.inr x.1 : Key), V.int v) else (Sum.inr x.1, V.int x.2)) = _
    by_cases z : x.1 = s
    · rw [if_pos (by rw [z])]
      show _ = ((Sum.inr (if x.1 = s then (x.1, v) else x).1 : Key), V.int (if x.1 = s then (x.1, v) else x).2)
      rw [if_pos z]
    · rw [if_neg (fun e => z (Sum.inr.inj e))]
      show _ = ((Sum.inr (if x.1 = s then (x.1, v) else x).1 : Key), V.int (if x.1 = s then (x.1, v) else x).2)
      rw [if_neg z]
  · rw [if_neg (by rw [decide_eq_false h]; exact Bool.false_ne_true), if_neg h]
    unfold encD
    rw [List.map_append]
    rfl
def addK (ks : List Str) (s : Str) : List Str := if s ∈ ks then ks else ks ++ [s]
theorem keys_put (d : List (Str × Int)) (s : Str) (v : Int) : keysS (putS d s v) = addK (keysS d) s := by
  unfold putS addK
  by_cases h : s ∈ keysS d
  · rw [if_pos h, if_pos h]
    unfold keysS
    rw [List.map_map]
    refine List.map_congr_left fun x _ => ?_
    show (if x.1 = s then (x.1, v) else x).1 = x.1
    split <;> rfl
  · rw [if_neg h, if_neg h]
    unfold keysS
    rw [List.map_append]
    rfl
theorem get_mem (s : Str) : ∀ d : List (Str × Int), (getS d s).isSome = decide (s ∈ keysS d)
  | [] => rfl
  | x :: d => by
    have ih := get_mem s d
    unfold getS keysS at ih ⊢
    rw [List.find?_cons, List.map_cons]
    by_cases h : x.1 = s
    · rw [decide_eq_true h, decide_eq_true (by rw [h]; exact List.mem_cons_self)]; rfl
    · rw [decide_eq_false h]
      refine ih.trans (decide_eq_decide.mpr ⟨fun z => List.mem_cons_of_mem _ z, fun z => (List.mem_cons.mp z).resolve_left fun e => h e.symm⟩)
theorem get_some {d : List (Str × Int)} {s : Str} (h : s ∈ keysS d) : getS d s = some (gD d s) := by
  have e := get_mem s d
  rw [decide_eq_true h] at e
  unfold gD
  cases w : getS d s with
  | none => rw [w] at e; cases e
  | some x => rfl
theorem get_map (s t : Str) (v : Int) : ∀ d : List (Str × Int), getS (d.map fun x => if x.1 = s then (x.1, v) else x) t = (getS d t).map fun w => if t = s then v else w
  | [] => rfl
  | x :: d => by
    have ih := get_map s t v d
    unfold getS at ih ⊢
    rw [List.map_cons, List.find?_cons, List.find?_cons]
    have e1 : (if x.1 = s then (x.1, v) else x).1 = x.1 := by split <;> rfl
    rw [e1]
    by_cases h : x.1 = t
    · rw [decide_eq_true h]
      show some (if x.1 = s then (x.1, v) else x).2 = some (if t = s then v else x.2)
      by_cases z : x.1 = s
      · rw [if_pos z, if_pos (h.symm.trans z)]
      · rw [if_neg z, if_neg fun e => z (h.trans e)]
    · rw [decide_eq_false h]
      exact ih
theorem gD_put (d : List (Str × Int)) (s t : Str) (v : Int) : gD (putS d s v) t = if t = s then v else gD d t := by
  unfold gD putS
  by_cases h : s ∈ keysS d
  · rw [if_pos h, get_map]
    by_cases z : t = s
    · have := get_some h
      rw [z, this, if_pos rfl]
      show (if s = s then v else gD d s) = v
      rw [if_pos rfl]
    · rw [if_neg z]
      cases getS d t with
      | none => rfl
      | some w => show (if t = s then v else w) = w; rw [if_neg z]
  · rw [if_neg h]
    unfold getS
    rw [List.find?_append]
    by_cases z : t = s
    · have e := get_mem s d
      rw [decide_eq_false h] at e
      unfold getS at e
      rw [z, if_pos rfl]
      cases w : d.find? fun x => decide (x.1 = s) with
      | none => rw [Option.none_or, List.find?_cons, decide_eq_true rfl]; rfl
      | some x => rw [w] at e; cases e
    · rw [if_neg z]
      have : List.find? (fun x : Str × Int => decide (x.1 = t)) [(s, v)] = none := by
        rw [List.find?_cons, decide_eq_false fun e : s = t => z e.symm]
        rfl
      rw [this, Option.or_none]
theorem dget_go {H : Hp} {a : Addr} {s : Str} {d : List (Str × Int)} {R : Option V → Prop} (h : H a = some (.dK (encD d))) (q : R ((getS d s).map V.int)) : ∃ o, DGet H a (.str s) o ∧ R o := by
  refine ⟨_, ?_, q⟩
  have := DGet.k (k := Sum.inr s) h
  rw [valV_enc] at this
  exact this
theorem dget_at {H : Hp} {a : Addr} {s : Str} {d : List (Str × Int)} (h : H a = some (.dK (encD d))) (k : s ∈ keysS d) : DGet H a (.str s) (some (.int (gD d s))) := by
  have := DGet.k (k := Sum.inr s) h
  rw [valV_enc, get_some k] at this
  exact this
theorem dput_go {H : Hp} {a : Addr} {s : Str} {v : Int} {d : List (Str × Int)} {R : Hp → Prop} (h : H a = some (.dK (encD d))) (hl : d.length ≤ 1000) (q : R (upd H a (.dK (encD (putS d s v))))) : ∃ H', V.ref a = V.ref a ∧ DPut H a (.str s) (.int v) H' ∧ R H' := by
  refine ⟨_, rfl, ?_, q⟩
  rw [← putK_enc]
  refine DPut.k (k := Sum.inr s) h ?_
  unfold encD
  rw [List.length_map]
  exact small1000 (by omega)
theorem getD_int (d : List (Str × Int)) (s : Str) : ((getS d s).map V.int).getD (.int 0) = .int (gD d s) := by
  unfold gD
  cases getS d s <;> rfl
theorem isD_enc {H : Hp} {a : Addr} {d : List (Str × Int)} (h : H a = some (.dK (encD d))) : IsD H a := .inl ⟨_, .inl h⟩
theorem addK_mem {ks : List Str} {s t : Str} : t ∈ addK ks s ↔ t ∈ ks ∨ t = s := by
  unfold addK
  split
  · exact ⟨.inl, fun h => h.elim id fun e => by rw [e]; assumption⟩
  · rw [List.mem_append, List.mem_singleton]
theorem addK_nodup {ks : List Str} {s : Str} (h : ks.Nodup) : (addK ks s).Nodup := by
  unfold addK
  split
  · exact h
  · rename_i n
    rw [List.nodup_append]
    exact ⟨h, List.nodup_cons.mpr ⟨fun z => (by cases z), List.nodup_nil⟩, fun a ha b hb e => n (by rw [List.mem_singleton] at hb; rw [← hb, ← e]; exact ha)⟩
theorem addK_len (ks : List Str) (s : Str) : (addK ks s).length ≤ ks.length + 1 := by
  unfold addK
  split
  · omega
  · rw [List.length_append]; exact Nat.le_refl _
/-- two ascending lists with the same texts, none twice, are equal -/
theorem rising_le : ∀ {xs : List Str} {p : Str}, risingS p xs = true → (p :: xs).Pairwise fun a b => a.cps.toList ≤ b.cps.toList
  | [], p, _ => List.pairwise_singleton _ _
  | x :: xs, p, h => by
    have h' : (!ltCps x.cps.toList p.cps.toList && risingS x xs) = true := h
    rw [Bool.and_eq_true] at h'
    have h1 : p.cps.toList ≤ x.cps.toList := by
      have := h'.1
      rw [ltCps_eq] at this
      exact ndec_t this
    have ih := rising_le h'.2
    refine List.pairwise_cons.mpr ⟨fun y hy => ?_, ih⟩
    rcases List.mem_cons.mp hy with e | e
    · rw [e]; exact h1
    · exact List.le_trans h1 ((List.pairwise_cons.mp ih).1 y e)
theorem sorted_le {xs : List Str} (h : sortedS xs = true) : xs.Pairwise fun a b => a.cps.toList ≤ b.cps.toList := by
  cases xs with
  | nil => exact .nil
  | cons x xs => exact rising_le h
theorem sorted_same : ∀ {xs ys : List Str}, xs.Pairwise (fun a b => a.cps.toList ≤ b.cps.toList) → ys.Pairwise (fun a b => a.cps.toList ≤ b.cps.toList) → xs.Nodup → ys.Nodup → (∀ s, s ∈ xs ↔ s ∈ ys) → xs = ys
  | [], [], _, _, _, _, _ => rfl
  | [], y :: ys, _, _, _, _, h => absurd ((h y).mpr List.mem_cons_self) (fun z => by cases z)
  | x :: xs, [], _, _, _, _, h => absurd ((h x).mp List.mem_cons_self) (fun z => by cases z)
  | x :: xs, y :: ys, h1, h2, n1, n2, h => by
    have a := List.pairwise_cons.mp h1
    have b := List.pairwise_cons.mp h2
    have c := List.nodup_cons.mp n1
    have d := List.nodup_cons.mp n2
    have e : x = y := by
      rcases List.mem_cons.mp ((h x).mp List.mem_cons_self) with e | e
      · exact e
      · rcases List.mem_cons.mp ((h y).mpr List.mem_cons_self) with f | f
        · exact f.symm
        · have z := List.le_antisymm (a.1 y f) (b.1 x e)
          cases x
          cases y
          exact congrArg _ (Array.toList_inj.mp z)
    subst e
    rw [sorted_same a.2 b.2 c.2 d.2 fun s => ?_]
    constructor
    · intro hs
      rcases List.mem_cons.mp ((h s).mp (List.mem_cons_of_mem _ hs)) with e | e
      · rw [e] at hs; exact absurd hs c.1
      · exact e
    · intro hs
      rcases List.mem_cons.mp ((h s).mpr (List.mem_cons_of_mem _ hs)) with e | e
      · rw [e] at hs; exact absurd hs d.1
      · exact e
theorem keys_enc (d : List (Str × Int)) : (encD d).map (·.1) = (keysS d).map Sum.inr := by
  unfold encD keysS
  rw [List.map_map, List.map_map]
  rfl

section
variable {X : Cx}
/-- isinstance(e, C), e the error that the suite holds, of the class D -/
def rIsE' (K : PySem.W.Frag) (D a : Addr) (cls : Value) (d : Option Addr) : List V → Hp → VK → Prop := fun xs H Q => cls = .ref D ∧ d = none ∧ rIsE K D a xs H Q
theorem call_isE' {a D : Addr} {cls : Value} {d : Option Addr} {oe : Obj} {pn : List (Addr × Obj)} (C : ExcC X.K D) (hz : Zc cls d oe) (hf : ∃ vs, oe.data = .fields vs) : CallR (X.suite a ((a, oe) :: pn)) (.builtin "isinstance") (rIsE' X.K D a cls d) := by
  intro pins s σ H xs us Q I r h
  obtain ⟨rfl, rfl, h⟩ := h
  exact call_isE C hz hf pins s σ H xs us Q I r h
end

/-! ### t[n].replace(a, b), written texts, t a tuple -/
def tRpI (K : PySem.W.Frag) (to : TE) (n : Int) (a b : Str) : TE := fun σ H Q => to σ H fun x H1 => rIxT K x (.int n) H1 fun v H2 => ∃ z : Str, v = .str z ∧ z.length + (z.length + 1) * b.length ≤ 16777216 ∧ Q (.str (Txt.replace z a b)) H2
theorem pe_rpI {X : Cx} {o : Expr} {to : TE} {n : Int} {a b : Str} {jn j k : Nat} {cn c0 c1 sp apos pos : Pos} (ho : PE X o to) (hab : (a == b) = false := by decide)
    (hix : PlainIx (.Constant (.int n) jn cn) := by intro _ _; with_unfolding_all rfl)
    (hst : starEach [.Constant (.str a) j c0, .Constant (.str b) k c1] X.env = [(false, eval (.Constant (.str a) j c0) X.env), (false, eval (.Constant (.str b) k c1) X.env)] := by rfl)
    (hbase : attributeBase (.Subscript o (.Constant (.int n) jn cn) sp) "replace" X.env (eval (.Subscript o (.Constant (.int n) jn cn) sp) X.env) = eval (.Subscript o (.Constant (.int n) jn cn) sp) X.env := by rfl)
    (hline : (apos.endLine == pos.line) = true := by rfl) :
    PE X (.Call (.Attribute (.Subscript o (.Constant (.int n) jn cn) sp) "replace" apos) [.Constant (.str a) j c0, .Constant (.str b) k c1] [] pos) (tRpI X.K to n a b) := by
  refine ⟨fun pins s σ H Q I h => ?_⟩
  refine PySem.Call_method2 hbase hst hline ?_
  refine Subscript_ (thn (ho.run pins s σ H _ I h) fun v s1 hv => ?_)
  obtain ⟨x, H1, I1, rx, q⟩ := hv
  refine wpAny_Constant_int ?_
  refine wpAny_mono (PySem.wpAny_toks (ix_tup o (.Constant (.int n) jn cn) pins { s1 with toks := s1.toks + 1 } σ H1 x (.int n) v (.int n s1.toks) _ (I1.tok _) rx ⟨_, rfl⟩ q (hix _ _))) (fun u s2 hu => ?_) fun _ _ z => z.2
  obtain ⟨hk, y, H2, I2, ry, z, rfl, hb, q2⟩ := hu
  obtain ⟨tz, rfl⟩ := ry
  have hk2 : s1.toks + 1 ≤ s2.toks := hk
  refine ⟨"str", _, PySem.F.plainAttrs_str, PySem.F.slot_str_replace, PySem.F.type_str_replace, typeIs_str _ _ _, (fun _ e => nomatch e), Calls.callWith_builtin rfl (Calls.evalArgs_plain (Calls.spliced_cons ?_))⟩
  refine Calls.Constant_str (Calls.spliced_cons (Calls.Constant_str (Calls.spliced_nil ?_)))
  exact PySem.SC.replace (by show s2.toks ≠ 0; omega) (by show s2.toks + 1 ≠ 0; omega) (by show s2.toks ≠ s2.toks + 1; omega) hab hb fun t2 k2 => ⟨.str _, H2, I2.tok k2, ⟨t2, rfl⟩, q2⟩

section
variable {P : Program} {w : World} {K : PySem.W.Frag} {mg : Str → Option Value} {base : Heap}
def sp_law_cell (K : PySem.W.Frag) : Sp := fun vs H Q _ => ∃ (a : Addr) (ns : List Int) (j : Nat), vs = [.ref a, .int j] ∧ SqL K H a (ns.map V.int) ∧ Q (.int (cellOf ns j)) H
set_option maxHeartbeats 0 in
theorem ok_law_cell (T : Txt K mg) : FnOk P w K mg base CX0 1 T.f_law_cell T.d_law_cell ["script", "k"] (sp_law_cell K) := by
  refine T.F_law_cell.ok sc_law_cell (fun vs H Q E h => ?_) (fun cdv A outer s H vs Q E hr h => ?_)
  · obtain ⟨a, ns, j, rfl, _⟩ := h
    rfl
  · obtain ⟨a, ns, j, rfl, hs, q⟩ := h
    refine ⟨_, (pss_cons (ps_if (pt_cmpR op_lt (pv 1) (pe_callB call_len_seq (by rfl) T.z_len PySem.boot_len (pa_cons (pv 0) pa_nil)) (nomark _))
      (pss_one (ps_ret (pe_ix ix_list (pv 0) (pv 1) (fun _ _ => rfl))))
      pss_nil)
    (pss_one (ps_ret pe_int))), ?_⟩
    walk_at "st"
    refine iteD (fun h => ?_) (fun h => ?_)
    · have hj : j < ns.length := by rw [List.length_map] at h; omega
      walk_at "st"
      exact ⟨atI_ints hj, q⟩
    · have hj : ¬ j < ns.length := by rw [List.length_map] at h; omega
      rw [cellOf_out hj] at q
      exact q

/-- what the draws are: only their number and their bounds matter -/
def sp_law_draws (K : PySem.W.Frag) : Sp := fun vs H Q _ => ∃ (cell : Int) (n : Nat) (size : Int), vs = [.int cell, .int (n : Int), .int size] ∧ n ≤ 1000 ∧ 0 < size ∧ size < 1073741824 ∧
  ∀ p H' (ds : List Int), Same H H' → H p = none → H' p = some (.lst (ds.map V.int)) → ds.length = n → (∀ d, d ∈ ds → 0 ≤ d ∧ d < size) → Q (.ref p) H'
set_option maxHeartbeats 0 in
theorem ok_law_draws (T : Txt K mg) : FnOk P w K mg base CX0 1 T.f_law_draws T.d_law_draws ["cell", "count", "size"] (sp_law_draws K) := by
  refine T.F_law_draws.ok sc_law_draws (fun vs H Q E h => ?_) (fun cdv A outer s H vs Q E hr h => ?_)
  · obtain ⟨cell, n, size, rfl, _⟩ := h
    rfl
  · obtain ⟨cell, n, size, rfl, hn, h0, h1, q⟩ := h
    refine ⟨_, (pss_cons (ps_set (i := 3) sc_law_draws.nd rfl (Or.inl rfl) (pe_lst pa_nil))
    (pss_cons (ps_set (i := 4) sc_law_draws.nd rfl (Or.inl rfl) (pe_callB call_abs (by rfl) T.z_abs (by decide +kernel) (pa_cons (pv 0) pa_nil)))
    (pss_cons (ps_if (pt_cmpR op_ge (pv 4) pe_int (nomark _))
      (pss_cons (ps_for PassesOwn.never rfl (pi_range1 (by rfl) T.z_range (pa_cons (pv 1) pa_nil)) (pg_name (i := 5) sc_law_draws.nd rfl (Or.inl rfl))
        (pss_cons (ps_expr (pe_bm PySem.F.plainAttrs_list PySem.F.slot_list_append PySem.F.type_list_append mt_append (pv 3) (pa_cons (pe_op op_mod (pe_callTy call_int_i (by rfl) T.z_int (by decide +kernel) (pa_cons (pv 4) pa_nil)) (pv 2)) pa_nil)))
        (pss_one (ps_set (i := 4) sc_law_draws.nd rfl (Or.inl rfl) (pe_op op_fdiv (pv 4) (pv 2))))))
      (pss_one (ps_ret (pv 3))))
      pss_nil)
    (pss_cons (ps_for PassesOwn.never rfl (pi_range1 (by rfl) T.z_range (pa_cons (pv 1) pa_nil)) (pg_name (i := 5) sc_law_draws.nd rfl (Or.inl rfl))
      (pss_cons (ps_set (i := 4) sc_law_draws.nd rfl (Or.inl rfl) (pe_op op_mod (pe_callTy call_int_i (by rfl) T.z_int (by decide +kernel) (pa_cons (pe_op op_add (pe_op op_add (pe_op op_mul (pv 4) pe_int) (pe_op op_mul (pv 5) pe_int)) pe_int) pa_nil)) pe_int))
      (pss_one (ps_expr (pe_bm PySem.F.plainAttrs_list PySem.F.slot_list_append PySem.F.type_list_append mt_append (pv 3) (pa_cons (pe_op op_mod (pe_op op_mod (pe_callTy call_int_i (by rfl) T.z_int (by decide +kernel) (pa_cons (pe_op op_add (pe_op op_mul (pv 4) pe_int) (pv 5)) pa_nil)) pe_int) (pv 2)) pa_nil))))))
    (pss_one (ps_ret (pv 3))))))), ?_⟩
    walk_at "st"
    intro D nD
    walk_at "st"
    generalize hrest : (if cell < 0 then -cell else cell) = rest
    have hrest0 : 0 ≤ rest := by rw [← hrest]; split <;> omega
    have eD : (upd H D (.lst [])) D = some (.lst (([] : List Int).map V.int)) := upd_same
    have s1 : Same H (upd H D (.lst [])) := same_upd nD
    generalize upd H D (.lst []) = H1 at eD s1
    refine iteB (fun h => ?_) (fun h => ?_)
    · walk_at "st"
      refine for_range (lo := 0) (n := ((n : Int)).toNat) (fun i σ H' => ∃ (v5 : Option V) (r : Int) (ds : List Int), σ = [some (.int cell), some (.int (n : Int)), some (.int size), some (.ref D), some (.int r), v5] ∧ 0 ≤ r ∧ H' D = some (.lst (ds.map V.int)) ∧ ds.length = i ∧ (∀ d, d ∈ ds → 0 ≤ d ∧ d < size) ∧ Same H H')
        ⟨none, rest, [], rfl, hrest0, eD, rfl, (fun _ hd => by cases hd), s1⟩ ?_ ?_
      · rintro i σ H' hi ⟨v5, r, ds, rfl, hr0, hD, hl, hb, e⟩
        have hlt : (ds.map V.int).length < sizeLine := small1000 (by rw [List.length_map]; omega)
        walk_at "st"
        refine ⟨some (.int (0 + (i : Int))), r / size, ds ++ [r % size], rfl, ?_, ?_, ?_, ?_, fun b o z => ?_⟩
        · exact Int.ediv_nonneg hr0 (by omega)
        · rw [upd_same, List.map_append]
          rfl
        · rw [List.length_append, hl]
          rfl
        · intro d hd
          rcases List.mem_append.mp hd with hd | hd
          · exact hb d hd
          · rw [List.mem_singleton.mp hd]
            exact ⟨Int.emod_nonneg _ (by omega), Int.emod_lt_of_pos _ h0⟩
        · rw [upd_ne (ne_of_none z nD)]
          exact e b o z
      · rintro σ H' ⟨v5, r, ds, rfl, hr0, hD, hl, hb, e⟩
        walk_at "st"
        exact q D H' ds e nD hD (by omega) hb
    · walk_at "st"
      refine for_range (lo := 0) (n := ((n : Int)).toNat) (fun i σ H' => ∃ (v5 : Option V) (r : Int) (ds : List Int), σ = [some (.int cell), some (.int (n : Int)), some (.int size), some (.ref D), some (.int r), v5] ∧ 0 ≤ r ∧ H' D = some (.lst (ds.map V.int)) ∧ ds.length = i ∧ (∀ d, d ∈ ds → 0 ≤ d ∧ d < size) ∧ Same H H')
        ⟨none, rest, [], rfl, hrest0, eD, rfl, (fun _ hd => by cases hd), s1⟩ ?_ ?_
      · rintro i σ H' hi ⟨v5, r, ds, rfl, hr0, hD, hl, hb, e⟩
        have hlt : (ds.map V.int).length < sizeLine := small1000 (by rw [List.length_map]; omega)
        walk_at "st"
        refine ⟨some (.int (0 + (i : Int))), (r * 48271 + (0 + (i : Int)) * 69621 + 11) % 2147483647, ds ++ [((r * 48271 + (0 + (i : Int)) * 69621 + 11) % 2147483647 * 16807 + (0 + (i : Int))) % 2147483629 % size], rfl, ?_, ?_, ?_, ?_, fun b o z => ?_⟩
        · exact Int.emod_nonneg _ (by decide)
        · rw [upd_same, List.map_append]
          rfl
        · rw [List.length_append, hl]
          rfl
        · intro d hd
          rcases List.mem_append.mp hd with hd | hd
          · exact hb d hd
          · rw [List.mem_singleton.mp hd]
            exact ⟨Int.emod_nonneg _ (by omega), Int.emod_lt_of_pos _ h0⟩
        · rw [upd_ne (ne_of_none z nD)]
          exact e b o z
      · rintro σ H' ⟨v5, r, ds, rfl, hr0, hD, hl, hb, e⟩
        walk_at "st"
        exact q D H' ds e nD hD (by omega) hb

def sp_is_integral (K : PySem.W.Frag) : Sp := fun vs H Q _ => ∃ x : Int, vs = [.int x] ∧ Q (.bl true) H
set_option maxHeartbeats 0 in
theorem ok_is_integral (T : Txt K mg) : FnOk P w K mg base CX0 1 T.f_is_integral T.d_is_integral ["value"] (sp_is_integral K) := by
  refine T.F_is_integral.ok sc_is_integral (fun vs H Q E h => ?_) (fun cdv A outer s H vs Q E hr h => ?_)
  · obtain ⟨x, rfl, _⟩ := h
    rfl
  · obtain ⟨x, rfl, q⟩ := h
    refine ⟨_, (pss_one (ps_ret (pe_and (pe_callB call_isi (by rfl) T.z_isinstance (by decide +kernel) (pa_cons (pv 0) (pa_cons (pe_bltn (v := .ty "int") (u := .type "int") (by rfl) T.z_int (by decide +kernel) rfl) pa_nil))) (pe_one (pe_not (pe_callB call_isi (by rfl) T.z_isinstance (by decide +kernel) (pa_cons (pv 0) (pa_cons (pe_bltn (v := .ty "bool") (u := .type "bool") (by rfl) T.z_bool (by decide +kernel) rfl) pa_nil)))))))), ?_⟩
    refine ⟨_, rfl, ?_⟩
    refine ⟨_, _, _, _, true, rfl, .ty _, .base (.int _), kit_ty (by decide +kernel), ?_⟩
    refine ⟨true, rfl, iteT ?_⟩
    refine ⟨_, rfl, ?_⟩
    refine ⟨_, _, _, _, false, rfl, .ty _, .base (.int _), kit_ty (by decide +kernel), ?_⟩
    refine ⟨false, rfl, ?_⟩
    exact q
def sp_is_within (K : PySem.W.Frag) : Sp := fun vs H Q _ => ∃ a b x : Int, vs = [.int a, .int b, .int x] ∧ Q (.bl (decide (a ≤ x ∧ x ≤ b))) H
set_option maxHeartbeats 0 in
theorem ok_is_within (T : Txt K mg) : FnOk P w K mg base CX0 2 T.f_is_within T.d_is_within ["least", "most", "value"] (sp_is_within K) := by
  refine T.F_is_within.ok sc_is_within (fun vs H Q E h => ?_) (fun cdv A outer s H vs Q E hr h => ?_)
  · obtain ⟨a, b, x, rfl, _⟩ := h
    rfl
  · obtain ⟨a, b, x, rfl, q⟩ := h
    have G_is_integral : FnOk P w K mg base CX0 1 T.f_is_integral T.d_is_integral ["value"] (sp_is_integral K) := ok_is_integral T
    refine ⟨_, (pss_one (ps_ret (pe_and (pe_call G_is_integral hr (by rfl) T.m_is_integral T.F_is_integral.kp T.b_is_integral .nil pass0 (pa_cons (pv 2) pa_nil)) (pe_one (pe_chain op_le op_le (pv 0) (pv 2) (pv 1)))))), ?_⟩
    walk_at "st"
    refine iteB (fun h => ?_) (fun h => ?_)
    · walk_at "st"
      rw [show (decide (a ≤ x ∧ x ≤ b)) = decide (x ≤ b) from decide_eq_decide.mpr ⟨fun z => z.2, fun z => ⟨dec_t h, z⟩⟩] at q
      exact q
    · rw [decide_eq_false (fun z => dec_f h z.1)] at q
      exact q
/-- debts in range, told row by row -/
structure DebtsJ (m : Nat) (f : Nat → List Int) : Prop where
  n0 : 1 ≤ m
  n1 : m ≤ 13
  len : ∀ i, i < m → (f i).length = m
  b : ∀ i, i < m → ∀ x, x ∈ f i → 0 ≤ x ∧ x ≤ 1000000000000000
  d : ∀ i, i < m → at0 (f i) i = 0
def cellJ (f : Nat → List Int) (i j : Nat) : Int := at0 (f i) j
theorem JagR.tab {H : Hp} {t : Addr} {ps : List Addr} {m : Nat} {f : Nat → List Int} (h : JagR H t ps m f) (hl : ∀ i, i < m → (f i).length = m) : Tab H t ps m (cellJ f) :=
  ⟨h.lst, h.len, fun i p hp => by
    have hi := (List.getElem?_eq_some_iff.mp hp).1
    rw [h.len] at hi
    rw [h.row i p hp]
    have e : rowI m (cellJ f i) = f i := by
      have := rowI_of (f i)
      rw [hl i hi] at this
      exact this
    rw [e], h.nod, h.out⟩
theorem DebtsJ.debts {m : Nat} {f : Nat → List Int} (h : DebtsJ m f) : Debts m (cellJ f) 1000000000000000 :=
  ⟨h.n0, h.n1, fun i hi j hj => h.b i hi _ (List.mem_of_getElem? (at0_lt (by rw [h.len i hi]; exact hj))), h.d⟩
def inD (w : Int) : Bool := decide (0 ≤ w ∧ w ≤ 1000000000000000)
def sp_check_debts (K : PySem.W.Frag) (C : Addr) : Sp := fun vs H Q E => ∃ (t : Addr) (ps : List Addr) (m : Nat) (f : Nat → List Int), vs = [.ref t] ∧ JagR H t ps m f ∧ m ≤ 900 ∧ (∀ i, i < m → (f i).length ≤ 900) ∧ (DebtsJ m f → ∀ H', Same H H' → Q .non H') ∧ (¬ DebtsJ m f → ∀ H', Same H H' → E (.ref C) none H')
set_option maxHeartbeats 0 in
theorem ok_check_debts (T : Txt K mg) : FnOk P w K mg base (L2.CX P w) 3 T.f_check_debts T.d_check_debts ["owed"] (sp_check_debts K T.c_InvalidTrade) := by
  refine T.F_check_debts.okX sc_check_debts (fun vs H Q E h => ?_) (fun cdv A outer s H vs Q E hr h => ?_)
  · obtain ⟨t, ps, m, f, rfl, _⟩ := h
    rfl
  · obtain ⟨t, ps, m, f, rfl, ht, hm9, hl9, q, qe⟩ := h
    have G_is_within : FnOk P w K mg base CX0 2 T.f_is_within T.d_is_within ["least", "most", "value"] (sp_is_within K) := ok_is_within T
    have hl := ht.len
    have hs : SqL K H t (ps.map V.ref) := SqL.of ht.lst
    refine ⟨_, (pss_cons (ps_if (pt_not (pt_chain op_le op_le pe_int (pe_callB call_len_seq (by rfl) T.z_len PySem.boot_len (pa_cons (pv 0) pa_nil)) (pe_glob (v := .int 13) rfl T.m_MOST_HOUSES ⟨_, rfl⟩)))
      (pss_one (ps_raise rfl (takes_of rfl rfl rfl rfl) (pmk_own PySem.F.excBase_ValueError T.x_InvalidTrade T.m_InvalidTrade T.k_InvalidTrade (raises_own T.b_InvalidTrade T.t_InvalidTrade) (by rfl))))
      pss_nil)
    (pss_one (ps_for (passes_of rfl) rfl (pi_enum (by rfl) T.z_enumerate (pa_cons (pv 0) pa_nil)) (pg_tup rfl (pgs_cons (pg_name (i := 1) sc_check_debts.nd rfl (Or.inl rfl)) (pgs_cons (pg_name (i := 2) sc_check_debts.nd rfl (Or.inl rfl)) pgs_nil)))
      (pss_cons (ps_if (pt_cmpR op_ne (pe_callB call_len_seq (by rfl) T.z_len PySem.boot_len (pa_cons (pv 2) pa_nil)) (pe_callB call_len_seq (by rfl) T.z_len PySem.boot_len (pa_cons (pv 0) pa_nil)) (nomark _))
        (pss_one (ps_raise rfl (takes_of rfl rfl rfl rfl) (pmk_own PySem.F.excBase_ValueError T.x_InvalidTrade T.m_InvalidTrade T.k_InvalidTrade (raises_own T.b_InvalidTrade T.t_InvalidTrade) (by rfl))))
        pss_nil)
      (pss_cons (ps_if (pt_not (pt_val (pe_callB (cr_all rfl) (by rfl) T.z_all (by decide +kernel) (pa_cons (pe_lc (own := [("debt", 3)]) (g := gName 3) (tt := tYes) rfl sc_check_debts.nd (pi_list (pv 2)) (blkOk_by (own := [("debt", 3)]) (N := N_check_debts) (sc := defScope s_check_debts) (by decide +kernel)) (fun _ _ _ _ _ => (pg_name (i := 3) sc_check_debts.nd rfl (Or.inl rfl))) (fun _ _ _ _ _ => pts_nil) (fun _ _ _ _ _ => (pe_call G_is_within hr (by rfl) T.m_is_within T.F_is_within.kp T.b_is_within .nil pass0 (pa_cons pe_int (pa_cons (pe_glob (v := .int 1000000000000000) rfl T.m_MOST_DEBT ⟨_, rfl⟩) (pa_cons (pv 3) pa_nil)))))) pa_nil))))
        (pss_one (ps_raise rfl (takes_of rfl rfl rfl rfl) (pmk_own PySem.F.excBase_ValueError T.x_InvalidTrade T.m_InvalidTrade T.k_InvalidTrade (raises_own T.b_InvalidTrade T.t_InvalidTrade) (by rfl))))
        pss_nil)
      (pss_one (ps_if (pt_cmpR op_ne (pe_ix ix_list (pv 2) (pv 1) (fun _ _ => rfl)) pe_int (nomark _))
        (pss_one (ps_raise rfl (takes_of rfl rfl rfl rfl) (pmk_own PySem.F.excBase_ValueError T.x_InvalidTrade T.m_InvalidTrade T.k_InvalidTrade (raises_own T.b_InvalidTrade T.t_InvalidTrade) (by rfl))))
        pss_nil))))))), ?_⟩
    walk_at "st"
    refine iteB (fun h => ?_) (fun h => ?_)
    · have h1 := dec_t h
      rw [List.length_map, hl] at h1
      walk_at "st"
      refine iteB (fun h => ?_) (fun h => ?_)
      · have h2 := ndec_t h
        rw [List.length_map, hl] at h2
        exact qe (fun z => h2 (by have := z.n1; omega)) H (Same.refl H)
      have h2 := ndec_f h
      rw [List.length_map, hl] at h2
      walk_at "st"
      refine for_enum (K := K) (a := t) (xs := ps.map V.ref) (fun i σ H' => ∃ v1 v2 : Option V, σ = [some (.ref t), v1, v2, none] ∧ Same H H' ∧ ∀ k, k < i → (f k).length = m ∧ (∀ x, x ∈ f k → 0 ≤ x ∧ x ≤ 1000000000000000) ∧ at0 (f k) k = 0) ⟨none, none, rfl, Same.refl H, fun k hk => by omega⟩ (fun i σ H' _ ⟨_, _, _, e, _⟩ => e.seq hs) ?_ ?_
      · rintro i x σ H' T hx ⟨v1, v2, rfl, e, hok⟩ nT
        obtain ⟨p, hp, rfl⟩ := refs_at hx
        have hi := (List.getElem?_eq_some_iff.mp hp).1
        rw [hl] at hi
        have eT := e.trans (same_upd (o := .tup [.int (i : Int), .ref p]) nT)
        have hrow : SqL K (upd H' T (.tup [.int (i : Int), .ref p])) p ((f i).map V.int) := eT.seq (SqL.of (ht.row i p hp))
        have hst := eT.seq hs
        have hT : upd H' T (.tup [.int (i : Int), .ref p]) T = some (.tup [.int (i : Int), .ref p]) := upd_same
        have hT2 : SqT K (upd H' T (.tup [.int (i : Int), .ref p])) T [.int (i : Int), .ref p] := SqT.of hT
        generalize upd H' T (.tup [.int (i : Int), .ref p]) = H2 at *
        walk_at "st"
        refine iteB (fun h => ?_) (fun h => ?_)
        · have h3 := ndec_t h
          rw [List.length_map, List.length_map, hl] at h3
          exact qe (fun z => h3 (congrArg V.int (by rw [z.len i hi]))) H2 eT
        have h3 := V.int.inj (ndec_f h)
        rw [List.length_map, List.length_map, hl] at h3
        have h3 : (f i).length = m := by omega
        walk_at "st"
        intro D nD
        refine lc_list (K := K) (a := p) (xs := (f i).map V.int) (fun j H' => H' = upd H2 D (.lst ((((f i).take j).map inD).map V.bl))) rfl (fun j H' _ e => by rw [e]; exact (same_upd nD).seq hrow) ?_ ?_
        · rintro j x H' hx rfl
          obtain ⟨z, hz', rfl⟩ := ints_at hx
          refine ⟨rfl, ?_⟩
          walk_at "st"
          refine ⟨small1000 ?_, ?_⟩
          · rw [List.length_map, List.length_map, List.length_take]
            omega
          · rw [upd_upd, take_succ hz', List.map_append, List.map_append]
            rfl
        · rintro H' rfl
          rw [show (f i).take ((f i).map V.int).length = f i by rw [List.length_map, List.take_length]]
          have sD := same_upd (o := .lst (((f i).map inD).map V.bl)) nD
          have hs' := sD.seq hrow
          have e3 := eT.trans sD
          have hat : atI ((f i).map V.int) (i : Int) = some (.int (at0 (f i) i)) := atI_n (by omega)
          have hall : ((f i).map inD).all id = true ↔ ∀ w, w ∈ f i → 0 ≤ w ∧ w ≤ 1000000000000000 := by
            rw [List.all_eq_true]
            constructor
            · intro g w hw
              exact of_decide_eq_true (g _ (List.mem_map.mpr ⟨w, hw, rfl⟩))
            · intro g b hb
              obtain ⟨w, hw, e⟩ := List.mem_map.mp hb
              rw [← e]
              exact decide_eq_true (g w hw)
          walk_at "st"
          refine ⟨(f i).map inD, rfl, .inl (.inl upd_same), ?_⟩
          walk_at "st"
          refine iteB (fun g => ?_) (fun g => ?_)
          · refine qe (fun z => ?_) _ e3
            rw [hall.mpr (z.b i hi)] at g
            cases g
          have h4 := hall.mp (by cases e : ((f i).map inD).all id with | true => rfl | false => rw [e] at g; cases g)
          walk_at "st"
          refine iteB (fun g => ?_) (fun g => ?_)
          · exact qe (fun z => ndec_t g (congrArg V.int (z.d i hi))) _ e3
          · have h5 := V.int.inj (ndec_f g)
            refine ⟨_, _, rfl, e3, fun k hk => ?_⟩
            by_cases hki : k = i
            · rw [hki]
              exact ⟨h3, h4, h5⟩
            · exact hok k (by omega)
      · rintro σ H' ⟨v1, v2, rfl, e, hok⟩
        rw [List.length_map, hl] at hok
        exact q ⟨by omega, by omega, fun i hi => (hok i hi).1, fun i hi => (hok i hi).2.1, fun i hi => (hok i hi).2.2⟩ _ e
    · have h1 := dec_f h
      rw [List.length_map, hl] at h1
      walk_at "st"
      exact qe (fun z => h1 (by have := z.n0; omega)) H (Same.refl H)

/-- pairing off two lists of (name, amount), first with first -/
inductive PO : List (Int × Int) → List (Int × Int) → List (Int × Int × Int) → Prop
  | nil : PO [] [] []
  | lt {g a t b : Int} {gs ts : List (Int × Int)} {R : List (Int × Int × Int)} : a < b → PO gs ((t, b - a) :: ts) R → PO ((g, a) :: gs) ((t, b) :: ts) ((g, t, a) :: R)
  | eq {g a t : Int} {gs ts : List (Int × Int)} {R : List (Int × Int × Int)} : PO gs ts R → PO ((g, a) :: gs) ((t, a) :: ts) ((g, t, a) :: R)
  | gt {g a t b : Int} {gs ts : List (Int × Int)} {R : List (Int × Int × Int)} : b < a → PO ((g, a - b) :: gs) ts R → PO ((g, a) :: gs) ((t, b) :: ts) ((g, t, b) :: R)
def amts (xs : List (Int × Int)) : Int := (xs.map (·.2)).sum
theorem amts_cons (x : Int × Int) (xs : List (Int × Int)) : amts (x :: xs) = x.2 + amts xs := by
  unfold amts
  rw [List.map_cons, List.sum_cons]
def Pos2 (xs : List (Int × Int)) : Prop := ∀ x, x ∈ xs → 1 ≤ x.2
theorem Pos2.amts0 : ∀ {xs : List (Int × Int)}, Pos2 xs → 0 ≤ amts xs ∧ (amts xs = 0 → xs = [])
  | [], _ => ⟨Int.le_refl 0, fun _ => rfl⟩
  | x :: xs, h => by
    have h1 := Pos2.amts0 (xs := xs) fun y hy => h y (List.mem_cons_of_mem _ hy)
    have h2 := h x List.mem_cons_self
    rw [amts_cons]
    exact ⟨by omega, fun z => by omega⟩
/-- what the takers still want, from the place at on -/
def wantL (ts : List (Int × Int)) (ws : List Int) (at' : Nat) : List (Int × Int) := ((ts.map (·.1)).zip ws).drop at'
theorem wantL_at {ts : List (Int × Int)} {ws : List Int} {k : Nat} {t : Int × Int} (hl : ws.length = ts.length) (h : ts[k]? = some t) : wantL ts ws k = (t.1, at0 ws k) :: wantL ts ws (k + 1) := by
  have hk := (List.getElem?_eq_some_iff.mp h).1
  unfold wantL
  have hz : k < ((ts.map (·.1)).zip ws).length := by rw [List.length_zip, List.length_map]; omega
  rw [List.drop_eq_getElem_cons hz]
  congr 1
  have e := List.getElem?_eq_getElem hz
  rw [List.getElem?_zip_eq_some (z := (t.1, at0 ws k)).mpr ⟨by rw [List.getElem?_map, h]; rfl, at0_lt (ws := ws) (i := k) (by omega)⟩] at e
  exact (Option.some.inj e).symm
theorem wantL_end {ts : List (Int × Int)} {ws : List Int} {k : Nat} (hl : ws.length = ts.length) (h : ts.length ≤ k) : wantL ts ws k = [] := by
  unfold wantL
  refine List.drop_eq_nil_of_le ?_
  rw [List.length_zip, List.length_map]
  omega
theorem wantL_set {ts : List (Int × Int)} {ws : List Int} {k j : Nat} {x : Int} (h : k < j) : wantL ts (ws.set k x) j = wantL ts ws j := by
  unfold wantL
  show (List.zipWith Prod.mk _ _).drop j = (List.zipWith Prod.mk _ _).drop j
  rw [List.drop_zipWith, List.drop_zipWith, List.drop_set_of_lt h]
theorem wantL_0 (ts : List (Int × Int)) : wantL ts (ts.map (·.2)) 0 = ts := by
  unfold wantL
  rw [List.drop_zero, List.zip_map']
  exact List.map_id' ts
def sp_pair_off (K : PySem.W.Frag) : Sp := fun vs H Q _ => ∃ (l m : Addr) (ps qs : List Addr) (gs ts : List (Int × Int)), vs = [.ref l, .ref m] ∧ Tups enc2 H l ps gs ∧ Tups enc2 H m qs ts ∧ Pos2 gs ∧ Pos2 ts ∧ amts gs = amts ts ∧ gs.length + ts.length ≤ 1000 ∧
  ∀ p H' rs R, Same H H' → H p = none → Tups enc3 H' p rs R → PO gs ts R → Q (.ref p) H'
set_option maxHeartbeats 0 in
theorem ok_pair_off (T : Txt K mg) : FnOk P w K mg base CX0 1 T.f_pair_off T.d_pair_off ["givers", "takers"] (sp_pair_off K) := by
  refine T.F_pair_off.ok sc_pair_off (fun vs H Q E h => ?_) (fun cdv A outer s H vs Q E hr h => ?_)
  · obtain ⟨l, m, ps, qs, gs, ts, rfl, _⟩ := h
    rfl
  · obtain ⟨l, m, ps, qs, gs, ts, rfl, hg, ht, pg, pt, hsum, hlen, q⟩ := h
    refine ⟨_, (pss_cons (ps_set (i := 2) sc_pair_off.nd rfl (Or.inl rfl) (pe_lst pa_nil))
    (pss_cons (ps_setLc (i := 3) (own := [("_", 4), ("amount", 5)]) (tt := tYes) rfl sc_pair_off.nd rfl rfl (sw_true rfl rfl rfl (by decide +kernel)) (pi_list (pv 1)) (blkOk_by (own := [("_", 4), ("amount", 5)]) (N := N_pair_off) (sc := defScope s_pair_off) (by decide +kernel)) (fun _ _ _ _ _ => (show PG _ _ (gTup K 2 (gCons (gName 4) (gCons (gName 5) gNil))) from (pg_tup rfl (pgs_cons (pg_name (i := 4) sc_pair_off.nd rfl (Or.inl rfl)) (pgs_cons (pg_name (i := 5) sc_pair_off.nd rfl (Or.inl rfl)) pgs_nil))))) (fun _ _ _ _ _ => pts_nil) (fun _ _ _ _ _ => (pv 5)))
    (pss_cons (ps_set (i := 6) sc_pair_off.nd rfl (Or.inl rfl) pe_int)
    (pss_cons (ps_for PassesOwn.never rfl (pi_list (pv 0)) (pg_tup rfl (pgs_cons (pg_name (i := 7) sc_pair_off.nd rfl (Or.inl rfl)) (pgs_cons (pg_name (i := 5) sc_pair_off.nd rfl (Or.inl rfl)) pgs_nil)))
      (pss_cons (ps_set (i := 8) sc_pair_off.nd rfl (Or.inl rfl) (pv 5))
      (pss_one (ps_while PassesOwn.never (pt_cmpR op_gt (pv 8) pe_int (nomark _))
        (pss_cons (ps_set (i := 9) sc_pair_off.nd rfl (Or.inl rfl) (pe_callB (call_min2 rfl) (by rfl) T.z_min (by decide +kernel) (pa_cons (pv 8) (pa_cons (pe_ix ix_list (pv 3) (pv 6) (fun _ _ => rfl)) pa_nil))))
        (pss_cons (ps_expr (pe_bm PySem.F.plainAttrs_list PySem.F.slot_list_append PySem.F.type_list_append mt_append (pv 2) (pa_cons (pe_tup (pa_cons (pv 7) (pa_cons (pe_ix ix_tup (pe_ix ix_list (pv 1) (pv 6) (fun _ _ => rfl)) pe_int (fun _ _ => rfl)) (pa_cons (pv 9) pa_nil)))) pa_nil)))
        (pss_cons (ps_aug (i := 8) sc_pair_off.nd rfl (Or.inl rfl) (pv 9) ip_sub)
        (pss_cons (ps_augS (pv 3) (pv 6) pget_list (pv 9) ip_sub set_list)
        (pss_one (ps_if (pt_cmpR op_eq (pe_ix ix_list (pv 3) (pv 6) (fun _ _ => rfl)) pe_int (nomark _))
          (pss_one (ps_aug (i := 6) sc_pair_off.nd rfl (Or.inl rfl) pe_int ip_add))
          pss_nil))))))))))
    (pss_one (ps_ret (pv 2))))))), ?_⟩
    have sg : SqL K H l (ps.map V.ref) := SqL.of hg.lst
    have st : SqL K H m (qs.map V.ref) := SqL.of ht.lst
    walk_at "st"
    intro D nD
    have eD : (upd H D (.lst [])) D = some (.lst []) := upd_same
    have s1 : Same H (upd H D (.lst [])) := same_upd nD
    generalize upd H D (.lst []) = H1 at eD s1
    have hg1 := hg.same s1
    have ht1 := ht.same s1
    have st1 := s1.seq st
    have sg1 := s1.seq sg
    walk_at "st"
    intro W nW
    refine lc_list (K := K) (a := m) (xs := qs.map V.ref) (fun i H' => H' = upd H1 W (.lst (((ts.take i).map (·.2)).map V.int))) rfl (fun i H' _ e => by rw [e]; exact (same_upd nW).seq st1) ?_ ?_
    · rintro i x H' hx rfl
      have hi := (List.getElem?_eq_some_iff.mp hx).1
      obtain ⟨p, y, hp, hy, rfl, hr⟩ := ht1.item hx
      have hr2 : SqT K (upd H1 W (.lst (((ts.take i).map (·.2)).map V.int))) p (enc2 y) := SqT.of ((same_upd nW) _ _ hr)
      unfold enc2 at hr2
      walk_at "st"
      refine ⟨small1000 (by rw [List.length_map, List.length_map, List.length_take]; omega), ?_⟩
      rw [upd_upd, take_succ hy, List.map_append, List.map_append]
      rfl
    · rintro H' rfl
      rw [List.length_map, ht1.len, List.take_length]
      have eW : (upd H1 W (.lst ((ts.map (·.2)).map V.int))) W = some (.lst ((ts.map (·.2)).map V.int)) := upd_same
      have s2 : Same H1 (upd H1 W (.lst ((ts.map (·.2)).map V.int))) := same_upd nW
      have hDW : D ≠ W := fun z => by rw [z, nW] at eD; cases eD
      have eD2 := s2 _ _ eD
      generalize upd H1 W (.lst ((ts.map (·.2)).map V.int)) = H2 at eW s2 eD2
      have s02 := s1.trans s2
      have nW0 : H W = none := s1.free nW
      have sg2 := s02.seq sg
      walk_at "st"
      refine for_list (K := K) (a := l) (xs := ps.map V.ref) (fun i σ H' => ∃ (v5 v7 v8 v9 : Option V) (k : Nat) (ws : List Int) (rs : List Addr) (R : List (Int × Int × Int)), σ = [some (.ref l), some (.ref m), some (.ref D), some (.ref W), none, v5, some (.int (k : Int)), v7, v8, v9] ∧ Same H H' ∧ Tups enc3 H' D rs R ∧ H' W = some (.lst (ws.map V.int)) ∧ ws.length = ts.length ∧ k ≤ ts.length ∧ Pos2 (wantL ts ws k) ∧ amts (gs.drop i) = amts (wantL ts ws k) ∧ R.length ≤ i + k ∧ ∀ L, PO (gs.drop i) (wantL ts ws k) L → PO gs ts (R ++ L))
        ⟨none, none, none, none, 0, ts.map (·.2), [], [], rfl, s02, .nil eD2, eW, by rw [List.length_map], Nat.zero_le _, by rw [wantL_0]; exact pt, by rw [wantL_0]; exact hsum, Nat.zero_le _, fun L h => by rw [wantL_0] at h; exact h⟩ (fun i σ H' _ ⟨_, _, _, _, _, _, _, _, _, e, _⟩ => e.seq sg) ?_ ?_
      · rintro i x σ H' hx ⟨v5, v7, v8, v9, k, ws, rs, R, rfl, e, hR, hW, hwl, hk, hpos, hsm, hRl, hPO⟩
        obtain ⟨p, g, hp, hgi, rfl, hr⟩ := (hg.same e).item hx
        have hi := (List.getElem?_eq_some_iff.mp hgi).1
        have hdrop : gs.drop i = g :: gs.drop (i + 1) := by
          rw [List.drop_eq_getElem_cons hi]
          congr 1
          exact Option.some.inj ((List.getElem?_eq_getElem hi).symm.trans hgi)
        have hgp := pg g (List.mem_of_getElem? hgi)
        have hr2 : SqT K H' p (enc2 g) := SqT.of hr
        unfold enc2 at hr2
        walk_at "st"
        refine while_by (fun σ H' => ∃ (v9 : Option V) (r : Int) (k : Nat) (ws : List Int) (rs : List Addr) (R : List (Int × Int × Int)), σ = [some (.ref l), some (.ref m), some (.ref D), some (.ref W), none, some (.int g.2), some (.int (k : Int)), some (.int g.1), some (.int r), v9] ∧ Same H H' ∧ Tups enc3 H' D rs R ∧ H' W = some (.lst (ws.map V.int)) ∧ ws.length = ts.length ∧ k ≤ ts.length ∧ Pos2 (wantL ts ws k) ∧ 0 ≤ r ∧ r + amts (gs.drop (i + 1)) = amts (wantL ts ws k) ∧ R.length ≤ i + k + (if 0 < r then 0 else 1) ∧ ∀ L, PO (if 0 < r then (g.1, r) :: gs.drop (i + 1) else gs.drop (i + 1)) (wantL ts ws k) L → PO gs ts (R ++ L))
          (fun σ _ => match σ with | [_, _, _, _, _, _, _, _, some (.int r), _] => r.toNat | _ => 0)
          ⟨v9, g.2, k, ws, rs, R, rfl, e, hR, hW, hwl, hk, hpos, by omega, by rw [← hsm, hdrop, amts_cons], by rw [if_pos (by omega)]; omega, fun L h => by rw [if_pos (by omega)] at h; rw [hdrop] at hPO; exact hPO L h⟩ ?_ ?_
        · rintro σ H3 ⟨v9, r, k, ws, rs, R, rfl, e3, hR, hW, hwl, hk, hpos, hr0, hsm, hRl, hPO⟩
          walk_at "st"
          refine iteD (fun h => ?_) (fun h => ?_)
          · rw [if_pos h] at hPO hRl
            have hrest := Pos2.amts0 (xs := gs.drop (i + 1)) fun y hy => pg y (List.mem_of_mem_drop hy)
            have hk2 : k < ts.length := by
              rcases Nat.lt_or_ge k ts.length with z | z
              · exact z
              · rw [wantL_end hwl z] at hsm
                have : amts [] = 0 := rfl
                omega
            have htk := List.getElem?_eq_getElem hk2
            generalize ts[k] = t at htk
            have hw := wantL_at hwl htk
            rw [hw] at hpos hsm hPO
            have hw1 : 1 ≤ at0 ws k := hpos _ List.mem_cons_self
            have hpos' : Pos2 (wantL ts ws (k + 1)) := fun y hy => hpos y (List.mem_cons_of_mem _ hy)
            rw [amts_cons] at hsm
            obtain ⟨pt', hpt1, hpt2, hpt3⟩ := (ht.same e3).at htk
            have hpt4 : SqT K H3 pt' (enc2 t) := SqT.of hpt3
            unfold enc2 at hpt4
            have hm3 : SqL K H3 m (qs.map V.ref) := e3.seq st
            have hW3 : SqL K H3 W (ws.map V.int) := SqL.of hW
            have aW := atI_n (ws := ws) (j := k) (by omega)
            have hRD := hR.lst
            generalize hpart : (if at0 ws k < r then at0 ws k else r) = part
            walk_at "st"
            rw [hpart]
            intro T nT
            have s4 := same_upd (o := .tup [.int g.1, .int t.1, .int part]) nT
            have hT4 : upd H3 T (.tup [.int g.1, .int t.1, .int part]) T = some (.tup (enc3 (g.1, t.1, part))) := upd_same
            have hRD4 := s4 _ _ hRD
            have hR5 := hR.push s4 nT hT4
            have nTW : H T = none := e3.free nT
            have e5 : Same H (upd (upd H3 T (.tup [.int g.1, .int t.1, .int part])) D (.lst (rs.map V.ref ++ [.ref T]))) := TabR.keep (e3.trans s4) nD
            have hW5 : upd (upd H3 T (.tup [.int g.1, .int t.1, .int part])) D (.lst (rs.map V.ref ++ [.ref T])) W = some (.lst (ws.map V.int)) := by
              rw [upd_ne hDW.symm]
              exact s4 _ _ hW
            have hRs : (rs.map V.ref).length < sizeLine := small1000 (by rw [List.length_map, hR.len]; omega)
            have hWk : (ws.map V.int)[k]? = some (.int (at0 ws k)) := by rw [List.getElem?_map, at0_lt (by omega)]; rfl
            have hWx : ixN (ws.map V.int).length ((k : Nat) : Int) = some k := ixN_nat (by rw [List.length_map]; omega)
            have hWs : atI ((ws.map V.int).set k (.int (at0 ws k - part))) ((k : Nat) : Int) = some (.int (at0 ws k - part)) := by
              rw [← List.map_set, atI_n (by rw [List.length_set]; omega), at0_set (by omega), if_pos rfl]
            walk_at "st"
            have hDW5 : Tups enc3 (upd (upd (upd H3 T (.tup [.int g.1, .int t.1, .int part])) D (.lst (rs.map V.ref ++ [.ref T]))) W (.lst ((ws.map V.int).set k (.int (at0 ws k - part))))) D (rs ++ [T]) (R ++ [(g.1, t.1, part)]) := by
              refine ⟨?_, hR5.len, fun j p x h1 h2 => ?_⟩
              · rw [upd_ne hDW]
                exact hR5.lst
              · have z := hR5.row j p x h1 h2
                rw [upd_ne (fun y => by rw [y, hW5] at z; cases z)]
                exact z
            have e6 : Same H (upd (upd (upd H3 T (.tup [.int g.1, .int t.1, .int part])) D (.lst (rs.map V.ref ++ [.ref T]))) W (.lst ((ws.map V.int).set k (.int (at0 ws k - part))))) := TabR.keep e5 nW0
            have hW6 : (upd (upd (upd H3 T (.tup [.int g.1, .int t.1, .int part])) D (.lst (rs.map V.ref ++ [.ref T]))) W (.lst ((ws.map V.int).set k (.int (at0 ws k - part))))) W = some (.lst ((ws.set k (at0 ws k - part)).map V.int)) := by rw [upd_same, List.map_set]
            have hset : wantL ts (ws.set k (at0 ws k - part)) (k + 1) = wantL ts ws (k + 1) := wantL_set (by omega)
            have hset0 : wantL ts (ws.set k (at0 ws k - part)) k = (t.1, at0 ws k - part) :: wantL ts ws (k + 1) := by
              rw [wantL_at (by rw [List.length_set]; exact hwl) htk, hset, at0_set (by omega), if_pos rfl]
            have hRlen : (R ++ [(g.1, t.1, part)]).length = R.length + 1 := by rw [List.length_append]; rfl
            refine iteB (fun h0 => ?_) (fun h0 => ?_)
            · have h0 : at0 ws k - part = 0 := V.int.inj (dec_t h0)
              walk_at "st"
              refine ⟨⟨some (.int part), r - part, k + 1, ws.set k (at0 ws k - part), rs ++ [T], R ++ [(g.1, t.1, part)], rfl, e6, hDW5, hW6, by rw [List.length_set]; exact hwl, by omega, by rw [hset]; exact hpos', ?_, ?_, ?_, fun L hL => ?_⟩, ?_⟩
              · split at hpart <;> omega
              · rw [hset]
                omega
              · rw [hRlen]
                split <;> omega
              · rw [hset] at hL
                rw [List.append_assoc]
                refine hPO _ ?_
                by_cases hlt : at0 ws k < r
                · rw [if_pos hlt] at hpart
                  rw [if_pos (by omega)] at hL
                  rw [← hpart] at hL ⊢
                  exact .gt hlt hL
                · rw [if_neg hlt] at hpart
                  rw [if_neg (by omega)] at hL
                  rw [← hpart, show at0 ws k = r by omega]
                  exact .eq hL
              · show (r - part).toNat < r.toNat
                split at hpart <;> omega
            · have h0 : at0 ws k - part ≠ 0 := fun z => dec_f h0 (congrArg V.int z)
              have hlt : ¬ at0 ws k < r := fun z => by rw [if_pos z] at hpart; omega
              rw [if_neg hlt] at hpart
              subst hpart
              refine ⟨⟨some (.int r), r - r, k, ws.set k (at0 ws k - r), rs ++ [T], R ++ [(g.1, t.1, r)], rfl, e6, hDW5, hW6, by rw [List.length_set]; exact hwl, hk, ?_, by omega, ?_, ?_, fun L hL => ?_⟩, ?_⟩
              · rw [hset0]
                intro y hy
                rcases List.mem_cons.mp hy with hy | hy
                · rw [hy]
                  show 1 ≤ at0 ws k - r
                  omega
                · exact hpos' y hy
              · rw [hset0, amts_cons]
                dsimp only
                omega
              · rw [hRlen]
                split <;> omega
              · rw [hset0, if_neg (by omega)] at hL
                rw [List.append_assoc]
                exact hPO _ (.lt (by omega) hL)
              · show (r - r).toNat < r.toNat
                omega
          · have hr : r = 0 := by omega
            subst hr
            refine ⟨_, _, _, _, k, ws, rs, R, rfl, e3, hR, hW, hwl, hk, hpos, by omega, ?_, fun L hL => ?_⟩
            · rw [if_neg (by omega)] at hRl
              omega
            · rw [if_neg (by omega)] at hPO
              exact hPO L hL
        · rintro σ H Q Q' h ⟨v1, e1, i, j, r1, r2, k, r3, q⟩
          exact ⟨v1, e1, i, j, r1, r2, k, r3, h _ _ q⟩
      · rintro σ H' ⟨v5, v7, v8, v9, k, ws, rs, R, rfl, e, hR, hW, hwl, hk, hpos, hsm, hRl, hPO⟩
        rw [List.length_map, hg.len, List.drop_eq_nil_of_le (Nat.le_refl _)] at hsm hPO
        have hnil := hpos.amts0.2 hsm.symm
        rw [hnil] at hPO
        have hfin := hPO [] .nil
        rw [List.append_nil] at hfin
        walk_at "st"
        exact q D H' rs R e nD hR hfin

/-- what each house is owed less what it owes -/
def netF (n : Nat) (f : Nat → Nat → Int) (h : Nat) : Int := sumI n (fun a => f a h) - sumI n (f h)
def sp_net_amounts (K : PySem.W.Frag) (C : Addr) : Sp := fun vs H Q E => ∃ (t : Addr) (ps : List Addr) (n : Nat) (fj : Nat → List Int), vs = [.ref t] ∧ JagR H t ps n fj ∧ n ≤ 900 ∧ (∀ i, i < n → (fj i).length ≤ 900) ∧ (DebtsJ n fj → ∀ p H', Same H H' → H p = none → H' p = some (.lst ((rowI n (netF n (cellJ fj))).map V.int)) → Q (.ref p) H') ∧ (¬ DebtsJ n fj → ∀ H', Same H H' → E (.ref C) none H')
set_option maxHeartbeats 0 in
theorem ok_net_amounts (T : Txt K mg) : FnOk P w K mg base (L2.CX P w) 4 T.f_net_amounts T.d_net_amounts ["owed"] (sp_net_amounts K T.c_InvalidTrade) := by
  refine T.F_net_amounts.okX sc_net_amounts (fun vs H Q E h => ?_) (fun cdv A outer s H vs Q E hr h => ?_)
  · obtain ⟨t, ps, n, fj, rfl, _⟩ := h
    rfl
  · obtain ⟨t, ps, n, fj, rfl, htj, hm9, hl9, q, qe⟩ := h
    have G_check_debts : FnOk P w K mg base (L2.CX P w) 3 T.f_check_debts T.d_check_debts ["owed"] (sp_check_debts K T.c_InvalidTrade) := ok_check_debts T
    refine ⟨_, (pss_cons (ps_expr (pe_callS G_check_debts hr (by rfl) T.m_check_debts T.F_check_debts.kp T.b_check_debts (fun σ => passAt (takes_of rfl rfl rfl rfl) σ) (pa_cons (pv 0) pa_nil)))
    (pss_one (ps_ret (pe_lc (own := [("house", 2)]) (g := gName 2) (tt := tYes) rfl sc_net_amounts.nd (pi_range1 (by rfl) T.z_range (pa_cons (pe_callB call_len_seq (by rfl) T.z_len PySem.boot_len (pa_cons (pv 0) pa_nil)) pa_nil)) (blkOk_by (own := [("house", 2)]) (N := N_net_amounts) (sc := defScope s_net_amounts) (by decide +kernel)) (fun _ _ _ _ _ => (pg_name (i := 2) sc_net_amounts.nd rfl (Or.inr rfl))) (fun _ _ _ _ _ => pts_nil) (fun _ _ _ _ _ => (pe_op op_sub (pe_callB (show CallR _ (.builtin "sum") (rSum K) from (cr_sum rfl)) (by rfl) T.z_sum (by decide +kernel) (pa_cons (pe_lc (own := [("row", 1)]) (g := gName 1) (tt := tYes) rfl sc_net_amounts.nd (show PI _ _ _ (iList K _) from pi_list (pv 0)) (blkOk_by (own := [("row", 1)]) (N := N_net_amounts) (by show blkC _ (relS _ (defScope s_net_amounts)) _ _ = true; decide +kernel)) (fun _ _ _ _ _ => (pg_name (i := 1) sc_net_amounts.nd rfl (Or.inl rfl))) (fun _ _ _ _ _ => pts_nil) (fun _ _ _ _ _ => (pe_ix (show IxR _ (rIxL K) from ix_list) (pv 1) (pv 2) (fun _ _ => rfl)))) pa_nil)) (pe_callB (show CallR _ (.builtin "sum") (rSum K) from (cr_sum rfl)) (by rfl) T.z_sum (by decide +kernel) (pa_cons (pe_ix (show IxR _ (rIxL K) from ix_list) (pv 0) (pv 2) (fun _ _ => rfl)) pa_nil)))))))), ?_⟩
    walk_at "st"
    refine ⟨ps, n, fj, rfl, htj, hm9, hl9, fun hv H1 e1 => ?_, fun hv H1 e1 => qe hv H1 e1⟩
    have ht := htj.tab hv.len
    have hd := hv.debts
    replace q := q hv
    generalize cellJ fj = f at *
    have ht1 := ht.same e1
    have hs1 : SqL K H1 t (ps.map V.ref) := SqL.of ht1.lst
    have hl := ht.len
    have hn := hd.n1
    walk_at "st"
    intro D nD
    refine lc_range (lo := 0) (n := (((ps.map V.ref).length : Nat) : Int).toNat) (fun i H' => H' D = some (.lst ((rowI i (netF n f)).map V.int)) ∧ Same H1 H') ⟨upd_same, same_upd nD⟩ ?_ ?_
    · rintro i H2 hi ⟨hD, e2⟩
      rw [List.length_map, hl] at hi
      have hi2 : i < n := by omega
      rw [show (0 : Int) + i = ((i : Nat) : Int) by omega]
      have hs2 := e2.seq hs1
      have ht2 := ht1.same e2
      refine ⟨rfl, ?_⟩
      walk_at "st"
      intro C nC
      refine lc_col ht2 (by omega) hi2 nC rfl (by decide) rfl ?_
      have e3 := same_upd (o := .lst ((rowI n fun a => f a i).map V.int)) nC
      have hC : SqL K (upd H2 C (.lst ((rowI n fun a => f a i).map V.int))) C ((rowI n fun a => f a i).map V.int) := SqL.of upd_same
      have ht3 := ht2.same e3
      have hs3 := e3.seq hs2
      have hD3 := e3 _ _ hD
      obtain ⟨r, hr1, hr2, hr3⟩ := ht3.at hi2
      have hr4 : SqL K (upd H2 C (.lst ((rowI n fun a => f a i).map V.int))) r ((rowI n (f i)).map V.int) := SqL.of hr3
      have e13 := e2.trans e3
      generalize upd H2 C (.lst ((rowI n fun a => f a i).map V.int)) = H3 at *
      walk_at "st"
      refine ⟨small1000 (by rw [List.length_map, rowI_len]; omega), ?_, TabR.keep e13 nD⟩
      rw [upd_same, rowI_succ, List.map_append]
      rfl
    · rintro H' ⟨hD, e2⟩
      rw [List.length_map, hl, Int.toNat_natCast] at hD
      exact q D H' (e1.trans e2) (e1.free nD) hD
/-- the two debts of a pair set off -/
def bilF (f : Nat → Nat → Int) (a b : Nat) : Int := if f a b - f b a > 0 then f a b - f b a else 0
theorem bilF_sub (f : Nat → Nat → Int) (a b : Nat) : bilF f a b - bilF f b a = f a b - f b a := by
  unfold bilF
  split <;> split <;> omega
theorem netF_eq (n : Nat) (f : Nat → Nat → Int) (h : Nat) : netF n f h = sumI n fun a => f a h - f h a := (sumI_sub n _ _).symm
theorem netF_bil (n : Nat) (f : Nat → Nat → Int) (h : Nat) : netF n (bilF f) h = netF n f h := by
  rw [netF_eq, netF_eq]
  exact sumI_congr fun a _ => bilF_sub f a h
theorem bilF_debts {n : Nat} {f : Nat → Nat → Int} {m : Int} (h : Debts n f m) : Debts n (bilF f) m := by
  refine ⟨h.n0, h.n1, fun i hi j hj => ?_, fun i hi => ?_⟩
  · have h1 := h.b i hi j hj
    have h2 := h.b j hj i hi
    unfold bilF
    split <;> omega
  · unfold bilF
    split <;> omega
def sp_bilateral (K : PySem.W.Frag) (C : Addr) : Sp := fun vs H Q E => ∃ (t : Addr) (ps : List Addr) (n : Nat) (fj : Nat → List Int), vs = [.ref t] ∧ JagR H t ps n fj ∧ n ≤ 900 ∧ (∀ i, i < n → (fj i).length ≤ 900) ∧ (DebtsJ n fj → ∀ t2 H' ps2, Same H H' → H t2 = none → Tab H' t2 ps2 n (bilF (cellJ fj)) → Q (.ref t2) H') ∧ (¬ DebtsJ n fj → ∀ H', Same H H' → E (.ref C) none H')
set_option maxHeartbeats 0 in
theorem ok_bilateral (T : Txt K mg) : FnOk P w K mg base (L2.CX P w) 4 T.f_bilateral T.d_bilateral ["owed"] (sp_bilateral K T.c_InvalidTrade) := by
  refine T.F_bilateral.okX sc_bilateral (fun vs H Q E h => ?_) (fun cdv A outer s H vs Q E hr h => ?_)
  · obtain ⟨t, ps, n, fj, rfl, _⟩ := h
    rfl
  · obtain ⟨t, ps, n, fj, rfl, htj, hm9, hl9, q, qe⟩ := h
    have G_check_debts : FnOk P w K mg base (L2.CX P w) 3 T.f_check_debts T.d_check_debts ["owed"] (sp_check_debts K T.c_InvalidTrade) := ok_check_debts T
    refine ⟨_, (pss_cons (ps_expr (pe_callS G_check_debts hr (by rfl) T.m_check_debts T.F_check_debts.kp T.b_check_debts (fun σ => passAt (takes_of rfl rfl rfl rfl) σ) (pa_cons (pv 0) pa_nil)))
    (pss_cons (ps_set (i := 1) sc_bilateral.nd rfl (Or.inr rfl) (pe_callTy mk_rng (by rfl) T.z_range (by decide +kernel) (pa_cons (pe_callB call_len_seq (by rfl) T.z_len PySem.boot_len (pa_cons (pv 0) pa_nil)) pa_nil)))
    (pss_one (ps_ret (pe_lc (own := [("debtor", 3)]) (g := gName 3) (tt := tYes) rfl sc_bilateral.nd (pi_rng (pv 1)) (blkOk_by (own := [("debtor", 3)]) (N := N_bilateral) (sc := defScope s_bilateral) (by decide +kernel)) (fun _ _ _ _ _ => (pg_name (i := 3) sc_bilateral.nd rfl (Or.inr rfl))) (fun _ _ _ _ _ => pts_nil) (fun _ _ _ _ _ => (pe_lc (own := [("creditor", 2)]) (g := gName 2) (tt := tYes) rfl sc_bilateral.nd (pi_rng (pv 1)) (blkOk_by (own := [("creditor", 2)]) (N := N_bilateral) (by show blkC _ (relS _ (defScope s_bilateral)) _ _ = true; decide +kernel)) (fun _ _ _ _ _ => (pg_name (i := 2) sc_bilateral.nd rfl (Or.inl rfl))) (fun _ _ _ _ _ => pts_nil) (fun _ _ _ _ _ => (pe_callB (call_max2 rfl) (by rfl) T.z_max (by decide +kernel) (pa_cons pe_int (pa_cons (pe_op op_sub (pe_ix (show IxR _ (rIxL K) from ix_list) (pe_ix (show IxR _ (rIxL K) from ix_list) (pv 0) (pv 3) (fun _ _ => rfl)) (pv 2) (fun _ _ => rfl)) (pe_ix (show IxR _ (rIxL K) from ix_list) (pe_ix (show IxR _ (rIxL K) from ix_list) (pv 0) (pv 2) (fun _ _ => rfl)) (pv 3) (fun _ _ => rfl))) pa_nil))))))))))), ?_⟩
    walk_at "st"
    refine ⟨ps, n, fj, rfl, htj, hm9, hl9, fun hv H1 e1 => ?_, fun hv H1 e1 => qe hv H1 e1⟩
    have ht := htj.tab hv.len
    have hd := hv.debts
    replace q := q hv
    generalize cellJ fj = f at *
    have ht1 := ht.same e1
    have hs1 : SqL K H1 t (ps.map V.ref) := SqL.of ht1.lst
    have hl := ht.len
    have hn := hd.n1
    walk_at "st"
    intro R nR
    have eR : upd H1 R (.rng 0 ((ps.map V.ref).length : Nat)) R = some (.rng 0 (n : Int)) := by rw [upd_same, List.length_map, hl]
    have s2 : Same H1 (upd H1 R (.rng 0 ((ps.map V.ref).length : Nat))) := same_upd nR
    generalize upd H1 R (.rng 0 ((ps.map V.ref).length : Nat)) = H2 at eR s2
    have ht2 := ht1.same s2
    have e02 := e1.trans s2
    walk_at "st"
    intro D nD
    refine lc_range (lo := 0) (n := n) (fun i H' => ∃ (_ : Unit) (qs : List Addr), TabR H' D qs i n (bilF f) ∧ Same H2 H') ⟨(), [], .nil n _ upd_same, same_upd nD⟩ ?_ ?_
    · rintro i H3 hi ⟨_, qs, hT, s3⟩
      rw [show (0 : Int) + i = ((i : Nat) : Int) by omega]
      refine ⟨rfl, ?_⟩
      have eR3 := s3 _ _ eR
      have ht3 := ht2.same s3
      walk_at "st"
      intro C nC
      refine lc_range (lo := 0) (n := n) (fun j H' => H' = upd H3 C (.lst ((rowI j (bilF f i)).map V.int))) rfl ?_ ?_
      · rintro j H4 hj rfl
        rw [show (0 : Int) + j = ((j : Nat) : Int) by omega]
        have ht4 := ht3.same (same_upd (o := .lst ((rowI j (bilF f i)).map V.int)) nC)
        have hs4 : SqL K (upd H3 C (.lst ((rowI j (bilF f i)).map V.int))) t (ps.map V.ref) := SqL.of ht4.lst
        obtain ⟨p1, g1, a1, r1⟩ := ht4.at hi
        obtain ⟨p2, g2, a2, r2⟩ := ht4.at hj
        have q1 : SqL K (upd H3 C (.lst ((rowI j (bilF f i)).map V.int))) p1 ((rowI n (f i)).map V.int) := SqL.of r1
        have q2 : SqL K (upd H3 C (.lst ((rowI j (bilF f i)).map V.int))) p2 ((rowI n (f j)).map V.int) := SqL.of r2
        have b1 := atI_row (g := f i) hj
        have b2 := atI_row (g := f j) hi
        refine ⟨rfl, ?_⟩
        walk_at "st"
        refine ⟨small1000 (by rw [List.length_map, rowI_len]; omega), ?_⟩
        rw [upd_upd, rowI_succ, List.map_append]
        rfl
      · rintro H4 rfl
        have hp := upd_same (H := H3) (a := C) (o := .lst ((rowI n (bilF f i)).map V.int))
        have s4 : Same H3 (upd H3 C (.lst ((rowI n (bilF f i)).map V.int))) := same_upd nC
        exact ⟨_, s4 _ _ hT.lst, small1000 (by rw [List.length_map, hT.len]; omega), (), _, hT.push s4 nC hp, TabR.keep (s3.trans s4) nD⟩
    · rintro H3 ⟨_, qs, hT, s3⟩
      exact q D H3 qs (e02.trans s3) (e02.free nD) hT.tab
/-- who has to give, with what; who has to take -/
def negL (n : Nat) (g : Nat → Int) : List (Int × Int) := (List.range n).filterMap fun a => if g a < 0 then some ((a : Int), -g a) else none
def posL (n : Nat) (g : Nat → Int) : List (Int × Int) := (List.range n).filterMap fun a => if g a > 0 then some ((a : Int), g a) else none
theorem negL_succ (n : Nat) (g : Nat → Int) : negL (n + 1) g = negL n g ++ (if g n < 0 then [((n : Int), -g n)] else []) := by
  unfold negL
  rw [List.range_succ, List.filterMap_append, List.filterMap_cons, List.filterMap_nil]
  split <;> rename_i h <;> split at h <;> first | (cases h; done) | (cases h; rw [if_pos (by assumption)]) | (rw [if_neg (by assumption)])
theorem posL_succ (n : Nat) (g : Nat → Int) : posL (n + 1) g = posL n g ++ (if g n > 0 then [((n : Int), g n)] else []) := by
  unfold posL
  rw [List.range_succ, List.filterMap_append, List.filterMap_cons, List.filterMap_nil]
  split <;> rename_i h <;> split at h <;> first | (cases h; done) | (cases h; rw [if_pos (by assumption)]) | (rw [if_neg (by assumption)])
theorem negL_pos (n : Nat) (g : Nat → Int) : Pos2 (negL n g) := by
  intro x hx
  obtain ⟨a, _, h⟩ := List.mem_filterMap.mp hx
  split at h
  · cases h
    show 1 ≤ -g a
    omega
  · cases h
theorem posL_pos (n : Nat) (g : Nat → Int) : Pos2 (posL n g) := by
  intro x hx
  obtain ⟨a, _, h⟩ := List.mem_filterMap.mp hx
  split at h
  · cases h
    show 1 ≤ g a
    omega
  · cases h
theorem amts_append (xs ys : List (Int × Int)) : amts (xs ++ ys) = amts xs + amts ys := by
  unfold amts
  rw [List.map_append, List.sum_append]
theorem neg_pos_sum : ∀ (n : Nat) (g : Nat → Int), amts (posL n g) - amts (negL n g) = sumI n g
  | 0, _ => rfl
  | n + 1, g => by
    rw [negL_succ, posL_succ, amts_append, amts_append, sumI_succ, ← neg_pos_sum n g]
    have h0 : amts [] = 0 := rfl
    have h1 : ∀ x : Int × Int, amts [x] = x.2 := fun x => by rw [amts_cons]; omega
    by_cases a : g n < 0
    · rw [if_pos a, if_neg (by omega), h1, h0]
      dsimp only
      omega
    · rw [if_neg a, h0]
      by_cases b : g n > 0
      · rw [if_pos b, h1]
        dsimp only
        omega
      · rw [if_neg b, h0]
        omega
theorem sumI_swap : ∀ (n m : Nat) (f : Nat → Nat → Int), sumI n (fun a => sumI m (f a)) = sumI m fun b => sumI n fun a => f a b
  | 0, m, f => by
    have e : ∀ m : Nat, sumI m (fun _ => (0 : Int)) = 0 := fun m => by
      induction m with
      | zero => rfl
      | succ m ih => rw [sumI_succ, ih]; rfl
    show (0 : Int) = sumI m fun b => 0
    rw [e]
  | n + 1, m, f => by
    rw [sumI_succ, sumI_swap n m f, show (sumI m fun b => sumI (n + 1) fun a => f a b) = sumI m fun b => (sumI n fun a => f a b) + f n b from sumI_congr fun b _ => sumI_succ n _]
    have : ∀ (m : Nat) (p q : Nat → Int), sumI m (fun b => p b + q b) = sumI m p + sumI m q := fun m p q => by
      induction m with
      | zero => rfl
      | succ m ih => rw [sumI_succ, sumI_succ, sumI_succ, ih]; omega
    rw [this]
theorem netF_sum (n : Nat) (f : Nat → Nat → Int) : sumI n (netF n f) = 0 := by
  show sumI n (fun h => sumI n (fun a => f a h) - sumI n (f h)) = 0
  rw [sumI_sub, sumI_swap n n fun h a => f a h]
  exact Int.sub_self _
theorem filterMap_len {α β : Type} (p : α → Option β) (xs : List α) : (xs.filterMap p).length ≤ xs.length := List.length_filterMap_le ..
def sp_compress (K : PySem.W.Frag) (C : Addr) : Sp := fun vs H Q E => ∃ (t : Addr) (ps : List Addr) (n : Nat) (fj : Nat → List Int), vs = [.ref t] ∧ JagR H t ps n fj ∧ n ≤ 900 ∧ (∀ i, i < n → (fj i).length ≤ 900) ∧ (DebtsJ n fj → ∀ p H' rs R, Same H H' → H p = none → Tups enc3 H' p rs R → Q (.ref p) H') ∧ (¬ DebtsJ n fj → ∀ H', Same H H' → E (.ref C) none H')
set_option maxHeartbeats 0 in
theorem ok_compress (T : Txt K mg) : FnOk P w K mg base (L2.CX P w) 5 T.f_compress T.d_compress ["owed"] (sp_compress K T.c_InvalidTrade) := by
  refine T.F_compress.okX sc_compress (fun vs H Q E h => ?_) (fun cdv A outer s H vs Q E hr h => ?_)
  · obtain ⟨t, ps, n, fj, rfl, _⟩ := h
    rfl
  · obtain ⟨t, ps, n, fj, rfl, htj, hm9, hl9, q, qe⟩ := h
    have G_net_amounts : FnOk P w K mg base (L2.CX P w) 4 T.f_net_amounts T.d_net_amounts ["owed"] (sp_net_amounts K T.c_InvalidTrade) := ok_net_amounts T
    have G_pair_off : FnOk P w K mg base CX0 1 T.f_pair_off T.d_pair_off ["givers", "takers"] (sp_pair_off K) := ok_pair_off T
    refine ⟨_, (pss_cons (ps_set (i := 1) sc_compress.nd rfl (Or.inl rfl) (pe_callS G_net_amounts hr (by rfl) T.m_net_amounts T.F_net_amounts.kp T.b_net_amounts (fun σ => passAt (takes_of rfl rfl rfl rfl) σ) (pa_cons (pv 0) pa_nil)))
    (pss_cons (ps_setLc (i := 2) (own := [("house", 3), ("amount", 4)]) rfl sc_compress.nd rfl rfl (sw_true rfl rfl rfl (by decide +kernel)) (pi_enum (by rfl) T.z_enumerate (pa_cons (pv 1) pa_nil)) (blkOk_by (own := [("house", 3), ("amount", 4)]) (N := N_compress) (sc := defScope s_compress) (by decide +kernel)) (fun _ _ _ _ _ => (show PG _ _ (gTup K 2 (gCons (gName 3) (gCons (gName 4) gNil))) from (pg_tup rfl (pgs_cons (pg_name (i := 3) sc_compress.nd rfl (Or.inl rfl)) (pgs_cons (pg_name (i := 4) sc_compress.nd rfl (Or.inl rfl)) pgs_nil))))) (fun _ _ _ _ _ => pts_one (pt_cmpR op_lt (pv 4) pe_int (nomark _))) (fun _ _ _ _ _ => (pe_tup (pa_cons (pv 3) (pa_cons (pe_un un_neg (pv 4)) pa_nil)))))
    (pss_cons (ps_setLc (i := 5) (own := [("house", 3), ("amount", 4)]) rfl sc_compress.nd rfl rfl (sw_true rfl rfl rfl (by decide +kernel)) (pi_enum (by rfl) T.z_enumerate (pa_cons (pv 1) pa_nil)) (blkOk_by (own := [("house", 3), ("amount", 4)]) (N := N_compress) (sc := defScope s_compress) (by decide +kernel)) (fun _ _ _ _ _ => (show PG _ _ (gTup K 2 (gCons (gName 3) (gCons (gName 4) gNil))) from (pg_tup rfl (pgs_cons (pg_name (i := 3) sc_compress.nd rfl (Or.inl rfl)) (pgs_cons (pg_name (i := 4) sc_compress.nd rfl (Or.inl rfl)) pgs_nil))))) (fun _ _ _ _ _ => pts_one (pt_cmpR op_gt (pv 4) pe_int (nomark _))) (fun _ _ _ _ _ => (pe_tup (pa_cons (pv 3) (pa_cons (pv 4) pa_nil)))))
    (pss_one (ps_ret (pe_call G_pair_off (hr.mono (by decide)) (by rfl) T.m_pair_off T.F_pair_off.kp T.b_pair_off .nil pass0 (pa_cons (pv 2) (pa_cons (pv 5) pa_nil)))))))), ?_⟩
    walk_at "st"
    refine ⟨ps, n, fj, rfl, htj, hm9, hl9, fun hv A H1 e1 nA hA => ?_, fun hv H1 e1 => qe hv H1 e1⟩
    have ht := htj.tab hv.len
    have hd := hv.debts
    replace q := q hv
    generalize cellJ fj = f at *
    have hn := hd.n1
    have hsum := netF_sum n f
    have hA1 : SqL K H1 A ((rowI n (netF n f)).map V.int) := SqL.of hA
    generalize netF n f = g at *
    walk_at "st"
    intro D nD
    refine lc_enum (K := K) (a := A) (xs := (rowI n g).map V.int) (fun i H' => ∃ qs, Tups enc2 H' D qs (negL i g) ∧ Same H1 H') ⟨[], .nil upd_same, same_upd nD⟩ (fun i H' _ ⟨_, _, e⟩ => e.seq hA1) ?_ ?_
    · rintro i x H' T hx ⟨qs, hT, e⟩ nT
      obtain ⟨z, hz, rfl⟩ := ints_at hx
      have hi := (List.getElem?_eq_some_iff.mp hz).1
      rw [rowI_len] at hi
      rw [rowI_at hi] at hz
      cases hz
      have s2 : Same H' (upd H' T (.tup [.int (i : Int), .int (g i)])) := same_upd nT
      have t2 : SqT K (upd H' T (.tup [.int (i : Int), .int (g i)])) T [.int (i : Int), .int (g i)] := SqT.of upd_same
      generalize upd H' T (.tup [.int (i : Int), .int (g i)]) = H2 at s2 t2
      have hT2 := hT.same s2
      have e2 := e.trans s2
      walk_at "st"
      refine iteB (fun h => ?_) (fun h => ?_)
      · have h := dec_t h
        walk_at "st"
        intro U nU
        have s3 := same_upd (o := .tup [.int (i : Int), .int (-g i)]) nU
        have hU : upd H2 U (.tup [.int (i : Int), .int (-g i)]) U = some (.tup (enc2 ((i : Int), -g i))) := upd_same
        refine ⟨_, s3 _ _ hT2.lst, small1000 ?_, qs ++ [U], ?_, TabR.keep (e2.trans s3) nD⟩
        · rw [List.length_map, hT2.len]
          exact Nat.le_trans (filterMap_len _ _) (by rw [List.length_range]; omega)
        · rw [negL_succ, if_pos h]
          exact hT2.push s3 nU hU
      · have h := dec_f h
        exact ⟨qs, (by rw [negL_succ, if_neg h, List.append_nil]; exact hT2), e2⟩
    · rintro H2 ⟨qs, hN, e2⟩
      rw [List.length_map, rowI_len] at hN
      have hA2 := e2.seq hA1
      walk_at "st"
      intro E nE
      refine lc_enum (K := K) (a := A) (xs := (rowI n g).map V.int) (fun i H' => ∃ qs, Tups enc2 H' E qs (posL i g) ∧ Same H2 H') ⟨[], .nil upd_same, same_upd nE⟩ (fun i H' _ ⟨_, _, e⟩ => e.seq hA2) ?_ ?_
      · rintro i x H' T hx ⟨qs, hT, e⟩ nT
        obtain ⟨z, hz, rfl⟩ := ints_at hx
        have hi := (List.getElem?_eq_some_iff.mp hz).1
        rw [rowI_len] at hi
        rw [rowI_at hi] at hz
        cases hz
        have s2 : Same H' (upd H' T (.tup [.int (i : Int), .int (g i)])) := same_upd nT
        have t2 : SqT K (upd H' T (.tup [.int (i : Int), .int (g i)])) T [.int (i : Int), .int (g i)] := SqT.of upd_same
        generalize upd H' T (.tup [.int (i : Int), .int (g i)]) = H3 at s2 t2
        have hT2 := hT.same s2
        have e3 := e.trans s2
        walk_at "st"
        refine iteB (fun h => ?_) (fun h => ?_)
        · have h := dec_t h
          walk_at "st"
          intro U nU
          have s3 := same_upd (o := .tup [.int (i : Int), .int (g i)]) nU
          have hU : upd H3 U (.tup [.int (i : Int), .int (g i)]) U = some (.tup (enc2 ((i : Int), g i))) := upd_same
          refine ⟨_, s3 _ _ hT2.lst, small1000 ?_, qs ++ [U], ?_, TabR.keep (e3.trans s3) nE⟩
          · rw [List.length_map, hT2.len]
            exact Nat.le_trans (filterMap_len _ _) (by rw [List.length_range]; omega)
          · rw [posL_succ, if_pos h]
            exact hT2.push s3 nU hU
        · have h := dec_f h
          exact ⟨qs, (by rw [posL_succ, if_neg h, List.append_nil]; exact hT2), e3⟩
      · rintro H3 ⟨qs', hP, e3⟩
        rw [List.length_map, rowI_len] at hP
        have hN3 := hN.same e3
        have l1 : (negL n g).length ≤ n := Nat.le_trans (filterMap_len _ _) (by rw [List.length_range]; exact Nat.le_refl _)
        have l2 : (posL n g).length ≤ n := Nat.le_trans (filterMap_len _ _) (by rw [List.length_range]; exact Nat.le_refl _)
        have hs := neg_pos_sum n g
        walk_at "st"
        refine ⟨qs, qs', negL n g, posL n g, rfl, hN3, hP, negL_pos n g, posL_pos n g, by omega, by omega, fun p H4 rs R e4 np hR hPO => ?_⟩
        exact q p H4 rs R (((e1.trans e2).trans e3).trans e4) (((e1.trans e2).trans e3).free np) hR

def optN : Option Nat → V
  | none => .non
  | some c => .int (c : Int)

/-! ### who owes whom among some houses -/
def intsN (ws : List Nat) : List V := ws.map fun (k : Nat) => V.int (k : Int)
def debF (f : Nat → Nat → Int) (ws : List Nat) (c : Nat) : Option Nat := ws.find? fun d => decide (0 < f d c)
def unF (f : Nat → Nat → Int) (ws : List Nat) : Option Nat := ws.find? fun h => (debF f ws h).isNone
theorem intsN_at {ws : List Nat} {i : Nat} {x : V} (h : (intsN ws)[i]? = some x) : ∃ k, ws[i]? = some k ∧ x = V.int (k : Int) := by
  unfold intsN at h
  rw [List.getElem?_map] at h
  cases e : ws[i]? with
  | none => rw [e] at h; cases h
  | some k => rw [e] at h; exact ⟨k, rfl, (Option.some.inj h).symm⟩
theorem find_here {α : Type} {p : α → Bool} {ws : List α} {i : Nat} {x : α} (h : ws[i]? = some x) (hp : p x = true) (hn : ∀ y, y ∈ ws.take i → p y = false) : ws.find? p = some x := by
  rw [← List.take_append_drop i ws, List.find?_append]
  have e : (ws.take i).find? p = none := by
    rw [List.find?_eq_none]
    intro y hy
    rw [hn y hy]
    exact Bool.false_ne_true
  rw [e, Option.none_or, List.drop_eq_getElem_cons (List.getElem?_eq_some_iff.mp h).1, (List.getElem?_eq_some_iff.mp h).2, List.find?_cons, hp]
def sp_first_debtor (K : PySem.W.Frag) : Sp := fun vs H Q _ => ∃ (t l : Addr) (ps : List Addr) (n : Nat) (f : Nat → Nat → Int) (ws : List Nat) (c : Nat), vs = [.ref t, .ref l, .int (c : Int)] ∧ Tab H t ps n f ∧ H l = some (.lst (intsN ws)) ∧ (∀ w, w ∈ ws → w < n) ∧ c < n ∧ Q (optN (debF f ws c)) H
set_option maxHeartbeats 0 in
theorem ok_first_debtor (T : Txt K mg) : FnOk P w K mg base CX0 1 T.f_first_debtor T.d_first_debtor ["debts", "houses", "creditor"] (sp_first_debtor K) := by
  refine T.F_first_debtor.ok sc_first_debtor (fun vs H Q E h => ?_) (fun cdv A outer s H vs Q E hr h => ?_)
  · obtain ⟨t, l, ps, n, f, ws, c, rfl, _⟩ := h
    rfl
  · obtain ⟨t, l, ps, n, f, ws, c, rfl, ht, hl, hw, hc, q⟩ := h
    
    refine ⟨_, (pss_cons (ps_for PassesOwn.never rfl (pi_list (pv 1)) (pg_name (i := 3) sc_first_debtor.nd rfl (Or.inl rfl))
      (pss_one (ps_if (pt_cmpR op_gt (pe_ix ix_list (pe_ix ix_list (pv 0) (pv 3) (fun _ _ => rfl)) (pv 2) (fun _ _ => rfl)) pe_int (nomark _))
        (pss_one (ps_ret (pv 3)))
        pss_nil)))
    (pss_one (ps_ret pe_non))), ?_⟩
    have hls := SqL.of (K := K) hl
    have hts := SqL.of (K := K) ht.lst
    walk_at "st"
    refine for_list (K := K) (a := l) (xs := intsN ws) (fun i σ H' => ∃ v3 : Option V, σ = [some (.ref t), some (.ref l), some (.int (c : Int)), v3] ∧ H' = H ∧ ∀ d, d ∈ ws.take i → (decide (0 < f d c)) = false)
      ⟨none, rfl, rfl, fun d hd => by rw [List.take_zero] at hd; cases hd⟩ (fun i σ H' _ ⟨_, _, e, _⟩ => by rw [e]; exact hls) ?_ ?_
    · rintro i y σ H' hy ⟨v3, rfl, rfl, hno⟩
      obtain ⟨d, hd, rfl⟩ := intsN_at hy
      have hdn := hw d (List.mem_of_getElem? hd)
      obtain ⟨p, hp, hpa, hpr⟩ := ht.at hdn
      have hprs := SqL.of (K := K) hpr
      have hat := atI_row (n := n) (g := f d) hc
      walk_at "st"
      refine iteD (fun h => ?_) (fun h => ?_)
      · walk_at "st"
        have e : debF f ws c = some d := find_here hd (decide_eq_true h) hno
        rw [e] at q
        exact q
      · refine ⟨_, rfl, rfl, fun w hw2 => ?_⟩
        rw [take_succ hd] at hw2
        rcases List.mem_append.mp hw2 with z | z
        · exact hno w z
        · rw [List.mem_singleton.mp z]
          exact decide_eq_false h
    · rintro σ H' ⟨v3, rfl, rfl, hno⟩
      have hlen : (intsN ws).length = ws.length := by unfold intsN; rw [List.length_map]
      rw [hlen, List.take_of_length_le (Nat.le_refl _)] at hno
      have e : debF f ws c = none := by
        unfold debF
        rw [List.find?_eq_none]
        intro w hw2
        rw [hno w hw2]
        exact Bool.false_ne_true
      rw [e] at q
      walk_at "st"
      exact q
def sp_first_unowed (K : PySem.W.Frag) : Sp := fun vs H Q _ => ∃ (t l : Addr) (ps : List Addr) (n : Nat) (f : Nat → Nat → Int) (ws : List Nat), vs = [.ref t, .ref l] ∧ Tab H t ps n f ∧ H l = some (.lst (intsN ws)) ∧ (∀ w, w ∈ ws → w < n) ∧ Q (optN (unF f ws)) H
set_option maxHeartbeats 0 in
theorem ok_first_unowed (T : Txt K mg) : FnOk P w K mg base CX0 2 T.f_first_unowed T.d_first_unowed ["debts", "houses"] (sp_first_unowed K) := by
  refine T.F_first_unowed.ok sc_first_unowed (fun vs H Q E h => ?_) (fun cdv A outer s H vs Q E hr h => ?_)
  · obtain ⟨t, l, ps, n, f, ws, rfl, _⟩ := h
    rfl
  · obtain ⟨t, l, ps, n, f, ws, rfl, ht, hl, hw, q⟩ := h
    have G_first_debtor : FnOk P w K mg base CX0 1 T.f_first_debtor T.d_first_debtor ["debts", "houses", "creditor"] (sp_first_debtor K) := ok_first_debtor T
    refine ⟨_, (pss_cons (ps_for PassesOwn.never rfl (pi_list (pv 1)) (pg_name (i := 2) sc_first_unowed.nd rfl (Or.inl rfl))
      (pss_one (ps_if (pt_cmpR op_isN (pe_call G_first_debtor hr (by rfl) T.m_first_debtor T.F_first_debtor.kp T.b_first_debtor .nil pass0 (pa_cons (pv 0) (pa_cons (pv 1) (pa_cons (pv 2) pa_nil)))) pe_non (nomark _))
        (pss_one (ps_ret (pv 2)))
        pss_nil)))
    (pss_one (ps_ret pe_non))), ?_⟩
    have hls := SqL.of (K := K) hl
    walk_at "st"
    refine for_list (K := K) (a := l) (xs := intsN ws) (fun i σ H' => ∃ v2 : Option V, σ = [some (.ref t), some (.ref l), v2] ∧ H' = H ∧ ∀ d, d ∈ ws.take i → (debF f ws d).isNone = false)
      ⟨none, rfl, rfl, fun d hd => by rw [List.take_zero] at hd; cases hd⟩ (fun i σ H' _ ⟨_, _, e, _⟩ => by rw [e]; exact hls) ?_ ?_
    · rintro i y σ H' hy ⟨v2, rfl, rfl, hno⟩
      obtain ⟨d, hd, rfl⟩ := intsN_at hy
      have hdn := hw d (List.mem_of_getElem? hd)
      walk_at "st"
      refine ⟨ps, n, f, ws, d, rfl, ht, hl, hw, hdn, ?_⟩
      cases hf : debF f ws d with
      | none =>
        walk_at "st"
        have e : unF f ws = some d := find_here hd (by rw [hf]; rfl) hno
        rw [e] at q
        exact q
      | some w =>
        walk_at "st"
        refine ⟨_, rfl, rfl, fun w hw2 => ?_⟩
        rw [take_succ hd] at hw2
        rcases List.mem_append.mp hw2 with z | z
        · exact hno w z
        · rw [List.mem_singleton.mp z, hf]
          rfl
    · rintro σ H' ⟨v2, rfl, rfl, hno⟩
      have hlen : (intsN ws).length = ws.length := by unfold intsN; rw [List.length_map]
      rw [hlen, List.take_of_length_le (Nat.le_refl _)] at hno
      have e : unF f ws = none := by
        unfold unF
        rw [List.find?_eq_none]
        intro w hw2
        rw [hno w hw2]
        exact Bool.false_ne_true
      rw [e] at q
      walk_at "st"
      exact q

theorem sumI_add (n : Nat) (f g : Nat → Int) : sumI n (fun b => f b + g b) = sumI n f + sumI n g := by
  induction n with
  | zero => rfl
  | succ n ih => rw [sumI_succ, sumI_succ, sumI_succ, ih]; omega
theorem sumI_zero (n : Nat) : sumI n (fun _ => (0 : Int)) = 0 := by
  induction n with
  | zero => rfl
  | succ n ih => rw [sumI_succ, ih]; rfl
theorem sumI_one {n p : Nat} {c : Int} (h : p < n) : sumI n (fun a => if a = p then c else 0) = c := by
  induction n with
  | zero => omega
  | succ n ih =>
    rw [sumI_succ]
    by_cases z : p = n
    · rw [if_pos z.symm, sumI_congr (g := fun _ => 0) fun i hi => by rw [if_neg (by omega)], sumI_zero]
      omega
    · rw [ih (by omega), if_neg (by omega)]
      omega
theorem rowI_set {n p : Nat} {g : Nat → Int} {x : Int} (h : p < n) : (rowI n g).set p x = rowI n fun a => if a = p then x else g a := by
  refine List.ext_getElem? fun i => ?_
  by_cases hi : i < n
  · rw [rowI_at hi]
    by_cases z : i = p
    · rw [z, List.getElem?_set_self (by rw [rowI_len]; exact h), if_pos rfl]
    · rw [List.getElem?_set_ne (fun e => z e.symm), rowI_at hi, if_neg z]
  · rw [List.getElem?_eq_none (by rw [List.length_set, rowI_len]; omega), List.getElem?_eq_none (by rw [rowI_len]; omega)]

/-- one number of a table changed -/
def setF2 (f : Nat → Nat → Int) (i j : Nat) (x : Int) : Nat → Nat → Int := fun a b => if a = i ∧ b = j then x else f a b
theorem Tab.set {H : Hp} {t p : Addr} {ps : List Addr} {n i j : Nat} {f : Nat → Nat → Int} {x : Int} (h : Tab H t ps n f) (hp : ps[i]? = some p) (hj : j < n) : Tab (upd H p (.lst (((rowI n (f i)).map V.int).set j (.int x)))) t ps n (setF2 f i j x) := by
  have hm := List.mem_of_getElem? hp
  refine ⟨?_, h.len, fun a q hq => ?_, h.nod, h.out⟩
  · rw [upd_ne (fun z => h.out (by rw [z]; exact hm))]
    exact h.lst
  · by_cases z : a = i
    · subst z
      rw [hp] at hq
      cases hq
      rw [upd_same, ← List.map_set, rowI_set hj]
      refine congrArg (fun z => some (HO.lst (List.map V.int z))) (rowI_eq.mpr fun b hb => ?_)
      unfold setF2
      by_cases c : b = j
      · rw [if_pos c, if_pos ⟨rfl, c⟩]
      · rw [if_neg c, if_neg fun e => c e.2]
    · have hne : q ≠ p := fun e => by
        rw [e] at hq
        have h1 := List.getElem?_eq_some_iff.mp hq
        have h2 := List.getElem?_eq_some_iff.mp hp
        exact z ((List.getElem_inj h.nod).mp (h1.2.trans h2.2.symm))
      rw [upd_ne hne, h.row a q hq]
      refine congrArg (fun z => some (HO.lst (List.map V.int z))) (rowI_eq.mpr fun b hb => ?_)
      unfold setF2
      rw [if_neg fun e => z e.1]
theorem sumI_set {n j : Nat} {g : Nat → Int} {x : Int} (h : j < n) : sumI n (fun b => if b = j then x else g b) = sumI n g + (x - g j) := by
  rw [← sumI_one (n := n) (p := j) (c := x - g j) h, ← sumI_add]
  refine sumI_congr fun b _ => ?_
  by_cases z : b = j
  · rw [if_pos z, if_pos z, z]; omega
  · rw [if_neg z, if_neg z]; omega
/-- the nets after i owes j some cents more -/
theorem netF_set {n i j : Nat} {f : Nat → Nat → Int} {c : Int} (hi : i < n) (hj : j < n) (h : Nat) : netF n (setF2 f i j (f i j + c)) h = netF n f h + (if h = j then c else 0) - (if h = i then c else 0) := by
  have e1 : sumI n (fun a => setF2 f i j (f i j + c) a h) = sumI n (fun a => f a h) + (if h = j then c else 0) := by
    by_cases z : h = j
    · subst z
      rw [if_pos rfl, show (fun a => setF2 f i h (f i h + c) a h) = fun a => if a = i then f i h + c else f a h from funext fun a => by unfold setF2; by_cases w : a = i <;> simp [w], sumI_set hi (g := fun a => f a h)]
      omega
    · rw [if_neg z, show (fun a => setF2 f i j (f i j + c) a h) = fun a => f a h from funext fun a => by unfold setF2; rw [if_neg fun e => z e.2]]
      omega
  have e2 : sumI n (setF2 f i j (f i j + c) h) = sumI n (f h) + (if h = i then c else 0) := by
    by_cases z : h = i
    · subst z
      rw [if_pos rfl, show setF2 f h j (f h j + c) h = fun b => if b = j then f h j + c else f h b from funext fun b => by unfold setF2; by_cases w : b = j <;> simp [w], sumI_set hj]
      omega
    · rw [if_neg z, show setF2 f i j (f i j + c) h = f h from funext fun b => by unfold setF2; rw [if_neg fun e => z e.1]]
      omega
  unfold netF
  rw [e1, e2]
  omega
/-- no debt below 0, none to oneself -/
structure NN (n : Nat) (f : Nat → Nat → Int) : Prop where
  nn : ∀ i, i < n → ∀ j, j < n → 0 ≤ f i j
  d : ∀ i, i < n → f i i = 0
theorem NN.add {n i j : Nat} {f : Nat → Nat → Int} {c : Int} (h : NN n f) (hi : i < n) (hj : j < n) (hc : 0 ≤ c) (hne : i ≠ j) : NN n (setF2 f i j (f i j + c)) := by
  refine ⟨fun a ha b hb => ?_, fun a ha => ?_⟩
  · unfold setF2
    split
    · have := h.nn i hi j hj
      omega
    · exact h.nn a ha b hb
  · unfold setF2
    rw [if_neg fun e => hne (e.1.symm.trans e.2)]
    exact h.d a ha
theorem NN.debts {n : Nat} {f : Nat → Nat → Int} {m : Int} (h : NN n f) (h0 : 1 ≤ n) (h1 : n ≤ 13) (hm : ∀ i, i < n → ∀ j, j < n → f i j ≤ m) : Debts n f m := ⟨h0, h1, fun i hi j hj => ⟨h.nn i hi j hj, hm i hi j hj⟩, h.d⟩
theorem Debts.nn {n : Nat} {f : Nat → Nat → Int} {m : Int} (h : Debts n f m) : NN n f := ⟨fun i hi j hj => (h.b i hi j hj).1, h.d⟩

/-! ### a ring is taken out -/
def redF (f : Nat → Nat → Int) (m : Int) (ring : List (Nat × Nat)) : Nat → Nat → Int := ring.foldl (fun g p => setF2 g p.1 p.2 (g p.1 p.2 - m)) f
def hitC (h : Nat) (xs : List Nat) (m : Int) : Int := (xs.map fun x => if h = x then m else 0).sum
theorem hitC_perm {h : Nat} {m : Int} {xs ys : List Nat} (p : xs.Perm ys) : hitC h xs m = hitC h ys m := by
  induction p with
  | nil => rfl
  | cons x _ ih =>
    show (if h = x then m else 0) + hitC h _ m = (if h = x then m else 0) + hitC h _ m
    rw [ih]
  | swap x y l =>
    show (if h = y then m else 0) + ((if h = x then m else 0) + hitC h l m) = (if h = x then m else 0) + ((if h = y then m else 0) + hitC h l m)
    omega
  | trans _ _ h1 h2 => exact h1.trans h2
theorem net_red {n : Nat} {m : Int} {h : Nat} : ∀ {ring : List (Nat × Nat)} {f : Nat → Nat → Int}, (∀ p, p ∈ ring → p.1 < n ∧ p.2 < n) → netF n (redF f m ring) h = netF n f h - hitC h (ring.map (·.2)) m + hitC h (ring.map (·.1)) m
  | [], f, _ => by
    show netF n f h = netF n f h - 0 + 0
    omega
  | p :: r, f, hp => by
    obtain ⟨h1, h2⟩ := hp p List.mem_cons_self
    show netF n (redF (setF2 f p.1 p.2 (f p.1 p.2 - m)) m r) h = _
    rw [net_red fun q hq => hp q (List.mem_cons_of_mem _ hq)]
    have e := netF_set (f := f) (c := -m) h1 h2 h
    have e2 : f p.1 p.2 + -m = f p.1 p.2 - m := by omega
    rw [e2] at e
    rw [e]
    show _ = netF n f h - ((if h = p.2 then m else 0) + hitC h (r.map (·.2)) m) + ((if h = p.1 then m else 0) + hitC h (r.map (·.1)) m)
    split <;> split <;> omega
theorem red_at {m : Int} {a b : Nat} : ∀ {ring : List (Nat × Nat)} {f : Nat → Nat → Int}, (ring.map (·.2)).Nodup → redF f m ring a b = if (a, b) ∈ ring then f a b - m else f a b
  | [], f, _ => by
    rw [if_neg fun z => by cases z]
    rfl
  | p :: r, f, hn => by
    obtain ⟨h1, h2⟩ := List.nodup_cons.mp (show (p.2 :: r.map (·.2)).Nodup from hn)
    show redF (setF2 f p.1 p.2 (f p.1 p.2 - m)) m r a b = _
    rw [red_at h2]
    unfold setF2
    by_cases hp : a = p.1 ∧ b = p.2
    · have hnr : (a, b) ∉ r := fun z => h1 (List.mem_map.mpr ⟨(a, b), z, hp.2⟩)
      have hin : (a, b) ∈ p :: r := by rw [show (a, b) = p from Prod.ext hp.1 hp.2]; exact List.mem_cons_self
      rw [if_neg hnr, if_pos hin, if_pos hp, hp.1, hp.2]
    · have hiff : (a, b) ∈ p :: r ↔ (a, b) ∈ r := ⟨fun z => (List.mem_cons.mp z).resolve_left fun e => hp ⟨congrArg Prod.fst e, congrArg Prod.snd e⟩, List.mem_cons_of_mem _⟩
      by_cases hr : (a, b) ∈ r
      · rw [if_pos hr, if_pos (hiff.mpr hr), if_neg hp]
      · rw [if_neg hr, if_neg fun z => hr (hiff.mp z), if_neg hp]
/-- all that is owed -/
def totF (n : Nat) (f : Nat → Nat → Int) : Int := sumI n fun a => sumI n (f a)
theorem tot_set {n i j : Nat} {f : Nat → Nat → Int} {x : Int} (hi : i < n) (hj : j < n) : totF n (setF2 f i j x) = totF n f + (x - f i j) := by
  unfold totF
  have e : ∀ a, sumI n (setF2 f i j x a) = if a = i then sumI n (f i) + (x - f i j) else sumI n (f a) := fun a => by
    by_cases h : a = i
    · rw [if_pos h, h, ← sumI_set (g := f i) hj]
      refine sumI_congr fun b _ => ?_
      unfold setF2
      by_cases hb : b = j
      · rw [if_pos ⟨rfl, hb⟩, if_pos hb]
      · rw [if_neg fun z => hb z.2, if_neg hb]
    · rw [if_neg h]
      refine sumI_congr fun b _ => ?_
      unfold setF2
      rw [if_neg fun z => h z.1]
  rw [sumI_congr fun a _ => e a, sumI_set (g := fun a => sumI n (f a)) hi]
  omega
theorem tot_red {n : Nat} {m : Int} : ∀ {ring : List (Nat × Nat)} {f : Nat → Nat → Int}, (∀ p, p ∈ ring → p.1 < n ∧ p.2 < n) → totF n (redF f m ring) = totF n f - m * (ring.length : Int)
  | [], f, _ => by
    show totF n f = totF n f - m * ((0 : Nat) : Int)
    rw [Int.natCast_zero, Int.mul_zero]
    omega
  | p :: r, f, hp => by
    obtain ⟨h1, h2⟩ := hp p List.mem_cons_self
    show totF n (redF (setF2 f p.1 p.2 (f p.1 p.2 - m)) m r) = _
    rw [tot_red fun q hq => hp q (List.mem_cons_of_mem _ hq), tot_set h1 h2, List.length_cons, Int.natCast_add, Int.mul_add]
    show _ = _ - (m * (r.length : Int) + m * 1)
    omega
theorem tot_nn {n : Nat} {f : Nat → Nat → Int} (h : ∀ a, a < n → ∀ b, b < n → 0 ≤ f a b) : 0 ≤ totF n f := by
  have key : ∀ k, k ≤ n → ∀ g : Nat → Int, (∀ i, i < n → 0 ≤ g i) → 0 ≤ sumI k g := by
    intro k
    induction k with
    | zero => intro _ g _; exact Int.le_refl _
    | succ k ih =>
      intro hk g hg
      rw [sumI_succ]
      have := ih (by omega) g hg
      have := hg k (by omega)
      omega
  exact key n (Nat.le_refl _) _ fun a ha => key n (Nat.le_refl _) _ fun b hb => h a ha b hb
/-! ### the ring of a path -/
def cycL (r : List Nat) : List (Nat × Nat) := (r.drop 1 ++ r.take 1).zip r
theorem cyc_len (r : List Nat) : (r.drop 1 ++ r.take 1).length = r.length := by
  rw [List.length_append, List.length_drop, List.length_take]
  omega
theorem cyc_fst (r : List Nat) : (cycL r).map (·.1) = r.drop 1 ++ r.take 1 := List.map_fst_zip (Nat.le_of_eq (cyc_len r))
theorem cyc_snd (r : List Nat) : (cycL r).map (·.2) = r := List.map_snd_zip (Nat.le_of_eq (cyc_len r).symm)
theorem cyc_perm (r : List Nat) : ((cycL r).map (·.1)).Perm ((cycL r).map (·.2)) := by
  rw [cyc_fst, cyc_snd]
  have h := List.perm_append_comm (l₁ := r.drop 1) (l₂ := r.take 1)
  rw [List.take_append_drop] at h
  exact h
theorem net_cyc {n : Nat} {m : Int} {h : Nat} {r : List Nat} {f : Nat → Nat → Int} (hr : ∀ x, x ∈ r → x < n) : netF n (redF f m (cycL r)) h = netF n f h := by
  rw [net_red fun p hp => ⟨hr _ ?_, hr _ ?_⟩, hitC_perm (cyc_perm r)]
  · omega
  · have := (cyc_perm r).subset (List.mem_map.mpr ⟨p, hp, rfl⟩)
    rw [cyc_snd] at this
    exact this
  · have : p.2 ∈ (cycL r).map (·.2) := List.mem_map.mpr ⟨p, hp, rfl⟩
    rw [cyc_snd] at this
    exact this
/-- houses none of which is unowed owe in no order -/
theorem no_rank {f : Nat → Nat → Int} {ws : List Nat} {rk : Nat → Nat} (hu : unF f ws = none) (hw : ws ≠ []) (hr : ∀ a, a ∈ ws → ∀ b, b ∈ ws → 0 < f a b → rk a < rk b) : False := by
  have step : ∀ h, h ∈ ws → ∃ d, d ∈ ws ∧ rk d < rk h := fun h hh => by
    unfold unF at hu
    have h1 := List.find?_eq_none.mp hu h hh
    cases hd : debF f ws h with
    | none => rw [hd] at h1; exact absurd rfl h1
    | some d =>
      have h2 : (fun d => decide (0 < f d h)) d = true := List.find?_some (p := fun d => decide (0 < f d h)) hd
      exact ⟨d, List.mem_of_find?_eq_some hd, hr d (List.mem_of_find?_eq_some hd) h hh (of_decide_eq_true h2)⟩
  have desc : ∀ k h, h ∈ ws → rk h < k → False := by
    intro k
    induction k with
    | zero => intro h _ z; omega
    | succ k ih =>
      intro h hh hk
      obtain ⟨d, hd, hlt⟩ := step h hh
      exact ih d hd (by omega)
  cases ws with
  | nil => exact hw rfl
  | cons h r => exact desc (rk h + 1) h List.mem_cons_self (by omega)

def encP (p : Nat × Nat) : List V := [.int (p.1 : Int), .int (p.2 : Int)]
def sp_without_ring (K : PySem.W.Frag) : Sp := fun vs H Q _ => ∃ (t l : Addr) (ps : List Addr) (n : Nat) (f : Nat → Nat → Int) (rps : List Addr) (ring : List (Nat × Nat)), vs = [.ref t, .ref l] ∧ Tab H t ps n f ∧ n ≤ 13 ∧ Tups encP H l rps ring ∧ (∀ p, p ∈ ring → p.1 < n ∧ p.2 < n) ∧ ring ≠ [] ∧ ring.length ≤ 100 ∧
  ∀ (t' : Addr) (H' : Hp) (qs : List Addr) (m : Int), Same H H' → H t' = none → Tab H' t' qs n (redF f m ring) → (∀ p, p ∈ ring → m ≤ f p.1 p.2) → (∃ p, p ∈ ring ∧ m = f p.1 p.2) → (∀ x, x ∈ qs → H x = none) → Q (.ref t') H'
set_option maxHeartbeats 0 in
theorem ok_without_ring (T : Txt K mg) : FnOk P w K mg base CX0 1 T.f_without_ring T.d_without_ring ["debts", "ring"] (sp_without_ring K) := by
  refine T.F_without_ring.ok sc_without_ring (fun vs H Q E h => ?_) (fun cdv A outer s H vs Q E hr h => ?_)
  · obtain ⟨t, l, ps, n, f, rps, ring, rfl, _⟩ := h
    rfl
  · obtain ⟨t, l, ps, n, f, rps, ring, rfl, ht, hn, hr, hin, hne, hrl, q⟩ := h
    
    refine ⟨_, (pss_cons (ps_set (i := 2) sc_without_ring.nd rfl (Or.inl rfl) (pe_callB (cr_min rfl) (by rfl) T.z_min (by decide +kernel) (pa_cons (pe_lc (own := [("debtor", 3), ("creditor", 4)]) (tt := tYes) rfl sc_without_ring.nd (pi_list (pv 1)) (blkOk_by (own := [("debtor", 3), ("creditor", 4)]) (N := N_without_ring) (sc := defScope s_without_ring) (by decide +kernel)) (fun _ _ _ _ _ => (show PG _ _ (gTup K 2 (gCons (gName 3) (gCons (gName 4) gNil))) from (pg_tup rfl (pgs_cons (pg_name (i := 3) sc_without_ring.nd rfl (Or.inl rfl)) (pgs_cons (pg_name (i := 4) sc_without_ring.nd rfl (Or.inl rfl)) pgs_nil))))) (fun _ _ _ _ _ => pts_nil) (fun _ _ _ _ _ => (pe_ix (show IxR _ (rIxL K) from ix_list) (pe_ix (show IxR _ (rIxL K) from ix_list) (pv 0) (pv 3) (fun _ _ => rfl)) (pv 4) (fun _ _ => rfl)))) pa_nil)))
    (pss_cons (ps_setLc (i := 5) (own := [("row", 6)]) (g := gName 6) (tt := tYes) rfl sc_without_ring.nd rfl rfl (sw_true rfl rfl rfl (by decide +kernel)) (pi_list (pv 0)) (blkOk_by (own := [("row", 6)]) (N := N_without_ring) (sc := defScope s_without_ring) (by decide +kernel)) (fun _ _ _ _ _ => (pg_name (i := 6) sc_without_ring.nd rfl (Or.inl rfl))) (fun _ _ _ _ _ => pts_nil) (fun _ _ _ _ _ => (pe_callTy (show CallR _ (.type "list") (rListOf K) from call_list_of) (by rfl) T.z_list (by decide +kernel) (pa_cons (pv 6) pa_nil))))
    (pss_cons (ps_for PassesOwn.never rfl (pi_list (pv 1)) (pg_tup rfl (pgs_cons (pg_name (i := 3) sc_without_ring.nd rfl (Or.inl rfl)) (pgs_cons (pg_name (i := 4) sc_without_ring.nd rfl (Or.inl rfl)) pgs_nil)))
      (pss_one (ps_augS (pe_ix ix_list (pv 5) (pv 3) (fun _ _ => rfl)) (pv 4) pget_list (pv 2) ip_sub set_list)))
    (pss_one (ps_ret (pv 5)))))), ?_⟩
    have hls := SqL.of (K := K) hr.lst
    have hts := SqL.of (K := K) ht.lst
    walk_at "st"
    intro C nC
    refine lc_list (K := K) (a := l) (xs := rps.map V.ref) (fun j H1 => H1 = upd H C (.lst (((ring.take j).map fun p => f p.1 p.2).map V.int)))
      rfl (fun j H1 _ e => by rw [e]; exact (same_upd nC).seq hls) ?_ ?_
    · rintro j y H1 hy rfl
      obtain ⟨rp, p, hrp, hpj, rfl, hpr⟩ := hr.item hy
      have hj := (List.getElem?_eq_some_iff.mp hpj).1
      obtain ⟨h1, h2⟩ := hin p (List.mem_of_getElem? hpj)
      have sC := same_upd (o := HO.lst (((ring.take j).map fun p => f p.1 p.2).map V.int)) nC
      have hps := SqT.of (K := K) (sC _ _ hpr)
      unfold encP at hps
      have htC := ht.same sC
      have htCs := SqL.of (K := K) htC.lst
      obtain ⟨rw_, hrw, hra, hrr⟩ := htC.at h1
      have hrrs := SqL.of (K := K) hrr
      have hat := atI_row (n := n) (g := f p.1) h2
      have hlt : (((ring.take j).map fun p => f p.1 p.2).map V.int).length < sizeLine := small1000 (by rw [List.length_map, List.length_map, List.length_take]; omega)
      walk_at "st"
      rw [upd_upd, take_succ hpj, List.map_append, List.map_append]
      rfl
    · rintro H1 rfl
      rw [List.length_map, hr.len, List.take_of_length_le (Nat.le_refl _)]
      have hC := SqL.of (K := K) (H := upd H C (.lst ((ring.map fun p => f p.1 p.2).map V.int))) (a := C) upd_same
      have sC := same_upd (o := HO.lst ((ring.map fun p => f p.1 p.2).map V.int)) nC
      generalize upd H C _ = H1 at *
      have hpos : 0 < (ring.map fun p => f p.1 p.2).length := by
        rw [List.length_map]
        exact List.length_pos_iff.mpr hne
      walk_at "st"
      intro m hm1 hm2
      have ht1 := ht.same sC
      have hts1 := SqL.of (K := K) ht1.lst
      have hr1 := hr.same sC
      walk_at "st"
      intro D nD
      refine lc_copy (K := K) ht1 (by omega) nD rfl fun H2 qs e2 hT2 hfree => ?_
      have hls2 := e2.seq (SqL.of (K := K) hr1.lst)
      walk_at "st"
      refine for_list (K := K) (a := l) (xs := rps.map V.ref) (fun j σ H3 => ∃ v3 v4 v6 : Option V, σ = [some (.ref t), some (.ref l), some (.int m), v3, v4, some (.ref D), v6] ∧ Tab H3 D qs n (redF f m (ring.take j)) ∧ Same H1 H3)
        ⟨_, _, _, rfl, by rw [List.take_zero]; exact hT2, e2⟩ (fun j σ H3 _ ⟨_, _, _, _, _, e⟩ => e.seq (SqL.of hr1.lst)) ?_ ?_
      · rintro j y σ H3 hy ⟨v3, v4, v6, rfl, hT3, e3⟩
        obtain ⟨rp, p, hrp, hpj, rfl, hpr⟩ := (hr1.same e3).item hy
        have hj := (List.getElem?_eq_some_iff.mp hpj).1
        obtain ⟨h1, h2⟩ := hin p (List.mem_of_getElem? hpj)
        have hps := SqT.of (K := K) hpr
        unfold encP at hps
        obtain ⟨rw_, hrw, hra, hrr⟩ := hT3.at h1
        have hTl := SqL.of (K := K) hT3.lst
        have hrrs := SqL.of (K := K) hrr
        have hat := atI_row (n := n) (g := redF f m (ring.take j) p.1) h2
        have hix : ixN ((rowI n (redF f m (ring.take j) p.1)).map V.int).length (p.2 : Int) = some p.2 := ixN_nat (by rw [List.length_map, rowI_len]; exact h2)
        have hnx := hT3.set (x := redF f m (ring.take j) p.1 p.2 - m) hrw h2
        have hred : redF f m (ring.take (j + 1)) = setF2 (redF f m (ring.take j)) p.1 p.2 (redF f m (ring.take j) p.1 p.2 - m) := by
          rw [take_succ hpj]
          unfold redF
          rw [List.foldl_append]
          rfl
        rw [hred]
        have hf1 := hfree rw_ (List.mem_of_getElem? hrw)
        have hgi : ((rowI n (redF f m (ring.take j) p.1)).map V.int)[p.2]? = some (V.int (redF f m (ring.take j) p.1 p.2)) := by rw [List.getElem?_map, rowI_at h2]; rfl
        walk_at "st"
        refine ⟨_, _, _, rfl, hnx, fun z o hz => ?_⟩
        rw [upd_ne (ne_of_none hz hf1)]
        exact e3 _ _ hz
      · rintro σ H3 ⟨v3, v4, v6, rfl, hT3, e3⟩
        rw [List.length_map, hr.len, List.take_of_length_le (Nat.le_refl _)] at hT3
        walk_at "st"
        refine q D H3 qs m (sC.trans e3) (sC.free nD) hT3 (fun p hp => hm2 _ (List.mem_map.mpr ⟨p, hp, rfl⟩)) ?_ fun x hx => sC.free (hfree x hx)
        obtain ⟨p, hp, hpm⟩ := List.mem_map.mp hm1
        exact ⟨p, hp, hpm.symm⟩

theorem flat_ints : ∀ xs : List Int, (xs.map V.int).all flatV = true
  | [] => rfl
  | x :: xs => by
    rw [List.map_cons, List.all_cons, flat_ints xs]
    rfl
theorem eqV_ints (x y : Int) : eqV (V.int x) (V.int y) = decide (x = y) := by
  show (x == y) = _
  exact Bool.beq_eq_decide_eq x y
theorem inV_ints (x : Int) : ∀ xs : List Int, inV (V.int x) (xs.map V.int) = decide (x ∈ xs)
  | [] => rfl
  | y :: xs => by
    have ih := inV_ints x xs
    unfold inV at ih ⊢
    rw [List.map_cons, List.any_cons, ih, eqV_ints]
    by_cases h : y = x
    · rw [decide_eq_true h, Bool.true_or, decide_eq_true (by rw [h]; exact List.mem_cons_self)]
    · rw [decide_eq_false h, Bool.false_or]
      exact decide_eq_decide.mpr ⟨fun z => List.mem_cons_of_mem _ z, fun z => (List.mem_cons.mp z).resolve_left fun e => h e.symm⟩

/-! ### list(zip(xs, ys)) -/
/-- fresh pairs laid at the end -/
def putP : Hp → List Addr → List (V × V) → Hp
  | H, t :: ts, q :: qs => putP (upd H t (.tup [q.1, q.2])) ts qs
  | H, _, _ => H
theorem putP_off {c : Addr} : ∀ (ts : List Addr) (qs : List (V × V)) (H : Hp), c ∉ ts → putP H ts qs c = H c
  | [], _, _, _ => rfl
  | _ :: _, [], _, _ => rfl
  | t :: ts, q :: qs, H, h => by
    show putP (upd H t (.tup [q.1, q.2])) ts qs c = H c
    rw [putP_off ts qs _ fun z => h (List.mem_cons_of_mem _ z), upd_ne fun z => h (by rw [z]; exact List.mem_cons_self)]
theorem putP_at : ∀ (ts : List Addr) (qs : List (V × V)) (H : Hp), ts.length = qs.length → ts.Nodup → Paired (fun (t : Addr) (q : V × V) => putP H ts qs t = some (.tup [q.1, q.2])) ts qs
  | [], [], _, _, _ => .nil
  | [], _ :: _, _, h, _ => by cases h
  | _ :: _, [], _, h, _ => by cases h
  | t :: ts, q :: qs, H, h, hn => by
    obtain ⟨n1, n2⟩ := List.nodup_cons.mp hn
    refine .cons ?_ (putP_at ts qs _ (Nat.succ.inj h) n2)
    show putP (upd H t (.tup [q.1, q.2])) ts qs t = _
    rw [putP_off ts qs _ n1, upd_same]
/-- where a zip of two lists stands, with the list that takes its pairs at S -/
structure ZSt (h : Heap) (z TI TO i1 i2 l1 l2 S : Addr) (xs ys : Array Value) (i : Nat) : Prop where
  ti : IsPair h TI (.ref i1) (.ref i2)
  a1 : h.IsListIter i1 l1 i
  a2 : h.IsListIter i2 l2 i
  b1 : h.IsList l1 xs
  b2 : h.IsList l2 ys
  zz : (IsZip h z TI TO .none ∧ ∃ u v, IsPair h TO u v) ∨ ∃ (T : Addr) (f : Bool) (oT : Obj), IsZipHeld h z TI TO T f ∧ h.get? T = some oT ∧ T ≠ z ∧ T ≠ i1 ∧ T ≠ i2 ∧ T ≠ S
structure ZLow (z TI TO i1 i2 l1 l2 S : Addr) : Prop where
  z : z ≠ S
  ti : TI ≠ S
  to : TO ≠ S
  i1 : i1 ≠ S
  i2 : i2 ≠ S
  l1 : l1 ≠ S
  l2 : l2 ≠ S
theorem ZSt.keep {h h' : Heap} {z TI TO i1 i2 l1 l2 S : Addr} {xs ys : Array Value} {i : Nat} (x : ZSt h z TI TO i1 i2 l1 l2 S xs ys i) (L : ZLow z TI TO i1 i2 l1 l2 S) (hk : ∀ b o, b ≠ S → h.get? b = some o → h'.get? b = some o) : ZSt h' z TI TO i1 i2 l1 l2 S xs ys i := by
  refine ⟨hk _ _ L.ti x.ti, x.a1.at fun o e => hk _ o L.i1 e, x.a2.at fun o e => hk _ o L.i2 e, x.b1.at fun o e => hk _ o L.l1 e, x.b2.at fun o e => hk _ o L.l2 e, ?_⟩
  rcases x.zz with ⟨hz, u, v, ho⟩ | ⟨T, f, oT, hz, hT, r1, r2, r3, r4⟩
  · exact .inl ⟨hk _ _ L.z hz, u, v, hk _ _ L.to ho⟩
  · exact .inr ⟨T, f, oT, hk _ _ L.z hz, hk _ _ r4 hT, r1, r2, r3, r4⟩
/-- the pairs made so far: as many as told, each above the list that takes them -/
structure ZG (xs ys : Array Value) (S : Addr) (h : Heap) (ts : List Addr) : Prop where
  up : ts.Pairwise (· < ·)
  hi : ∀ t, t ∈ ts → S < t
  at' : ∀ (j : Nat) (t : Addr), ts[j]? = some t → ∃ u v, xs[j]? = some u ∧ ys[j]? = some v ∧ IsPair h t u v
section
variable {A : Around} {E : Value → Shared → Prop} {s : Shared}
theorem zst_turn {z TI TO i1 i2 l1 l2 S : Addr} {xs ys : Array Value} {i : Nat} {u v : Value} {Q : Option Value → Shared → Prop} (D : ZipApart z TI TO i1 i2 l1 l2) (x : ZSt s.heap z TI TO i1 i2 l1 l2 S xs ys i) (hS : S < s.heap.objs.size) (hu : xs[i]? = some u) (hv : ys[i]? = some v)
    (hQ : ∀ h', ZSt h' z TI TO i1 i2 l1 l2 S xs ys (i + 1) → IsPair h' s.heap.objs.size u v → (∀ b o, b ≠ z → b ≠ TO → b ≠ i1 → b ≠ i2 → s.heap.get? b = some o → h'.get? b = some o) → Q (some (.ref s.heap.objs.size)) { s with heap := h' }) :
    wpAny (model P w) A (pyNext (.ref z)) Q E s := by
  have ne : ∀ {c o}, s.heap.get? c = some o → s.heap.objs.size ≠ c := fun e => Nat.ne_of_gt (Heap.lt_size e)
  have m1 : s.heap.objs.size ≠ i1 := let ⟨_, e, _⟩ := x.a1; ne e
  have m2 : s.heap.objs.size ≠ i2 := let ⟨_, e, _⟩ := x.a2; ne e
  rcases x.zz with ⟨hz, p, q, ho⟩ | ⟨T, f, oT, hz, hT, r1, r2, r3, r4⟩
  · exact wpAny_pyNext_zip_item D hz x.ti ho x.a1 x.a2 x.b1 x.b2 hu hv fun h' c1 c2 c3 c4 c5 c6 hk =>
      hQ h' ⟨hk _ _ D.TIz D.TITO D.TIi1 D.TIi2 x.ti, c3, c4, x.b1.at fun o e => hk _ o D.l1z D.l1TO D.l1i1 D.l1i2 e, x.b2.at fun o e => hk _ o D.l2z D.l2TO D.l2i1 D.l2i2 e, .inr ⟨_, false, _, c1, c5, ne hz, m1, m2, Nat.ne_of_gt hS⟩⟩ c5 hk
  · exact wpAny_pyNext_zip_item_held D hz hT x.ti x.a1 x.a2 x.b1 x.b2 hu hv fun h' c1 c3 c4 c5 c6 hk =>
      hQ h' ⟨hk _ _ D.TIz D.TIi1 D.TIi2 x.ti, c3, c4, x.b1.at fun o e => hk _ o D.l1z D.l1i1 D.l1i2 e, x.b2.at fun o e => hk _ o D.l2z D.l2i1 D.l2i2 e, .inr ⟨T, true, oT, c1, hk _ _ r1 r2 r3 hT, r1, r2, r3, r4⟩⟩ c5 fun b o n1 _ n3 n4 e => hk b o n1 n3 n4 e
theorem zst_end {z TI TO i1 i2 l1 l2 S : Addr} {xs ys : Array Value} {i : Nat} {Q : Option Value → Shared → Prop} (hh : A.handled = none) (D : ZipApart z TI TO i1 i2 l1 l2) (x : ZSt s.heap z TI TO i1 i2 l1 l2 S xs ys i) (hu : xs[i]? = none)
    (hQ : ∀ h', (∀ b o, b ≠ z → b ≠ TO → b ≠ i1 → b ≠ i2 → s.heap.get? b = some o → h'.get? b = some o) → Q none { s with heap := h' }) :
    wpAny (model P w) A (pyNext (.ref z)) Q E s := by
  rcases x.zz with ⟨hz, p, q, ho⟩ | ⟨T, f, oT, hz, hT, _⟩
  · exact wpAny_pyNext_zip_end hh D hz x.ti ho x.a1 x.a2 x.b1 x.b2 (.inl hu) fun h' hk => hQ h' hk
  · exact wpAny_pyNext_zip_end_held hh D hz hT x.ti x.a1 x.a2 x.b1 x.b2 (.inl hu) fun h' hk => hQ h' fun b o n1 _ n3 n4 e => hk b o n1 n3 n4 e
end
section
variable {A : Around} {s : Shared} {R : Result → Shared → Prop}
theorem zip_drain {z TI TO i1 i2 l1 l2 S : Addr} {xs ys : Array Value} (hh : A.handled = none) (D : ZipApart z TI TO i1 i2 l1 l2) (L : ZLow z TI TO i1 i2 l1 l2 S) (hlen : xs.size = ys.size) (hn : xs.size ≤ sizeLine) {h₀ : Heap} {res : Value}
    (hR : ∀ (h' : Heap) (acc : Array Value) (c : Nat) (ts : List Addr), (∀ b o, b ≠ S → b ≠ z → b ≠ TO → b ≠ i1 → b ≠ i2 → h₀.get? b = some o → h'.get? b = some o) → h'.get? S = some { cls := .type "list", dict := none, data := .seq acc c, slots := #[] } → ts.length = xs.size → ZG xs ys S h' ts → acc.toList = ts.map Value.ref → R (.ok (.ret res)) { s with heap := h' }) :
    ∀ (m i : Nat) (h : Heap) (c : Nat) (acc : Array Value) (ts : List Addr), i + m = xs.size → ZSt h z TI TO i1 i2 l1 l2 S xs ys i → (∀ b o, b ≠ S → b ≠ z → b ≠ TO → b ≠ i1 → b ≠ i2 → h₀.get? b = some o → h.get? b = some o) →
      h.get? S = some { cls := .type "list", dict := none, data := .seq acc c, slots := #[] } → acc.toList = ts.map Value.ref → ts.length = i → ZG xs ys S h ts → (∀ t, t ∈ ts → z < t ∧ TO < t ∧ i1 < t ∧ i2 < t) → (z < h.objs.size ∧ TO < h.objs.size ∧ i1 < h.objs.size ∧ i2 < h.objs.size) →
      codeAny (model P w) A (.builtin "list.extend.loop" ⟨[.ref S, .ref z, res], []⟩) R { s with heap := h } := by
  intro m
  induction m with
  | zero =>
    intro i h c acc ts hm st hk hS hacc hts hG hab _
    have hix : i = xs.size := hm
    refine codeAny_builtin PySem.F.entry_extend_loop ?_
    rw [Around.under_plainId PySem.F.plain_extend_loop _]
    show wpAny _ A.in1 (pyNext (.ref z) >>= _) _ _ _
    refine wpAny_bind (zst_end (s := { s with heap := h }) (A := A.in1) hh D st (Array.getElem?_eq_none (Nat.le_of_eq hix.symm)) fun h' k' => ?_)
    refine wpAny_pure (hR h' acc c ts (fun b o n1 n2 n3 n4 n5 e => k' b o n2 n3 n4 n5 (hk b o n1 n2 n3 n4 n5 e)) (k' S _ L.z.symm L.to.symm L.i1.symm L.i2.symm hS) (hts.trans hix) ⟨hG.up, hG.hi, fun j t hj => ?_⟩ hacc)
    obtain ⟨u, v, e1, e2, e3⟩ := hG.at' j t hj
    obtain ⟨g1, g2, g3, g4⟩ := hab t (List.mem_of_getElem? hj)
    exact ⟨u, v, e1, e2, k' t _ (Nat.ne_of_gt g1) (Nat.ne_of_gt g2) (Nat.ne_of_gt g3) (Nat.ne_of_gt g4) e3⟩
  | succ m ih =>
    intro i h c acc ts hm st hk hS hacc hts hG hab hzz
    have hlt : i < xs.size := by omega
    have hu := Array.getElem?_eq_getElem hlt
    have hv := Array.getElem?_eq_getElem (hlen ▸ hlt : i < ys.size)
    have hac : acc.size = i := by rw [← Array.length_toList, hacc, List.length_map, hts]
    have hSl : S < h.objs.size := Heap.lt_size hS
    refine codeAny_builtin PySem.F.entry_extend_loop ?_
    rw [Around.under_plainId PySem.F.plain_extend_loop _]
    show wpAny _ A.in1 (pyNext (.ref z) >>= _) _ _ _
    refine wpAny_bind (zst_turn (s := { s with heap := h }) D st hSl hu hv fun h' st' hp k' => ?_)
    dsimp only at hp k' ⊢
    have hS' := k' S _ L.z.symm L.to.symm L.i1.symm L.i2.symm hS
    have set' : ∀ b o, b ≠ S → h'.get? b = some o → (h'.update S (Obj.mapSeq (·.push (Value.ref h.objs.size)))).get? b = some o := fun b o hb e => (Heap.get?_update_other _ _ hb.symm).trans e
    show wpAny _ A.in1 (updateSeq S (·.push (Value.ref h.objs.size)) >>= _) _ _ _
    refine wpAny_bind ?_
    obtain ⟨z1, z2, z3, z4⟩ := hzz
    have hpn := set' _ _ (Nat.ne_of_gt hSl) hp
    have hbig := Heap.lt_size hpn
    refine wpAny_updateSeq hS' rfl (wpAny_pure ⟨plainId_quiet PySem.F.plain_extend_loop _, ih (i + 1) _ _ (acc.push (Value.ref h.objs.size)) (ts ++ [h.objs.size]) (by omega) (st'.keep L set') (fun b o n1 n2 n3 n4 n5 e => set' b o n1 (k' b o n2 n3 n4 n5 (hk b o n1 n2 n3 n4 n5 e)))
      (Heap.get?_update_self _ hS' rfl) (by rw [Array.toList_push, hacc, List.map_append]; rfl) (by rw [List.length_append, hts]; rfl) ⟨?_, ?_, ?_⟩ ?_ ⟨Nat.lt_trans z1 hbig, Nat.lt_trans z2 hbig, Nat.lt_trans z3 hbig, Nat.lt_trans z4 hbig⟩⟩) (by rw [hac]; omega) (by show (acc.push (Value.ref h.objs.size)).size ≤ sizeLine + 1; rw [Array.size_push, hac]; omega)
    · refine List.pairwise_append.mpr ⟨hG.up, List.pairwise_singleton _ _, fun t ht b hb => ?_⟩
      rw [List.mem_singleton.mp hb]
      obtain ⟨j, hj⟩ := List.mem_iff_getElem?.mp ht
      obtain ⟨_, _, _, _, e⟩ := hG.at' j t hj
      exact Heap.lt_size e
    · intro t ht
      rcases List.mem_append.mp ht with ht | ht
      · exact hG.hi t ht
      · rw [List.mem_singleton.mp ht]
        exact hSl
    · intro j t hj
      rcases Nat.lt_or_ge j ts.length with hj1 | hj1
      · rw [List.getElem?_append_left hj1] at hj
        obtain ⟨u, v, e1, e2, e3⟩ := hG.at' j t hj
        obtain ⟨g1, g2, g3, g4⟩ := hab t (List.mem_of_getElem? hj)
        exact ⟨u, v, e1, e2, set' t _ (Nat.ne_of_gt (hG.hi t (List.mem_of_getElem? hj))) (k' t _ (Nat.ne_of_gt g1) (Nat.ne_of_gt g2) (Nat.ne_of_gt g3) (Nat.ne_of_gt g4) e3)⟩
      · have hjl : j < (ts ++ [h.objs.size]).length := (List.getElem?_eq_some_iff.mp hj).1
        rw [List.length_append, List.length_singleton] at hjl
        have hje : j = ts.length := by omega
        subst hje
        have e0 : h.objs.size = t := by simpa using hj
        subst e0
        rw [hts]
        exact ⟨_, _, hu, hv, hpn⟩
    · intro t ht
      rcases List.mem_append.mp ht with ht | ht
      · exact hab t ht
      · rw [List.mem_singleton.mp ht]
        exact ⟨z1, z2, z3, z4⟩
end
theorem ne_up {b N : Nat} (k : Nat) (h : b < N) : b ≠ N + k := Nat.ne_of_lt (Nat.lt_of_lt_of_le h (Nat.le_add_right N k))
theorem zip_nolen : typeLookup (.type "zip") "__len__" = pure none := by rw [typeLookup_type, builtinLookup_eq_fast]; kernel_rfl
theorem zip_nohint : typeLookup (.type "zip") "__length_hint__" = pure none := by rw [typeLookup_type, builtinLookup_eq_fast]; kernel_rfl
section
variable {A : Around} {E : Value → Shared → Prop} {s : Shared}
theorem zip_listed {z TI TO i1 i2 l1 l2 : Addr} {xs ys : Array Value} {Q : Value → Shared → Prop} (hh : A.handled = none) (D : ZipApart z TI TO i1 i2 l1 l2) (x : ZSt s.heap z TI TO i1 i2 l1 l2 s.heap.objs.size xs ys 0) (hz : IsZip s.heap z TI TO .none) (hto : ∃ u v, IsPair s.heap TO u v) (hlen : xs.size = ys.size) (hn : xs.size ≤ sizeLine)
    (hQ : ∀ (h' : Heap) (acc : Array Value) (c : Nat) (ts : List Addr), (∀ b o, b ≠ z → b ≠ TO → b ≠ i1 → b ≠ i2 → s.heap.get? b = some o → h'.get? b = some o) → h'.get? s.heap.objs.size = some { cls := .type "list", dict := none, data := .seq acc c, slots := #[] } → ts.length = xs.size → ZG xs ys s.heap.objs.size h' ts → acc.toList = ts.map Value.ref → Q (.ref s.heap.objs.size) { s with heap := h' }) :
    wpAny (model P w) A (call (.type "list") [.ref z]) Q E s := by
  obtain ⟨p0, q0, hto⟩ := hto
  have lz := Heap.lt_size hz
  have lto := Heap.lt_size hto
  have lti := Heap.lt_size x.ti
  have li1 : i1 < s.heap.objs.size := let ⟨_, e, _⟩ := x.a1; Heap.lt_size e
  have li2 : i2 < s.heap.objs.size := let ⟨_, e, _⟩ := x.a2; Heap.lt_size e
  have ll1 : l1 < s.heap.objs.size := let ⟨_, e, _⟩ := x.b1; Heap.lt_size e
  have ll2 : l2 < s.heap.objs.size := let ⟨_, e, _⟩ := x.b2; Heap.lt_size e
  have L : ZLow z TI TO i1 i2 l1 l2 s.heap.objs.size := ⟨Nat.ne_of_lt lz, Nat.ne_of_lt lti, Nat.ne_of_lt lto, Nat.ne_of_lt li1, Nat.ne_of_lt li2, Nat.ne_of_lt ll1, Nat.ne_of_lt ll2⟩
  refine callType_codes (Q₁ := fun o t => o = .ref s.heap.objs.size ∧ t = { s with heap := s.heap.push { cls := .type "list", data := .seq #[] } }) PySem.F.called_list (PySem.F.typeCall_list_1 _) PySem.F.entry_list_init
    (code_list_new _ ⟨rfl, rfl⟩) fun o t ht => ?_
  obtain ⟨rfl, rfl⟩ := ht
  generalize hSS : s.heap.objs.size = S at *
  have hS0 : (s.heap.push { cls := .type "list", data := .seq #[] }).get? S = some { cls := .type "list", data := .seq #[] } := by rw [← hSS]; exact Heap.get?_push_size _ rfl
  have k0 : ∀ b o, s.heap.get? b = some o → (s.heap.push { cls := .type "list", data := .seq #[] }).get? b = some o := fun b o e => Heap.get?_push_of_some _ e
  refine ⟨⟨_, hS0, rfl⟩, PySem.F.args_list_init_2 _ _, ?_⟩
  generalize s.heap.push { cls := .type "list", data := .seq #[] } = g0 at hS0 k0 ⊢
  show wpAny _ _ (do let old ← Builtin.List.listItems (.ref S); Builtin.List.listUpdate (.ref S) (fun _ => #[]); letGo old.toList.reverse; Builtin.List.listExtendWith (.ref S) (.ref z) .none) _ _ _
  refine wpAny_bind ?_
  unfold Builtin.List.listItems
  refine wpAny_bind (wpAny_seqItems hS0 rfl (wpAny_pure ?_))
  show wpAny _ _ (updateSeq S (fun _ => #[]) >>= fun _ => letGo (#[] : Array Value).toList.reverse >>= fun _ => Builtin.List.listExtendWith (.ref S) (.ref z) .none) _ _ _
  refine wpAny_bind (wpAny_updateSeq hS0 rfl ?_)
  have hS1 := Heap.get?_update_self (Obj.mapSeq (fun _ => (#[] : Array Value))) hS0 rfl
  have nS : ∀ (g : Heap) (F : Obj → Obj) b o, b ≠ S → g.get? b = some o → (g.update S F).get? b = some o := fun g F b o hb e => (Heap.get?_update_other _ _ hb.symm).trans e
  have k1 : ∀ b o, b ≠ S → s.heap.get? b = some o → (g0.update S (Obj.mapSeq (fun _ => (#[] : Array Value)))).get? b = some o := fun b o hb e => nS _ _ b o hb (k0 b o e)
  generalize g0.update S (Obj.mapSeq (fun _ => (#[] : Array Value))) = g1 at hS1 k1 ⊢
  refine wpAny_bind (wpAny_letGo ?_)
  have z1 : IsZip g1 z TI TO .none := k1 _ _ L.z hz
  have T1 : Shared.TypeIs { s with heap := g1 } (.ref z) "zip" := ⟨_, z1, rfl⟩
  unfold Builtin.List.listExtendWith
  refine wpAny_bind (wpAny_typeOf T1 ?_)
  have f1 : Builtin.List.listSameRef (.ref S) (.ref z) = false := by simp [Builtin.List.listSameRef, L.z.symm]
  have f2 : (Value.type "zip" == Value.type "list") = false := by decide
  have f3 : (Value.type "zip" == Value.type "tuple") = false := by decide
  simp only [f1, f2, f3, Bool.or_false, Bool.false_eq_true, if_false]
  refine wpAny_bind (wpAny_pyIter_zip (s := { s with heap := g1 }) z1 ?_)
  refine wpAny_bind (wpAny_holding ?_)
  unfold Builtin.List.listLengthHint
  refine wpAny_bind (wpAny_specialOf T1 zip_nolen ?_)
  show wpAny _ _ (specialOf (Value.ref z) (Str.ofString "__length_hint__") >>= _) _ _ _
  refine wpAny_bind (wpAny_specialOf T1 zip_nohint ?_)
  refine wpAny_pure ?_
  show wpAny _ _ (rule "list.extend.makes-room" >>= fun _ => Builtin.List.listTouch (.ref S) >>= fun _ => again (.builtin "list.extend.loop" ⟨[.ref S, .ref z, .none], []⟩)) _ _ _
  refine wpAny_bind (wpAny_rule ?_)
  refine wpAny_bind ?_
  show wpAny _ _ (updateSeq S (·.push .none) >>= fun _ => updateSeq S (·.pop)) _ _ _
  refine wpAny_bind (wpAny_updateSeq hS1 rfl ?_)
  have hS2 := Heap.get?_update_self (Obj.mapSeq (·.push Value.none)) hS1 rfl
  refine wpAny_updateSeq (hz := by seq_fits) hS2 rfl ?_
  have hS3 := Heap.get?_update_self (Obj.mapSeq (·.pop)) hS2 rfl
  have k3 : ∀ b o, b ≠ S → s.heap.get? b = some o → ((g1.update S (Obj.mapSeq (·.push Value.none))).update S (Obj.mapSeq (·.pop))).get? b = some o := fun b o hb e => nS _ _ b o hb (nS _ _ b o hb (k1 b o hb e))
  generalize (g1.update S (Obj.mapSeq (·.push Value.none))).update S (Obj.mapSeq (·.pop)) = g3 at hS3 k3 ⊢
  have gl := Heap.lt_size hS3
  refine wpAny_pure ⟨plainId_quiet PySem.F.plain_extend_loop _, zip_drain (s := s) (h₀ := s.heap) (S := S) (A := A.in1) hh D L hlen hn (fun h' acc c ts k hS' hl hG hacc => ⟨rfl, hQ h' acc c ts (fun b o n2 n3 n4 n5 e => k b o (by rw [← hSS]; exact Nat.ne_of_lt (Heap.lt_size e)) n2 n3 n4 n5 e) hS' hl hG hacc⟩) xs.size 0 g3 _ #[] [] (Nat.zero_add _)
    ?_ (fun b o n1 _ _ _ _ e => k3 b o n1 e) hS3 rfl rfl ⟨List.Pairwise.nil, (fun _ h => nomatch h), fun j t hj => (by simp at hj)⟩ (fun _ h => nomatch h) ⟨Nat.lt_trans lz gl, Nat.lt_trans lto gl, Nat.lt_trans li1 gl, Nat.lt_trans li2 gl⟩⟩
  · exact ⟨k3 _ _ L.ti x.ti, x.a1.at fun o e => k3 _ o L.i1 e, x.a2.at fun o e => k3 _ o L.i2 e, x.b1.at fun o e => k3 _ o L.l1 e, x.b2.at fun o e => k3 _ o L.l2 e, .inl ⟨k3 _ _ L.z hz, p0, q0, k3 _ _ L.to hto⟩⟩
end
theorem vals_ix {xs : List V} {us : List Value} (h : Vals xs us) : ∀ {j : Nat} {u : Value}, us[j]? = some u → ∃ v, xs[j]? = some v ∧ RelV v u := by
  induction h with
  | nil => intro j u h; cases h
  | cons r _ ih =>
    intro j u h
    cases j with
    | zero => exact ⟨_, rfl, Option.some.inj h ▸ r⟩
    | succ j => exact ih h
def tListZip (K : PySem.W.Frag) (ta : L2.St → Hp → (List V → Hp → Prop) → Prop) : TE := fun σ H Q => ta σ H fun vs H1 => ∃ (a b : Addr) (xs ys : List V), vs = [.ref a, .ref b] ∧ SqL K H1 a xs ∧ SqL K H1 b ys ∧ xs.length = ys.length ∧
  ∀ (H' : Hp) (p : Addr) (ts : List Addr), Same H1 H' → H1 p = none → (∀ t, t ∈ ts → H1 t = none) → H' p = some (.lst (ts.map V.ref)) → Paired (fun (t : Addr) (q : V × V) => H' t = some (.tup [q.1, q.2])) ts (xs.zip ys) → Q (.ref p) H'
theorem pe_listZip {X : Cx} {e1 e2 : Expr} {ta : L2.St → Hp → (List V → Hp → Prop) → Prop} {p1 p2 p3 pos : Pos} (hc : X.calm = true) (hg : Gl X "list") (hm : X.mg "list" = none) (hg2 : Gl X "zip") (hm2 : X.mg "zip" = none) (ha : PA X [e1, e2] ta)
    (hs : starEach [.Call (.Name "zip" p2) [e1, e2] [] p3] X.env = (false, eval (.Call (.Name "zip" p2) [e1, e2] [] p3) X.env) :: starEach [] X.env := by rfl)
    (hs2 : starEach [e1, e2] X.env = (false, eval e1 X.env) :: starEach [e2] X.env := by rfl) (hpl : (backTo p3 (starEach [e2] X.env)).any (·.1) = false := by rfl) :
    PE X (.Call (.Name "list" p1) [.Call (.Name "zip" p2) [e1, e2] [] p3] [] pos) (tListZip X.K ta) := by
  refine ⟨fun pins s σ H Q I hq => ?_⟩
  refine wpAny_Call_Name_kw (ld_blt I hg hm PyProof.Rows.boot_list ?_)
  refine PyProof.Rows.callWith_type1 ?_ hs rfl
  rw [hs]
  show wpAny _ _ (spliced ((false, eval (.Call (.Name "zip" p2) [e1, e2] [] p3) X.env) :: backTo pos (starEach [] X.env))) _ _ s
  refine Calls.spliced_cons ?_
  refine Call_ (ld_blt I hg2 hm2 PyProof.Rows.boot_zip (PyProof.Rows.callWith_type1 (thn (ha.run p3 pins s σ H _ I hq) fun us s1 ⟨vs, H1, I1, r1, q1⟩ => ?_) hs2 hpl))
  obtain ⟨a, b, xs, ys, ex, hqx, hqy, hxy, q⟩ := q1
  subst ex
  cases r1 with
  | cons r rr =>
    cases rr with
    | cons r' rr =>
      cases rr
      cases r
      cases r'
      obtain ⟨us1, rv1, p1', hz1⟩ := I1.list hqx
      obtain ⟨us2, rv2, p2', hz2⟩ := I1.list hqy
      have la : a < s1.heap.objs.size := p1'.lt
      have lb : b < s1.heap.objs.size := p2'.lt
      refine call_zip_2 p1'.isList p2'.isList fun h1 gz gti gto g1 g2 gsz gk => ?_
      have D := PySem.W.ktu_apart s1.heap.objs.size a b la lb
      have I2 : Inv X pins σ H1 { s1 with heap := h1 } := I1.kept (t' := s1.toks) gk
      refine Calls.spliced_nil ?_
      have ll : us1.toArray.size = us2.toArray.size := by
        have e1 := rv1.length
        have e2 := rv2.length
        rw [List.size_toArray, List.size_toArray]
        omega
      have ln : us1.toArray.size ≤ sizeLine := by
        have e1 := rv1.length
        rw [List.size_toArray]
        omega
      refine zip_listed (s := { s1 with heap := h1 }) (xs := us1.toArray) (ys := us2.toArray) (I1.ok.hd hc) D ⟨gti, g1, g2, p1'.isList.at fun o e => gk _ o e, p2'.isList.at fun o e => gk _ o e, .inl ⟨gz, _, _, gto⟩⟩ gz ⟨_, _, gto⟩ ll ln fun h2 acc c ts k2 hS2 hl2 hG2 hacc => ?_
      dsimp only at k2 hS2 hG2 ⊢
      have lS : s1.heap.objs.size < h1.objs.size := by
        rw [gsz]
        exact Nat.lt_add_of_pos_right (by decide)
      generalize hSS : h1.objs.size = S at *
      have kk : ∀ b o, s1.heap.get? b = some o → h2.get? b = some o := fun b o e => by
        have lb := Heap.lt_size e
        refine k2 b o (ne_up 4 lb) (ne_up 3 lb) (Nat.ne_of_lt lb) (ne_up 1 lb) (gk b o e)
      have tl : ts.length = (xs.zip ys).length := by
        have e1 := rv1.length
        rw [List.length_zip, hl2, List.size_toArray]
        omega
      have nd : ts.Nodup := List.Pairwise.imp (fun {x y} (h : x < y) => Nat.ne_of_lt h) hG2.up
      have newt : ∀ t, t ∈ ts → H1 t = none := fun t ht => I1.hok.fresh (Nat.le_of_lt (Nat.lt_trans lS (hG2.hi t ht)))
      have newS : H1 S = none := I1.hok.fresh (Nat.le_of_lt lS)
      have nS : S ∉ ts := fun z => Nat.lt_irrefl _ (hG2.hi _ z)
      have off : ∀ c, c ∉ ts → c ≠ S → putP (upd H1 S (.lst (ts.map V.ref))) ts (xs.zip ys) c = H1 c := fun c n1 n2 => by rw [putP_off _ _ _ n1, upd_ne n2]
      have eS : putP (upd H1 S (.lst (ts.map V.ref))) ts (xs.zip ys) S = some (.lst (ts.map V.ref)) := by rw [putP_off _ _ _ nS, upd_same]
      have atP := putP_at ts (xs.zip ys) (upd H1 S (.lst (ts.map V.ref))) tl nd
      have kp : ∀ c u, H1 c = some u → putP (upd H1 S (.lst (ts.map V.ref))) ts (xs.zip ys) c = some u := fun c u e => by
        rw [off c (fun z => by rw [newt c z] at e; cases e) fun z => by rw [z, newS] at e; cases e]
        exact e
      have low : ∀ c o, s1.heap.get? c = some o → c ∉ ts ∧ c ≠ S := fun c o e => ⟨fun z => Nat.lt_irrefl _ (Nat.lt_trans (Heap.lt_size e) (Nat.lt_trans lS (hG2.hi c z))), Nat.ne_of_lt (Nat.lt_trans (Heap.lt_size e) lS)⟩
      generalize hHH : putP (upd H1 S (.lst (ts.map V.ref))) ts (xs.zip ys) = HH at *
      have J : Inv X pins σ HH { s1 with heap := h2 } := by
        refine I1.call' (ch := []) rfl ⟨fun b o e _ _ _ => kk b o e, fun b o e _ _ _ => ⟨o.slots, kk b o e⟩, fun b o e n _ => ?_, fun b o e _ => ⟨o, kk b o e⟩, fun b xs e => kp b _ e, fun b o u e => kp b _ e, fun b ps e => ⟨#[], by rw [kp b _ e]; simp⟩⟩
          (fun b u e => ?_) I1.bare (fun b z => by simp at z)
        · obtain ⟨n1, n2⟩ := low b o e
          rw [off b n1 n2]
          exact n
        · by_cases hb : b ∈ ts
          · obtain ⟨j, qk, e1, e2, e3⟩ := LiI.paired_ix atP hb
            rw [e3] at e
            cases e
            obtain ⟨u1, u2, f1, f2, f3⟩ := hG2.at' j b e1
            rw [List.getElem?_toArray] at f1 f2
            obtain ⟨v1, w1, w2⟩ := vals_ix rv1 f1
            obtain ⟨v2, w3, w4⟩ := vals_ix rv2 f2
            have e2' := List.getElem?_zip_eq_some.mp e2
            obtain rfl := Option.some.inj (e2'.1.symm.trans w1)
            obtain rfl := Option.some.inj (e2'.2.symm.trans w3)
            exact ⟨by show 2 ≤ sizeLine; decide, [u1, u2], .cons w2 (.cons w4 .nil), ⟨_, f3, rfl, _, rfl⟩⟩
          · by_cases hb2 : b = S
            · rw [hb2] at e ⊢
              rw [eS] at e
              cases e
              refine ⟨by rw [List.length_map, hl2]; exact ln, acc.toList, c, by rw [hacc]; exact LiI.vals_refs ts, ?_⟩
              rw [Array.toArray_toList]
              exact hS2
            · rw [off b hb hb2] at e
              exact (I1.hok b u e).stay (fun d v _ y => kk d v y) (fun d y => kp d _ y) fun d xs y => kp d _ y
      exact ⟨.ref S, HH, J, rfl, q HH S ts kp newS newt eS atP⟩

/-! ### a path among houses that are all owed something -/
/-- each house of the path is owed by the next one -/
def PathOk (f : Nat → Nat → Int) (ws p : List Nat) (d : Nat) : Prop := p ≠ [] ∧ p.Nodup ∧ (∀ x, x ∈ p → x ∈ ws) ∧ (∀ (i : Nat) a b, p[i]? = some a → p[i + 1]? = some b → debF f ws a = some b) ∧ ∃ a, p.getLast? = some a ∧ debF f ws a = some d
theorem path_push {f : Nat → Nat → Int} {ws p : List Nat} {d d2 : Nat} (h : PathOk f ws p d) (hd : d ∉ p) (hw : d ∈ ws) (h2 : debF f ws d = some d2) : PathOk f ws (p ++ [d]) d2 := by
  obtain ⟨h1, hn, hin, hst, a, ha, had⟩ := h
  refine ⟨fun z => (by cases p <;> cases z), ?_, fun x hx => ?_, fun i u v hu hv => ?_, d, List.getLast?_concat, h2⟩
  · rw [List.nodup_append]
    exact ⟨hn, List.nodup_cons.mpr ⟨fun z => (by cases z), List.nodup_nil⟩, fun x hx y hy e => hd (by rw [List.mem_singleton] at hy; rw [← hy, ← e]; exact hx)⟩
  · rcases List.mem_append.mp hx with z | z
    · exact hin x z
    · rw [List.mem_singleton.mp z]
      exact hw
  · by_cases hi : i + 1 < p.length
    · rw [List.getElem?_append_left (by omega)] at hu
      rw [List.getElem?_append_left hi] at hv
      exact hst i u v hu hv
    · have hlen : i + 1 < (p ++ [d]).length := (List.getElem?_eq_some_iff.mp hv).1
      rw [List.length_append] at hlen
      have hlen : i + 1 < p.length + 1 := hlen
      have hip : i + 1 = p.length := by omega
      rw [hip, List.getElem?_append_right (Nat.le_refl _), Nat.sub_self] at hv
      have hv : some d = some v := hv
      rw [List.getElem?_append_left (by omega)] at hu
      rw [List.getLast?_eq_getElem?, show p.length - 1 = i by omega, hu] at ha
      rw [Option.some.inj ha, ← Option.some.inj hv]
      exact had
/-- a list without repeats within another is no longer -/
theorem nodup_le : ∀ {a b : List Nat}, a.Nodup → (∀ x, x ∈ a → x ∈ b) → a.length ≤ b.length
  | [], _, _, _ => Nat.zero_le _
  | x :: a, b, h, hs => by
    obtain ⟨h1, h2⟩ := List.nodup_cons.mp h
    have hx := hs x List.mem_cons_self
    have ih := nodup_le (a := a) (b := b.erase x) h2 fun y hy => by
      have hne : y ≠ x := fun z => h1 (by rw [← z]; exact hy)
      exact (List.mem_erase_of_ne hne).mpr (hs y (List.mem_cons_of_mem _ hy))
    rw [List.length_erase_of_mem hx] at ih
    have hpos : 0 < b.length := List.length_pos_of_mem hx
    rw [List.length_cons]
    omega
theorem ring_ok {f : Nat → Nat → Int} {ws p : List Nat} {d i : Nat} (h : PathOk f ws p d) (hi : p[i]? = some d) : ∀ q, q ∈ cycL (p.drop i) → 0 < f q.1 q.2 := by
  obtain ⟨h1, hn, hin, hst, a, ha, had⟩ := h
  have pos : ∀ {x y : Nat}, debF f ws x = some y → 0 < f y x := fun {x y} hxy => by
    have h2 : (fun d => decide (0 < f d x)) y = true := List.find?_some (p := fun d => decide (0 < f d x)) hxy
    exact of_decide_eq_true h2
  have hil : i < p.length := (List.getElem?_eq_some_iff.mp hi).1
  intro q hq
  obtain ⟨k, hk, hkq⟩ := List.getElem_of_mem hq
  have hq2 : (cycL (p.drop i))[k]? = some q := by rw [List.getElem?_eq_getElem hk, hkq]
  unfold cycL at hq2
  rw [List.getElem?_zip_eq_some] at hq2
  obtain ⟨e1, e2⟩ := hq2
  rw [List.getElem?_drop] at e2
  have hkl : i + k < p.length := (List.getElem?_eq_some_iff.mp e2).1
  by_cases hlast : i + k + 1 < p.length
  · rw [List.getElem?_append_left (by rw [List.length_drop, List.length_drop]; omega), List.getElem?_drop, List.getElem?_drop] at e1
    have e1 : p[i + k + 1]? = some q.1 := by rw [← e1]; congr 1; omega
    exact pos (hst (i + k) q.2 q.1 e2 e1)
  · have hkk : i + k = p.length - 1 := by omega
    rw [List.getElem?_append_right (by rw [List.length_drop, List.length_drop]; omega)] at e1
    rw [List.length_drop, List.length_drop, show k - (p.length - i - 1) = 0 by omega, List.getElem?_take_of_lt (by omega), List.getElem?_drop, Nat.add_zero, hi] at e1
    rw [List.getLast?_eq_getElem?, ← hkk, e2] at ha
    rw [← Option.some.inj e1, Option.some.inj ha]
    exact pos had
theorem intsN_len (ws : List Nat) : (intsN ws).length = ws.length := by
  unfold intsN
  rw [List.length_map]
theorem cutN_from {ws : List Nat} {i : Nat} (h : i ≤ ws.length) : cutV (intsN ws) (some (i : Int)) none = intsN (ws.drop i) := by
  have hm : HT.sIx (intsN ws).length 0 (some (i : Int)) = i := by
    rw [HT.sIx_nat, intsN_len]
    omega
  unfold cutV
  rw [hm, HT.sIx_none, List.take_of_length_le (by rw [List.length_drop]; exact Nat.le_refl _)]
  unfold intsN
  rw [List.map_drop]
theorem cutN_one {ws : List Nat} (h : 1 ≤ ws.length) : cutV (intsN ws) none (some 1) = intsN (ws.take 1) := by
  have hm : HT.sIx (intsN ws).length (intsN ws).length (some 1) = 1 := by
    rw [show (1 : Int) = ((1 : Nat) : Int) from rfl, HT.sIx_nat, intsN_len]
    omega
  unfold cutV
  rw [hm, HT.sIx_none, List.drop_zero]
  unfold intsN
  rw [List.map_take]
theorem cyc_tups {H : Hp} {p : Addr} {ts : List Addr} {r : List Nat} (h : H p = some (.lst (ts.map V.ref))) (hp : Paired (fun (t : Addr) (q : V × V) => H t = some (.tup [q.1, q.2])) ts ((intsN (r.drop 1) ++ intsN (r.take 1)).zip (intsN r))) : Tups encP H p ts (cycL r) := by
  have e : (intsN (r.drop 1) ++ intsN (r.take 1)).zip (intsN r) = (cycL r).map fun q => (V.int (q.1 : Int), V.int (q.2 : Int)) := by
    unfold cycL intsN
    rw [← List.map_append, List.zip_map]
    rfl
  rw [e] at hp
  have hl := Paired.length hp
  rw [List.length_map] at hl
  refine ⟨h, hl, fun i t q h1 h2 => ?_⟩
  obtain ⟨y, h3, h4⟩ := LiI.paired_get hp h1
  rw [List.getElem?_map, h2] at h3
  obtain rfl := Option.some.inj h3
  exact h4
def sp_ring_among (K : PySem.W.Frag) : Sp := fun vs H Q _ => ∃ (t l : Addr) (ps : List Addr) (n : Nat) (f : Nat → Nat → Int) (ws : List Nat), vs = [.ref t, .ref l] ∧ Tab H t ps n f ∧ n ≤ 13 ∧ H l = some (.lst (intsN ws)) ∧ (∀ w, w ∈ ws → w < n) ∧ ws.Nodup ∧ ws ≠ [] ∧ unF f ws = none ∧
  ∀ (p : Addr) (H' : Hp) (rps : List Addr) (r : List Nat), Same H H' → H p = none → Tups encP H' p rps (cycL r) → r ≠ [] → r.Nodup → (∀ x, x ∈ r → x ∈ ws) → (∀ q, q ∈ cycL r → 0 < f q.1 q.2) → Q (.ref p) H'
set_option maxHeartbeats 0 in
theorem ok_ring_among (T : Txt K mg) : FnOk P w K mg base CX0 2 T.f_ring_among T.d_ring_among ["debts", "houses"] (sp_ring_among K) := by
  refine T.F_ring_among.ok sc_ring_among (fun vs H Q E h => ?_) (fun cdv A outer s H vs Q E hr h => ?_)
  · obtain ⟨t, l, ps, n, f, ws, rfl, _⟩ := h
    rfl
  · obtain ⟨t, l, ps, n, f, ws, rfl, ht, hn, hl, hw, hnd, hne, hu, q⟩ := h
    have G_first_debtor : FnOk P w K mg base CX0 1 T.f_first_debtor T.d_first_debtor ["debts", "houses", "creditor"] (sp_first_debtor K) := ok_first_debtor T
    refine ⟨_, (pss_cons (ps_set (i := 2) sc_ring_among.nd rfl (Or.inl rfl) (pe_lst (pa_cons (pe_ix ix_list (pv 1) pe_int (fun _ _ => rfl)) pa_nil)))
    (pss_cons (ps_set (i := 3) sc_ring_among.nd rfl (Or.inl rfl) (pe_call G_first_debtor hr (by rfl) T.m_first_debtor T.F_first_debtor.kp T.b_first_debtor .nil pass0 (pa_cons (pv 0) (pa_cons (pv 1) (pa_cons (pe_ix ix_list (pv 1) pe_int (fun _ _ => rfl)) pa_nil)))))
    (pss_cons (ps_while PassesOwn.never (pt_cmpR op_notIn_seq (pv 3) (pv 2) rfl)
      (pss_cons (ps_expr (pe_bm PySem.F.plainAttrs_list PySem.F.slot_list_append PySem.F.type_list_append mt_append (pv 2) (pa_cons (pv 3) pa_nil)))
      (pss_one (ps_set (i := 3) sc_ring_among.nd rfl (Or.inl rfl) (pe_call G_first_debtor hr (by rfl) T.m_first_debtor T.F_first_debtor.kp T.b_first_debtor .nil pass0 (pa_cons (pv 0) (pa_cons (pv 1) (pa_cons (pv 3) pa_nil))))))))
    (pss_cons (ps_set (i := 4) sc_ring_among.nd rfl (Or.inl rfl) (pe_slice sl_list (pv 2) (po_some (pe_bm PySem.F.plainAttrs_list PySem.F.slot_list_index PySem.F.type_list_index mt_index (pv 2) (pa_cons (pv 3) pa_nil))) po_none))
    (pss_one (ps_ret (pe_listZip rfl (by rfl) T.z_list (by rfl) T.z_zip (pa_cons (pe_op op_cat (pe_slice sl_list (pv 4) (po_some pe_int) po_none) (pe_slice sl_list (pv 4) po_none (po_some pe_int))) (pa_cons (pv 4) pa_nil))))))))), ?_⟩
    have hls := SqL.of (K := K) hl
    have nx : ∀ h, h ∈ ws → ∃ d, debF f ws h = some d ∧ d ∈ ws := fun h hh => by
      unfold unF at hu
      have h1 := List.find?_eq_none.mp hu h hh
      cases hd : debF f ws h with
      | none => rw [hd] at h1; exact absurd rfl h1
      | some d => exact ⟨d, rfl, List.mem_of_find?_eq_some hd⟩
    have hwl : ws.length ≤ n := by
      have := nodup_le hnd fun x hx => List.mem_range.mpr (hw x hx)
      rw [List.length_range] at this
      exact this
    obtain ⟨w0, wr, hw0⟩ : ∃ w0 wr, ws = w0 :: wr := by
      cases ws with
      | nil => exact absurd rfl hne
      | cons a b => exact ⟨a, b, rfl⟩
    have hm0 : w0 ∈ ws := by rw [hw0]; exact List.mem_cons_self
    have hat0 : atI (intsN ws) 0 = some (V.int (w0 : Int)) := by rw [hw0]; exact at_of (j := 0) rfl rfl
    obtain ⟨d0, hd0, hdm0⟩ := nx w0 hm0
    walk_at "st"
    intro Pp nP
    generalize hH1 : upd H Pp _ = H1
    have s1 : Same H H1 := hH1 ▸ same_upd nP
    have hP : H1 Pp = some (.lst (intsN [w0])) := (congrFun hH1 Pp).symm.trans upd_same
    have hls1 := s1.seq hls
    have ht1 := ht.same s1
    have hl1 := s1 _ _ hl
    walk_at "st"
    refine ⟨ps, n, f, ws, w0, rfl, ht1, hl1, hw, hw w0 hm0, ?_⟩
    rw [hd0, show optN (some d0) = V.int (d0 : Int) from rfl]
    walk_at "st"
    refine ⟨fun m σ H' => ∃ (p : List Nat) (d : Nat), σ = [some (.ref t), some (.ref l), some (.ref Pp), some (.int (d : Int)), none] ∧ m = ws.length - p.length ∧ Same H H' ∧ H' Pp = some (.lst (intsN p)) ∧ PathOk f ws p d ∧ d ∈ ws,
      ⟨_, [w0], d0, rfl, rfl, s1, hP, ⟨(fun z => by cases z), List.nodup_cons.mpr ⟨fun z => (by cases z), List.nodup_nil⟩, fun x hx => by rw [List.mem_singleton.mp hx]; exact hm0, fun i a b h1 h2 => (by cases i <;> cases h2), w0, rfl, hd0⟩, hdm0⟩, ?_⟩
    rintro m σ H' ⟨p, d, rfl, rfl, e, hP', hok, hdm⟩
    have hPs := SqL.of (K := K) hP'
    have hpl : p.length ≤ ws.length := nodup_le hok.2.1 hok.2.2.1
    have hib : inV (V.int (d : Int)) (intsN p) = decide ((d : Int) ∈ p.map fun (k : Nat) => (k : Int)) := by
      unfold intsN
      rw [show (p.map fun (k : Nat) => V.int (k : Int)) = (p.map fun (k : Nat) => (k : Int)).map V.int by rw [List.map_map]; rfl]
      exact inV_ints _ _
    have hfl : (intsN p).all flatV = true := by
      unfold intsN
      rw [show (p.map fun (k : Nat) => V.int (k : Int)) = (p.map fun (k : Nat) => (k : Int)).map V.int by rw [List.map_map]; rfl]
      exact flat_ints _
    have hdi : (d : Int) ∈ (p.map fun (k : Nat) => (k : Int)) ↔ d ∈ p := by
      rw [List.mem_map]
      exact ⟨fun ⟨k, hk, e⟩ => by have : k = d := by omega
                                  rw [← this]; exact hk, fun hk => ⟨d, hk, rfl⟩⟩
    walk_at "st"
    refine iteB (fun h => ?_) (fun h => ?_)
    · rw [if_pos rfl, hib] at h
      have hdp : d ∉ p := fun z => (ndec_t h) (hdi.mpr z)
      obtain ⟨d2, hd2, hdm2⟩ := nx d hdm
      have hpush := path_push hok hdp hdm hd2
      have hpl2 : (p ++ [d]).length ≤ ws.length := nodup_le hpush.2.1 hpush.2.2.1
      rw [List.length_append] at hpl2
      have hpl3 : p.length + 1 ≤ ws.length := hpl2
      have hplt : (intsN p).length < sizeLine := small1000 (by unfold intsN; rw [List.length_map]; omega)
      have e2 : ∀ o, Same H (upd H' Pp o) := fun o z v hz => (upd_ne (ne_of_none hz nP)).trans (e z v hz)
      refine ⟨_, fun _ _ h => h, ?_⟩
      walk_at "st"
      refine ⟨ps, n, f, ws, d, rfl, ht.same (e2 _), e2 _ _ _ hl, hw, hw d hdm, ?_⟩
      rw [hd2, show optN (some d2) = V.int (d2 : Int) from rfl]
      walk_at "st"
      refine ⟨?_, p ++ [d], d2, rfl, rfl, e2 _, ?_, hpush, hdm2⟩
      · rw [List.length_append]
        show ws.length - (p.length + 1) < _
        omega
      · rw [upd_same]
        unfold intsN
        rw [List.map_append]
        rfl
    · rw [if_pos rfl, hib] at h
      have hdp : d ∈ p := hdi.mp (ndec_f h)
      obtain ⟨i, hi⟩ := List.getElem?_of_mem hdp
      have hil := (List.getElem?_eq_some_iff.mp hi).1
      have hix1 : (intsN p)[i]? = some (V.int (d : Int)) := by unfold intsN; rw [List.getElem?_map, hi]; rfl
      have hix2 : eqV (V.int (d : Int)) (V.int (d : Int)) = true := by rw [eqV_ints]; exact decide_eq_true rfl
      have hix3 : ∀ (m : Nat) (z' : V), m < i → (intsN p)[m]? = some z' → eqV z' (V.int (d : Int)) = false := fun m z' hm hz => by
        obtain ⟨k, hk, rfl⟩ := intsN_at hz
        rw [eqV_ints]
        refine decide_eq_false fun z => ?_
        have hkd : k = d := by omega
        rw [hkd] at hk
        have := (List.getElem?_inj (by omega) hok.2.1).mp (hk.trans hi.symm)
        omega
      walk_at "st"
      intro R nR
      rw [cutN_from (by omega)]
      have hro := ring_ok hok hi
      have hr1 : 1 ≤ (p.drop i).length := by rw [List.length_drop]; omega
      have hrnd : (p.drop i).Nodup := (List.drop_sublist i p).nodup hok.2.1
      have hrin : ∀ x, x ∈ p.drop i → x ∈ ws := fun x hx => hok.2.2.1 x (List.mem_of_mem_drop hx)
      have hrl : (p.drop i).length ≤ ws.length := nodup_le hrnd hrin
      generalize p.drop i = r at *
      generalize hH2 : upd H' R _ = H2
      have s2 : Same H' H2 := hH2 ▸ same_upd nR
      have hR := SqL.of (K := K) ((congrFun hH2 R).symm.trans upd_same)
      walk_at "st"
      intro R1 nR1
      rw [show (1 : Int) = ((1 : Nat) : Int) from rfl, cutN_from hr1]
      generalize hH3 : upd H2 R1 _ = H3
      have s3 : Same H2 H3 := hH3 ▸ same_upd nR1
      have hR1 := (congrFun hH3 R1).symm.trans upd_same
      have hR3 := s3.seq hR
      walk_at "st"
      intro R2 nR2
      rw [show ((1 : Nat) : Int) = (1 : Int) from rfl, cutN_one hr1]
      generalize hH4 : upd H3 R2 _ = H4
      have s4 : Same H3 H4 := hH4 ▸ same_upd nR2
      have hR2 := (congrFun hH4 R2).symm.trans upd_same
      have hR1b := s4 _ _ hR1
      have hR4 := s4.seq hR3
      have hsz : (intsN (r.drop 1)).length + (intsN (r.take 1)).length ≤ sizeLine := len_le (Nat.ble_eq_true_of_le (by rw [intsN_len, intsN_len, List.length_drop, List.length_take]; omega))
      walk_at "st"
      intro R5 nR5
      generalize hH5 : upd H4 R5 _ = H5
      have s5 : Same H4 H5 := hH5 ▸ same_upd nR5
      have hR5 := SqL.of (K := K) ((congrFun hH5 R5).symm.trans upd_same)
      have hR55 := s5.seq hR4
      have hzl : (intsN (r.drop 1) ++ intsN (r.take 1)).length = (intsN r).length := by
        rw [List.length_append, intsN_len, intsN_len, intsN_len, List.length_drop, List.length_take]
        omega
      walk_at "st"
      intro H6 p6 ts6 e6 np6 _ hp6 hP6
      have eall : Same H H6 := (((((e.trans s2).trans s3).trans s4).trans s5).trans e6)
      exact q p6 H6 ts6 r eall (((((e.trans s2).trans s3).trans s4).trans s5).free np6) (cyc_tups hp6 hP6) (fun z => by rw [z] at hr1; exact absurd hr1 (by decide)) hrnd hrin hro

theorem cyc_in {r : List Nat} {p : Nat × Nat} (h : p ∈ cycL r) : p.1 ∈ r ∧ p.2 ∈ r := by
  have h1 : p.1 ∈ (cycL r).map (·.1) := List.mem_map.mpr ⟨p, h, rfl⟩
  have h2 : p.2 ∈ (cycL r).map (·.2) := List.mem_map.mpr ⟨p, h, rfl⟩
  have h3 := (cyc_perm r).subset h1
  rw [cyc_snd] at h2 h3
  exact ⟨h3, h2⟩
theorem cyc_length (r : List Nat) : (cycL r).length = r.length := by
  have := congrArg List.length (cyc_snd r)
  rw [List.length_map] at this
  exact this
theorem rg_ints (n : Nat) : rgV 0 (n : Int) = intsN (List.range n) := by
  unfold rgV intsN
  rw [show ((n : Int) - 0).toNat = n by omega]
  refine List.map_congr_left fun i _ => ?_
  rw [Int.zero_add]
theorem intsN_two (ws : List Nat) : intsN ws = (ws.map fun (k : Nat) => (k : Int)).map V.int := by
  unfold intsN
  rw [List.map_map]
  rfl
theorem find_at {α : Type} {p : α → Bool} : ∀ {ws : List α} {x : α}, ws.find? p = some x → ∃ i, ws[i]? = some x ∧ p x = true ∧ ∀ y, y ∈ ws.take i → p y = false
  | y :: r, x, h => by
    rw [List.find?_cons] at h
    cases hp : p y with
    | true =>
      rw [hp] at h
      obtain rfl := Option.some.inj h
      exact ⟨0, rfl, hp, fun z hz => by rw [List.take_zero] at hz; cases hz⟩
    | false =>
      rw [hp] at h
      obtain ⟨i, h1, h2, h3⟩ := find_at h
      refine ⟨i + 1, h1, h2, fun z hz => ?_⟩
      rw [List.take_succ_cons] at hz
      rcases List.mem_cons.mp hz with e | e
      · rw [e]; exact hp
      · exact h3 z e
theorem Tab.upd_out {H : Hp} {t x : Addr} {ps : List Addr} {n : Nat} {f : Nat → Nat → Int} {o : HO} (h : Tab H t ps n f) (ht : t ≠ x) (hp : x ∉ ps) : Tab (upd H x o) t ps n f :=
  ⟨(upd_ne ht).trans h.lst, h.len, fun i p hi => (upd_ne fun z => hp (by rw [← z]; exact List.mem_of_getElem? hi)).trans (h.row i p hi), h.nod, h.out⟩
def sp_unwind (K : PySem.W.Frag) (C : Addr) : Sp := fun vs H Q E => ∃ (t : Addr) (ps : List Addr) (n : Nat) (fj : Nat → List Int), vs = [.ref t] ∧ JagR H t ps n fj ∧ n ≤ 900 ∧ (∀ i, i < n → (fj i).length ≤ 900) ∧ (DebtsJ n fj → ∀ (p D O : Addr) (H' : Hp), Same H H' → H p = none → H' p = some (.tup [.ref D, .ref O]) → Q (.ref p) H') ∧ (¬ DebtsJ n fj → ∀ H', Same H H' → E (.ref C) none H')
set_option maxHeartbeats 0 in
theorem ok_unwind (T : Txt K mg) : FnOk P w K mg base (L2.CX P w) 4 T.f_unwind T.d_unwind ["owed"] (sp_unwind K T.c_InvalidTrade) := by
  refine T.F_unwind.okX sc_unwind (fun vs H Q E h => ?_) (fun cdv A outer s H vs Q E hr h => ?_)
  · obtain ⟨t, ps, n, fj, rfl, _⟩ := h
    rfl
  · obtain ⟨t, ps, n, fj, rfl, htj, hm9, hl9, q, qe⟩ := h
    have G_check_debts : FnOk P w K mg base (L2.CX P w) 3 T.f_check_debts T.d_check_debts ["owed"] (sp_check_debts K T.c_InvalidTrade) := ok_check_debts T
    have G_first_unowed : FnOk P w K mg base CX0 2 T.f_first_unowed T.d_first_unowed ["debts", "houses"] (sp_first_unowed K) := ok_first_unowed T
    have G_without_ring : FnOk P w K mg base CX0 1 T.f_without_ring T.d_without_ring ["debts", "ring"] (sp_without_ring K) := ok_without_ring T
    have G_ring_among : FnOk P w K mg base CX0 2 T.f_ring_among T.d_ring_among ["debts", "houses"] (sp_ring_among K) := ok_ring_among T
    refine ⟨_, (pss_cons (ps_expr (pe_callS G_check_debts hr (by rfl) T.m_check_debts T.F_check_debts.kp T.b_check_debts (fun σ => passAt (takes_of rfl rfl rfl rfl) σ) (pa_cons (pv 0) pa_nil)))
    (pss_cons (ps_setLc (i := 1) (own := [("row", 2)]) (g := gName 2) (tt := tYes) rfl sc_unwind.nd rfl rfl (sw_true rfl rfl rfl (by decide +kernel)) (pi_list (pv 0)) (blkOk_by (own := [("row", 2)]) (N := N_unwind) (sc := defScope s_unwind) (by decide +kernel)) (fun _ _ _ _ _ => (pg_name (i := 2) sc_unwind.nd rfl (Or.inl rfl))) (fun _ _ _ _ _ => pts_nil) (fun _ _ _ _ _ => (pe_callTy (show CallR _ (.type "list") (rListOf K) from call_list_of) (by rfl) T.z_list (by decide +kernel) (pa_cons (pv 2) pa_nil))))
    (pss_cons (ps_set (i := 3) sc_unwind.nd rfl (Or.inl rfl) (pe_lst pa_nil))
    (pss_cons (ps_set (i := 4) sc_unwind.nd rfl (Or.inl rfl) (pe_listRg rfl (by rfl) T.z_list (prg_1 (by rfl) T.z_range (pe_callB call_len_seq (by rfl) T.z_len PySem.boot_len (pa_cons (pv 0) pa_nil)))))
    (pss_cons (ps_while (passes_of rfl) (pt_truth (pv 4) (by intro _; rfl))
      (pss_cons (ps_set (i := 5) sc_unwind.nd rfl (Or.inl rfl) (pe_call G_first_unowed (hr.mono (by decide)) (by rfl) T.m_first_unowed T.F_first_unowed.kp T.b_first_unowed .nil pass0 (pa_cons (pv 1) (pa_cons (pv 4) pa_nil))))
      (pss_one (ps_if (pt_cmpR op_isN (pv 5) pe_non (nomark _))
        (pss_one (ps_set (i := 1) sc_unwind.nd rfl (Or.inl rfl) (pe_call G_without_ring (hr.mono (by decide)) (by rfl) T.m_without_ring T.F_without_ring.kp T.b_without_ring .nil pass0 (pa_cons (pv 1) (pa_cons (pe_call G_ring_among (hr.mono (by decide)) (by rfl) T.m_ring_among T.F_ring_among.kp T.b_ring_among .nil pass0 (pa_cons (pv 1) (pa_cons (pv 4) pa_nil))) pa_nil)))))
        (pss_cons (ps_expr (pe_bm PySem.F.plainAttrs_list PySem.F.slot_list_append PySem.F.type_list_append mt_append (pv 3) (pa_cons (pv 5) pa_nil)))
        (pss_one (ps_expr (pe_bm PySem.F.plainAttrs_list PySem.F.slot_list_remove PySem.F.type_list_remove mt_remove (pv 4) (pa_cons (pv 5) pa_nil)))))))))
    (pss_one (ps_ret (pe_tup (pa_cons (pv 1) (pa_cons (pv 3) pa_nil)))))))))), ?_⟩
    walk_at "st"
    refine ⟨ps, n, fj, rfl, htj, hm9, hl9, fun hv H1 e1 => ?_, fun hv H1 e1 => qe hv H1 e1⟩
    have ht := htj.tab hv.len
    have hd := hv.debts
    replace q := q hv
    generalize cellJ fj = f at *
    have ht1 := ht.same e1
    have hn13 := hd.n1
    have hts1 := SqL.of (K := K) ht1.lst
    walk_at "st"
    intro D nD
    refine lc_copy (K := K) ht1 (by omega) nD rfl fun H2 qs e2 hT2 hfree => ?_
    walk_at "st"
    intro O nO
    generalize hH3 : upd H2 O _ = H3
    have s3 : Same H2 H3 := hH3 ▸ same_upd nO
    have hO : H3 O = some (.lst (intsN [])) := (congrFun hH3 O).symm.trans upd_same
    have sH3 := (e1.trans e2).trans s3
    have hts3 := SqL.of (K := K) (ht.same sH3).lst
    have hpl : (ps.map V.ref).length = n := by rw [List.length_map, ht.len]
    walk_at "st"
    rw [hpl]
    intro Wl nW
    rw [rg_ints]
    generalize hH4 : upd H3 Wl _ = H4
    have s4 : Same H3 H4 := hH4 ▸ same_upd nW
    have hW : H4 Wl = some (.lst (intsN (List.range n))) := (congrFun hH4 Wl).symm.trans upd_same
    have hT4 := (hT2.same s3).same s4
    have nWO : Wl ≠ O := fun z => by rw [z, hO] at nW; cases nW
    have nOH : H O = none := (e1.trans e2).free nO
    have nWH : H Wl = none := sH3.free nW
    walk_at "st"
    refine ⟨fun m σ H' => ∃ (v2 v5 : Option V) (Dg : Addr) (qs : List Addr) (g : Nat → Nat → Int) (os ws : List Nat), σ = [some (.ref t), some (.ref Dg), v2, some (.ref O), some (.ref Wl), v5] ∧ m = ws.length + (totF n g).toNat ∧ Same H H' ∧ Tab H' Dg qs n g ∧ H' O = some (.lst (intsN os)) ∧ H' Wl = some (.lst (intsN ws)) ∧ (Dg ≠ O ∧ Dg ≠ Wl ∧ O ∉ qs ∧ Wl ∉ qs) ∧
        (os ++ ws).Perm (List.range n) ∧ (∀ a, a < n → ∀ b, b < n → 0 ≤ g a b ∧ g a b ≤ f a b) ∧ (∀ h, h < n → netF n g h = netF n f h) ∧ (∀ (i : Nat) h, os[i]? = some h → ∀ w, w < n → w ∉ os.take i → g w h = 0) ∧ ((∃ rk : Nat → Nat, ∀ a, a < n → ∀ b, b < n → 0 < f a b → rk a < rk b) → ∀ a, a < n → ∀ b, b < n → g a b = f a b),
      ⟨_, _, _, D, qs, f, [], List.range n, rfl, rfl, sH3.trans s4, hT4, s4 _ _ hO, hW, ⟨?_, ?_, ?_, ?_⟩, List.Perm.refl _, fun a ha b hb => ⟨(hd.b a ha b hb).1, Int.le_refl _⟩, fun _ _ => rfl, fun i h hi => (by cases hi), fun _ _ _ _ _ => rfl⟩, ?_⟩
    · exact fun z => by have := hT2.lst; rw [z, nO] at this; cases this
    · exact fun z => by have := (hT2.same s3).lst; rw [z, nW] at this; cases this
    · intro z
      obtain ⟨i, hi⟩ := List.getElem?_of_mem z
      have := hT2.row i O hi
      rw [nO] at this
      cases this
    · intro z
      obtain ⟨i, hi⟩ := List.getElem?_of_mem z
      have := (hT2.same s3).row i Wl hi
      rw [nW] at this
      cases this
    · rintro m σ H' ⟨v2, v5, Dg, qs, g, os, ws, rfl, rfl, e, hT, hO', hW', ⟨x1, x2, x3, x4⟩, hpm, hb, hnet, hord, hrk⟩
      have hWs := SqL.of (K := K) hW'
      have hwn : ∀ w, w ∈ ws → w < n := fun w hw => List.mem_range.mp (hpm.subset (List.mem_append_right _ hw))
      have hnd : (os ++ ws).Nodup := hpm.nodup_iff.mpr List.nodup_range
      have hwnd := (List.nodup_append.mp hnd).2.1
      cases ws with
      | nil =>
        rw [List.append_nil] at hpm
        walk_at "st"
        intro p np
        have sp := same_upd (o := HO.tup [V.ref Dg, V.ref O]) np
        exact q p Dg O _ (e.trans sp) (e.free np) upd_same
      | cons w0 wr =>
        have hem : (!(intsN (w0 :: wr)).isEmpty) = true := rfl
        have hwl : (w0 :: wr).length ≤ n := by
          have := nodup_le hwnd fun x hx => List.mem_range.mpr (hwn x hx)
          rw [List.length_range] at this
          exact this
        walk_at "st"
        refine iteT ⟨_, fun _ _ h => h, ?_⟩
        walk_at "st"
        refine ⟨qs, n, g, w0 :: wr, rfl, hT, hW', hwn, ?_⟩
        cases hu : unF g (w0 :: wr) with
        | none =>
          walk_at "st"
          refine ⟨qs, n, g, w0 :: wr, rfl, hT, hn13, hW', hwn, hwnd, (fun z => by cases z), hu, fun p8 H8 rps r e8 np8 hT8 hrne hrnd hrin hrpos => ?_⟩
          have hcn : ∀ p, p ∈ cycL r → p.1 < n ∧ p.2 < n := fun p hp => ⟨hwn _ (hrin _ (cyc_in hp).1), hwn _ (hrin _ (cyc_in hp).2)⟩
          have hrl : r.length ≤ (w0 :: wr).length := nodup_le hrnd hrin
          have hcl := cyc_length r
          walk_at "st"
          refine ⟨qs, n, g, rps, cycL r, rfl, hT.same e8, hn13, hT8, hcn, (fun z => hrne (List.length_eq_zero_iff.mp (by rw [← hcl, z]; rfl))), by omega, fun t9 H9 qs9 m9 e9 nt9 hT9 hm1 hm2 hfr9 => ?_⟩
          have e89 := e8.trans e9
          have hat : ∀ a b, redF g m9 (cycL r) a b = if (a, b) ∈ cycL r then g a b - m9 else g a b := fun a b => red_at (by rw [cyc_snd]; exact hrnd)
          have hm0 : 0 < m9 := by
            obtain ⟨p, hp, hpm9⟩ := hm2
            rw [hpm9]
            exact hrpos p hp
          have hb9 : ∀ a, a < n → ∀ b, b < n → 0 ≤ redF g m9 (cycL r) a b ∧ redF g m9 (cycL r) a b ≤ g a b := fun a ha b hb2 => by
            rw [hat]
            have := (hb a ha b hb2).1
            split
            · next hin => have : m9 ≤ g a b := hm1 _ hin; omega
            · omega
          have hlt : totF n (redF g m9 (cycL r)) < totF n g := by
            rw [tot_red hcn, hcl]
            have h1 : 1 ≤ (r.length : Int) := by
              have := List.length_pos_iff.mpr hrne
              omega
            have h2 : m9 * 1 ≤ m9 * (r.length : Int) := Int.mul_le_mul_of_nonneg_left h1 (by omega)
            omega
          have h0 := tot_nn fun a ha b hb2 => (hb9 a ha b hb2).1
          refine ⟨(w0 :: wr).length + (totF n (redF g m9 (cycL r))).toNat, by omega, _, _, t9, qs9, redF g m9 (cycL r), os, w0 :: wr, rfl, rfl, e.trans e89, hT9, e89 _ _ hO', e89 _ _ hW', ⟨?_, ?_, ?_, ?_⟩, hpm, fun a ha b hb2 => ⟨(hb9 a ha b hb2).1, Int.le_trans (hb9 a ha b hb2).2 (hb a ha b hb2).2⟩, fun h hh => (net_cyc fun x hx => hwn _ (hrin x hx)).trans (hnet h hh), fun i h hi w hw hwo => ?_, fun ⟨rk, hrk2⟩ => ?_⟩
          · exact fun z => by rw [z, e8 _ _ hO'] at nt9; cases nt9
          · exact fun z => by rw [z, e8 _ _ hW'] at nt9; cases nt9
          · exact fun z => by have := hfr9 _ z; rw [e8 _ _ hO'] at this; cases this
          · exact fun z => by have := hfr9 _ z; rw [e8 _ _ hW'] at this; cases this
          · have hh : h < n := List.mem_range.mp (hpm.subset (List.mem_append_left _ (List.mem_of_getElem? hi)))
            have h1 := hord i h hi w hw hwo
            have h2 := hb9 w hw h hh
            omega
          · exfalso
            refine no_rank (rk := rk) hu (fun z => by cases z) fun a ha b hb2 hpos => hrk2 a (hwn a ha) b (hwn b hb2) ?_
            have := (hb a (hwn a ha) b (hwn b hb2)).2
            omega
        | some h =>
          rw [show optN (some h) = V.int (h : Int) from rfl]
          obtain ⟨j, hj1, hj2, hj3⟩ := find_at hu
          have hhw := List.mem_of_getElem? hj1
          have hol : os.length < 1000 := by
            have := hpm.length_eq
            rw [List.length_append, List.length_range] at this
            omega
          have hosl : (intsN os).length < sizeLine := small1000 (by unfold intsN; rw [List.length_map]; omega)
          have hwO : Wl ≠ O := fun z => nWO z
          have hW6 := (upd_ne (o := HO.lst (intsN os ++ [V.int (h : Int)])) hwO).trans hW'
          rw [intsN_two (w0 :: wr)] at hW6
          have hjk : ((w0 :: wr).map fun (k : Nat) => (k : Int))[j]? = some (h : Int) := by rw [List.getElem?_map, hj1]; rfl
          have hah : ∀ m : Nat, m < j → ((w0 :: wr).map fun (k : Nat) => (k : Int))[m]? ≠ some (h : Int) := fun m hm z => by
            rw [List.getElem?_map] at z
            cases hx : (w0 :: wr)[m]? with
            | none => rw [hx] at z; cases z
            | some y =>
              rw [hx] at z
              have hyh : y = h := by
                have : (y : Int) = (h : Int) := Option.some.inj z
                omega
              have hyt : y ∈ (w0 :: wr).take j := List.mem_of_getElem? (show ((w0 :: wr).take j)[m]? = some y by rw [List.getElem?_take_of_lt hm]; exact hx)
              have := hj3 y hyt
              rw [hyh] at this
              rw [this] at hj2
              cases hj2
          walk_at "st"
          have hjl := (List.getElem?_eq_some_iff.mp hj1).1
          have her : (w0 :: wr).eraseIdx j = (w0 :: wr).take j ++ (w0 :: wr).drop (j + 1) := List.eraseIdx_eq_take_drop_succ _ _
          have hwp : (w0 :: wr).Perm (h :: (w0 :: wr).eraseIdx j) := by
            rw [her]
            have h1 : (w0 :: wr) = (w0 :: wr).take j ++ h :: (w0 :: wr).drop (j + 1) := by
              conv => lhs; rw [← List.take_append_drop j (w0 :: wr), List.drop_eq_getElem_cons hjl, (List.getElem?_eq_some_iff.mp hj1).2]
            conv => lhs; rw [h1]
            exact List.perm_middle
          have hlen : (w0 :: wr).length = ((w0 :: wr).eraseIdx j).length + 1 := hwp.length_eq
          refine ⟨?_, _, _, Dg, qs, g, os ++ [h], (w0 :: wr).eraseIdx j, rfl, rfl, fun z o hz => ?_, (hT.upd_out x1 x3).upd_out x2 x4, ?_, ?_, ⟨x1, x2, x3, x4⟩, ?_, hb, hnet, fun i h' hi w hw hwo => ?_, hrk⟩
          · omega
          · rw [upd_ne (ne_of_none hz nWH), upd_ne (ne_of_none hz nOH)]
            exact e _ _ hz
          · refine (upd_ne nWO.symm).trans ?_
            rw [upd_same]
            unfold intsN
            rw [List.map_append]
            rfl
          · rw [upd_same, intsN_two, her, List.eraseIdx_eq_take_drop_succ]
            simp only [List.map_append, List.map_take, List.map_drop]
          · rw [List.append_assoc]
            exact (List.Perm.append_left os hwp.symm).trans hpm
          · by_cases hio : i < os.length
            · rw [List.getElem?_append_left hio] at hi
              rw [List.take_append_of_le_length (by omega)] at hwo
              exact hord i h' hi w hw hwo
            · have hi2 : i < (os ++ [h]).length := (List.getElem?_eq_some_iff.mp hi).1
              rw [List.length_append] at hi2
              have hi3 : i = os.length := by
                have : [h].length = 1 := rfl
                omega
              rw [hi3, List.getElem?_append_right (Nat.le_refl _), Nat.sub_self] at hi
              have hh : h = h' := Option.some.inj hi
              rw [hi3, List.take_append_of_le_length (Nat.le_refl _), List.take_of_length_le (Nat.le_refl _)] at hwo
              have hwin : w ∈ w0 :: wr := by
                have := hpm.symm.subset (List.mem_range.mpr hw)
                rcases List.mem_append.mp this with z | z
                · exact absurd z hwo
                · exact z
              rw [← hh]
              have hnone : debF g (w0 :: wr) h = none := by
                cases hd2 : debF g (w0 :: wr) h with
                | none => rfl
                | some d => rw [hd2] at hj2; cases hj2
              unfold debF at hnone
              have h1 := List.find?_eq_none.mp hnone w hwin
              have h2 := (hb w hw h (hwn h hhw)).1
              have h3 : ¬ 0 < g w h := fun z => h1 (decide_eq_true z)
              omega

def enc4 (x : Str × Str × Int × Int) : List V := [.str x.1, .str x.2.1, .int x.2.2.1, .int x.2.2.2]
def lay4 (x : Str × Str × Int × Int) : PyData := .tuple [.str x.1, .str x.2.1, .int x.2.2.1, .int x.2.2.2]
theorem layD_4 : LayD lay4 1 (fun x => PyData.strOk x.1 = true ∧ PyData.strOk x.2.1 = true ∧ True ∧ True) := layD_str.tup4 layD_str layD_int layD_int
theorem dp4 {K : PySem.W.Frag} {H : Hp} (x : Str × Str × Int × Int) (p : Addr) (h : H p = some (.tup (enc4 x))) : Dp K H (.ref p) (lay4 x) :=
  .tup (SqT.of h) (.cons (.str _) (.cons (.str _) (.cons (.int _) (.cons (.int _) .nil))))
def encR (x : Str × Int × Int) : List V := [.str x.1, .int x.2.1, .int x.2.2]
def layR (x : Str × Int × Int) : PyData := .tuple [.str x.1, .int x.2.1, .int x.2.2]
theorem layD_R : LayD layR 1 (fun x => PyData.strOk x.1 = true ∧ True ∧ True) := layD_str.tup3 layD_int layD_int
theorem dpR {K : PySem.W.Frag} {H : Hp} (x : Str × Int × Int) (p : Addr) (h : H p = some (.tup (encR x))) : Dp K H (.ref p) (layR x) :=
  .tup (SqT.of h) (.cons (.str _) (.cons (.int _) (.cons (.int _) .nil)))
structure TradeOk (x : Str × Str × Int × Int) : Prop where
  b : x.1 ≠ ""
  s : x.2.1 ≠ ""
  ne : x.1 ≠ x.2.1
  u : 1 ≤ x.2.2.1
  c : 0 ≤ x.2.2.2
def touch (T : List (Str × Str × Int × Int)) (h : Str) : Prop := ∃ x, x ∈ T ∧ (x.1 = h ∨ x.2.1 = h)
def unitsOf (T : List (Str × Str × Int × Int)) (h : Str) : Int := (T.map fun x => (if h = x.1 then x.2.2.1 else 0) - (if h = x.2.1 then x.2.2.1 else 0)).sum
def centsOf (T : List (Str × Str × Int × Int)) (h : Str) : Int := (T.map fun x => (if h = x.2.1 then x.2.2.2 else 0) - (if h = x.1 then x.2.2.2 else 0)).sum
theorem inV2_no {x a b : Str} (h1 : a ≠ x) (h2 : b ≠ x) : inV (.str x) [.str a, .str b] = false := by
  unfold inV
  rw [List.any_cons, List.any_cons, List.any_nil]
  have e : ∀ y : Str, y ≠ x → eqV (.str y) (.str x) = false := fun y hy => by
    unfold eqV
    exact beq_eq_false_iff_ne.mpr hy
  rw [e a h1, e b h2]
  rfl
theorem inV2 (x a b : Str) : inV (.str x) [.str a, .str b] = decide (a = x ∨ b = x) := by
  have e : ∀ y : Str, eqV (.str y) (.str x) = decide (y = x) := fun y => by
    by_cases h : y = x
    · rw [decide_eq_true h, h]
      unfold eqV
      exact beq_self_eq_true x
    · rw [decide_eq_false h]
      unfold eqV
      exact beq_eq_false_iff_ne.mpr h
  unfold inV
  rw [List.any_cons, List.any_cons, List.any_nil, e, e, Bool.or_false, Bool.decide_or]
def AllT (T : List (Str × Str × Int × Int)) : Prop := ∀ x, x ∈ T → TradeOk x
def sp_check_trades (K : PySem.W.Frag) (C : Addr) : Sp := fun vs H Q E => ∃ (l : Addr) (rs : List Addr) (T : List (Str × Str × Int × Int)), vs = [.ref l] ∧ Tups enc4 H l rs T ∧ (AllT T → ∀ H', Same H H' → Q .non H') ∧ (¬ AllT T → ∀ H', Same H H' → E (.ref C) none H')
set_option maxHeartbeats 0 in
theorem ok_check_trades (T : Txt K mg) : FnOk P w K mg base (L2.CX P w) 2 T.f_check_trades T.d_check_trades ["trades"] (sp_check_trades K T.c_InvalidTrade) := by
  refine T.F_check_trades.okX sc_check_trades (fun vs H Q E h => ?_) (fun cdv A outer s H vs Q E hr h => ?_)
  · obtain ⟨l, rs, T, rfl, _⟩ := h
    rfl
  · obtain ⟨l, rs, T', rfl, hT, q, qe⟩ := h
    have G_is_integral : FnOk P w K mg base CX0 1 T.f_is_integral T.d_is_integral ["value"] (sp_is_integral K) := ok_is_integral T
    have hs : SqL K H l (rs.map V.ref) := SqL.of hT.lst
    refine ⟨_, (pss_one (ps_for (passes_of rfl) rfl (pi_list (pv 0)) (pg_tup rfl (pgs_cons (pg_name (i := 1) sc_check_trades.nd rfl (Or.inl rfl)) (pgs_cons (pg_name (i := 2) sc_check_trades.nd rfl (Or.inl rfl)) (pgs_cons (pg_name (i := 3) sc_check_trades.nd rfl (Or.inl rfl)) (pgs_cons (pg_name (i := 4) sc_check_trades.nd rfl (Or.inl rfl)) pgs_nil)))))
      (pss_cons (ps_if (PW.pt (pw_or (pt_cmpR op_in_seq pe_str (pe_tup (pa_cons (pv 1) (pa_cons (pv 2) pa_nil))) rfl) (pw_or1 (pt_cmpR op_eq (pv 1) (pv 2) (nomark _)))))
        (pss_one (ps_raise rfl (takes_of rfl rfl rfl rfl) (pmk_own PySem.F.excBase_ValueError T.x_InvalidTrade T.m_InvalidTrade T.k_InvalidTrade (raises_own T.b_InvalidTrade T.t_InvalidTrade) (by rfl))))
        pss_nil)
      (pss_cons (ps_if (PW.pt (pw_or (pt_not (pt_val (pe_call G_is_integral hr (by rfl) T.m_is_integral T.F_is_integral.kp T.b_is_integral .nil pass0 (pa_cons (pv 3) pa_nil)))) (pw_or1 (pt_cmpR op_lt (pv 3) pe_int (nomark _)))))
        (pss_one (ps_raise rfl (takes_of rfl rfl rfl rfl) (pmk_own PySem.F.excBase_ValueError T.x_InvalidTrade T.m_InvalidTrade T.k_InvalidTrade (raises_own T.b_InvalidTrade T.t_InvalidTrade) (by rfl))))
        pss_nil)
      (pss_one (ps_if (PW.pt (pw_or (pt_not (pt_val (pe_call G_is_integral hr (by rfl) T.m_is_integral T.F_is_integral.kp T.b_is_integral .nil pass0 (pa_cons (pv 4) pa_nil)))) (pw_or1 (pt_cmpR op_lt (pv 4) pe_int (nomark _)))))
        (pss_one (ps_raise rfl (takes_of rfl rfl rfl rfl) (pmk_own PySem.F.excBase_ValueError T.x_InvalidTrade T.m_InvalidTrade T.k_InvalidTrade (raises_own T.b_InvalidTrade T.t_InvalidTrade) (by rfl))))
        pss_nil)))))), ?_⟩
    walk_at "st"
    refine for_list (K := K) (a := l) (xs := rs.map V.ref) (fun i σ H' => (∃ v1 v2 v3 v4 : Option V, σ = [some (.ref l), v1, v2, v3, v4]) ∧ Same H H' ∧ AllT (T'.take i)) ⟨⟨none, none, none, none, rfl⟩, Same.refl _, fun x hx => by cases hx⟩ (fun i σ H' _ ⟨_, e, _⟩ => e.seq hs) ?_ ?_
    · rintro i x σ H' hx ⟨⟨v1, v2, v3, v4, rfl⟩, e, hall⟩
      obtain ⟨p, y, hp, hy, rfl, hyr⟩ := (hT.same e).item hx
      have bad : ¬ TradeOk y → ∀ H', Same H H' → E (.ref T.c_InvalidTrade) none H' := fun z => qe fun g => z (g y (List.mem_of_getElem? hy))
      have hyt : SqT K H' p [.str y.1, .str y.2.1, .int y.2.2.1, .int y.2.2.2] := SqT.of hyr
      walk_at "st"
      intro U nU
      refine ⟨U, _, rfl, .inr (SqT.of upd_same), rfl, rfl, ?_⟩
      rw [if_neg Bool.false_ne_true, inV2]
      have e2 := e.trans (same_upd (o := .tup [.str y.1, .str y.2.1]) nU)
      generalize upd H' U (.tup [.str y.1, .str y.2.1]) = H2 at *
      walk_at "st"
      refine iteB (fun h => ?_) (fun h => ?_)
      · have h1 := dec_t h
        exact bad (fun z => h1.elim z.b z.s) H2 e2
      have h1 := dec_f h
      walk_at "st"
      refine iteB (fun h => ?_) (fun h => ?_)
      · have h2 := V.str.inj (dec_t h)
        exact bad (fun z => z.ne h2) H2 e2
      have h2 : y.1 ≠ y.2.1 := fun z => dec_f h (congrArg V.str z)
      walk_at "st"
      refine iteB (fun h => ?_) (fun h => ?_)
      · have h3 := dec_t h
        exact bad (fun z => by have := z.u; omega) H2 e2
      have h3 := dec_f h
      walk_at "st"
      refine iteB (fun h => ?_) (fun h => ?_)
      · have h4 := dec_t h
        exact bad (fun z => by have := z.c; omega) H2 e2
      have h4 := dec_f h
      refine ⟨⟨_, _, _, _, rfl⟩, e2, fun x hx => ?_⟩
      rw [take_succ hy] at hx
      rcases List.mem_append.mp hx with hx | hx
      · exact hall x hx
      · rw [List.mem_singleton.mp hx]
        exact ⟨fun z => h1 (.inl z), fun z => h1 (.inr z), h2, by omega, by omega⟩
    · rintro σ H' ⟨⟨v1, v2, v3, v4, rfl⟩, e, hall⟩
      rw [show T'.take (rs.map V.ref).length = T' by rw [List.length_map, hT.len, List.take_length]] at hall
      exact q hall _ e
/-- each trade as two, with a center between -/
def novL (c : Str) (T : List (Str × Str × Int × Int)) : List (Str × Str × Int × Int) := T.flatMap fun x => [(x.1, c, x.2.2.1, x.2.2.2), (c, x.2.1, x.2.2.1, x.2.2.2)]
theorem novL_snoc (c : Str) (T : List (Str × Str × Int × Int)) (x : Str × Str × Int × Int) : novL c (T ++ [x]) = novL c T ++ [(x.1, c, x.2.2.1, x.2.2.2)] ++ [(c, x.2.1, x.2.2.1, x.2.2.2)] := by
  unfold novL
  rw [List.flatMap_append, List.append_assoc]
  rfl
theorem novL_len (c : Str) : ∀ T : List (Str × Str × Int × Int), (novL c T).length = 2 * T.length
  | [] => rfl
  | x :: T => by
    show (_ ++ novL c T).length = _
    rw [List.length_append, novL_len c T]
    show 2 + 2 * T.length = 2 * (T.length + 1)
    omega
theorem unitsOf_snoc (T : List (Str × Str × Int × Int)) (x : Str × Str × Int × Int) (h : Str) : unitsOf (T ++ [x]) h = unitsOf T h + ((if h = x.1 then x.2.2.1 else 0) - (if h = x.2.1 then x.2.2.1 else 0)) := by
  unfold unitsOf
  rw [List.map_append, List.sum_append, List.map_cons, List.map_nil, List.sum_cons, List.sum_nil]
  omega
theorem centsOf_snoc (T : List (Str × Str × Int × Int)) (x : Str × Str × Int × Int) (h : Str) : centsOf (T ++ [x]) h = centsOf T h + ((if h = x.2.1 then x.2.2.2 else 0) - (if h = x.1 then x.2.2.2 else 0)) := by
  unfold centsOf
  rw [List.map_append, List.sum_append, List.map_cons, List.map_nil, List.sum_cons, List.sum_nil]
  omega
theorem touch_snoc (T : List (Str × Str × Int × Int)) (x : Str × Str × Int × Int) (h : Str) : touch (T ++ [x]) h ↔ touch T h ∨ h = x.1 ∨ h = x.2.1 := by
  unfold touch
  constructor
  · rintro ⟨y, hy, e⟩
    rcases List.mem_append.mp hy with z | z
    · exact .inl ⟨y, z, e⟩
    · rw [List.mem_singleton] at z
      rw [z] at e
      exact .inr (e.imp Eq.symm Eq.symm)
  · rintro (⟨y, hy, e⟩ | e)
    · exact ⟨y, List.mem_append_left _ hy, e⟩
    · exact ⟨x, List.mem_append_right _ (List.mem_singleton.mpr rfl), e.imp Eq.symm Eq.symm⟩
theorem touch_take {T : List (Str × Str × Int × Int)} {i : Nat} {h : Str} (t : touch (T.take i) h) : touch T h := by
  obtain ⟨x, hx, e⟩ := t
  exact ⟨x, List.mem_of_mem_take hx, e⟩
def sp_nets (K : PySem.W.Frag) (C : Addr) : Sp := fun vs H Q E => ∃ (l : Addr) (rs : List Addr) (T : List (Str × Str × Int × Int)), vs = [.ref l] ∧ Tups enc4 H l rs T ∧ T.length ≤ 200 ∧
  (∀ ks : List Str, ks.Nodup → (∀ s, s ∈ ks → touch T s) → ks.length < 60) ∧
  (¬ AllT T → ∀ H', Same H H' → E (.ref C) none H') ∧ (AllT T → ∀ p H' rs2 ys, Same H H' → H p = none → ys.Nodup → sortedS ys = true → (∀ s, s ∈ ys ↔ touch T s) → Tups encR H' p rs2 (ys.map fun y => (y, unitsOf T y, centsOf T y)) → Q (.ref p) H')
set_option maxHeartbeats 0 in
theorem ok_nets (T : Txt K mg) : FnOk P w K mg base (L2.CX P w) 3 T.f_nets T.d_nets ["trades"] (sp_nets K T.c_InvalidTrade) := by
  refine T.F_nets.okX sc_nets (fun vs H Q E h => ?_) (fun cdv A outer s H vs Q E hr h => ?_)
  · obtain ⟨l, rs, T, rfl, _⟩ := h
    rfl
  · obtain ⟨l, rs, T', rfl, hT, hlen, hks, qe, q⟩ := h
    have G_check_trades : FnOk P w K mg base (L2.CX P w) 2 T.f_check_trades T.d_check_trades ["trades"] (sp_check_trades K T.c_InvalidTrade) := ok_check_trades T
    have hs : SqL K H l (rs.map V.ref) := SqL.of hT.lst
    refine ⟨_, (pss_cons (ps_expr (pe_callS G_check_trades hr (by rfl) T.m_check_trades T.F_check_trades.kp T.b_check_trades (fun σ => passAt (takes_of rfl rfl rfl rfl) σ) (pa_cons (pv 0) pa_nil)))
    (pss_cons (ps_set (i := 1) sc_nets.nd rfl (Or.inr rfl) pe_dnewK)
    (pss_cons (ps_set (i := 2) sc_nets.nd rfl (Or.inr rfl) pe_dnewK)
    (pss_cons (ps_for (passes_of rfl) rfl (pi_list (pv 0)) (pg_tup rfl (pgs_cons (pg_name (i := 3) sc_nets.nd rfl (Or.inl rfl)) (pgs_cons (pg_name (i := 4) sc_nets.nd rfl (Or.inl rfl)) (pgs_cons (pg_name (i := 5) sc_nets.nd rfl (Or.inl rfl)) (pgs_cons (pg_name (i := 6) sc_nets.nd rfl (Or.inl rfl)) pgs_nil)))))
      (pss_cons (ps_dput (hu_of hr) (pv 1) (pv 3) (pe_op op_add (pe_dget2 (hu_of hr) (pv 1) (pv 3) pe_int ⟨rfl, rfl, rfl, rfl⟩) (pv 5)) rfl)
      (pss_cons (ps_dput (hu_of hr) (pv 1) (pv 4) (pe_op op_sub (pe_dget2 (hu_of hr) (pv 1) (pv 4) pe_int ⟨rfl, rfl, rfl, rfl⟩) (pv 5)) rfl)
      (pss_cons (ps_dput (hu_of hr) (pv 2) (pv 3) (pe_op op_sub (pe_dget2 (hu_of hr) (pv 2) (pv 3) pe_int ⟨rfl, rfl, rfl, rfl⟩) (pv 6)) rfl)
      (pss_one (ps_dput (hu_of hr) (pv 2) (pv 4) (pe_op op_add (pe_dget2 (hu_of hr) (pv 2) (pv 4) pe_int ⟨rfl, rfl, rfl, rfl⟩) (pv 6)) rfl))))))
    (pss_one (ps_ret (pe_lc (own := [("house", 7)]) (g := gName 7) (tt := tYes) rfl sc_nets.nd (pi_list (pe_callB (call_sortedD rfl) (by rfl) T.z_sorted (by decide +kernel) (pa_cons (pv 1) pa_nil))) (blkOk_by (own := [("house", 7)]) (N := N_nets) (sc := defScope s_nets) (by decide +kernel)) (fun _ _ _ _ _ => (pg_name (i := 7) sc_nets.nd rfl (Or.inl rfl))) (fun _ _ _ _ _ => pts_nil) (fun _ _ _ _ _ => (pe_tup (pa_cons (pv 7) (pa_cons (pe_dget (hu_of hr) (pv 1) (pv 7) (fun _ _ => rfl)) (pa_cons (pe_dget (hu_of hr) (pv 2) (pv 7) (fun _ _ => rfl)) pa_nil)))))))))))), ?_⟩
    walk_at "st"
    refine ⟨rs, T', rfl, hT, fun hok H1 e1 => ?_, fun hok H1 e1 => qe hok H1 e1⟩
    replace q := q hok
    have hs1 := e1.seq hs
    walk_at "st"
    intro U nU
    walk_at "st"
    intro C nC
    have hUC : U ≠ C := fun z => by rw [z, upd_same] at nC; cases nC
    have eU0 : upd (upd H1 U (.dK [])) C (.dK []) U = some (.dK (encD [])) := by
      rw [upd_ne hUC]
      exact upd_same
    have eC0 : upd (upd H1 U (.dK [])) C (.dK []) C = some (.dK (encD [])) := upd_same
    have sU := same_upd (o := .dK []) nU
    have s2 := e1.trans (sU.trans (same_upd (o := .dK []) nC))
    have nU0 : H U = none := e1.free nU
    have nC0 : H C = none := (e1.trans sU).free nC
    generalize upd (upd H1 U (.dK [])) C (.dK []) = H2 at *
    have hs2 := s2.seq hs
    walk_at "st"
    refine for_list (K := K) (a := l) (xs := rs.map V.ref) (fun i σ H' => ∃ (v3 v4 v5 v6 : Option V) (dU dC : List (Str × Int)), σ = [some (.ref l), some (.ref U), some (.ref C), v3, v4, v5, v6, none] ∧ Same H H' ∧ H' U = some (.dK (encD dU)) ∧ H' C = some (.dK (encD dC)) ∧ keysS dU = keysS dC ∧ (keysS dU).Nodup ∧ (∀ s, s ∈ keysS dU ↔ touch (T'.take i) s) ∧ (∀ h, gD dU h = unitsOf (T'.take i) h) ∧ ∀ h, gD dC h = centsOf (T'.take i) h)
      ⟨none, none, none, none, [], [], rfl, s2, eU0, eC0, rfl, List.nodup_nil, fun s => ⟨fun z => (by cases z), fun ⟨x, z, _⟩ => (by cases z)⟩, fun h => rfl, fun h => rfl⟩ (fun i σ H' _ ⟨_, _, _, _, _, _, _, e, _⟩ => e.seq hs) ?_ ?_
    · rintro i x σ H3 hx ⟨v3, v4, v5, v6, dU, dC, rfl, e3, hU, hC, hkk, hnd, hto, hgu, hgc⟩
      obtain ⟨p, y, hp, hy, rfl, hyr⟩ := (hT.same e3).item hx
      have hyt : SqT K H3 p [.str y.1, .str y.2.1, .int y.2.2.1, .int y.2.2.2] := SqT.of hyr
      have hkl := hks _ hnd fun s hs => touch_take ((hto s).mp hs)
      have lU : dU.length < 60 := by unfold keysS at hkl; rw [List.length_map] at hkl; exact hkl
      have lC : dC.length < 60 := by rw [hkk] at hkl; unfold keysS at hkl; rw [List.length_map] at hkl; exact hkl
      have plen : ∀ (d : List (Str × Int)) (s : Str) (v : Int), (putS d s v).length ≤ d.length + 1 := fun d s v => by
        have := addK_len (keysS d) s
        rw [← keys_put d s v] at this
        unfold keysS at this
        rw [List.length_map, List.length_map] at this
        exact this
      have i1 := isD_enc hU
      walk_at "st"
      refine dget_go hU ?_
      rw [getD_int]
      walk_at "st"
      refine dput_go hU (by omega) ?_
      generalize hv1 : gD dU y.1 + y.2.2.1 = x1
      have hU1 : upd H3 U (.dK (encD (putS dU y.1 x1))) U = some (.dK (encD (putS dU y.1 x1))) := upd_same
      have hC1 : upd H3 U (.dK (encD (putS dU y.1 x1))) C = some (.dK (encD dC)) := by rw [upd_ne hUC.symm]; exact hC
      have e4 : Same H (upd H3 U (.dK (encD (putS dU y.1 x1)))) := fun b o z => by rw [upd_ne (ne_of_none z nU0)]; exact e3 b o z
      have l1 := plen dU y.1 x1
      generalize upd H3 U (.dK (encD (putS dU y.1 x1))) = H4 at *
      have i2 := isD_enc hU1
      walk_at "st"
      refine dget_go hU1 ?_
      rw [getD_int]
      walk_at "st"
      refine dput_go hU1 (by omega) ?_
      generalize hv2 : gD (putS dU y.1 x1) y.2.1 - y.2.2.1 = x2
      have hU2 : upd H4 U (.dK (encD (putS (putS dU y.1 x1) y.2.1 x2))) U = some (.dK (encD (putS (putS dU y.1 x1) y.2.1 x2))) := upd_same
      have hC2 : upd H4 U (.dK (encD (putS (putS dU y.1 x1) y.2.1 x2))) C = some (.dK (encD dC)) := by rw [upd_ne hUC.symm]; exact hC1
      have e5 : Same H (upd H4 U (.dK (encD (putS (putS dU y.1 x1) y.2.1 x2)))) := fun b o z => by rw [upd_ne (ne_of_none z nU0)]; exact e4 b o z
      generalize upd H4 U (.dK (encD (putS (putS dU y.1 x1) y.2.1 x2))) = H5 at *
      have i3 := isD_enc hC2
      walk_at "st"
      refine dget_go hC2 ?_
      rw [getD_int]
      walk_at "st"
      refine dput_go hC2 (by omega) ?_
      generalize hv3 : gD dC y.1 - y.2.2.2 = x3
      have hC3 : upd H5 C (.dK (encD (putS dC y.1 x3))) C = some (.dK (encD (putS dC y.1 x3))) := upd_same
      have hU3 : upd H5 C (.dK (encD (putS dC y.1 x3))) U = some (.dK (encD (putS (putS dU y.1 x1) y.2.1 x2))) := by rw [upd_ne hUC]; exact hU2
      have e6 : Same H (upd H5 C (.dK (encD (putS dC y.1 x3)))) := fun b o z => by rw [upd_ne (ne_of_none z nC0)]; exact e5 b o z
      have l3 := plen dC y.1 x3
      generalize upd H5 C (.dK (encD (putS dC y.1 x3))) = H6 at *
      have i4 := isD_enc hC3
      walk_at "st"
      refine dget_go hC3 ?_
      rw [getD_int]
      walk_at "st"
      refine dput_go hC3 (by omega) ?_
      generalize hv4 : gD (putS dC y.1 x3) y.2.1 + y.2.2.2 = x4
      refine ⟨_, _, _, _, putS (putS dU y.1 x1) y.2.1 x2, putS (putS dC y.1 x3) y.2.1 x4, rfl, fun b o z => by rw [upd_ne (ne_of_none z nC0)]; exact e6 b o z, by rw [upd_ne hUC]; exact hU3, upd_same, ?_, ?_, fun s => ?_, fun h => ?_, fun h => ?_⟩
      · rw [keys_put, keys_put, keys_put, keys_put, hkk]
      · rw [keys_put, keys_put]
        exact addK_nodup (addK_nodup hnd)
      · rw [keys_put, keys_put, addK_mem, addK_mem, take_succ hy, touch_snoc, hto s, or_assoc]
      · rw [take_succ hy, unitsOf_snoc, ← hgu h, gD_put, ← hv2, gD_put, gD_put, ← hv1]
        by_cases a : h = y.2.1
        · rw [if_pos a, a]
          by_cases b : y.2.1 = y.1
          · rw [if_pos b, if_pos b, if_pos rfl, b]
            omega
          · rw [if_neg b, if_neg b, if_pos rfl]
            omega
        · rw [if_neg a, if_neg a]
          by_cases b : h = y.1
          · rw [if_pos b, if_pos b, b]
            omega
          · rw [if_neg b, if_neg b]
            omega
      · rw [take_succ hy, centsOf_snoc, ← hgc h, gD_put, ← hv4, gD_put, gD_put, ← hv3]
        by_cases a : h = y.2.1
        · rw [if_pos a, if_pos a, a]
          by_cases b : y.2.1 = y.1
          · rw [if_pos b, if_pos b, b]
            omega
          · rw [if_neg b, if_neg b]
            omega
        · rw [if_neg a, if_neg a]
          by_cases b : h = y.1
          · rw [if_pos b, if_pos b, b]
            omega
          · rw [if_neg b, if_neg b]
            omega
    · rintro σ H3 ⟨v3, v4, v5, v6, dU, dC, rfl, e3, hU, hC, hkk, hnd, hto, hgu, hgc⟩
      rw [show T'.take (rs.map V.ref).length = T' by rw [List.length_map, hT.len, List.take_length]] at hto hgu hgc
      have hkl := hks _ hnd fun s hs => (hto s).mp hs
      have i1 := isD_enc hU
      walk_at "st"
      refine ⟨encD dU, keysS dU, rfl, .inl hU, keys_enc dU, by omega, fun ys p hpe hso np => ?_⟩
      have hyn : ys.Nodup := hpe.nodup_iff.mpr hnd
      have hym : ∀ s, s ∈ ys ↔ touch T' s := fun s => hpe.mem_iff.trans (hto s)
      have sp := same_upd (o := .lst (ys.map V.str)) np
      have hp : upd H3 p (.lst (ys.map V.str)) p = some (.lst (ys.map V.str)) := upd_same
      have hU4 := sp _ _ hU
      have hC4 := sp _ _ hC
      have e4 := e3.trans sp
      have hyl : ys.length < 60 := by rw [hpe.length_eq]; exact hkl
      generalize upd H3 p (.lst (ys.map V.str)) = H4 at *
      have hp' : SqL K H4 p (ys.map V.str) := SqL.of hp
      walk_at "st"
      intro D nD
      refine lc_list (K := K) (a := p) (xs := ys.map V.str) (fun i H' => ∃ rs2, Tups encR H' D rs2 ((ys.take i).map fun y => (y, unitsOf T' y, centsOf T' y)) ∧ Same H4 H') ⟨[], .nil upd_same, same_upd nD⟩ (fun i H' _ ⟨_, _, e⟩ => e.seq hp') ?_ ?_
      · rintro i x H5 hx ⟨rs2, hD, e5⟩
        rw [List.getElem?_map] at hx
        cases hy : ys[i]? with
        | none => rw [hy] at hx; cases hx
        | some y =>
          rw [hy] at hx
          have hx : V.str y = x := Option.some.inj hx
          subst hx
          have hm := List.mem_of_getElem? hy
          have hkU : y ∈ keysS dU := hpe.mem_iff.mp hm
          have gU := dget_at (e5 _ _ hU4) hkU
          have gC := dget_at (e5 _ _ hC4) (by rw [← hkk]; exact hkU)
          rw [hgu] at gU
          rw [hgc] at gC
          refine ⟨rfl, ?_⟩
          walk_at "st"
          intro A nA
          have sA := same_upd (o := .tup [.str y, .int (unitsOf T' y), .int (centsOf T' y)]) nA
          have hDA := hD.push (x := (y, unitsOf T' y, centsOf T' y)) sA nA upd_same
          refine ⟨_, sA _ _ hD.lst, small1000 ?_, rs2 ++ [A], ?_, TabR.keep (e5.trans sA) nD⟩
          · rw [List.length_map, hD.len, List.length_map, List.length_take]
            omega
          · rw [take_succ hy, List.map_append]
            exact hDA
      · rintro H5 ⟨rs2, hD, e5⟩
        rw [show ys.take (ys.map V.str).length = ys by rw [List.length_map, List.take_length]] at hD
        exact q D H5 rs2 ys (e4.trans e5) (e4.free nD) hyn hso hym hD
def sp_novate (K : PySem.W.Frag) (C : Addr) : Sp := fun vs H Q E => ∃ (l : Addr) (rs : List Addr) (T : List (Str × Str × Int × Int)) (c : Str), vs = [.ref l, .str c] ∧ Tups enc4 H l rs T ∧ T.length ≤ 200 ∧
  (¬ (AllT T ∧ ∀ x, x ∈ T → x.1 ≠ c ∧ x.2.1 ≠ c) → ∀ H', Same H H' → E (.ref C) none H') ∧ (∀ p H' rs2, Same H H' → H p = none → AllT T → (∀ x, x ∈ T → x.1 ≠ c ∧ x.2.1 ≠ c) → Tups enc4 H' p rs2 (novL c T) → Q (.ref p) H')
set_option maxHeartbeats 0 in
theorem ok_novate (T : Txt K mg) : FnOk P w K mg base (L2.CX P w) 3 T.f_novate T.d_novate ["trades", "center"] (sp_novate K T.c_InvalidTrade) := by
  refine T.F_novate.okX sc_novate (fun vs H Q E h => ?_) (fun cdv A outer s H vs Q E hr h => ?_)
  · obtain ⟨l, rs, T, c, rfl, _⟩ := h
    rfl
  · obtain ⟨l, rs, T', c, rfl, hT, hlen, qe, q⟩ := h
    have G_check_trades : FnOk P w K mg base (L2.CX P w) 2 T.f_check_trades T.d_check_trades ["trades"] (sp_check_trades K T.c_InvalidTrade) := ok_check_trades T
    have hs : SqL K H l (rs.map V.ref) := SqL.of hT.lst
    refine ⟨_, (pss_cons (ps_expr (pe_callS G_check_trades hr (by rfl) T.m_check_trades T.F_check_trades.kp T.b_check_trades (fun σ => passAt (takes_of rfl rfl rfl rfl) σ) (pa_cons (pv 0) pa_nil)))
    (pss_cons (ps_set (i := 2) sc_novate.nd rfl (Or.inl rfl) (pe_lst pa_nil))
    (pss_cons (ps_for (passes_of rfl) rfl (pi_list (pv 0)) (pg_tup rfl (pgs_cons (pg_name (i := 3) sc_novate.nd rfl (Or.inl rfl)) (pgs_cons (pg_name (i := 4) sc_novate.nd rfl (Or.inl rfl)) (pgs_cons (pg_name (i := 5) sc_novate.nd rfl (Or.inl rfl)) (pgs_cons (pg_name (i := 6) sc_novate.nd rfl (Or.inl rfl)) pgs_nil)))))
      (pss_cons (ps_if (pt_cmpR op_in_seq (pv 1) (pe_tup (pa_cons (pv 3) (pa_cons (pv 4) pa_nil))) rfl)
        (pss_one (ps_raise rfl (takes_of rfl rfl rfl rfl) (pmk_own PySem.F.excBase_ValueError T.x_InvalidTrade T.m_InvalidTrade T.k_InvalidTrade (raises_own T.b_InvalidTrade T.t_InvalidTrade) (by rfl))))
        pss_nil)
      (pss_cons (ps_expr (pe_bm PySem.F.plainAttrs_list PySem.F.slot_list_append PySem.F.type_list_append mt_append (pv 2) (pa_cons (pe_tup (pa_cons (pv 3) (pa_cons (pv 1) (pa_cons (pv 5) (pa_cons (pv 6) pa_nil))))) pa_nil)))
      (pss_one (ps_expr (pe_bm PySem.F.plainAttrs_list PySem.F.slot_list_append PySem.F.type_list_append mt_append (pv 2) (pa_cons (pe_tup (pa_cons (pv 1) (pa_cons (pv 4) (pa_cons (pv 5) (pa_cons (pv 6) pa_nil))))) pa_nil)))))))
    (pss_one (ps_ret (pv 2)))))), ?_⟩
    walk_at "st"
    refine ⟨rs, T', rfl, hT, fun hok H1 e1 => ?_, fun hok H1 e1 => qe (fun z => hok z.1) H1 e1⟩
    have hs1 := e1.seq hs
    walk_at "st"
    intro D nD
    have sD := e1.trans (same_upd (o := .lst []) nD)
    have hs2 := sD.seq hs
    have nD0 : H D = none := e1.free nD
    walk_at "st"
    refine for_list (K := K) (a := l) (xs := rs.map V.ref) (fun i σ H' => ∃ (v3 v4 v5 v6 : Option V) (rs2 : List Addr), σ = [some (.ref l), some (.str c), some (.ref D), v3, v4, v5, v6] ∧ Same H H' ∧ Tups enc4 H' D rs2 (novL c (T'.take i)) ∧ ∀ x, x ∈ T'.take i → x.1 ≠ c ∧ x.2.1 ≠ c) ⟨none, none, none, none, [], rfl, sD, .nil upd_same, fun x hx => by cases hx⟩ (fun i σ H' _ ⟨_, _, _, _, _, _, e, _⟩ => e.seq hs) ?_ ?_
    · rintro i x σ H' hx ⟨v3, v4, v5, v6, rs2, rfl, e, hD, hno⟩
      obtain ⟨p, y, hp, hy, rfl, hyr⟩ := (hT.same e).item hx
      have hi := (List.getElem?_eq_some_iff.mp hy).1
      have hyt : SqT K H' p [.str y.1, .str y.2.1, .int y.2.2.1, .int y.2.2.2] := SqT.of hyr
      have hrl : rs2.length ≤ 2 * T'.length := by
        rw [hD.len, novL_len, List.length_take]
        omega
      walk_at "st"
      intro U nU
      refine ⟨U, _, rfl, .inr (SqT.of upd_same), rfl, rfl, ?_⟩
      rw [if_neg Bool.false_ne_true, inV2]
      have sU := same_upd (o := .tup [.str y.1, .str y.2.1]) nU
      have hD2 := hD.same sU
      have e2 := e.trans sU
      generalize upd H' U (.tup [.str y.1, .str y.2.1]) = H2 at *
      have hDl := hD2.lst
      walk_at "st"
      refine iteB (fun h => ?_) (fun h => ?_)
      · have h1 := dec_t h
        exact qe (fun z => h1.elim (z.2 y (List.mem_of_getElem? hy)).1 (z.2 y (List.mem_of_getElem? hy)).2) H2 e2
      have h1 := dec_f h
      walk_at "st"
      intro A nA
      have sA := same_upd (o := .tup [.str y.1, .str c, .int y.2.2.1, .int y.2.2.2]) nA
      have hDA := hD2.push (x := (y.1, c, y.2.2.1, y.2.2.2)) sA nA upd_same
      have eA : Same H (upd (upd H2 A (.tup [.str y.1, .str c, .int y.2.2.1, .int y.2.2.2])) D (.lst (rs2.map V.ref ++ [.ref A]))) := TabR.keep (e2.trans sA) nD0
      have hDl2 := sA _ _ hDl
      have hlt1 : (rs2.map V.ref).length < sizeLine := small1000 (by rw [List.length_map]; omega)
      walk_at "st"
      generalize upd (upd H2 A (.tup [.str y.1, .str c, .int y.2.2.1, .int y.2.2.2])) D (.lst (rs2.map V.ref ++ [.ref A])) = H3 at *
      intro B nB
      have sB := same_upd (o := .tup [.str c, .str y.2.1, .int y.2.2.1, .int y.2.2.2]) nB
      have hDB := hDA.push (x := (c, y.2.1, y.2.2.1, y.2.2.2)) sB nB upd_same
      have hDl3 := sB _ _ hDA.lst
      have hlt2 : ((rs2 ++ [A]).map V.ref).length < sizeLine := small1000 (by rw [List.length_map, List.length_append]; show rs2.length + 1 ≤ 1000; omega)
      walk_at "st"
      refine ⟨_, _, _, _, rs2 ++ [A] ++ [B], rfl, TabR.keep (eA.trans sB) nD0, ?_⟩
      rw [take_succ hy, novL_snoc]
      refine ⟨hDB, fun x hx => ?_⟩
      rcases List.mem_append.mp hx with hx | hx
      · exact hno x hx
      · rw [List.mem_singleton.mp hx]
        exact ⟨fun z => h1 (.inl z), fun z => h1 (.inr z)⟩
    · rintro σ H' ⟨v3, v4, v5, v6, rs2, rfl, e, hD, hno⟩
      rw [show T'.take (rs.map V.ref).length = T' by rw [List.length_map, hT.len, List.take_length]] at hD hno
      walk_at "st"
      exact q D H' rs2 e nD0 hok hno hD

theorem nodup_len {α : Type} [DecidableEq α] : ∀ {xs ys : List α}, xs.Nodup → (∀ x, x ∈ xs → x ∈ ys) → xs.length ≤ ys.length
  | [], _, _, _ => Nat.zero_le _
  | x :: xs, ys, h, k => by
    have h' := List.nodup_cons.mp h
    have ih := nodup_len (ys := ys.erase x) h'.2 fun y hy => (List.mem_erase_of_ne fun e => h'.1 (by rw [← e]; exact hy)).mpr (k y (List.mem_cons_of_mem _ hy))
    have hm := k x List.mem_cons_self
    rw [List.length_erase_of_mem hm] at ih
    have := List.length_pos_of_mem hm
    rw [List.length_cons]
    omega

/-- a list or a tuple -/
def ListTup (H : Hp) (x : V) : Prop := ∃ (p : Addr) (xs : List V), x = .ref p ∧ (H p = some (.lst xs) ∨ H p = some (.tup xs))
/-- what each function of the law is called with, and when it is in order -/
def Called46 (H : Hp) (name : Str) (v : V) (ok : Prop) : Prop :=
  ((name = "nets" ∨ name = "novate") ∧ ∃ (l : Addr) (rs : List Addr) (T : List (Str × Str × Int × Int)), v = .ref l ∧ Tups enc4 H l rs T ∧ T.length ≤ 10 ∧ (ok ↔ AllT T ∧ (name = "novate" → ∀ x, x ∈ T → x.1 ≠ "m" ∧ x.2.1 ≠ "m"))) ∨
  ((name = "net_amounts" ∨ name = "bilateral" ∨ name = "compress" ∨ name = "unwind") ∧ ∃ (t : Addr) (ps : List Addr) (m : Nat) (f : Nat → List Int), v = .ref t ∧ JagR H t ps m f ∧ m ≤ 900 ∧ (∀ i, i < m → (f i).length ≤ 900) ∧ (ok ↔ DebtsJ m f))
theorem touch_len {T : List (Str × Str × Int × Int)} (hT : T.length ≤ 10) : ∀ ks : List Str, ks.Nodup → (∀ s, s ∈ ks → touch T s) → ks.length < 60 := fun ks hn hk => by
  have h := nodup_len (ys := T.map (·.1) ++ T.map (·.2.1)) hn fun s hs => by
    obtain ⟨x, hx, e⟩ := hk s hs
    rcases e with e | e
    · exact List.mem_append_left _ (List.mem_map.mpr ⟨x, hx, e⟩)
    · exact List.mem_append_right _ (List.mem_map.mpr ⟨x, hx, e⟩)
  rw [List.length_append, List.length_map, List.length_map] at h
  omega
def sp_law_called (K : PySem.W.Frag) (C : Addr) : Sp := fun vs H Q E => ∃ (_ : Unit) (name : Str) (v : V) (ok : Prop), vs = [.str name, v] ∧ Called46 H name v ok ∧ (ok → ∀ x H', Same H H' → ListTup H' x → Q x H') ∧ (¬ ok → ∀ H', Same H H' → E (.ref C) none H')
set_option maxHeartbeats 0 in
theorem ok_law_called (T : Txt K mg) : FnOk P w K mg base (L2.CX P w) 6 T.f_law_called T.d_law_called ["name", "value"] (sp_law_called K T.c_InvalidTrade) := by
  refine T.F_law_called.okX sc_law_called (fun vs H Q E h => ?_) (fun cdv A outer s H vs Q E hr h => ?_)
  · obtain ⟨_, name, v, ok, rfl, _⟩ := h
    rfl
  · obtain ⟨_, name, v, ok, rfl, hc, q, qe⟩ := h
    have G_unwind : FnOk P w K mg base (L2.CX P w) 4 T.f_unwind T.d_unwind ["owed"] (sp_unwind K T.c_InvalidTrade) := ok_unwind T
    have G_nets : FnOk P w K mg base (L2.CX P w) 3 T.f_nets T.d_nets ["trades"] (sp_nets K T.c_InvalidTrade) := ok_nets T
    have G_novate : FnOk P w K mg base (L2.CX P w) 3 T.f_novate T.d_novate ["trades", "center"] (sp_novate K T.c_InvalidTrade) := ok_novate T
    have G_net_amounts : FnOk P w K mg base (L2.CX P w) 4 T.f_net_amounts T.d_net_amounts ["owed"] (sp_net_amounts K T.c_InvalidTrade) := ok_net_amounts T
    have G_bilateral : FnOk P w K mg base (L2.CX P w) 4 T.f_bilateral T.d_bilateral ["owed"] (sp_bilateral K T.c_InvalidTrade) := ok_bilateral T
    have G_compress : FnOk P w K mg base (L2.CX P w) 5 T.f_compress T.d_compress ["owed"] (sp_compress K T.c_InvalidTrade) := ok_compress T
    refine ⟨_, (pss_cons (ps_if (pt_cmpR op_eq (pv 0) pe_str (nomark _))
      (pss_one (ps_ret (pe_callS G_nets (hr.mono (by decide)) (by rfl) T.m_nets T.F_nets.kp T.b_nets (fun σ => passAt (takes_of rfl rfl rfl rfl) σ) (pa_cons (pv 1) pa_nil))))
      pss_nil)
    (pss_cons (ps_if (pt_cmpR op_eq (pv 0) pe_str (nomark _))
      (pss_one (ps_ret (pe_callS G_novate (hr.mono (by decide)) (by rfl) T.m_novate T.F_novate.kp T.b_novate (fun σ => passAt (takes_of rfl rfl rfl rfl) σ) (pa_cons (pv 1) (pa_cons pe_str pa_nil)))))
      pss_nil)
    (pss_cons (ps_if (pt_cmpR op_eq (pv 0) pe_str (nomark _))
      (pss_one (ps_ret (pe_callS G_net_amounts (hr.mono (by decide)) (by rfl) T.m_net_amounts T.F_net_amounts.kp T.b_net_amounts (fun σ => passAt (takes_of rfl rfl rfl rfl) σ) (pa_cons (pv 1) pa_nil))))
      pss_nil)
    (pss_cons (ps_if (pt_cmpR op_eq (pv 0) pe_str (nomark _))
      (pss_one (ps_ret (pe_callS G_bilateral (hr.mono (by decide)) (by rfl) T.m_bilateral T.F_bilateral.kp T.b_bilateral (fun σ => passAt (takes_of rfl rfl rfl rfl) σ) (pa_cons (pv 1) pa_nil))))
      pss_nil)
    (pss_cons (ps_if (pt_cmpR op_eq (pv 0) pe_str (nomark _))
      (pss_one (ps_ret (pe_callS G_compress hr (by rfl) T.m_compress T.F_compress.kp T.b_compress (fun σ => passAt (takes_of rfl rfl rfl rfl) σ) (pa_cons (pv 1) pa_nil))))
      pss_nil)
    (pss_one (ps_ret (pe_callS G_unwind (hr.mono (by decide)) (by rfl) T.m_unwind T.F_unwind.kp T.b_unwind (fun σ => passAt (takes_of rfl rfl rfl rfl) σ) (pa_cons (pv 1) pa_nil))))))))), ?_⟩
    rcases hc with ⟨hn, l, rs, T', rfl, hT, hlen, hok⟩ | ⟨hn, t, ps, m, f, rfl, ht, hm, hl, hok⟩
    · rcases hn with rfl | rfl
      · have hok' : ok ↔ AllT T' := hok.trans ⟨fun z => z.1, fun z => ⟨z, fun w => absurd w (by decide)⟩⟩
        walk_at "st"
        refine ⟨rs, T', rfl, hT, by omega, touch_len hlen, fun z H' e => qe (fun w => z (hok'.mp w)) H' e, fun z p H' rs2 ys e _ _ _ _ hR => ?_⟩
        exact q (hok'.mpr z) _ H' e ⟨p, _, rfl, .inl hR.lst⟩
      · have hok' : ok ↔ AllT T' ∧ ∀ x, x ∈ T' → x.1 ≠ "m" ∧ x.2.1 ≠ "m" := hok.trans ⟨fun z => ⟨z.1, z.2 rfl⟩, fun z => ⟨z.1, fun _ => z.2⟩⟩
        walk_at "st"
        refine ⟨rs, T', "m", rfl, hT, by omega, fun z H' e => qe (fun w => z (hok'.mp w)) H' e, fun p H' rs2 e _ z1 z2 hR => ?_⟩
        exact q (hok'.mpr ⟨z1, z2⟩) _ H' e ⟨p, _, rfl, .inl hR.lst⟩
    · have qx : ¬ DebtsJ m f → ∀ H', Same H H' → E (.ref T.c_InvalidTrade) none H' := fun z => qe fun w => z (hok.mp w)
      rcases hn with rfl | rfl | rfl | rfl
      · walk_at "st"
        exact ⟨ps, m, f, rfl, ht, hm, hl, fun z p H' e _ hR => q (hok.mpr z) _ H' e ⟨p, _, rfl, .inl hR⟩, qx⟩
      · walk_at "st"
        exact ⟨ps, m, f, rfl, ht, hm, hl, fun z p H' _ e _ hR => q (hok.mpr z) _ H' e ⟨p, _, rfl, .inl hR.lst⟩, qx⟩
      · walk_at "st"
        exact ⟨ps, m, f, rfl, ht, hm, hl, fun z p H' rs R e _ hR => q (hok.mpr z) _ H' e ⟨p, _, rfl, .inl hR.lst⟩, qx⟩
      · walk_at "st"
        exact ⟨ps, m, f, rfl, ht, hm, hl, fun z p D O H' e _ hR => q (hok.mpr z) _ H' e ⟨p, _, rfl, .inr hR⟩, qx⟩
def sp_law_raises (K : PySem.W.Frag) : Sp := fun vs H Q _ => ∃ (_ : Unit) (name : Str) (v : V) (ok : Prop), vs = [.str name, v] ∧ Called46 H name v ok ∧ (ok → ∀ H', Same H H' → Q (.bl false) H') ∧ (¬ ok → ∀ H', Same H H' → Q (.bl true) H')
set_option maxHeartbeats 0 in
theorem ok_law_raises (T : Txt K mg) : FnOk P w K mg base CX0 7 T.f_law_raises T.d_law_raises ["name", "value"] (sp_law_raises K) := by
  refine T.F_law_raises.ok sc_law_raises (fun vs H Q E h => ?_) (fun cdv A outer s H vs Q E hr h => ?_)
  · obtain ⟨_, name, v, ok, rfl, _⟩ := h
    rfl
  · obtain ⟨_, name, v, ok, rfl, hc, q1, q2⟩ := h
    have G_law_called : FnOk P w K mg base (L2.CX P w) 6 T.f_law_called T.d_law_called ["name", "value"] (sp_law_called K T.c_InvalidTrade) := ok_law_called T
    have teA := PySem.W.exm_ref T.b_InvalidTrade T.d_InvalidTrade T.t_InvalidTrade T.s_InvalidTrade
    refine ⟨_, (pss_cons (ps_try_as (i := 3) rfl rfl sc_law_raises.nd rfl rfl ⟨rfl, by decide, Or.inl T.m_InvalidTrade⟩ takes0
      (fun W pn xe tk _ => (pss_one (ps_set (i := 2) sc_law_raises.nd rfl (Or.inl rfl) (pe_callS G_law_called hr (by rfl) T.m_law_called T.F_law_called.kp T.b_law_called (fun σ => passAt tk σ) (pa_cons (pv 0) (pa_cons (pv 1) pa_nil))))))
      (fun a oe cls d pn hz hf => (pss_cons (ps_if (PW.pt (pw_and (pt_val (pe_callB (call_isE' T.e_InvalidTrade hz hf) (by rfl) T.z_isinstance (by decide +kernel) (pa_cons (pv 3) (pa_cons (pe_glob (v := .ref T.c_BourseError) rfl T.m_BourseError rfl) pa_nil)))) (pw_and1 (pt_not (pt_val (pe_callB (call_isE' T.e_InvalidTrade hz hf) (by rfl) T.z_isinstance (by decide +kernel) (pa_cons (pv 3) (pa_cons (pe_glob (v := .ref T.c_InvalidAmount) rfl T.m_InvalidAmount rfl) pa_nil))))))))
        (pss_one (ps_ret pe_bl))
        pss_nil)
      (pss_one (ps_ret pe_non)))))
    (pss_cons (ps_if (PW.pt (pw_or (pt_val (pe_callB call_isi (by rfl) T.z_isinstance (by decide +kernel) (pa_cons (pv 2) (pa_cons (pe_bltn (v := .ty "list") (u := .type "list") (by rfl) T.z_list (by decide +kernel) rfl) pa_nil)))) (pw_or1 (pt_val (pe_callB call_isi (by rfl) T.z_isinstance (by decide +kernel) (pa_cons (pv 2) (pa_cons (pe_bltn (v := .ty "tuple") (u := .type "tuple") (by rfl) T.z_tuple (by decide +kernel) rfl) pa_nil)))))))
      (pss_one (ps_ret pe_bl))
      pss_nil)
    (pss_one (ps_ret pe_non)))), ?_⟩
    walk_at "st"
    refine ⟨(), name, v, ok, rfl, hc, fun z x H' e hx => ?_, fun z H' e => ?_⟩
    · obtain ⟨p, xs, rfl, hp | hp⟩ := hx
      · walk_at "st"
        refine ⟨_, _, true, rfl, .ty _, .base (.lst hp), kit_ty (by decide +kernel), ?_⟩
        walk_at "st"
        exact iteT (iteT (q1 z H' e))
      · walk_at "st"
        refine ⟨_, _, false, rfl, .ty _, .base (.tup hp), kit_ty (by decide +kernel), ?_⟩
        walk_at "st"
        refine ⟨_, _, true, rfl, .ty _, .base (.tup hp), kit_ty (by decide +kernel), ?_⟩
        walk_at "st"
        exact iteT (q1 z H' e)
    · refine ⟨true, teA, fun _ a0 _ => ?_, fun q => Bool.noConfusion q⟩
      walk_at "st"
      refine ⟨_, true, rfl, fun u hu => hu, T.kt_InvalidTrade_BourseError, ?_⟩
      refine ⟨true, rfl, iteT ?_⟩
      walk_at "st"
      refine ⟨_, false, rfl, fun u hu => hu, T.kt_InvalidTrade_InvalidAmount, ?_⟩
      walk_at "st"
      exact q2 z H' e

theorem cutV_take {xs : List V} {k : Int} (h0 : 0 ≤ k) (h : k ≤ (xs.length : Int)) : cutV xs none (some k) = xs.take k.toNat := by
  obtain ⟨n, rfl⟩ := Int.eq_ofNat_of_zero_le h0
  have hn : n ≤ xs.length := by omega
  have e : HT.sIx xs.length xs.length (some (n : Int)) = n := by
    rw [HT.sIx_nat]
    omega
  unfold cutV
  show (xs.drop _).take (HT.sIx xs.length xs.length (some (n : Int)) - _) = _
  rw [e, HT.sIx_none, List.drop_zero, Int.toNat_natCast]
  rfl
theorem cutV_drop {xs : List V} {k : Int} (h0 : 0 ≤ k) (h : k ≤ (xs.length : Int)) : cutV xs (some k) none = xs.drop k.toNat := by
  obtain ⟨n, rfl⟩ := Int.eq_ofNat_of_zero_le h0
  have hn : n ≤ xs.length := by omega
  have e : HT.sIx xs.length 0 (some (n : Int)) = n := by
    rw [HT.sIx_nat]
    omega
  unfold cutV
  show (xs.drop (HT.sIx xs.length 0 (some (n : Int)))).take _ = _
  rw [e, HT.sIx_none, List.take_of_length_le (by rw [List.length_drop]; exact Nat.le_refl _), Int.toNat_natCast]
theorem rows_ins {α : Type} {R : Addr → α → Prop} {P : List Addr} {X : List α} {b : Addr} {y : α} {k : Nat} (hl : P.length = X.length) (h : ∀ q, q ∈ P.zip X → R q.1 q.2) (hb : R b y) :
    ∀ (i : Nat) (p : Addr) (x : α), (P.take k ++ [b] ++ P.drop k)[i]? = some p → (X.take k ++ [y] ++ X.drop k)[i]? = some x → R p x := by
  intro i p x h1 h2
  have hz : ((P.take k ++ [b] ++ P.drop k).zip (X.take k ++ [y] ++ X.drop k))[i]? = some (p, x) := List.getElem?_zip_eq_some.mpr ⟨h1, h2⟩
  have hm := List.mem_of_getElem? hz
  rw [List.zip_append (by simp [hl]), List.zip_append (by simp [hl])] at hm
  rcases List.mem_append.mp hm with hm | hm
  · rcases List.mem_append.mp hm with hm | hm
    · rw [show (P.take k).zip (X.take k) = (P.zip X).take k from (List.take_zipWith ..).symm] at hm
      exact h _ (List.mem_of_mem_take hm)
    · rw [show [b].zip [y] = [(b, y)] from rfl, List.mem_singleton] at hm
      have e := Prod.mk.inj hm
      rw [e.1, e.2]
      exact hb
  · rw [show (P.drop k).zip (X.drop k) = (P.zip X).drop k from (List.drop_zipWith ..).symm] at hm
    exact h _ (List.mem_of_mem_drop hm)
def T46 : List (Str × Str × Int × Int) := [("a", "b", 1, 0), ("b", "c", 7, 12), ("d", "a", 1, 5)]
def added46 (b : Int) : List (Str × Str × Int × Int) := [("a", "c", 3, 3), ("e", "a", 1, 0), ("c", "c", 1, 1), ("a", "b", 0, 1), ("a", "b", b, 1), ("b", "a", 1, b)]
theorem all46 : AllT T46 := fun x hx => by
  unfold T46 at hx
  simp only [List.mem_cons, List.not_mem_nil, or_false] at hx
  rcases hx with rfl | rfl | rfl <;> exact ⟨by decide, by decide, by decide, by decide, by decide⟩
/-- names of a sign each, none of them m -/
def Plain46 (x : Str × Str × Int × Int) : Prop := x.1 ≠ "m" ∧ x.2.1 ≠ "m" ∧ x.1.length ≤ 1
theorem plain46 : ∀ x, x ∈ T46 → Plain46 x := fun x hx => by
  unfold T46 at hx
  simp only [List.mem_cons, List.not_mem_nil, or_false] at hx
  rcases hx with rfl | rfl | rfl <;> exact ⟨by decide, by decide, by decide⟩
theorem added_at {b : Int} (hb : b < 0) {k : Nat} (hk : k < 6) : ∃ y, (added46 b)[k]? = some y ∧ Plain46 y ∧ (TradeOk y ↔ k ≤ 1) := by
  match k, hk with
  | 0, _ => exact ⟨_, rfl, ⟨by decide, by decide, by decide⟩, fun _ => by decide, fun _ => ⟨by decide, by decide, by decide, by decide, by decide⟩⟩
  | 1, _ => exact ⟨_, rfl, ⟨by decide, by decide, by decide⟩, fun _ => by decide, fun _ => ⟨by decide, by decide, by decide, by decide, by decide⟩⟩
  | 2, _ => exact ⟨_, rfl, ⟨by decide, by decide, by decide⟩, fun z => absurd rfl z.ne, fun z => absurd z (by decide)⟩
  | 3, _ => exact ⟨_, rfl, ⟨by decide, by decide, by decide⟩, fun z => absurd z.u (by decide), fun z => absurd z (by decide)⟩
  | 4, _ => exact ⟨_, rfl, ⟨by show Str.ofString "a" ≠ Str.ofString "m"; decide, by show Str.ofString "b" ≠ Str.ofString "m"; decide, by show (Str.ofString "a").length ≤ 1; decide⟩, fun z => absurd (show 1 ≤ b from z.u) (by omega), fun z => absurd z (by decide)⟩
  | 5, _ => exact ⟨_, rfl, ⟨by show Str.ofString "b" ≠ Str.ofString "m"; decide, by show Str.ofString "a" ≠ Str.ofString "m"; decide, by show (Str.ofString "b").length ≤ 1; decide⟩, fun z => absurd (show 0 ≤ b from z.c) (by omega), fun z => absurd z (by decide)⟩
def sp_law_trades (K : PySem.W.Frag) : Sp := fun vs H Q _ => ∃ (a : Addr) (ns : List Int), vs = [.ref a] ∧ SqL K H a (ns.map V.int) ∧
  ∀ (p : Addr) (H' : Hp) (l : Addr) (rs : List Addr) (T : List (Str × Str × Int × Int)) (wrong : Bool), Same H H' → H p = none → H' p = some (.tup [.ref l, .bl wrong]) → Tups enc4 H' l rs T → T.length ≤ 10 → (wrong = false ↔ AllT T) → (∀ x, x ∈ T → Plain46 x) → (∃ x, x ∈ T ∧ x.1 = "d") → Q (.ref p) H'
set_option maxHeartbeats 0 in
theorem ok_law_trades (T : Txt K mg) : FnOk P w K mg base CX0 2 T.f_law_trades T.d_law_trades ["script"] (sp_law_trades K) := by
  refine T.F_law_trades.ok sc_law_trades (fun vs H Q E h => ?_) (fun cdv A outer s H vs Q E hr h => ?_)
  · obtain ⟨a, ns, rfl, _⟩ := h
    rfl
  · obtain ⟨a, ns, rfl, hs, q⟩ := h
    have G_law_cell : FnOk P w K mg base CX0 1 T.f_law_cell T.d_law_cell ["script", "k"] (sp_law_cell K) := ok_law_cell T
    refine ⟨_, (pss_cons (ps_set (i := 1) sc_law_trades.nd rfl (Or.inl rfl) (pe_lst (pa_cons (pe_tup (pa_cons pe_str (pa_cons pe_str (pa_cons pe_int (pa_cons pe_int pa_nil))))) (pa_cons (pe_tup (pa_cons pe_str (pa_cons pe_str (pa_cons pe_int (pa_cons pe_int pa_nil))))) (pa_cons (pe_tup (pa_cons pe_str (pa_cons pe_str (pa_cons pe_int (pa_cons pe_int pa_nil))))) pa_nil)))))
    (pss_cons (ps_set (i := 2) sc_law_trades.nd rfl (Or.inl rfl) (pe_op op_mod (pe_call G_law_cell hr (by rfl) T.m_law_cell T.F_law_cell.kp T.b_law_cell .nil pass0 (pa_cons (pv 0) (pa_cons pe_int pa_nil))) pe_int))
    (pss_cons (ps_set (i := 3) sc_law_trades.nd rfl (Or.inl rfl) (pe_op op_sub (pe_un un_neg pe_int) (pe_op op_mod (pe_callB call_abs (by rfl) T.z_abs (by decide +kernel) (pa_cons (pe_call G_law_cell hr (by rfl) T.m_law_cell T.F_law_cell.kp T.b_law_cell .nil pass0 (pa_cons (pv 0) (pa_cons pe_int pa_nil))) pa_nil)) pe_int)))
    (pss_cons (ps_set (i := 4) sc_law_trades.nd rfl (Or.inl rfl) (pe_lst (pa_cons (pe_tup (pa_cons pe_str (pa_cons pe_str (pa_cons pe_int (pa_cons pe_int pa_nil))))) (pa_cons (pe_tup (pa_cons pe_str (pa_cons pe_str (pa_cons pe_int (pa_cons pe_int pa_nil))))) (pa_cons (pe_tup (pa_cons pe_str (pa_cons pe_str (pa_cons pe_int (pa_cons pe_int pa_nil))))) (pa_cons (pe_tup (pa_cons pe_str (pa_cons pe_str (pa_cons pe_int (pa_cons pe_int pa_nil))))) pa_nil))))))
    (pss_cons (ps_set (i := 4) sc_law_trades.nd rfl (Or.inl rfl) (pe_op op_cat (pv 4) (pe_lst (pa_cons (pe_tup (pa_cons pe_str (pa_cons pe_str (pa_cons (pv 3) (pa_cons pe_int pa_nil))))) (pa_cons (pe_tup (pa_cons pe_str (pa_cons pe_str (pa_cons pe_int (pa_cons (pv 3) pa_nil))))) pa_nil)))))
    (pss_cons (ps_set (i := 5) sc_law_trades.nd rfl (Or.inl rfl) (pe_op op_mod (pe_call G_law_cell hr (by rfl) T.m_law_cell T.F_law_cell.kp T.b_law_cell .nil pass0 (pa_cons (pv 0) (pa_cons pe_int pa_nil))) pe_int))
    (pss_one (ps_ret (pe_tup (pa_cons (pe_op op_cat (pe_op op_cat (pe_slice sl_list (pv 1) po_none (po_some (pv 5))) (pe_lst (pa_cons (pe_ix ix_list (pv 4) (pv 2) (fun _ _ => rfl)) pa_nil))) (pe_slice sl_list (pv 1) (po_some (pv 5)) po_none)) (pa_cons (pe_cmpR op_gt (pv 2) pe_int (nomark _)) pa_nil))))))))))), ?_⟩
    walk_at "st"
    intro A1 n1
    have s1 := same_upd (o := .tup [.str "a", .str "b", .int 1, .int 0]) n1
    have h1 := upd_same (H := H) (a := A1) (o := .tup [.str "a", .str "b", .int 1, .int 0])
    generalize upd H A1 (.tup [.str "a", .str "b", .int 1, .int 0]) = H1 at *
    walk_at "st"
    intro A2 n2
    have s2 := same_upd (o := .tup [.str "b", .str "c", .int 7, .int 12]) n2
    have h2 := upd_same (H := H1) (a := A2) (o := .tup [.str "b", .str "c", .int 7, .int 12])
    generalize upd H1 A2 (.tup [.str "b", .str "c", .int 7, .int 12]) = H2 at *
    walk_at "st"
    intro A3 n3
    have s3 := same_upd (o := .tup [.str "d", .str "a", .int 1, .int 5]) n3
    have h3 := upd_same (H := H2) (a := A3) (o := .tup [.str "d", .str "a", .int 1, .int 5])
    generalize upd H2 A3 (.tup [.str "d", .str "a", .int 1, .int 5]) = H3 at *
    walk_at "st"
    intro A4 n4
    have s4 := same_upd (o := .lst [.ref A1, .ref A2, .ref A3]) n4
    have h4 := upd_same (H := H3) (a := A4) (o := .lst [.ref A1, .ref A2, .ref A3])
    generalize upd H3 A4 (.lst [.ref A1, .ref A2, .ref A3]) = H4 at *
    have e4 := ((s1.trans s2).trans s3).trans s4
    have hs4 := e4.seq hs
    walk_at "st"
    intro A5 n5
    have s5 := same_upd (o := .tup [.str "a", .str "c", .int 3, .int 3]) n5
    have h5 := upd_same (H := H4) (a := A5) (o := .tup [.str "a", .str "c", .int 3, .int 3])
    generalize upd H4 A5 (.tup [.str "a", .str "c", .int 3, .int 3]) = H5 at *
    walk_at "st"
    intro A6 n6
    have s6 := same_upd (o := .tup [.str "e", .str "a", .int 1, .int 0]) n6
    have h6 := upd_same (H := H5) (a := A6) (o := .tup [.str "e", .str "a", .int 1, .int 0])
    generalize upd H5 A6 (.tup [.str "e", .str "a", .int 1, .int 0]) = H6 at *
    walk_at "st"
    intro A7 n7
    have s7 := same_upd (o := .tup [.str "c", .str "c", .int 1, .int 1]) n7
    have h7 := upd_same (H := H6) (a := A7) (o := .tup [.str "c", .str "c", .int 1, .int 1])
    generalize upd H6 A7 (.tup [.str "c", .str "c", .int 1, .int 1]) = H7 at *
    walk_at "st"
    intro A8 n8
    have s8 := same_upd (o := .tup [.str "a", .str "b", .int 0, .int 1]) n8
    have h8 := upd_same (H := H7) (a := A8) (o := .tup [.str "a", .str "b", .int 0, .int 1])
    generalize upd H7 A8 (.tup [.str "a", .str "b", .int 0, .int 1]) = H8 at *
    walk_at "st"
    intro A9 n9
    have s9 := same_upd (o := .lst [.ref A5, .ref A6, .ref A7, .ref A8]) n9
    have h9 := upd_same (H := H8) (a := A9) (o := .lst [.ref A5, .ref A6, .ref A7, .ref A8])
    generalize upd H8 A9 (.lst [.ref A5, .ref A6, .ref A7, .ref A8]) = H9 at *
    walk_at "st"
    intro A10 n10
    have s10 := same_upd (o := .tup [.str "a", .str "b", .int (-1 - (if cellOf ns 2 < 0 then -cellOf ns 2 else cellOf ns 2) % 9), .int 1]) n10
    have h10 := upd_same (H := H9) (a := A10) (o := .tup [.str "a", .str "b", .int (-1 - (if cellOf ns 2 < 0 then -cellOf ns 2 else cellOf ns 2) % 9), .int 1])
    generalize upd H9 A10 (.tup [.str "a", .str "b", .int (-1 - (if cellOf ns 2 < 0 then -cellOf ns 2 else cellOf ns 2) % 9), .int 1]) = H10 at *
    walk_at "st"
    intro A11 n11
    have s11 := same_upd (o := .tup [.str "b", .str "a", .int 1, .int (-1 - (if cellOf ns 2 < 0 then -cellOf ns 2 else cellOf ns 2) % 9)]) n11
    have h11 := upd_same (H := H10) (a := A11) (o := .tup [.str "b", .str "a", .int 1, .int (-1 - (if cellOf ns 2 < 0 then -cellOf ns 2 else cellOf ns 2) % 9)])
    generalize upd H10 A11 (.tup [.str "b", .str "a", .int 1, .int (-1 - (if cellOf ns 2 < 0 then -cellOf ns 2 else cellOf ns 2) % 9)]) = H11 at *
    walk_at "st"
    intro A12 n12
    have s12 := same_upd (o := .lst [.ref A10, .ref A11]) n12
    have h12 := upd_same (H := H11) (a := A12) (o := .lst [.ref A10, .ref A11])
    generalize upd H11 A12 (.lst [.ref A10, .ref A11]) = H12 at *
    have hA9 := (s10.trans (s11.trans s12)) _ _ h9
    have hz12 : [V.ref A5, V.ref A6, V.ref A7, V.ref A8].length + [V.ref A10, V.ref A11].length ≤ sizeLine := len_le rfl
    walk_at "st"
    intro A13 n13
    have s13 := same_upd (o := .lst ([V.ref A5, V.ref A6, V.ref A7, V.ref A8] ++ [V.ref A10, V.ref A11])) n13
    have h13 := upd_same (H := H12) (a := A13) (o := .lst ([V.ref A5, V.ref A6, V.ref A7, V.ref A8] ++ [V.ref A10, V.ref A11]))
    generalize upd H12 A13 (.lst ([V.ref A5, V.ref A6, V.ref A7, V.ref A8] ++ [V.ref A10, V.ref A11])) = H13 at *
    have e13 := (((((((((s5.trans s6).trans s7).trans s8).trans s9).trans s10).trans s11).trans s12).trans s13))
    have hs13 := (e4.trans e13).seq hs
    have hA4 := SqL.of (K := K) (e13 _ _ h4)
    have hA13 := SqL.of (K := K) h13
    walk_at "st"
    have hk0 : 0 ≤ cellOf ns 0 % 6 ∧ cellOf ns 0 % 6 < 6 := by omega
    have ha0 : 0 ≤ cellOf ns 1 % 4 ∧ cellOf ns 1 % 4 ≤ 3 := by omega
    have hb0 : -1 - (if cellOf ns 2 < 0 then -cellOf ns 2 else cellOf ns 2) % 9 < 0 := by omega
    have hadd : ∀ q, q ∈ [A5, A6, A7, A8, A10, A11].zip (added46 (-1 - (if cellOf ns 2 < 0 then -cellOf ns 2 else cellOf ns 2) % 9)) → H13 q.1 = some (.tup (enc4 q.2)) := by
      intro q hq
      unfold added46 at hq
      simp only [List.zip_cons_cons, List.zip_nil_right, List.mem_cons, List.not_mem_nil, or_false] at hq
      rcases hq with rfl | rfl | rfl | rfl | rfl | rfl
      · exact (((((((s6.trans s7).trans s8).trans s9).trans s10).trans s11).trans s12).trans s13) _ _ h5
      · exact ((((((s7.trans s8).trans s9).trans s10).trans s11).trans s12).trans s13) _ _ h6
      · exact (((((s8.trans s9).trans s10).trans s11).trans s12).trans s13) _ _ h7
      · exact ((((s9.trans s10).trans s11).trans s12).trans s13) _ _ h8
      · exact ((s11.trans s12).trans s13) _ _ h10
      · exact (s12.trans s13) _ _ h11
    have htr : ∀ q, q ∈ [A1, A2, A3].zip T46 → H13 q.1 = some (.tup (enc4 q.2)) := by
      intro q hq
      unfold T46 at hq
      simp only [List.zip_cons_cons, List.zip_nil_right, List.mem_cons, List.not_mem_nil, or_false] at hq
      rcases hq with rfl | rfl | rfl
      · exact (((s2.trans s3).trans s4).trans e13) _ _ h1
      · exact ((s3.trans s4).trans e13) _ _ h2
      · exact (s4.trans e13) _ _ h3
    obtain ⟨y, hy1, hy2, hy3⟩ := added_at hb0 (k := (cellOf ns 0 % 6).toNat) (by omega)
    obtain ⟨b, hb1⟩ : ∃ b, [A5, A6, A7, A8, A10, A11][(cellOf ns 0 % 6).toNat]? = some b := ⟨_, List.getElem?_eq_getElem (by show (cellOf ns 0 % 6).toNat < 6; omega)⟩
    have hby : H13 b = some (.tup (enc4 y)) := hadd (b, y) (List.mem_of_getElem? (List.getElem?_zip_eq_some.mpr ⟨hb1, hy1⟩))
    have hat : atI ([V.ref A5, V.ref A6, V.ref A7, V.ref A8] ++ [V.ref A10, V.ref A11]) (cellOf ns 0 % 6) = some (.ref b) := by
      obtain ⟨k, hk⟩ := Int.eq_ofNat_of_zero_le hk0.1
      rw [hk] at hb1 ⊢
      rw [Int.toNat_natCast] at hb1
      refine at_of (j := k) rfl ?_
      rw [show ([V.ref A5, V.ref A6, V.ref A7, V.ref A8] ++ [V.ref A10, V.ref A11]) = [A5, A6, A7, A8, A10, A11].map V.ref from rfl, List.getElem?_map, hb1]
      rfl
    have hct := cutV_take (xs := [V.ref A1, V.ref A2, V.ref A3]) ha0.1 ha0.2
    have hcd := cutV_drop (xs := [V.ref A1, V.ref A2, V.ref A3]) ha0.1 ha0.2
    generalize hat4 : (cellOf ns 1 % 4).toNat = at4 at hct hcd
    intro B1 m1
    rw [hct]
    have u1 := same_upd (o := .lst ([V.ref A1, V.ref A2, V.ref A3].take at4)) m1
    have g1 := upd_same (H := H13) (a := B1) (o := .lst ([V.ref A1, V.ref A2, V.ref A3].take at4))
    generalize upd H13 B1 (.lst ([V.ref A1, V.ref A2, V.ref A3].take at4)) = G1 at *
    have hA13' := u1.seq hA13
    walk_at "st"
    intro B2 m2
    have u2 := same_upd (o := .lst [V.ref b]) m2
    have g2 := upd_same (H := G1) (a := B2) (o := .lst [V.ref b])
    generalize upd G1 B2 (.lst [V.ref b]) = G2 at *
    have g12 := u2 _ _ g1
    have z1 : ([V.ref A1, V.ref A2, V.ref A3].take at4).length + [V.ref b].length ≤ sizeLine := len_le (Nat.ble_eq_true_of_le (by rw [List.length_take]; show min at4 3 + 1 ≤ 1000; omega))
    walk_at "st"
    intro B3 m3
    have u3 := same_upd (o := .lst ([V.ref A1, V.ref A2, V.ref A3].take at4 ++ [V.ref b])) m3
    have g3 := upd_same (H := G2) (a := B3) (o := .lst ([V.ref A1, V.ref A2, V.ref A3].take at4 ++ [V.ref b]))
    generalize upd G2 B3 (.lst ([V.ref A1, V.ref A2, V.ref A3].take at4 ++ [V.ref b])) = G3 at *
    have hA4' := ((u1.trans u2).trans u3).seq hA4
    walk_at "st"
    intro B4 m4
    rw [hcd]
    have u4 := same_upd (o := .lst ([V.ref A1, V.ref A2, V.ref A3].drop at4)) m4
    have g4 := upd_same (H := G3) (a := B4) (o := .lst ([V.ref A1, V.ref A2, V.ref A3].drop at4))
    generalize upd G3 B4 (.lst ([V.ref A1, V.ref A2, V.ref A3].drop at4)) = G4 at *
    have g34 := u4 _ _ g3
    have z2 : ([V.ref A1, V.ref A2, V.ref A3].take at4 ++ [V.ref b]).length + ([V.ref A1, V.ref A2, V.ref A3].drop at4).length ≤ sizeLine := len_le (Nat.ble_eq_true_of_le (by rw [List.length_append, List.length_take, List.length_drop]; show min at4 3 + 1 + (3 - at4) ≤ 1000; omega))
    walk_at "st"
    intro B5 m5
    have u5 := same_upd (o := .lst ([V.ref A1, V.ref A2, V.ref A3].take at4 ++ [V.ref b] ++ [V.ref A1, V.ref A2, V.ref A3].drop at4)) m5
    have g5 := upd_same (H := G4) (a := B5) (o := .lst ([V.ref A1, V.ref A2, V.ref A3].take at4 ++ [V.ref b] ++ [V.ref A1, V.ref A2, V.ref A3].drop at4))
    generalize upd G4 B5 (.lst ([V.ref A1, V.ref A2, V.ref A3].take at4 ++ [V.ref b] ++ [V.ref A1, V.ref A2, V.ref A3].drop at4)) = G5 at *
    walk_at "st"
    intro B6 m6
    have u6 := same_upd (o := .tup [V.ref B5, V.bl (decide (1 < cellOf ns 0 % 6))]) m6
    have e05 := (((((e4.trans e13).trans u1).trans u2).trans u3).trans u4).trans u5
    have e13b := ((((u1.trans u2).trans u3).trans u4).trans u5).trans u6
    refine q B6 _ B5 ([A1, A2, A3].take at4 ++ [b] ++ [A1, A2, A3].drop at4) (T46.take at4 ++ [y] ++ T46.drop at4) (decide (1 < cellOf ns 0 % 6)) (e05.trans u6) (e05.free m6) upd_same ⟨?_, ?_, ?_⟩ ?_ ?_ ?_ ?_
    · rw [u6 _ _ g5]
      simp only [List.map_append, List.map_take, List.map_drop]
      rfl
    · simp only [List.length_append, List.length_take, List.length_drop]
      rfl
    · exact rows_ins rfl (fun q hq => e13b _ _ (htr q hq)) (e13b _ _ hby)
    · simp only [List.length_append, List.length_take, List.length_drop]
      show min at4 3 + 1 + (3 - at4) ≤ 10
      omega
    · rw [decide_eq_false_iff_not]
      constructor
      · intro hk x hx
        have hy : TradeOk y := hy3.mpr (by omega)
        rcases List.mem_append.mp hx with hx | hx
        · rcases List.mem_append.mp hx with hx | hx
          · exact all46 x (List.mem_of_mem_take hx)
          · rw [List.mem_singleton.mp hx]
            exact hy
        · exact all46 x (List.mem_of_mem_drop hx)
      · intro h
        have := hy3.mp (h y (List.mem_append_left _ (List.mem_append_right _ List.mem_cons_self)))
        omega
    · intro x hx
      rcases List.mem_append.mp hx with hx | hx
      · rcases List.mem_append.mp hx with hx | hx
        · exact plain46 x (List.mem_of_mem_take hx)
        · rw [List.mem_singleton.mp hx]
          exact hy2
      · exact plain46 x (List.mem_of_mem_drop hx)
    · have hd : (((("d" : Str), ("a" : Str), (1 : Int), (5 : Int))) : Str × Str × Int × Int) ∈ T46.take at4 ++ T46.drop at4 := by
        rw [List.take_append_drop]
        exact List.mem_cons_of_mem _ (List.mem_cons_of_mem _ List.mem_cons_self)
      refine ⟨("d", "a", 1, 5), ?_, rfl⟩
      rcases List.mem_append.mp hd with z | z
      · exact List.mem_append_left _ (List.mem_append_left _ z)
      · exact List.mem_append_right _ z

def setJ (f : Nat → List Int) (i : Nat) (xs : List Int) (k : Nat) : List Int := if k = i then xs else f k
theorem setJ_at {f : Nat → List Int} {i : Nat} {xs : List Int} : setJ f i xs i = xs := if_pos rfl
theorem setJ_ne {f : Nat → List Int} {i k : Nat} {xs : List Int} (h : k ≠ i) : setJ f i xs k = f k := if_neg h
/-! ### a table of rows of any lengths, changed -/
theorem JagR.there {H : Hp} {t : Addr} {ps : List Addr} {m : Nat} {f : Nat → List Int} (h : JagR H t ps m f) {q : Addr} (hq : H q = none) : q ∉ ps ∧ q ≠ t := by
  refine ⟨fun z => ?_, fun z => by rw [z, h.lst] at hq; cases hq⟩
  obtain ⟨i, hi⟩ := List.mem_iff_getElem?.mp z
  rw [h.row i q hi] at hq
  cases hq
theorem JagR.setRow {H : Hp} {t q : Addr} {ps : List Addr} {m i : Nat} {f : Nat → List Int} {xs : List Int} (h : JagR H t ps m f) (hi : i < m) (hq : H q = some (.lst (xs.map V.int))) (n1 : q ∉ ps) (n2 : q ≠ t) :
    JagR (upd H t (.lst ((ps.map V.ref).set i (.ref q)))) t (ps.set i q) m (setJ f i xs) := by
  have hil : i < ps.length := by rw [h.len]; exact hi
  refine ⟨?_, by rw [List.length_set]; exact h.len, fun k p hk => ?_, ?_, ?_⟩
  · rw [upd_same, List.map_set]
  · rw [List.getElem?_set] at hk
    by_cases hki : i = k
    · rw [if_pos hki, if_pos hil] at hk
      obtain rfl := Option.some.inj hk
      rw [upd_ne n2, ← hki, setJ_at]
      exact hq
    · rw [if_neg hki] at hk
      rw [upd_ne fun z => h.out (by rw [← z]; exact List.mem_of_getElem? hk), setJ_ne fun z => hki z.symm]
      exact h.row k p hk
  · refine List.pairwise_iff_getElem.mpr fun a b ha hb hab => ?_
    rw [List.length_set] at ha hb
    rw [List.getElem_set, List.getElem_set]
    split
    · rw [if_neg (by omega)]
      exact fun z => n1 (by rw [z]; exact List.getElem_mem hb)
    · split
      · exact fun z => n1 (by rw [← z]; exact List.getElem_mem ha)
      · exact List.pairwise_iff_getElem.mp h.nod a b ha hb hab
  · intro z
    rcases List.mem_or_eq_of_mem_set z with z | z
    · exact h.out z
    · exact n2 z.symm
theorem JagR.setCell {H : Hp} {t p : Addr} {ps : List Addr} {m i : Nat} {f : Nat → List Int} {xs : List Int} (h : JagR H t ps m f) (hp : ps[i]? = some p) :
    JagR (upd H p (.lst (xs.map V.int))) t ps m (setJ f i xs) := by
  have hm := List.mem_of_getElem? hp
  have hil := (List.getElem?_eq_some_iff.mp hp).1
  refine ⟨?_, h.len, fun k r hk => ?_, h.nod, h.out⟩
  · rw [upd_ne fun z => h.out (by rw [z]; exact hm)]
    exact h.lst
  · have hkl := (List.getElem?_eq_some_iff.mp hk).1
    by_cases hki : k = i
    · rw [hki] at hk ⊢
      rw [hp] at hk
      obtain rfl := Option.some.inj hk
      rw [upd_same, setJ_at]
    · rw [setJ_ne hki, upd_ne]
      · exact h.row k r hk
      · intro z
        rw [z] at hk
        exact hki ((List.getElem?_inj hkl h.nod).mp (hk.trans hp.symm))

def sp_law_debts (K : PySem.W.Frag) : Sp := fun vs H Q _ => ∃ (a : Addr) (ns : List Int), vs = [.ref a] ∧ SqL K H a (ns.map V.int) ∧
  ∀ (p : Addr) (H' : Hp) (t : Addr) (ps : List Addr) (m : Nat) (f : Nat → List Int) (wrong : Bool), Same H H' → H p = none → H' p = some (.tup [.ref t, .bl wrong]) → JagR H' t ps m f → m ≤ 14 → (∀ i, i < m → (f i).length ≤ 14) → (wrong = false ↔ DebtsJ m f) → Q (.ref p) H'
set_option maxHeartbeats 0 in
theorem ok_law_debts (T : Txt K mg) : FnOk P w K mg base CX0 2 T.f_law_debts T.d_law_debts ["script"] (sp_law_debts K) := by
  refine T.F_law_debts.ok sc_law_debts (fun vs H Q E h => ?_) (fun cdv A outer s H vs Q E hr h => ?_)
  · obtain ⟨a, ns, rfl, _⟩ := h
    rfl
  · obtain ⟨a, ns, rfl, hs, q⟩ := h
    have G_law_draws : FnOk P w K mg base CX0 1 T.f_law_draws T.d_law_draws ["cell", "count", "size"] (sp_law_draws K) := ok_law_draws T
    have G_law_cell : FnOk P w K mg base CX0 1 T.f_law_cell T.d_law_cell ["script", "k"] (sp_law_cell K) := ok_law_cell T
    refine ⟨_, (pss_cons (ps_set (i := 1) sc_law_debts.nd rfl (Or.inr rfl) (pe_op op_add pe_int (pe_op op_mod (pe_call G_law_cell hr (by rfl) T.m_law_cell T.F_law_cell.kp T.b_law_cell .nil pass0 (pa_cons (pv 0) (pa_cons pe_int pa_nil))) pe_int)))
    (pss_cons (ps_setLc (i := 2) (own := [("k", 3)]) (g := gName 3) (tt := tYes) rfl sc_law_debts.nd rfl rfl (sw_true rfl rfl rfl (by decide +kernel)) (pi_range1 (by rfl) T.z_range (pa_cons (pv 1) pa_nil)) (blkOk_by (own := [("k", 3)]) (N := N_law_debts) (sc := defScope s_law_debts) (by decide +kernel)) (fun _ _ _ _ _ => (pg_name (i := 3) sc_law_debts.nd rfl (Or.inl rfl))) (fun _ _ _ _ _ => pts_nil) (fun _ _ _ _ _ => (pe_call G_law_draws hr (by rfl) T.m_law_draws T.F_law_draws.kp T.b_law_draws .nil pass0 (pa_cons (pe_op op_add (pe_call G_law_cell hr (by rfl) T.m_law_cell T.F_law_cell.kp T.b_law_cell .nil pass0 (pa_cons (pv 0) (pa_cons pe_int pa_nil))) (pv 3)) (pa_cons (pv 1) (pa_cons pe_int pa_nil))))))
    (pss_cons (ps_for PassesOwn.never rfl (pi_range1 (by rfl) T.z_range (pa_cons (pv 1) pa_nil)) (pg_name (i := 3) sc_law_debts.nd rfl (Or.inl rfl))
      (pss_one (ps_asg pe_int (pg_sub (pe_ix ix_list (pv 2) (pv 3) (fun _ _ => rfl)) (pv 3) set_list))))
    (pss_cons (ps_set (i := 4) sc_law_debts.nd rfl (Or.inl rfl) (pe_op op_mod (pe_call G_law_cell hr (by rfl) T.m_law_cell T.F_law_cell.kp T.b_law_cell .nil pass0 (pa_cons (pv 0) (pa_cons pe_int pa_nil))) (pv 1)))
    (pss_cons (ps_set (i := 5) sc_law_debts.nd rfl (Or.inl rfl) (pe_op op_mod (pe_callTy call_int_i (by rfl) T.z_int (by decide +kernel) (pa_cons (pe_op op_add (pe_op op_add (pv 4) pe_int) (pe_op op_mod (pe_call G_law_cell hr (by rfl) T.m_law_cell T.F_law_cell.kp T.b_law_cell .nil pass0 (pa_cons (pv 0) (pa_cons pe_int pa_nil))) (pe_callB (call_max2 rfl) (by rfl) T.z_max (by decide +kernel) (pa_cons pe_int (pa_cons (pe_op op_sub (pv 1) pe_int) pa_nil))))) pa_nil)) (pv 1)))
    (pss_cons (ps_set (i := 6) sc_law_debts.nd rfl (Or.inl rfl) (pe_op op_mod (pe_call G_law_cell hr (by rfl) T.m_law_cell T.F_law_cell.kp T.b_law_cell .nil pass0 (pa_cons (pv 0) (pa_cons pe_int pa_nil))) pe_int))
    (pss_cons (ps_if (pt_cmpR op_eq (pv 6) pe_int (nomark _))
      (pss_one (ps_asg (pe_op op_cat (pe_ix ix_list (pv 2) (pv 4) (fun _ _ => rfl)) (pe_lst (pa_cons pe_int pa_nil))) (pg_sub (pv 2) (pv 4) set_list)))
      pss_nil)
    (pss_cons (ps_if (pt_cmpR op_eq (pv 6) pe_int (nomark _))
      (pss_one (ps_asg (pe_slice sl_list (pe_ix ix_list (pv 2) (pv 4) (fun _ _ => rfl)) po_none (po_some (pe_op op_sub (pv 1) pe_int))) (pg_sub (pv 2) (pv 4) set_list)))
      pss_nil)
    (pss_cons (ps_if (pt_cmpR op_eq (pv 6) pe_int (nomark _))
      (pss_one (ps_asg pe_int (pg_sub (pe_ix ix_list (pv 2) (pv 4) (fun _ _ => rfl)) (pv 4) set_list)))
      pss_nil)
    (pss_cons (ps_if (pt_cmpR op_eq (pv 6) pe_int (nomark _))
      (pss_one (ps_asg (pe_ix ix_list (pe_lst (pa_cons (pe_un un_neg pe_int) (pa_cons pe_int pa_nil))) (pe_op op_mod (pe_call G_law_cell hr (by rfl) T.m_law_cell T.F_law_cell.kp T.b_law_cell .nil pass0 (pa_cons (pv 0) (pa_cons pe_int pa_nil))) pe_int) (fun _ _ => rfl)) (pg_sub (pe_ix ix_list (pv 2) (pv 4) (fun _ _ => rfl)) (pv 5) set_list)))
      pss_nil)
    (pss_cons (ps_if (pt_cmpR op_eq (pv 6) pe_int (nomark _))
      (pss_one (ps_set (i := 2) sc_law_debts.nd rfl (Or.inl rfl) (pe_lst pa_nil)))
      pss_nil)
    (pss_cons (ps_if (pt_cmpR op_eq (pv 6) pe_int (nomark _))
      (pss_one (ps_setLc (i := 2) (own := [("row", 8)]) (g := gName 8) (tt := tYes) rfl sc_law_debts.nd rfl rfl (sw_true rfl rfl rfl (by decide +kernel)) (pi_range1 (by rfl) T.z_range (pa_cons pe_int pa_nil)) (blkOk_by (own := [("row", 8)]) (N := N_law_debts) (sc := defScope s_law_debts) (by decide +kernel)) (fun _ _ _ _ _ => (pg_name (i := 8) sc_law_debts.nd rfl (Or.inl rfl))) (fun _ _ _ _ _ => pts_nil) (fun _ _ _ _ _ => (pe_lc (own := [("column", 7)]) (g := gName 7) (tt := tYes) rfl sc_law_debts.nd (pi_range1 (by rfl) T.z_range (pa_cons pe_int pa_nil)) (blkOk_by (own := [("column", 7)]) (N := N_law_debts) (by show blkC _ (relS _ (defScope s_law_debts)) _ _ = true; decide +kernel)) (fun _ _ _ _ _ => (pg_name (i := 7) sc_law_debts.nd rfl (Or.inl rfl))) (fun _ _ _ _ _ => pts_nil) (fun _ _ _ _ _ => pe_int)))))
      pss_nil)
    (pss_one (ps_ret (pe_tup (pa_cons (pv 2) (pa_cons (pe_cmpR op_gt (pv 6) pe_int (nomark _)) pa_nil))))))))))))))))), ?_⟩
    have hn0 : 1 ≤ 1 + cellOf ns 3 % 13 ∧ 1 + cellOf ns 3 % 13 ≤ 13 := by omega
    obtain ⟨n, hn⟩ := Int.eq_ofNat_of_zero_le (show 0 ≤ 1 + cellOf ns 3 % 13 by omega)
    have hnt : (1 + cellOf ns 3 % 13).toNat = n := by omega
    walk_at "st"
    intro D nD
    refine lc_range (lo := 0) (n := (1 + cellOf ns 3 % 13).toNat) (fun i H' => ∃ (_ : Unit) (ps : List Addr) (f : Nat → List Int), JagR H' D ps i f ∧ (∀ a, a < i → (f a).length = n ∧ ∀ x, x ∈ f a → 0 ≤ x ∧ x < 10000) ∧ Same H H' ∧ ∀ p, p ∈ ps → H p = none) ⟨(), [], fun _ => [], .nil _ upd_same, (fun a h => by omega), same_upd nD, fun p hp => by cases hp⟩ ?_ ?_
    · rintro i H' hi ⟨_, ps, f, ht, hb, e2, hfr⟩
      have hs2 := e2.seq hs
      rw [show (0 : Int) + i = ((i : Nat) : Int) by omega]
      refine ⟨rfl, ?_⟩
      walk_at "st"
      refine ⟨show [V.int (cellOf ns 4 + (i : Int)), V.int (1 + cellOf ns 3 % 13), V.int 10000] = [V.int (cellOf ns 4 + (i : Int)), V.int (n : Int), V.int 10000] by rw [hn], by omega, by omega, by omega, ?_⟩
      intro p H2 ds e3 np hp hl hb2
      have ht' := JagR.push (ht.congr (g := fun a => if a = i then ds else f a) fun a ha => by rw [if_neg (by omega)]) e3 np (by rw [if_pos rfl]; exact hp)
      refine ⟨_, e3 _ _ ht.lst, small1000 (by rw [List.length_map, ht.len]; omega), (), _, _, ht', fun a ha => ?_, TabR.keep (e2.trans e3) nD, fun p hp => ?_⟩
      · by_cases h : a = i
        · rw [if_pos h]
          exact ⟨hl, hb2⟩
        · rw [if_neg h]
          exact hb a (by omega)
      · rcases List.mem_append.mp hp with hp | hp
        · exact hfr p hp
        · rw [List.mem_singleton.mp hp]
          exact e2.free np
    · rintro H' ⟨_, ps, f, ht, hb, e2, hfr⟩
      rw [hnt] at ht hb
      walk_at "st"
      refine for_range (lo := 0) (n := (1 + cellOf ns 3 % 13).toNat) (fun i σ H2 => ∃ (v3 : Option V) (f : Nat → List Int), σ = [some (.ref a), some (.int (1 + cellOf ns 3 % 13)), some (.ref D), v3, none, none, none, none, none] ∧ JagR H2 D ps n f ∧ (∀ a, a < n → (f a).length = n ∧ ∀ x, x ∈ f a → 0 ≤ x ∧ x < 10000) ∧ (∀ a, a < i → at0 (f a) a = 0) ∧ Same H H2) ⟨none, f, rfl, ht, hb, (fun a h => by omega), e2⟩ ?_ ?_
      · rintro i σ H2 hi ⟨v3, f, rfl, ht, hb, hz, e3⟩
        rw [hnt] at hi
        rw [show (0 : Int) + i = ((i : Nat) : Int) by omega]
        obtain ⟨r, hr1, hr2, hr3⟩ := ht.at hi
        have hts := SqL.of (K := K) ht.lst
        walk_at "st"
        refine ⟨ixN_nat (by rw [List.length_map, (hb i hi).1]; exact hi), ?_⟩
        rw [show (((f i).map V.int).set i (V.int 0)) = ((f i).set i 0).map V.int from (List.map_set ..).symm]
        refine ⟨_, setJ f i ((f i).set i 0), rfl, ht.setCell hr1, fun k hk => ?_, fun k hk => ?_, fun b o e => ?_⟩
        · by_cases h : k = i
          · rw [h, setJ_at, List.length_set]
            refine ⟨(hb i hi).1, fun x hx => ?_⟩
            rcases List.mem_or_eq_of_mem_set hx with hx | hx
            · exact (hb i hi).2 x hx
            · omega
          · rw [setJ_ne h]
            exact hb k hk
        · by_cases h : k = i
          · rw [h, setJ_at, at0_set (by rw [(hb i hi).1]; exact hi), if_pos rfl]
          · rw [setJ_ne h]
            exact hz k (by omega)
        · rw [upd_ne (ne_of_none e (hfr r (List.mem_of_getElem? hr1)))]
          exact e3 b o e
      · rintro σ H2 ⟨v3, f, rfl, ht, hb, hz, e3⟩
        rw [hnt] at hz
        have hs2 := e3.seq hs
        have hc0 : 0 < 1 + cellOf ns 3 % 13 := by omega
        have hm0 : 0 < (if 1 + cellOf ns 3 % 13 - 1 > 1 then 1 + cellOf ns 3 % 13 - 1 else 1) := by split <;> omega
        obtain ⟨av, hav⟩ := Int.eq_ofNat_of_zero_le (Int.emod_nonneg (cellOf ns 5) (Int.ne_of_gt hc0))
        have hav2 : av < n := by
          have := Int.emod_lt_of_pos (cellOf ns 5) hc0
          omega
        obtain ⟨bv, hbv⟩ := Int.eq_ofNat_of_zero_le (Int.emod_nonneg (cellOf ns 5 % (1 + cellOf ns 3 % 13) + 1 + cellOf ns 6 % (if 1 + cellOf ns 3 % 13 - 1 > 1 then 1 + cellOf ns 3 % 13 - 1 else 1)) (Int.ne_of_gt hc0))
        have hbv2 : bv < n := by
          have := Int.emod_lt_of_pos (cellOf ns 5 % (1 + cellOf ns 3 % 13) + 1 + cellOf ns 6 % (if 1 + cellOf ns 3 % 13 - 1 > 1 then 1 + cellOf ns 3 % 13 - 1 else 1)) hc0
          omega
        obtain ⟨r, hr1, hr2, hr3⟩ := ht.at hav2
        rw [← hav] at hr2
        have hrs := SqL.of (K := K) hr3
        have hts := SqL.of (K := K) ht.lst
        have hixa : ixN (ps.map V.ref).length (cellOf ns 5 % (1 + cellOf ns 3 % 13)) = some av := by
          rw [hav]
          exact ixN_nat (by rw [List.length_map, ht.len]; exact hav2)
        have hra : (f av).length = n := (hb av hav2).1
        have nrH : H r = none := hfr r (List.mem_of_getElem? hr1)
        have fin : ∀ (B : Addr) (H' : Hp) (t : Addr) (ps : List Addr) (m : Nat) (f : Nat → List Int), Same H H' → H' B = none → JagR H' t ps m f → m ≤ 14 → (∀ i, i < m → (f i).length ≤ 14) → (decide (2 < cellOf ns 7 % 9) = false ↔ DebtsJ m f) → Q (.ref B) (upd H' B (.tup [.ref t, .bl (decide (2 < cellOf ns 7 % 9))])) := fun B H' t ps m f e nB hT h1 h2 h3 =>
          q B _ t ps m f _ (e.trans (same_upd nB)) (e.free nB) upd_same (hT.same (same_upd nB)) h1 h2 h3
        have bad : ∀ (k : Int) (m : Nat) (g : Nat → List Int), cellOf ns 7 % 9 = k → 2 < k → ¬ DebtsJ m g → (decide (2 < cellOf ns 7 % 9) = false ↔ DebtsJ m g) := fun k m g hk h2 hz => ⟨fun z => absurd (of_decide_eq_false z) (by omega), fun z => absurd z hz⟩
        have rowlen : ∀ (xs : List Int), xs.length ≤ 14 → ∀ i, i < n → (setJ f av xs i).length ≤ 14 := fun xs hx i hi => by
          by_cases h : i = av
          · rw [h, setJ_at]
            exact hx
          · rw [setJ_ne h, (hb i hi).1]
            omega
        walk_at "st"
        refine iteB (fun h => ?_) (fun h3 => ?_)
        · have hk := V.int.inj (dec_t h)
          walk_at "st"
          intro L nL
          have sL := same_upd (o := .lst [V.int 0]) nL
          have gL := upd_same (H := H2) (a := L) (o := .lst [V.int 0])
          generalize upd H2 L (.lst [V.int 0]) = H3 at *
          have hr4 := sL _ _ hr3
          have zL : ((f av).map V.int).length + [V.int 0].length ≤ sizeLine := len_le (Nat.ble_eq_true_of_le (by rw [List.length_map, hra]; show n + 1 ≤ 1000; omega))
          walk_at "st"
          intro R nR
          rw [show (f av).map V.int ++ [V.int 0] = (f av ++ [0]).map V.int by rw [List.map_append]; rfl]
          have sR := same_upd (o := .lst ((f av ++ [0]).map V.int)) nR
          have gR := upd_same (H := H3) (a := R) (o := .lst ((f av ++ [0]).map V.int))
          generalize upd H3 R (.lst ((f av ++ [0]).map V.int)) = H4 at *
          have hT3 := ht.same sL
          have hT4 := hT3.same sR
          have ht4 := hT4.lst
          obtain ⟨nRp, nRt⟩ := hT3.there nR
          have hT5 := hT4.setRow hav2 gR nRp nRt
          have e5 : Same H (upd H4 D (.lst ((ps.map V.ref).set av (.ref R)))) := TabR.keep ((e3.trans sL).trans sR) nD
          walk_at "st"
          generalize upd H4 D (.lst ((ps.map V.ref).set av (.ref R))) = H5 at *
          walk_at "st"
          refine iteB (fun h => absurd (V.int.inj (dec_t h)) (by omega)) (fun _ => ?_)
          walk_at "st"
          refine iteB (fun h => absurd (V.int.inj (dec_t h)) (by omega)) (fun _ => ?_)
          walk_at "st"
          refine iteB (fun h => absurd (V.int.inj (dec_t h)) (by omega)) (fun _ => ?_)
          walk_at "st"
          refine iteB (fun h => absurd (V.int.inj (dec_t h)) (by omega)) (fun _ => ?_)
          walk_at "st"
          refine iteB (fun h => absurd (V.int.inj (dec_t h)) (by omega)) (fun _ => ?_)
          walk_at "st"
          intro B nB
          refine fin B H5 D _ n _ e5 nB hT5 (by omega) (rowlen _ (by rw [List.length_append, hra]; show n + 1 ≤ 14; omega)) (bad 3 _ _ hk (by omega) fun z => ?_)
          have := z.len av hav2
          rw [setJ_at, List.length_append, hra] at this
          exact absurd this (by show n + 1 ≠ n; omega)
        have h3 : cellOf ns 7 % 9 ≠ 3 := fun z => dec_f h3 (congrArg V.int z)
        walk_at "st"
        refine iteB (fun h => ?_) (fun h4 => ?_)
        · have hk := V.int.inj (dec_t h)
          walk_at "st"
          intro R nR
          rw [cutV_take (k := 1 + cellOf ns 3 % 13 - 1) (by omega) (by rw [List.length_map, hra]; omega), ← List.map_take]
          have hm1 : (1 + cellOf ns 3 % 13 - 1).toNat = n - 1 := by omega
          rw [hm1]
          have sR := same_upd (o := .lst (((f av).take (n - 1)).map V.int)) nR
          have gR := upd_same (H := H2) (a := R) (o := .lst (((f av).take (n - 1)).map V.int))
          generalize upd H2 R (.lst (((f av).take (n - 1)).map V.int)) = H4 at *
          have hT4 := ht.same sR
          have ht4 := hT4.lst
          obtain ⟨nRp, nRt⟩ := ht.there nR
          have hT5 := hT4.setRow hav2 gR nRp nRt
          have e5 : Same H (upd H4 D (.lst ((ps.map V.ref).set av (.ref R)))) := TabR.keep (e3.trans sR) nD
          walk_at "st"
          generalize upd H4 D (.lst ((ps.map V.ref).set av (.ref R))) = H5 at *
          walk_at "st"
          refine iteB (fun h => absurd (V.int.inj (dec_t h)) (by omega)) (fun _ => ?_)
          walk_at "st"
          refine iteB (fun h => absurd (V.int.inj (dec_t h)) (by omega)) (fun _ => ?_)
          walk_at "st"
          refine iteB (fun h => absurd (V.int.inj (dec_t h)) (by omega)) (fun _ => ?_)
          walk_at "st"
          refine iteB (fun h => absurd (V.int.inj (dec_t h)) (by omega)) (fun _ => ?_)
          walk_at "st"
          intro B nB
          refine fin B H5 D _ n _ e5 nB hT5 (by omega) (rowlen _ (by rw [List.length_take, hra]; omega)) (bad 4 _ _ hk (by omega) fun z => ?_)
          have := z.len av hav2
          rw [setJ_at, List.length_take, hra] at this
          omega
        have h4 : cellOf ns 7 % 9 ≠ 4 := fun z => dec_f h4 (congrArg V.int z)
        walk_at "st"
        refine iteB (fun h => ?_) (fun h5 => ?_)
        · have hk := V.int.inj (dec_t h)
          walk_at "st"
          refine ⟨by rw [hav]; exact ixN_nat (by rw [List.length_map, hra]; exact hav2), ?_⟩
          rw [show (((f av).map V.int).set av (V.int 1)) = ((f av).set av 1).map V.int from (List.map_set ..).symm]
          have hT5 := ht.setCell (xs := (f av).set av 1) hr1
          have e5 : Same H (upd H2 r (.lst (((f av).set av 1).map V.int))) := fun b o e => by
            rw [upd_ne (ne_of_none e nrH)]
            exact e3 b o e
          generalize upd H2 r (.lst (((f av).set av 1).map V.int)) = H5 at *
          walk_at "st"
          refine iteB (fun h => absurd (V.int.inj (dec_t h)) (by omega)) (fun _ => ?_)
          walk_at "st"
          refine iteB (fun h => absurd (V.int.inj (dec_t h)) (by omega)) (fun _ => ?_)
          walk_at "st"
          refine iteB (fun h => absurd (V.int.inj (dec_t h)) (by omega)) (fun _ => ?_)
          walk_at "st"
          intro B nB
          refine fin B H5 D _ n _ e5 nB hT5 (by omega) (rowlen _ (by rw [List.length_set, hra]; omega)) (bad 5 _ _ hk (by omega) fun z => ?_)
          have := z.d av hav2
          rw [setJ_at, at0_set (by rw [hra]; exact hav2), if_pos rfl] at this
          exact absurd this (by decide)
        have h5 : cellOf ns 7 % 9 ≠ 5 := fun z => dec_f h5 (congrArg V.int z)
        walk_at "st"
        refine iteB (fun h => ?_) (fun h6 => ?_)
        · have hk := V.int.inj (dec_t h)
          walk_at "st"
          intro L nL
          have sL := same_upd (o := .lst [V.int (-1), V.int 1000000000000001]) nL
          have gL := SqL.of (K := K) (upd_same (H := H2) (a := L) (o := .lst [V.int (-1), V.int 1000000000000001]))
          generalize upd H2 L (.lst [V.int (-1), V.int 1000000000000001]) = H3 at *
          have hT3 := ht.same sL
          have hr4 := sL _ _ hr3
          have hrs4 := sL.seq hrs
          have hts4 := sL.seq hts
          have hs3 := sL.seq hs2
          obtain ⟨x, hx1, hx2⟩ : ∃ x : Int, atI [V.int (-1), V.int 1000000000000001] (cellOf ns 6 % 2) = some (.int x) ∧ ¬ (0 ≤ x ∧ x ≤ 1000000000000000) := by
            rcases (by omega : cellOf ns 6 % 2 = 0 ∨ cellOf ns 6 % 2 = 1) with e | e
            · rw [e]; exact ⟨-1, rfl, by omega⟩
            · rw [e]; exact ⟨1000000000000001, rfl, by omega⟩
          walk_at "st"
          refine ⟨by rw [hbv]; exact ixN_nat (by rw [List.length_map, hra]; exact hbv2), ?_⟩
          rw [show (((f av).map V.int).set bv (V.int x)) = ((f av).set bv x).map V.int from (List.map_set ..).symm]
          have hT5 := hT3.setCell (xs := (f av).set bv x) hr1
          have e5 : Same H (upd H3 r (.lst (((f av).set bv x).map V.int))) := fun b o e => by
            rw [upd_ne (ne_of_none e nrH)]
            exact sL b o (e3 b o e)
          generalize upd H3 r (.lst (((f av).set bv x).map V.int)) = H5 at *
          walk_at "st"
          refine iteB (fun h => absurd (V.int.inj (dec_t h)) (by omega)) (fun _ => ?_)
          walk_at "st"
          refine iteB (fun h => absurd (V.int.inj (dec_t h)) (by omega)) (fun _ => ?_)
          walk_at "st"
          intro B nB
          refine fin B H5 D _ n _ e5 nB hT5 (by omega) (rowlen _ (by rw [List.length_set, hra]; omega)) (bad 6 _ _ hk (by omega) fun z => ?_)
          refine hx2 (z.b av hav2 x ?_)
          rw [setJ_at]
          exact List.mem_iff_getElem?.mpr ⟨bv, List.getElem?_set_self (by rw [hra]; exact hbv2)⟩
        have h6 : cellOf ns 7 % 9 ≠ 6 := fun z => dec_f h6 (congrArg V.int z)
        walk_at "st"
        refine iteB (fun h => ?_) (fun h7 => ?_)
        · have hk := V.int.inj (dec_t h)
          walk_at "st"
          intro L nL
          have sL := same_upd (o := .lst []) nL
          have gL := upd_same (H := H2) (a := L) (o := .lst [])
          generalize upd H2 L (.lst []) = H5 at *
          walk_at "st"
          refine iteB (fun h => absurd (V.int.inj (dec_t h)) (by omega)) (fun _ => ?_)
          walk_at "st"
          intro B nB
          exact fin B H5 L [] 0 (fun _ => []) (e3.trans sL) nB (.nil _ gL) (by omega) (fun i hi => by omega) (bad 7 _ _ hk (by omega) fun z => absurd z.n0 (by decide))
        have h7 : cellOf ns 7 % 9 ≠ 7 := fun z => dec_f h7 (congrArg V.int z)
        walk_at "st"
        refine iteB (fun h => ?_) (fun h8 => ?_)
        · have hk := V.int.inj (dec_t h)
          walk_at "st"
          intro E nE
          refine lc_range (lo := 0) (n := (14 : Int).toNat) (fun i H' => ∃ (_ : Unit) (qs : List Addr), JagR H' E qs i (fun _ => List.replicate 14 (0 : Int)) ∧ Same H2 H') ⟨(), [], .nil _ upd_same, same_upd nE⟩ ?_ ?_
          · rintro i H3 hi ⟨_, qs, hT, e4⟩
            have hi14 : i < 14 := hi
            refine ⟨rfl, ?_⟩
            walk_at "st"
            intro C nC
            refine lc_range (lo := 0) (n := (14 : Int).toNat) (fun j H4 => H4 = upd H3 C (.lst ((List.replicate j (0 : Int)).map V.int))) rfl ?_ ?_
            · rintro j H4 hj rfl
              have hj14 : j < 14 := hj
              refine ⟨rfl, ?_⟩
              exact ⟨_, upd_same, small1000 (by rw [List.length_map, List.length_replicate]; omega), by rw [upd_upd, List.replicate_succ', List.map_append]; rfl⟩
            · rintro H4 rfl
              have s4 := same_upd (o := .lst ((List.replicate (14 : Int).toNat (0 : Int)).map V.int)) nC
              exact ⟨_, s4 _ _ hT.lst, small1000 (by rw [List.length_map, hT.len]; omega), (), _, hT.push s4 nC upd_same, TabR.keep (e4.trans s4) nE⟩
          · rintro H5 ⟨_, qs, hT, e4⟩
            walk_at "st"
            intro B nB
            exact fin B H5 E qs 14 _ (e3.trans e4) nB hT (by omega) (fun i hi => by rw [List.length_replicate]; omega) (bad 8 _ _ hk (by omega) fun z => absurd z.n1 (by decide))
        have h8 : cellOf ns 7 % 9 ≠ 8 := fun z => dec_f h8 (congrArg V.int z)
        walk_at "st"
        intro B nB
        refine fin B H2 D ps n f e3 nB ht (by omega) (fun i hi => by rw [(hb i hi).1]; omega) ⟨fun _ => ?_, fun _ => decide_eq_false (by omega)⟩
        exact ⟨by omega, by omega, fun i hi => (hb i hi).1, fun i hi x hx => by have := (hb i hi).2 x hx; omega, hz⟩

theorem rep_d : Txt.replace "d" "d" "m" = ("m" : Str) := by decide +kernel
def ren46 (x : Str × Str × Int × Int) : Str × Str × Int × Int := (Txt.replace x.1 "d" "m", x.2)
def sp_law (K : PySem.W.Frag) : Sp := fun vs H Q _ => ∃ (a : Addr) (ns : List Int), vs = [.ref a] ∧ SqL K H a (ns.map V.int) ∧ ns.length ≤ 63 ∧ ∀ H', Q (.bl true) H'
set_option maxHeartbeats 0 in
theorem ok_law {f : Addr} {fd : FuncData} (T : Txt K mg) (F : Fun K "law" "law" s_law f fd) : FnOk P w K mg base CX0 8 f fd ["script"] (sp_law K) := by
  refine F.ok sc_law (fun vs H Q E h => ?_) (fun cdv A outer s H vs Q E hr h => ?_)
  · obtain ⟨a, ns, rfl, _⟩ := h
    rfl
  · obtain ⟨a, ns, rfl, hs, hlen, q⟩ := h
    have G_law_trades : FnOk P w K mg base CX0 2 T.f_law_trades T.d_law_trades ["script"] (sp_law_trades K) := ok_law_trades T
    have G_law_debts : FnOk P w K mg base CX0 2 T.f_law_debts T.d_law_debts ["script"] (sp_law_debts K) := ok_law_debts T
    have G_law_raises : FnOk P w K mg base CX0 7 T.f_law_raises T.d_law_raises ["name", "value"] (sp_law_raises K) := ok_law_raises T
    refine ⟨_, (pss_cons (ps_asg (pe_call G_law_trades (hr.mono (by decide)) (by rfl) T.m_law_trades T.F_law_trades.kp T.b_law_trades .nil pass0 (pa_cons (pv 0) pa_nil)) (pg_tup rfl (pgs_cons (pg_name (i := 1) sc_law.nd rfl (Or.inl rfl)) (pgs_cons (pg_name (i := 2) sc_law.nd rfl (Or.inl rfl)) pgs_nil))))
    (pss_cons (ps_for PassesOwn.never rfl (pi_tup (pe_tup (pa_cons pe_str (pa_cons pe_str pa_nil)))) (pg_name (i := 3) sc_law.nd rfl (Or.inl rfl))
      (pss_one (ps_if (pt_cmpR op_ne (pe_call G_law_raises hr (by rfl) T.m_law_raises T.F_law_raises.kp T.b_law_raises .nil pass0 (pa_cons (pv 3) (pa_cons (pe_callTy call_list_of (by rfl) T.z_list (by decide +kernel) (pa_cons (pv 1) pa_nil)) pa_nil))) (pv 2) (nomark _))
        (pss_one (ps_ret pe_bl))
        pss_nil)))
    (pss_cons (ps_setLc (i := 4) (own := [("trade", 5)]) (g := gName 5) (tt := tYes) rfl sc_law.nd rfl rfl (sw_true rfl rfl rfl (by decide +kernel)) (pi_list (pv 1)) (blkOk_by (own := [("trade", 5)]) (N := N_law) (sc := defScope s_law) (by decide +kernel)) (fun _ _ _ _ _ => (pg_name (i := 5) sc_law.nd rfl (Or.inl rfl))) (fun _ _ _ _ _ => pts_nil) (fun _ _ _ _ _ => (pe_tup (pa_cons (show PE _ _ (tRpI K _ _ _ _) from pe_rpI (pv 5)) (pa_cons (pe_ix (show IxR _ (rIxT K) from ix_tup) (pv 5) pe_int (fun _ _ => rfl)) (pa_cons (pe_ix (show IxR _ (rIxT K) from ix_tup) (pv 5) pe_int (fun _ _ => rfl)) (pa_cons (pe_ix (show IxR _ (rIxT K) from ix_tup) (pv 5) pe_int (fun _ _ => rfl)) pa_nil)))))))
    (pss_cons (ps_if (pt_cmpR op_notBl (pe_call G_law_raises hr (by rfl) T.m_law_raises T.F_law_raises.kp T.b_law_raises .nil pass0 (pa_cons pe_str (pa_cons (pv 4) pa_nil))) pe_bl (nomark _))
      (pss_one (ps_ret pe_bl))
      pss_nil)
    (pss_cons (ps_asg (pe_call G_law_debts (hr.mono (by decide)) (by rfl) T.m_law_debts T.F_law_debts.kp T.b_law_debts .nil pass0 (pa_cons (pv 0) pa_nil)) (pg_tup rfl (pgs_cons (pg_name (i := 6) sc_law.nd rfl (Or.inl rfl)) (pgs_cons (pg_name (i := 2) sc_law.nd rfl (Or.inl rfl)) pgs_nil))))
    (pss_cons (ps_for PassesOwn.never rfl (pi_tup (pe_tup (pa_cons pe_str (pa_cons pe_str (pa_cons pe_str (pa_cons pe_str pa_nil)))))) (pg_name (i := 3) sc_law.nd rfl (Or.inl rfl))
      (pss_one (ps_if (pt_cmpR op_ne (pe_call G_law_raises hr (by rfl) T.m_law_raises T.F_law_raises.kp T.b_law_raises .nil pass0 (pa_cons (pv 3) (pa_cons (pe_lc (own := [("row", 7)]) (g := gName 7) (tt := tYes) rfl sc_law.nd (pi_list (pv 6)) (blkOk_by (own := [("row", 7)]) (N := N_law) (sc := defScope s_law) (by decide +kernel)) (fun _ _ _ _ _ => (pg_name (i := 7) sc_law.nd rfl (Or.inl rfl))) (fun _ _ _ _ _ => pts_nil) (fun _ _ _ _ _ => (pe_callTy (show CallR _ (.type "list") (rListOf K) from call_list_of) (by rfl) T.z_list (by decide +kernel) (pa_cons (pv 7) pa_nil)))) pa_nil))) (pv 2) (nomark _))
        (pss_one (ps_ret pe_bl))
        pss_nil)))
    (pss_one (ps_ret pe_bl)))))))), ?_⟩
    walk_at "st"
    intro p H1 l rs T' wrong e1 np hp hT hTl hw hpl hd
    have hps := SqT.of (K := K) hp
    have hs1 := e1.seq hs
    have hts := SqL.of (K := K) hT.lst
    walk_at "st"
    intro U nU
    have sU := same_upd (o := .tup [.str "nets", .str "novate"]) nU
    have hU := upd_same (H := H1) (a := U) (o := .tup [.str "nets", .str "novate"])
    have hUs := SqT.of (K := K) hU
    generalize upd H1 U (.tup [.str "nets", .str "novate"]) = H2 at *
    have hT2 := hT.same sU
    walk_at "st"
    refine for_tup (K := K) (a := U) (xs := [.str "nets", .str "novate"]) (fun i σ H' => (∃ v3, σ = [some (.ref a), some (.ref l), some (.bl wrong), v3, none, none, none, none]) ∧ Same H2 H') ⟨⟨none, rfl⟩, Same.refl _⟩ (fun i σ H' _ ⟨_, e⟩ => SqT.of (e _ _ hU)) ?_ ?_
    · rintro i x σ H3 hx ⟨⟨v, rfl⟩, e3⟩
      obtain ⟨name, rfl, hname⟩ : ∃ name : Str, x = .str name ∧ (name = "nets" ∨ name = "novate") := by
        match i, hx with
        | 0, h => exact ⟨_, (Option.some.inj h).symm, .inl rfl⟩
        | 1, h => exact ⟨_, (Option.some.inj h).symm, .inr rfl⟩
        | i + 2, h => cases h
      have hT3 := hT2.same e3
      have hts3 := SqL.of (K := K) hT3.lst
      walk_at "st"
      intro L nL
      have sL := same_upd (o := .lst (rs.map V.ref)) nL
      have hTL : Tups enc4 (upd H3 L (.lst (rs.map V.ref))) L rs T' := ⟨upd_same, hT3.len, fun i p x h1 h2 => sL _ _ (hT3.row i p x h1 h2)⟩
      generalize upd H3 L (.lst (rs.map V.ref)) = H4 at *
      walk_at "st"
      refine ⟨(), name, .ref L, wrong = false, rfl, .inl ⟨hname, L, rs, T', rfl, hTL, hTl, hw.trans ⟨fun z => ⟨z, fun _ x hx => ⟨(hpl x hx).1, (hpl x hx).2.1⟩⟩, fun z => z.1⟩⟩, fun z H5 e5 => ?_, fun z H5 e5 => ?_⟩
      · subst z
        walk_at "st"
        exact ⟨⟨_, rfl⟩, (e3.trans sL).trans e5⟩
      · have z : wrong = true := by
          cases wrong with
          | true => rfl
          | false => exact absurd rfl z
        subst z
        walk_at "st"
        exact ⟨⟨_, rfl⟩, (e3.trans sL).trans e5⟩
    · rintro σ H3 ⟨⟨v, rfl⟩, e3⟩
      have hT3 := hT2.same e3
      have hts3 := SqL.of (K := K) hT3.lst
      walk_at "st"
      intro D nD
      refine lc_list (K := K) (a := l) (xs := rs.map V.ref) (fun i H' => ∃ qs, Tups enc4 H' D qs ((T'.take i).map ren46) ∧ Same H3 H') ⟨[], .nil upd_same, same_upd nD⟩ (fun i H' _ ⟨_, _, e⟩ => e.seq hts3) ?_ ?_
      · rintro i x H4 hx ⟨qs, hD, e4⟩
        obtain ⟨p, y, hp, hy, rfl, hyr⟩ := (hT3.same e4).item hx
        have hyt : SqT K H4 p [.str y.1, .str y.2.1, .int y.2.2.1, .int y.2.2.2] := SqT.of hyr
        have hyl := (hpl y (List.mem_of_getElem? hy)).2.2
        have hm1 : ("m" : Str).length = 1 := by decide
        refine ⟨rfl, ?_⟩
        walk_at "st"
        refine ⟨by rw [hm1]; omega, ?_⟩
        walk_at "st"
        intro E nE
        have sE := same_upd (o := .tup (enc4 (ren46 y))) nE
        have hDE := hD.push (x := ren46 y) sE nE upd_same
        refine ⟨_, sE _ _ hD.lst, small1000 ?_, qs ++ [E], ?_, TabR.keep (e4.trans sE) nD⟩
        · rw [List.length_map, hD.len, List.length_map, List.length_take]
          omega
        · rw [take_succ hy, List.map_append]
          exact hDE
      · rintro H4 ⟨qs, hD, e4⟩
        rw [show T'.take (rs.map V.ref).length = T' by rw [List.length_map, hT.len, List.take_length]] at hD
        have hbad : ¬ (AllT (T'.map ren46) ∧ (("novate" : Str) = "novate" → ∀ x, x ∈ T'.map ren46 → x.1 ≠ "m" ∧ x.2.1 ≠ "m")) := fun z => by
          obtain ⟨x, hx, hxd⟩ := hd
          refine (z.2 rfl (ren46 x) (List.mem_map.mpr ⟨x, hx, rfl⟩)).1 ?_
          unfold ren46
          rw [hxd]
          exact rep_d
        have hs4 := (((e1.trans sU).trans e3).trans e4).seq hs
        walk_at "st"
        refine ⟨(), "novate", .ref D, False, rfl, .inl ⟨.inr rfl, D, qs, _, rfl, hD, by rw [List.length_map]; exact hTl, ⟨False.elim, fun z => absurd z hbad⟩⟩, fun z => z.elim, fun _ H5 e5 => ?_⟩
        have hs5 := e5.seq hs4
        walk_at "st"
        intro p2 H6 t ps m f wrong2 e6 np2 hp2 hJ hm hl2 hw2
        have hp2s := SqT.of (K := K) hp2
        walk_at "st"
        intro U2 nU2
        have sU2 := same_upd (o := .tup [.str "net_amounts", .str "bilateral", .str "compress", .str "unwind"]) nU2
        have hU2 := upd_same (H := H6) (a := U2) (o := .tup [.str "net_amounts", .str "bilateral", .str "compress", .str "unwind"])
        have hU2s := SqT.of (K := K) hU2
        generalize upd H6 U2 (.tup [.str "net_amounts", .str "bilateral", .str "compress", .str "unwind"]) = H7 at *
        have hJ7 := hJ.same sU2
        walk_at "st"
        refine for_tup (K := K) (a := U2) (xs := [.str "net_amounts", .str "bilateral", .str "compress", .str "unwind"]) (fun i σ H' => (∃ v3, σ = [some (.ref a), some (.ref l), some (.bl wrong2), v3, some (.ref D), none, some (.ref t), none]) ∧ Same H7 H') ⟨⟨_, rfl⟩, Same.refl _⟩ (fun i σ H' _ ⟨_, e⟩ => SqT.of (e _ _ hU2)) ?_ ?_
        · rintro i x σ H8 hx ⟨⟨v, rfl⟩, e8⟩
          obtain ⟨name, rfl, hname⟩ : ∃ name : Str, x = .str name ∧ (name = "net_amounts" ∨ name = "bilateral" ∨ name = "compress" ∨ name = "unwind") := by
            match i, hx with
            | 0, h => exact ⟨_, (Option.some.inj h).symm, .inl rfl⟩
            | 1, h => exact ⟨_, (Option.some.inj h).symm, .inr (.inl rfl)⟩
            | 2, h => exact ⟨_, (Option.some.inj h).symm, .inr (.inr (.inl rfl))⟩
            | 3, h => exact ⟨_, (Option.some.inj h).symm, .inr (.inr (.inr rfl))⟩
            | i + 4, h => cases h
          have hJ8 := hJ7.same e8
          have hJs8 := SqL.of (K := K) hJ8.lst
          walk_at "st"
          intro L nL
          refine lc_copyJ (K := K) hJ8 (by omega) nL rfl fun H9 qs9 e9 hJ9 _ => ?_
          walk_at "st"
          refine ⟨(), name, .ref L, wrong2 = false, rfl, .inr ⟨hname, L, qs9, m, f, rfl, hJ9, by omega, fun i hi => by have := hl2 i hi; omega, hw2⟩, fun z H5 e5 => ?_, fun z H5 e5 => ?_⟩
          · subst z
            walk_at "st"
            exact ⟨⟨_, rfl⟩, (e8.trans e9).trans e5⟩
          · have z : wrong2 = true := by
              cases wrong2 with
              | true => rfl
              | false => exact absurd rfl z
            subst z
            walk_at "st"
            exact ⟨⟨_, rfl⟩, (e8.trans e9).trans e5⟩
        · rintro σ H8 ⟨⟨v, rfl⟩, e8⟩
          walk_at "st"
          exact q _

end
set_option maxHeartbeats 0 in
theorem all_mk {l : PySem.W.OpenLaw} {w : World} {K : PySem.W.Frag} {h : Heap} {mg : Str → Option Value} {fa f1 f2 f3 f4 f5 f6 f7 f8 f9 f10 f11 f12 f13 f14 f15 f16 f17 f18 f19 f20 f21 f22 : Addr} (X : K.In h) (G : h.Ns mainGlobals mg) (hfa : mg "law" = some (.ref fa))
    {c_BourseError c_InvalidAmount c_InvalidTrade : Addr}
    {od1 an1 od2 an2 od3 an3 od4 an4 od5 an5 od6 an6 od7 an7 od8 an8 od9 an9 od10 an10 od11 an11 od12 an12 od13 an13 od14 an14 od15 an15 od16 an16 od17 an17 od18 an18 od19 an19 od20 an20 od21 an21 od22 an22 : Option Addr} {sl1 sl2 sl3 sl4 sl5 sl6 sl7 sl8 sl9 sl10 sl11 sl12 sl13 sl14 sl15 sl16 sl17 sl18 sl19 sl20 sl21 sl22 : Array (Option Value)} {oc1 kV1 dc1 pm1 cd1 ct1 oc2 kV2 dc2 pm2 cd2 ct2 oc3 kV3 dc3 pm3 cd3 ct3 oc4 kV4 dc4 pm4 cd4 ct4 oc5 kV5 dc5 pm5 cd5 ct5 oc6 kV6 dc6 pm6 cd6 ct6 oc7 kV7 dc7 pm7 cd7 ct7 oc8 kV8 dc8 pm8 cd8 ct8 oc9 kV9 dc9 pm9 cd9 ct9 oc10 kV10 dc10 pm10 cd10 ct10 oc11 kV11 dc11 pm11 cd11 ct11 oc12 kV12 dc12 pm12 cd12 ct12 oc13 kV13 dc13 pm13 cd13 ct13 oc14 kV14 dc14 pm14 cd14 ct14 oc15 kV15 dc15 pm15 cd15 ct15 oc16 kV16 dc16 pm16 cd16 ct16 oc17 kV17 dc17 pm17 cd17 ct17 oc18 kV18 dc18 pm18 cd18 ct18 oc19 kV19 dc19 pm19 cd19 ct19 oc20 kV20 dc20 pm20 cd20 ct20 oc21 kV21 dc21 pm21 cd21 ct21 oc22 kV22 dc22 pm22 cd22 ct22 : Value}
    (a1 : PySem.W.nsIn K mainGlobals "is_integral" = some (some (.ref f1)))
    (l1 : K.lookup f1 = some ⟨oc1, od1, .func (PySem.W.fnOf "is_integral" "is_integral" (defArgs s_is_integral) (defBody s_is_integral) (defScope s_is_integral) .none kV1 dc1 pm1 an1 cd1 ct1), sl1⟩) (c1 : PySem.W.codeIn K cd1 "is_integral" = true) (k1 : PySem.W.keepIn K (.ref f1) = true)
    (a2 : PySem.W.nsIn K mainGlobals "is_within" = some (some (.ref f2)))
    (l2 : K.lookup f2 = some ⟨oc2, od2, .func (PySem.W.fnOf "is_within" "is_within" (defArgs s_is_within) (defBody s_is_within) (defScope s_is_within) .none kV2 dc2 pm2 an2 cd2 ct2), sl2⟩) (c2 : PySem.W.codeIn K cd2 "is_within" = true) (k2 : PySem.W.keepIn K (.ref f2) = true)
    (a3 : PySem.W.nsIn K mainGlobals "pair_off" = some (some (.ref f3)))
    (l3 : K.lookup f3 = some ⟨oc3, od3, .func (PySem.W.fnOf "pair_off" "pair_off" (defArgs s_pair_off) (defBody s_pair_off) (defScope s_pair_off) .none kV3 dc3 pm3 an3 cd3 ct3), sl3⟩) (c3 : PySem.W.codeIn K cd3 "pair_off" = true) (k3 : PySem.W.keepIn K (.ref f3) = true)
    (a4 : PySem.W.nsIn K mainGlobals "nets" = some (some (.ref f4)))
    (l4 : K.lookup f4 = some ⟨oc4, od4, .func (PySem.W.fnOf "nets" "nets" (defArgs s_nets) (defBody s_nets) (defScope s_nets) .none kV4 dc4 pm4 an4 cd4 ct4), sl4⟩) (c4 : PySem.W.codeIn K cd4 "nets" = true) (k4 : PySem.W.keepIn K (.ref f4) = true)
    (a5 : PySem.W.nsIn K mainGlobals "novate" = some (some (.ref f5)))
    (l5 : K.lookup f5 = some ⟨oc5, od5, .func (PySem.W.fnOf "novate" "novate" (defArgs s_novate) (defBody s_novate) (defScope s_novate) .none kV5 dc5 pm5 an5 cd5 ct5), sl5⟩) (c5 : PySem.W.codeIn K cd5 "novate" = true) (k5 : PySem.W.keepIn K (.ref f5) = true)
    (a6 : PySem.W.nsIn K mainGlobals "check_debts" = some (some (.ref f6)))
    (l6 : K.lookup f6 = some ⟨oc6, od6, .func (PySem.W.fnOf "check_debts" "check_debts" (defArgs s_check_debts) (defBody s_check_debts) (defScope s_check_debts) .none kV6 dc6 pm6 an6 cd6 ct6), sl6⟩) (c6 : PySem.W.codeIn K cd6 "check_debts" = true) (k6 : PySem.W.keepIn K (.ref f6) = true)
    (a7 : PySem.W.nsIn K mainGlobals "net_amounts" = some (some (.ref f7)))
    (l7 : K.lookup f7 = some ⟨oc7, od7, .func (PySem.W.fnOf "net_amounts" "net_amounts" (defArgs s_net_amounts) (defBody s_net_amounts) (defScope s_net_amounts) .none kV7 dc7 pm7 an7 cd7 ct7), sl7⟩) (c7 : PySem.W.codeIn K cd7 "net_amounts" = true) (k7 : PySem.W.keepIn K (.ref f7) = true)
    (a8 : PySem.W.nsIn K mainGlobals "bilateral" = some (some (.ref f8)))
    (l8 : K.lookup f8 = some ⟨oc8, od8, .func (PySem.W.fnOf "bilateral" "bilateral" (defArgs s_bilateral) (defBody s_bilateral) (defScope s_bilateral) .none kV8 dc8 pm8 an8 cd8 ct8), sl8⟩) (c8 : PySem.W.codeIn K cd8 "bilateral" = true) (k8 : PySem.W.keepIn K (.ref f8) = true)
    (a9 : PySem.W.nsIn K mainGlobals "compress" = some (some (.ref f9)))
    (l9 : K.lookup f9 = some ⟨oc9, od9, .func (PySem.W.fnOf "compress" "compress" (defArgs s_compress) (defBody s_compress) (defScope s_compress) .none kV9 dc9 pm9 an9 cd9 ct9), sl9⟩) (c9 : PySem.W.codeIn K cd9 "compress" = true) (k9 : PySem.W.keepIn K (.ref f9) = true)
    (a10 : PySem.W.nsIn K mainGlobals "unwind" = some (some (.ref f10)))
    (l10 : K.lookup f10 = some ⟨oc10, od10, .func (PySem.W.fnOf "unwind" "unwind" (defArgs s_unwind) (defBody s_unwind) (defScope s_unwind) .none kV10 dc10 pm10 an10 cd10 ct10), sl10⟩) (c10 : PySem.W.codeIn K cd10 "unwind" = true) (k10 : PySem.W.keepIn K (.ref f10) = true)
    (a11 : PySem.W.nsIn K mainGlobals "_check_trades" = some (some (.ref f11)))
    (l11 : K.lookup f11 = some ⟨oc11, od11, .func (PySem.W.fnOf "_check_trades" "_check_trades" (defArgs s_check_trades) (defBody s_check_trades) (defScope s_check_trades) .none kV11 dc11 pm11 an11 cd11 ct11), sl11⟩) (c11 : PySem.W.codeIn K cd11 "_check_trades" = true) (k11 : PySem.W.keepIn K (.ref f11) = true)
    (a12 : PySem.W.nsIn K mainGlobals "_first_unowed" = some (some (.ref f12)))
    (l12 : K.lookup f12 = some ⟨oc12, od12, .func (PySem.W.fnOf "_first_unowed" "_first_unowed" (defArgs s_first_unowed) (defBody s_first_unowed) (defScope s_first_unowed) .none kV12 dc12 pm12 an12 cd12 ct12), sl12⟩) (c12 : PySem.W.codeIn K cd12 "_first_unowed" = true) (k12 : PySem.W.keepIn K (.ref f12) = true)
    (a13 : PySem.W.nsIn K mainGlobals "_first_debtor" = some (some (.ref f13)))
    (l13 : K.lookup f13 = some ⟨oc13, od13, .func (PySem.W.fnOf "_first_debtor" "_first_debtor" (defArgs s_first_debtor) (defBody s_first_debtor) (defScope s_first_debtor) .none kV13 dc13 pm13 an13 cd13 ct13), sl13⟩) (c13 : PySem.W.codeIn K cd13 "_first_debtor" = true) (k13 : PySem.W.keepIn K (.ref f13) = true)
    (a14 : PySem.W.nsIn K mainGlobals "_ring_among" = some (some (.ref f14)))
    (l14 : K.lookup f14 = some ⟨oc14, od14, .func (PySem.W.fnOf "_ring_among" "_ring_among" (defArgs s_ring_among) (defBody s_ring_among) (defScope s_ring_among) .none kV14 dc14 pm14 an14 cd14 ct14), sl14⟩) (c14 : PySem.W.codeIn K cd14 "_ring_among" = true) (k14 : PySem.W.keepIn K (.ref f14) = true)
    (a15 : PySem.W.nsIn K mainGlobals "_without_ring" = some (some (.ref f15)))
    (l15 : K.lookup f15 = some ⟨oc15, od15, .func (PySem.W.fnOf "_without_ring" "_without_ring" (defArgs s_without_ring) (defBody s_without_ring) (defScope s_without_ring) .none kV15 dc15 pm15 an15 cd15 ct15), sl15⟩) (c15 : PySem.W.codeIn K cd15 "_without_ring" = true) (k15 : PySem.W.keepIn K (.ref f15) = true)
    (a16 : PySem.W.nsIn K mainGlobals "_law_cell" = some (some (.ref f16)))
    (l16 : K.lookup f16 = some ⟨oc16, od16, .func (PySem.W.fnOf "_law_cell" "_law_cell" (defArgs s_law_cell) (defBody s_law_cell) (defScope s_law_cell) .none kV16 dc16 pm16 an16 cd16 ct16), sl16⟩) (c16 : PySem.W.codeIn K cd16 "_law_cell" = true) (k16 : PySem.W.keepIn K (.ref f16) = true)
    (a17 : PySem.W.nsIn K mainGlobals "_law_draws" = some (some (.ref f17)))
    (l17 : K.lookup f17 = some ⟨oc17, od17, .func (PySem.W.fnOf "_law_draws" "_law_draws" (defArgs s_law_draws) (defBody s_law_draws) (defScope s_law_draws) .none kV17 dc17 pm17 an17 cd17 ct17), sl17⟩) (c17 : PySem.W.codeIn K cd17 "_law_draws" = true) (k17 : PySem.W.keepIn K (.ref f17) = true)
    (a18 : PySem.W.nsIn K mainGlobals "_law_called" = some (some (.ref f18)))
    (l18 : K.lookup f18 = some ⟨oc18, od18, .func (PySem.W.fnOf "_law_called" "_law_called" (defArgs s_law_called) (defBody s_law_called) (defScope s_law_called) .none kV18 dc18 pm18 an18 cd18 ct18), sl18⟩) (c18 : PySem.W.codeIn K cd18 "_law_called" = true) (k18 : PySem.W.keepIn K (.ref f18) = true)
    (a19 : PySem.W.nsIn K mainGlobals "_law_raises" = some (some (.ref f19)))
    (l19 : K.lookup f19 = some ⟨oc19, od19, .func (PySem.W.fnOf "_law_raises" "_law_raises" (defArgs s_law_raises) (defBody s_law_raises) (defScope s_law_raises) .none kV19 dc19 pm19 an19 cd19 ct19), sl19⟩) (c19 : PySem.W.codeIn K cd19 "_law_raises" = true) (k19 : PySem.W.keepIn K (.ref f19) = true)
    (a20 : PySem.W.nsIn K mainGlobals "_law_trades" = some (some (.ref f20)))
    (l20 : K.lookup f20 = some ⟨oc20, od20, .func (PySem.W.fnOf "_law_trades" "_law_trades" (defArgs s_law_trades) (defBody s_law_trades) (defScope s_law_trades) .none kV20 dc20 pm20 an20 cd20 ct20), sl20⟩) (c20 : PySem.W.codeIn K cd20 "_law_trades" = true) (k20 : PySem.W.keepIn K (.ref f20) = true)
    (a21 : PySem.W.nsIn K mainGlobals "_law_debts" = some (some (.ref f21)))
    (l21 : K.lookup f21 = some ⟨oc21, od21, .func (PySem.W.fnOf "_law_debts" "_law_debts" (defArgs s_law_debts) (defBody s_law_debts) (defScope s_law_debts) .none kV21 dc21 pm21 an21 cd21 ct21), sl21⟩) (c21 : PySem.W.codeIn K cd21 "_law_debts" = true) (k21 : PySem.W.keepIn K (.ref f21) = true)
    (a22 : PySem.W.nsIn K mainGlobals "law" = some (some (.ref f22)))
    (l22 : K.lookup f22 = some ⟨oc22, od22, .func (PySem.W.fnOf "law" "law" (defArgs s_law) (defBody s_law) (defScope s_law) .none kV22 dc22 pm22 an22 cd22 ct22), sl22⟩) (c22 : PySem.W.codeIn K cd22 "law" = true) (k22 : PySem.W.keepIn K (.ref f22) = true)
    (z_abs : PySem.W.nsIn K mainGlobals "abs" = some none)
    (z_all : PySem.W.nsIn K mainGlobals "all" = some none)
    (z_bool : PySem.W.nsIn K mainGlobals "bool" = some none)
    (z_enumerate : PySem.W.nsIn K mainGlobals "enumerate" = some none)
    (z_int : PySem.W.nsIn K mainGlobals "int" = some none)
    (z_isinstance : PySem.W.nsIn K mainGlobals "isinstance" = some none)
    (z_len : PySem.W.nsIn K mainGlobals "len" = some none)
    (z_list : PySem.W.nsIn K mainGlobals "list" = some none)
    (z_max : PySem.W.nsIn K mainGlobals "max" = some none)
    (z_min : PySem.W.nsIn K mainGlobals "min" = some none)
    (z_range : PySem.W.nsIn K mainGlobals "range" = some none)
    (z_sorted : PySem.W.nsIn K mainGlobals "sorted" = some none)
    (z_sum : PySem.W.nsIn K mainGlobals "sum" = some none)
    (z_tuple : PySem.W.nsIn K mainGlobals "tuple" = some none)
    (z_zip : PySem.W.nsIn K mainGlobals "zip" = some none)
    {t_MOST_HOUSES t_MOST_DEBT : Tok}
    (v_MOST_HOUSES : PySem.W.nsIn K mainGlobals "MOST_HOUSES" = some (some (.int 13 t_MOST_HOUSES)))
    (v_MOST_DEBT : PySem.W.nsIn K mainGlobals "MOST_DEBT" = some (some (.int 1000000000000000 t_MOST_DEBT)))
    (g_BourseError : PySem.W.nsIn K mainGlobals "BourseError" = some (some (.ref c_BourseError)))
    (g_InvalidAmount : PySem.W.nsIn K mainGlobals "InvalidAmount" = some (some (.ref c_InvalidAmount)))
    (g_InvalidTrade : PySem.W.nsIn K mainGlobals "InvalidTrade" = some (some (.ref c_InvalidTrade)))
    (x_InvalidTrade : PySem.W.excIn K c_InvalidTrade [.type "ValueError", .type "Exception", .type "BaseException", .type "object"] "ValueError.__new__" = true)
    (k_InvalidTrade : PySem.W.keepIn K (.ref c_InvalidTrade) = true)
    (b_InvalidTrade : PySem.W.subIn K (.ref c_InvalidTrade) (.type "BaseException") = some true)
    (t_InvalidTrade : PySem.W.typeIn K (.ref c_InvalidTrade) = some (.type "type"))
    (d_InvalidTrade : PySem.W.hasDictIn K c_InvalidTrade = true)
    (s_InvalidTrade : PySem.W.subIn K (.ref c_InvalidTrade) (.ref c_InvalidTrade) = some true)
    (eg_InvalidTrade : PySem.W.findIn K (.ref c_InvalidTrade) "__getattribute__" = some (some (.builtin "BaseException.__getattribute__")))
    (ek_InvalidTrade : PySem.W.findIn K (.ref c_InvalidTrade) "__getattr__" = some none)
    (ea_InvalidTrade : PySem.W.findIn K (.ref c_InvalidTrade) "__class__" = some (some (.builtin "object.__class__")))
    (en_InvalidTrade : PySem.W.specialIn K (.builtin "object.__class__") "__get__" = some (some (.builtin "getset_descriptor.__get__")))
    (et_InvalidTrade : PySem.W.takesIn K (.builtin "object.__class__") = some true)
    (em_InvalidTrade : PySem.W.mroIn K c_InvalidTrade (.type "object") = some true)
    (kt_InvalidTrade_BourseError : PySem.W.kitOne K (.ref c_InvalidTrade) (.ref c_BourseError) = some true)
    (kt_InvalidTrade_InvalidAmount : PySem.W.kitOne K (.ref c_InvalidTrade) (.ref c_InvalidAmount) = some false) :
    ∃ fd : FuncData, (∀ (s : Shared) (v : Value), BindsTo s fd ⟨[v], []⟩ [("script", v)]) ∧ ∀ base : Heap, K.In base → base.Ns mainGlobals mg → FnOk l.prog w K mg base CX0 8 fa fd ["script"] (sp_law K) := by
  have e := hfa.symm.trans (PySem.W.mg_of X G a22)
  cases e
  have F1 := fun_mk (st := s_is_integral) l1 c1 k1
  have b1 := F1.binds (ps := ["value"]) fun _ _ _ _ _ _ us hl => match us, hl with | [_], _ => rfl
  have F2 := fun_mk (st := s_is_within) l2 c2 k2
  have b2 := F2.binds (ps := ["least", "most", "value"]) fun _ _ _ _ _ _ us hl => match us, hl with | [_, _, _], _ => rfl
  have F3 := fun_mk (st := s_pair_off) l3 c3 k3
  have b3 := F3.binds (ps := ["givers", "takers"]) fun _ _ _ _ _ _ us hl => match us, hl with | [_, _], _ => rfl
  have F4 := fun_mk (st := s_nets) l4 c4 k4
  have b4 := F4.binds (ps := ["trades"]) fun _ _ _ _ _ _ us hl => match us, hl with | [_], _ => rfl
  have F5 := fun_mk (st := s_novate) l5 c5 k5
  have b5 := F5.binds (ps := ["trades", "center"]) fun _ _ _ _ _ _ us hl => match us, hl with | [_, _], _ => rfl
  have F6 := fun_mk (st := s_check_debts) l6 c6 k6
  have b6 := F6.binds (ps := ["owed"]) fun _ _ _ _ _ _ us hl => match us, hl with | [_], _ => rfl
  have F7 := fun_mk (st := s_net_amounts) l7 c7 k7
  have b7 := F7.binds (ps := ["owed"]) fun _ _ _ _ _ _ us hl => match us, hl with | [_], _ => rfl
  have F8 := fun_mk (st := s_bilateral) l8 c8 k8
  have b8 := F8.binds (ps := ["owed"]) fun _ _ _ _ _ _ us hl => match us, hl with | [_], _ => rfl
  have F9 := fun_mk (st := s_compress) l9 c9 k9
  have b9 := F9.binds (ps := ["owed"]) fun _ _ _ _ _ _ us hl => match us, hl with | [_], _ => rfl
  have F10 := fun_mk (st := s_unwind) l10 c10 k10
  have b10 := F10.binds (ps := ["owed"]) fun _ _ _ _ _ _ us hl => match us, hl with | [_], _ => rfl
  have F11 := fun_mk (st := s_check_trades) l11 c11 k11
  have b11 := F11.binds (ps := ["trades"]) fun _ _ _ _ _ _ us hl => match us, hl with | [_], _ => rfl
  have F12 := fun_mk (st := s_first_unowed) l12 c12 k12
  have b12 := F12.binds (ps := ["debts", "houses"]) fun _ _ _ _ _ _ us hl => match us, hl with | [_, _], _ => rfl
  have F13 := fun_mk (st := s_first_debtor) l13 c13 k13
  have b13 := F13.binds (ps := ["debts", "houses", "creditor"]) fun _ _ _ _ _ _ us hl => match us, hl with | [_, _, _], _ => rfl
  have F14 := fun_mk (st := s_ring_among) l14 c14 k14
  have b14 := F14.binds (ps := ["debts", "houses"]) fun _ _ _ _ _ _ us hl => match us, hl with | [_, _], _ => rfl
  have F15 := fun_mk (st := s_without_ring) l15 c15 k15
  have b15 := F15.binds (ps := ["debts", "ring"]) fun _ _ _ _ _ _ us hl => match us, hl with | [_, _], _ => rfl
  have F16 := fun_mk (st := s_law_cell) l16 c16 k16
  have b16 := F16.binds (ps := ["script", "k"]) fun _ _ _ _ _ _ us hl => match us, hl with | [_, _], _ => rfl
  have F17 := fun_mk (st := s_law_draws) l17 c17 k17
  have b17 := F17.binds (ps := ["cell", "count", "size"]) fun _ _ _ _ _ _ us hl => match us, hl with | [_, _, _], _ => rfl
  have F18 := fun_mk (st := s_law_called) l18 c18 k18
  have b18 := F18.binds (ps := ["name", "value"]) fun _ _ _ _ _ _ us hl => match us, hl with | [_, _], _ => rfl
  have F19 := fun_mk (st := s_law_raises) l19 c19 k19
  have b19 := F19.binds (ps := ["name", "value"]) fun _ _ _ _ _ _ us hl => match us, hl with | [_, _], _ => rfl
  have F20 := fun_mk (st := s_law_trades) l20 c20 k20
  have b20 := F20.binds (ps := ["script"]) fun _ _ _ _ _ _ us hl => match us, hl with | [_], _ => rfl
  have F21 := fun_mk (st := s_law_debts) l21 c21 k21
  have b21 := F21.binds (ps := ["script"]) fun _ _ _ _ _ _ us hl => match us, hl with | [_], _ => rfl
  have F22 := fun_mk (st := s_law) l22 c22 k22
  have b22 := F22.binds (ps := ["script"]) fun _ _ _ _ _ _ us hl => match us, hl with | [_], _ => rfl
  have T : Txt K mg := ⟨f1, _, F1, PySem.W.mg_of X G a1, b1, f2, _, F2, PySem.W.mg_of X G a2, b2, f3, _, F3, PySem.W.mg_of X G a3, b3, f4, _, F4, PySem.W.mg_of X G a4, b4, f5, _, F5, PySem.W.mg_of X G a5, b5, f6, _, F6, PySem.W.mg_of X G a6, b6, f7, _, F7, PySem.W.mg_of X G a7, b7, f8, _, F8, PySem.W.mg_of X G a8, b8, f9, _, F9, PySem.W.mg_of X G a9, b9, f10, _, F10, PySem.W.mg_of X G a10, b10, f11, _, F11, PySem.W.mg_of X G a11, b11, f12, _, F12, PySem.W.mg_of X G a12, b12, f13, _, F13, PySem.W.mg_of X G a13, b13, f14, _, F14, PySem.W.mg_of X G a14, b14, f15, _, F15, PySem.W.mg_of X G a15, b15, f16, _, F16, PySem.W.mg_of X G a16, b16, f17, _, F17, PySem.W.mg_of X G a17, b17, f18, _, F18, PySem.W.mg_of X G a18, b18, f19, _, F19, PySem.W.mg_of X G a19, b19, f20, _, F20, PySem.W.mg_of X G a20, b20, f21, _, F21, PySem.W.mg_of X G a21, b21, c_BourseError, PySem.W.mg_of X G g_BourseError, c_InvalidAmount, PySem.W.mg_of X G g_InvalidAmount, c_InvalidTrade, PySem.W.mg_of X G g_InvalidTrade, x_InvalidTrade, k_InvalidTrade, b_InvalidTrade, t_InvalidTrade, d_InvalidTrade, s_InvalidTrade, eg_InvalidTrade, ek_InvalidTrade, ea_InvalidTrade, en_InvalidTrade, et_InvalidTrade, em_InvalidTrade, ⟨eg_InvalidTrade, ek_InvalidTrade, b_InvalidTrade, d_InvalidTrade, ea_InvalidTrade, en_InvalidTrade, et_InvalidTrade, em_InvalidTrade⟩, kt_InvalidTrade_BourseError, kt_InvalidTrade_InvalidAmount, PySem.W.mg_none_of X G z_abs, PySem.W.mg_none_of X G z_all, PySem.W.mg_none_of X G z_bool, PySem.W.mg_none_of X G z_enumerate, PySem.W.mg_none_of X G z_int, PySem.W.mg_none_of X G z_isinstance, PySem.W.mg_none_of X G z_len, PySem.W.mg_none_of X G z_list, PySem.W.mg_none_of X G z_max, PySem.W.mg_none_of X G z_min, PySem.W.mg_none_of X G z_range, PySem.W.mg_none_of X G z_sorted, PySem.W.mg_none_of X G z_sum, PySem.W.mg_none_of X G z_tuple, PySem.W.mg_none_of X G z_zip, t_MOST_HOUSES, PySem.W.mg_of X G v_MOST_HOUSES, t_MOST_DEBT, PySem.W.mg_of X G v_MOST_DEBT⟩
  exact ⟨PySem.W.fnOf "law" "law" (defArgs s_law) (defBody s_law) (defScope s_law) .none kV22 dc22 pm22 an22 cd22 ct22, fun s v => .of_eq rfl, fun base _ _ => ok_law T F22⟩
end FB
open PySem PySem.W PyProof.Rows
set_option maxRecDepth 100000 in
set_option maxHeartbeats 0 in
theorem PySem.Challenge.cw_fairbourse_k46_errors_of_netting_holds : PySem.Challenge.rw_fairbourse_k46_errors_of_netting.Holds := by
  w_on; o_law; k_head; (case hw => w_witness2)
  k_fill
  refine L2.walk_of (l := PySem.Challenge.rw_fairbourse_k46_errors_of_netting) (n := 63) (k := 8) (x := "script") (CX := fun _ => L2.CX0) (sp := fun w => FB.sp_law _) rfl (by decide) rfl ⟨rfl, by decide, by decide⟩ (fun w h Y => PySem.W.kIn_of Y) ?F (fun _ _ a ns hl _ hS => ⟨a, ns, rfl, hS, hl, fun _ => rfl⟩) (fun _ _ _ _ _ h => h)
  case F =>
    intro w mg fa h KX G hmg
    refine' FB.all_mk KX G hmg ?a1 ?l1 ?c1 ?k1 ?a2 ?l2 ?c2 ?k2 ?a3 ?l3 ?c3 ?k3 ?a4 ?l4 ?c4 ?k4 ?a5 ?l5 ?c5 ?k5 ?a6 ?l6 ?c6 ?k6 ?a7 ?l7 ?c7 ?k7 ?a8 ?l8 ?c8 ?k8 ?a9 ?l9 ?c9 ?k9 ?a10 ?l10 ?c10 ?k10 ?a11 ?l11 ?c11 ?k11 ?a12 ?l12 ?c12 ?k12 ?a13 ?l13 ?c13 ?k13 ?a14 ?l14 ?c14 ?k14 ?a15 ?l15 ?c15 ?k15 ?a16 ?l16 ?c16 ?k16 ?a17 ?l17 ?c17 ?k17 ?a18 ?l18 ?c18 ?k18 ?a19 ?l19 ?c19 ?k19 ?a20 ?l20 ?c20 ?k20 ?a21 ?l21 ?c21 ?k21 ?a22 ?l22 ?c22 ?k22 ?z_abs ?z_all ?z_bool ?z_enumerate ?z_int ?z_isinstance ?z_len ?z_list ?z_max ?z_min ?z_range ?z_sorted ?z_sum ?z_tuple ?z_zip ?v_MOST_HOUSES ?v_MOST_DEBT ?g_BourseError ?g_InvalidAmount ?g_InvalidTrade ?x_InvalidTrade ?k_InvalidTrade ?b_InvalidTrade ?t_InvalidTrade ?d_InvalidTrade ?s_InvalidTrade ?eg_InvalidTrade ?ek_InvalidTrade ?ea_InvalidTrade ?en_InvalidTrade ?et_InvalidTrade ?em_InvalidTrade ?kt_InvalidTrade_BourseError ?kt_InvalidTrade_InvalidAmount
    (case g_BourseError => k_is)
    (case g_InvalidAmount => k_is)
    (case g_InvalidTrade => k_is)
    (case a1 => k_is)
    (case l1 => k_is)
    (case c1 => k_is)
    (case k1 => k_is)
    (case a2 => k_is)
    (case l2 => k_is)
    (case c2 => k_is)
    (case k2 => k_is)
    (case a3 => k_is)
    (case l3 => k_is)
    (case c3 => k_is)
    (case k3 => k_is)
    (case a4 => k_is)
    (case l4 => k_is)
    (case c4 => k_is)
    (case k4 => k_is)
    (case a5 => k_is)
    (case l5 => k_is)
    (case c5 => k_is)
    (case k5 => k_is)
    (case a6 => k_is)
    (case l6 => k_is)
    (case c6 => k_is)
    (case k6 => k_is)
    (case a7 => k_is)
    (case l7 => k_is)
    (case c7 => k_is)
    (case k7 => k_is)
    (case a8 => k_is)
    (case l8 => k_is)
    (case c8 => k_is)
    (case k8 => k_is)
    (case a9 => k_is)
    (case l9 => k_is)
    (case c9 => k_is)
    (case k9 => k_is)
    (case a10 => k_is)
    (case l10 => k_is)
    (case c10 => k_is)
    (case k10 => k_is)
    (case a11 => k_is)
    (case l11 => k_is)
    (case c11 => k_is)
    (case k11 => k_is)
    (case a12 => k_is)
    (case l12 => k_is)
    (case c12 => k_is)
    (case k12 => k_is)
    (case a13 => k_is)
    (case l13 => k_is)
    (case c13 => k_is)
    (case k13 => k_is)
    (case a14 => k_is)
    (case l14 => k_is)
    (case c14 => k_is)
    (case k14 => k_is)
    (case a15 => k_is)
    (case l15 => k_is)
    (case c15 => k_is)
    (case k15 => k_is)
    (case a16 => k_is)
    (case l16 => k_is)
    (case c16 => k_is)
    (case k16 => k_is)
    (case a17 => k_is)
    (case l17 => k_is)
    (case c17 => k_is)
    (case k17 => k_is)
    (case a18 => k_is)
    (case l18 => k_is)
    (case c18 => k_is)
    (case k18 => k_is)
    (case a19 => k_is)
    (case l19 => k_is)
    (case c19 => k_is)
    (case k19 => k_is)
    (case a20 => k_is)
    (case l20 => k_is)
    (case c20 => k_is)
    (case k20 => k_is)
    (case a21 => k_is)
    (case l21 => k_is)
    (case c21 => k_is)
    (case k21 => k_is)
    (case a22 => k_is)
    (case l22 => k_is)
    (case c22 => k_is)
    (case k22 => k_is)
    (case z_abs => k_is)
    (case z_all => k_is)
    (case z_bool => k_is)
    (case z_enumerate => k_is)
    (case z_int => k_is)
    (case z_isinstance => k_is)
    (case z_len => k_is)
    (case z_list => k_is)
    (case z_max => k_is)
    (case z_min => k_is)
    (case z_range => k_is)
    (case z_sorted => k_is)
    (case z_sum => k_is)
    (case z_tuple => k_is)
    (case z_zip => k_is)
    (case v_MOST_HOUSES => k_is)
    (case v_MOST_DEBT => k_is)
    (case x_InvalidTrade => k_exc)
    (case k_InvalidTrade => k_is)
    (case b_InvalidTrade => k_is)
    (case t_InvalidTrade => k_is)
    (case d_InvalidTrade => k_is)
    (case s_InvalidTrade => first | rfl | k_is)
    (case eg_InvalidTrade => k_is)
    (case ek_InvalidTrade => k_is)
    (case ea_InvalidTrade => k_is)
    (case en_InvalidTrade => k_is)
    (case et_InvalidTrade => k_is)
    (case em_InvalidTrade => k_is)
    (case kt_InvalidTrade_BourseError => kit_is)
    (case kt_InvalidTrade_InvalidAmount => kit_is)
