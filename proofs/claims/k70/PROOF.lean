import PyProof.Rows.All
import Wide.All
import OpenK.AllK
import Wide.FinOn
import HandS.ForMost
import HandS.ForExc
import HandS.Defaults
import HandS.Sort
import HandS.DictComp
import HandS.IsInst
import HandS.Wide
import HandS.Codes
import HandS.Walk
import HandS.SetFor
import HandS.More
import KE.DataFind
import HandS.ExcIs
import HandS.MakeKwOnly
import HandS.CallSlots
import PySem.Challenge.RW_fairbourse_k70_ledger_balances
set_option Elab.async false
set_option linter.all false
set_option maxRecDepth 100000
namespace FB
open PySem PySem.Spec PyProof.Rows L2
def topS (i : Nat) : Stmt := PySem.Challenge.pw_fairbourse_k70_ledger_balances.main.body.getD i (.Pass ⟨0, 0, 0, 0⟩)
abbrev s_is_integral : Stmt := topS 9
abbrev N_is_integral : List Str := ["value"]
theorem sc_is_integral : FnScope N_is_integral ["value"] (defScope s_is_integral) := ⟨rfl, rfl, rfl, by decide +kernel, rfl, by decide +kernel, by decide +kernel⟩
abbrev s_Ledger_init : Stmt := inClass (topS 11) 0
abbrev N_Ledger_init : List Str := ["self"]
theorem sc_Ledger_init : FnScope N_Ledger_init ["self"] (defScope s_Ledger_init) := ⟨rfl, rfl, rfl, by decide +kernel, rfl, by decide +kernel, by decide +kernel⟩
abbrev s_Ledger_open_account : Stmt := inClass (topS 11) 1
abbrev N_Ledger_open_account : List Str := ["self", "name", "may_owe"]
theorem sc_Ledger_open_account : FnScope N_Ledger_open_account ["self", "name", "may_owe"] (defScope s_Ledger_open_account) := ⟨rfl, rfl, rfl, by decide +kernel, rfl, by decide +kernel, by decide +kernel⟩
abbrev s_Ledger_accounts : Stmt := inClass (topS 11) 2
abbrev N_Ledger_accounts : List Str := ["self"]
theorem sc_Ledger_accounts : FnScope N_Ledger_accounts ["self"] (defScope s_Ledger_accounts) := ⟨rfl, rfl, rfl, by decide +kernel, rfl, by decide +kernel, by decide +kernel⟩
abbrev s_Ledger_balance : Stmt := inClass (topS 11) 3
abbrev N_Ledger_balance : List Str := ["self", "name"]
theorem sc_Ledger_balance : FnScope N_Ledger_balance ["self", "name"] (defScope s_Ledger_balance) := ⟨rfl, rfl, rfl, by decide +kernel, rfl, by decide +kernel, by decide +kernel⟩
abbrev s_Ledger_post : Stmt := inClass (topS 11) 4
abbrev N_Ledger_post : List Str := ["self", "moves", "sums", "name", "amount", "number"]
theorem sc_Ledger_post : FnScope N_Ledger_post ["self", "moves"] (defScope s_Ledger_post) := ⟨rfl, rfl, rfl, by decide +kernel, rfl, by decide +kernel, by decide +kernel⟩
abbrev s_Ledger_entries : Stmt := inClass (topS 11) 6
abbrev N_Ledger_entries : List Str := ["self", "moves"]
theorem sc_Ledger_entries : FnScope N_Ledger_entries ["self"] (defScope s_Ledger_entries) := ⟨rfl, rfl, rfl, by decide +kernel, rfl, by decide +kernel, by decide +kernel⟩
abbrev s_Ledger_statement : Stmt := inClass (topS 11) 7
abbrev N_Ledger_statement : List Str := ["self", "name"]
theorem sc_Ledger_statement : FnScope N_Ledger_statement ["self", "name"] (defScope s_Ledger_statement) := ⟨rfl, rfl, rfl, by decide +kernel, rfl, by decide +kernel, by decide +kernel⟩
abbrev s_Ledgercheck_account : Stmt := inClass (topS 11) 8
abbrev N_Ledgercheck_account : List Str := ["self", "name"]
theorem sc_Ledgercheck_account : FnScope N_Ledgercheck_account ["self", "name"] (defScope s_Ledgercheck_account) := ⟨rfl, rfl, rfl, by decide +kernel, rfl, by decide +kernel, by decide +kernel⟩
abbrev s_Ledgersums : Stmt := inClass (topS 11) 9
abbrev N_Ledgersums : List Str := ["self", "moves", "sums", "name", "amount"]
theorem sc_Ledgersums : FnScope N_Ledgersums ["self", "moves"] (defScope s_Ledgersums) := ⟨rfl, rfl, rfl, by decide +kernel, rfl, by decide +kernel, by decide +kernel⟩
abbrev s_Ledgercheck_sums : Stmt := inClass (topS 11) 10
abbrev N_Ledgercheck_sums : List Str := ["self", "sums", "name", "amount"]
theorem sc_Ledgercheck_sums : FnScope N_Ledgercheck_sums ["self", "sums"] (defScope s_Ledgercheck_sums) := ⟨rfl, rfl, rfl, by decide +kernel, rfl, by decide +kernel, by decide +kernel⟩
abbrev s_law_digit : Stmt := topS 13
abbrev N_law_digit : List Str := ["cell", "base", "k", "left", "step"]
theorem sc_law_digit : FnScope N_law_digit ["cell", "base", "k"] (defScope s_law_digit) := ⟨rfl, rfl, rfl, by decide +kernel, rfl, by decide +kernel, by decide +kernel⟩
abbrev s_law_names : Stmt := topS 14
abbrev N_law_names : List Str := []
theorem sc_law_names : FnScope N_law_names [] (defScope s_law_names) := ⟨rfl, rfl, rfl, by decide +kernel, rfl, by decide +kernel, by decide +kernel⟩
abbrev s_law_moves : Stmt := topS 15
abbrev N_law_moves : List Str := ["cell", "moves", "total", "k", "amount", "name"]
theorem sc_law_moves : FnScope N_law_moves ["cell"] (defScope s_law_moves) := ⟨rfl, rfl, rfl, by decide +kernel, rfl, by decide +kernel, by decide +kernel⟩
abbrev s_law_due : Stmt := topS 16
abbrev N_law_due : List Str := ["balances", "moves", "after", "name", "total", "amount"]
theorem sc_law_due : FnScope N_law_due ["balances", "moves"] (defScope s_law_due) := ⟨rfl, rfl, rfl, by decide +kernel, rfl, by decide +kernel, by decide +kernel⟩
abbrev s_law_told : Stmt := topS 17
abbrev N_law_told : List Str := ["ledger", "balances", "name"]
theorem sc_law_told : FnScope N_law_told ["ledger"] (defScope s_law_told) := ⟨rfl, rfl, rfl, by decide +kernel, rfl, by decide +kernel, by decide +kernel⟩
abbrev s_law_statement : Stmt := topS 18
abbrev N_law_statement : List Str := ["entries", "name", "rows", "balance", "k", "moves", "moved", "amount"]
theorem sc_law_statement : FnScope N_law_statement ["entries", "name"] (defScope s_law_statement) := ⟨rfl, rfl, rfl, by decide +kernel, rfl, by decide +kernel, by decide +kernel⟩
abbrev s_law : Stmt := topS 19
abbrev N_law : List Str := ["script", "ledger", "name", "balances", "entries", "cell", "moves", "due", "number"]
theorem sc_law : FnScope N_law ["script"] (defScope s_law) := ⟨rfl, rfl, rfl, by decide +kernel, rfl, by decide +kernel, by decide +kernel⟩
set_option maxHeartbeats 0 in
structure Txt (K : PySem.W.Frag) (mg : Str → Option Value) where
  f_is_integral : Addr
  d_is_integral : FuncData
  F_is_integral : Fun K "is_integral" "is_integral" s_is_integral f_is_integral d_is_integral
  m_is_integral : mg "is_integral" = some (.ref f_is_integral)
  b_is_integral : Binds K d_is_integral ["value"] []
  f_Ledger_init : Addr
  d_Ledger_init : FuncData
  F_Ledger_init : Fun K "__init__" "Ledger.__init__" s_Ledger_init f_Ledger_init d_Ledger_init
  b_Ledger_init : Binds K d_Ledger_init ["self"] []
  f_Ledger_open_account : Addr
  d_Ledger_open_account : FuncData
  F_Ledger_open_account : FunD K "open_account" "Ledger.open_account" (defArgs s_Ledger_open_account) (defBody s_Ledger_open_account) (defScope s_Ledger_open_account) [] [("may_owe", .bl false)] f_Ledger_open_account d_Ledger_open_account
  b_Ledger_open_account : ∃ ds, Vals [.bl false] ds ∧ Binds K d_Ledger_open_account ["self", "name", "may_owe"] ds
  kb_Ledger_open_account_may_owe : ∃ g : List Value → List Value → List Value, KBn K d_Ledger_open_account ["self", "name", "may_owe"] 2 ["may_owe"] g (fun vs zs => vs ++ zs)
  f_Ledger_accounts : Addr
  d_Ledger_accounts : FuncData
  F_Ledger_accounts : Fun K "accounts" "Ledger.accounts" s_Ledger_accounts f_Ledger_accounts d_Ledger_accounts
  b_Ledger_accounts : Binds K d_Ledger_accounts ["self"] []
  f_Ledger_balance : Addr
  d_Ledger_balance : FuncData
  F_Ledger_balance : Fun K "balance" "Ledger.balance" s_Ledger_balance f_Ledger_balance d_Ledger_balance
  b_Ledger_balance : Binds K d_Ledger_balance ["self", "name"] []
  f_Ledger_post : Addr
  d_Ledger_post : FuncData
  F_Ledger_post : Fun K "post" "Ledger.post" s_Ledger_post f_Ledger_post d_Ledger_post
  b_Ledger_post : Binds K d_Ledger_post ["self", "moves"] []
  f_Ledger_entries : Addr
  d_Ledger_entries : FuncData
  F_Ledger_entries : Fun K "entries" "Ledger.entries" s_Ledger_entries f_Ledger_entries d_Ledger_entries
  b_Ledger_entries : Binds K d_Ledger_entries ["self"] []
  f_Ledger_statement : Addr
  d_Ledger_statement : FuncData
  F_Ledger_statement : Fun K "statement" "Ledger.statement" s_Ledger_statement f_Ledger_statement d_Ledger_statement
  b_Ledger_statement : Binds K d_Ledger_statement ["self", "name"] []
  f_Ledgercheck_account : Addr
  d_Ledgercheck_account : FuncData
  F_Ledgercheck_account : Fun K "_check_account" "Ledger._check_account" s_Ledgercheck_account f_Ledgercheck_account d_Ledgercheck_account
  b_Ledgercheck_account : Binds K d_Ledgercheck_account ["self", "name"] []
  f_Ledgersums : Addr
  d_Ledgersums : FuncData
  F_Ledgersums : Fun K "_sums" "Ledger._sums" s_Ledgersums f_Ledgersums d_Ledgersums
  b_Ledgersums : Binds K d_Ledgersums ["self", "moves"] []
  f_Ledgercheck_sums : Addr
  d_Ledgercheck_sums : FuncData
  F_Ledgercheck_sums : Fun K "_check_sums" "Ledger._check_sums" s_Ledgercheck_sums f_Ledgercheck_sums d_Ledgercheck_sums
  b_Ledgercheck_sums : Binds K d_Ledgercheck_sums ["self", "sums"] []
  f_law_digit : Addr
  d_law_digit : FuncData
  F_law_digit : Fun K "_law_digit" "_law_digit" s_law_digit f_law_digit d_law_digit
  m_law_digit : mg "_law_digit" = some (.ref f_law_digit)
  b_law_digit : Binds K d_law_digit ["cell", "base", "k"] []
  f_law_names : Addr
  d_law_names : FuncData
  F_law_names : Fun K "_law_names" "_law_names" s_law_names f_law_names d_law_names
  m_law_names : mg "_law_names" = some (.ref f_law_names)
  b_law_names : Binds K d_law_names [] []
  f_law_moves : Addr
  d_law_moves : FuncData
  F_law_moves : Fun K "_law_moves" "_law_moves" s_law_moves f_law_moves d_law_moves
  m_law_moves : mg "_law_moves" = some (.ref f_law_moves)
  b_law_moves : Binds K d_law_moves ["cell"] []
  f_law_due : Addr
  d_law_due : FuncData
  F_law_due : Fun K "_law_due" "_law_due" s_law_due f_law_due d_law_due
  m_law_due : mg "_law_due" = some (.ref f_law_due)
  b_law_due : Binds K d_law_due ["balances", "moves"] []
  f_law_told : Addr
  d_law_told : FuncData
  F_law_told : Fun K "_law_told" "_law_told" s_law_told f_law_told d_law_told
  m_law_told : mg "_law_told" = some (.ref f_law_told)
  b_law_told : Binds K d_law_told ["ledger"] []
  f_law_statement : Addr
  d_law_statement : FuncData
  F_law_statement : Fun K "_law_statement" "_law_statement" s_law_statement f_law_statement d_law_statement
  m_law_statement : mg "_law_statement" = some (.ref f_law_statement)
  b_law_statement : Binds K d_law_statement ["entries", "name"] []
  c_BourseError : Addr
  m_BourseError : mg "BourseError" = some (.ref c_BourseError)
  x_BourseError : PySem.W.excIn K c_BourseError [.type "ValueError", .type "Exception", .type "BaseException", .type "object"] "ValueError.__new__" = true
  k_BourseError : PySem.W.keepIn K (.ref c_BourseError) = true
  b_BourseError : PySem.W.subIn K (.ref c_BourseError) (.type "BaseException") = some true
  t_BourseError : PySem.W.typeIn K (.ref c_BourseError) = some (.type "type")
  d_BourseError : PySem.W.hasDictIn K c_BourseError = true
  s_BourseError : PySem.W.subIn K (.ref c_BourseError) (.ref c_BourseError) = some true
  eg_BourseError : PySem.W.findIn K (.ref c_BourseError) "__getattribute__" = some (some (.builtin "BaseException.__getattribute__"))
  ek_BourseError : PySem.W.findIn K (.ref c_BourseError) "__getattr__" = some none
  ea_BourseError : PySem.W.findIn K (.ref c_BourseError) "__class__" = some (some (.builtin "object.__class__"))
  en_BourseError : PySem.W.specialIn K (.builtin "object.__class__") "__get__" = some (some (.builtin "getset_descriptor.__get__"))
  et_BourseError : PySem.W.takesIn K (.builtin "object.__class__") = some true
  em_BourseError : PySem.W.mroIn K c_BourseError (.type "object") = some true
  e_BourseError : ExcC K c_BourseError
  c_InvalidAmount : Addr
  m_InvalidAmount : mg "InvalidAmount" = some (.ref c_InvalidAmount)
  x_InvalidAmount : PySem.W.excIn K c_InvalidAmount [.type "ValueError", .type "Exception", .type "BaseException", .type "object"] "ValueError.__new__" = true
  k_InvalidAmount : PySem.W.keepIn K (.ref c_InvalidAmount) = true
  b_InvalidAmount : PySem.W.subIn K (.ref c_InvalidAmount) (.type "BaseException") = some true
  t_InvalidAmount : PySem.W.typeIn K (.ref c_InvalidAmount) = some (.type "type")
  d_InvalidAmount : PySem.W.hasDictIn K c_InvalidAmount = true
  s_InvalidAmount : PySem.W.subIn K (.ref c_InvalidAmount) (.ref c_InvalidAmount) = some true
  c_UnknownName : Addr
  m_UnknownName : mg "UnknownName" = some (.ref c_UnknownName)
  x_UnknownName : PySem.W.excIn K c_UnknownName [.type "ValueError", .type "Exception", .type "BaseException", .type "object"] "ValueError.__new__" = true
  k_UnknownName : PySem.W.keepIn K (.ref c_UnknownName) = true
  b_UnknownName : PySem.W.subIn K (.ref c_UnknownName) (.type "BaseException") = some true
  t_UnknownName : PySem.W.typeIn K (.ref c_UnknownName) = some (.type "type")
  d_UnknownName : PySem.W.hasDictIn K c_UnknownName = true
  s_UnknownName : PySem.W.subIn K (.ref c_UnknownName) (.ref c_UnknownName) = some true
  c_DuplicateName : Addr
  m_DuplicateName : mg "DuplicateName" = some (.ref c_DuplicateName)
  x_DuplicateName : PySem.W.excIn K c_DuplicateName [.type "ValueError", .type "Exception", .type "BaseException", .type "object"] "ValueError.__new__" = true
  k_DuplicateName : PySem.W.keepIn K (.ref c_DuplicateName) = true
  b_DuplicateName : PySem.W.subIn K (.ref c_DuplicateName) (.type "BaseException") = some true
  t_DuplicateName : PySem.W.typeIn K (.ref c_DuplicateName) = some (.type "type")
  d_DuplicateName : PySem.W.hasDictIn K c_DuplicateName = true
  s_DuplicateName : PySem.W.subIn K (.ref c_DuplicateName) (.ref c_DuplicateName) = some true
  c_Unbalanced : Addr
  m_Unbalanced : mg "Unbalanced" = some (.ref c_Unbalanced)
  x_Unbalanced : PySem.W.excIn K c_Unbalanced [.type "ValueError", .type "Exception", .type "BaseException", .type "object"] "ValueError.__new__" = true
  k_Unbalanced : PySem.W.keepIn K (.ref c_Unbalanced) = true
  b_Unbalanced : PySem.W.subIn K (.ref c_Unbalanced) (.type "BaseException") = some true
  t_Unbalanced : PySem.W.typeIn K (.ref c_Unbalanced) = some (.type "type")
  d_Unbalanced : PySem.W.hasDictIn K c_Unbalanced = true
  s_Unbalanced : PySem.W.subIn K (.ref c_Unbalanced) (.ref c_Unbalanced) = some true
  c_Overdrawn : Addr
  m_Overdrawn : mg "Overdrawn" = some (.ref c_Overdrawn)
  x_Overdrawn : PySem.W.excIn K c_Overdrawn [.type "ValueError", .type "Exception", .type "BaseException", .type "object"] "ValueError.__new__" = true
  k_Overdrawn : PySem.W.keepIn K (.ref c_Overdrawn) = true
  b_Overdrawn : PySem.W.subIn K (.ref c_Overdrawn) (.type "BaseException") = some true
  t_Overdrawn : PySem.W.typeIn K (.ref c_Overdrawn) = some (.type "type")
  d_Overdrawn : PySem.W.hasDictIn K c_Overdrawn = true
  s_Overdrawn : PySem.W.subIn K (.ref c_Overdrawn) (.ref c_Overdrawn) = some true
  c_Ledger : Addr
  m_Ledger : mg "Ledger" = some (.ref c_Ledger)
  pg_Ledger : PySem.W.plainGet K c_Ledger Str.empty = true
  hd_Ledger : PySem.W.hasDictIn K c_Ledger = true
  po_Ledger : PySem.W.plainOver K c_Ledger = true
  sa_Ledger : PySem.W.findIn K (.ref c_Ledger) "__setattr__" = some (some (.builtin "object.__setattr__"))
  ma_Ledger : PySem.W.makesIn K c_Ledger = true
  kc_Ledger : PySem.W.keepIn K (.ref c_Ledger) = true
  cl_Ledger : Cls K c_Ledger
  na_Ledger__balances : PySem.W.findIn K (.ref c_Ledger) "_balances" = some none
  na_Ledger__may_owe : PySem.W.findIn K (.ref c_Ledger) "_may_owe" = some none
  na_Ledger__statements : PySem.W.findIn K (.ref c_Ledger) "_statements" = some none
  na_Ledger__entries : PySem.W.findIn K (.ref c_Ledger) "_entries" = some none
  mk_Ledger : Mk K c_Ledger f_Ledger_init
  mt_Ledger_open_account : Meth K c_Ledger "open_account" f_Ledger_open_account
  mt_Ledger_accounts : Meth K c_Ledger "accounts" f_Ledger_accounts
  mt_Ledger_balance : Meth K c_Ledger "balance" f_Ledger_balance
  mt_Ledger_post : Meth K c_Ledger "post" f_Ledger_post
  mt_Ledger_entries : Meth K c_Ledger "entries" f_Ledger_entries
  mt_Ledger_statement : Meth K c_Ledger "statement" f_Ledger_statement
  mt_Ledgercheck_account : Meth K c_Ledger "_check_account" f_Ledgercheck_account
  mt_Ledgersums : Meth K c_Ledger "_sums" f_Ledgersums
  mt_Ledgercheck_sums : Meth K c_Ledger "_check_sums" f_Ledgercheck_sums
  su_UnknownName_BourseError : PySem.W.subIn K (.ref c_UnknownName) (.ref c_BourseError) = some true
  su_InvalidAmount_BourseError : PySem.W.subIn K (.ref c_InvalidAmount) (.ref c_BourseError) = some true
  su_Unbalanced_BourseError : PySem.W.subIn K (.ref c_Unbalanced) (.ref c_BourseError) = some true
  su_Overdrawn_BourseError : PySem.W.subIn K (.ref c_Overdrawn) (.ref c_BourseError) = some true
  z_bool : mg "bool" = none
  z_enumerate : mg "enumerate" = none
  z_int : mg "int" = none
  z_isinstance : mg "isinstance" = none
  z_len : mg "len" = none
  z_list : mg "list" = none
  z_range : mg "range" = none
  z_sorted : mg "sorted" = none
  z_sum : mg "sum" = none
/-! own short words -/
theorem iteD {p A B : Prop} [Decidable p] (h1 : p → A) (h2 : ¬ p → B) : if decide p = true then A else B := by
  by_cases h : p
  · rw [decide_eq_true h, if_pos rfl]; exact h1 h
  · rw [decide_eq_false h, if_neg Bool.false_ne_true]; exact h2 h
theorem iteDN {p A B : Prop} [Decidable p] (h1 : ¬ p → A) (h2 : p → B) : if (!decide p) = true then A else B := by
  by_cases h : p
  · rw [decide_eq_true h]; exact iteF (h2 h)
  · rw [decide_eq_false h]; exact iteT (h1 h)
theorem len_le {n : Nat} (h : Nat.ble n 1000 = true) : n ≤ sizeLine := Nat.le_trans (Nat.le_of_ble_eq_true h) (by decide)
theorem iteB {b : Bool} {A B : Prop} (h1 : b = true → A) (h2 : b = false → B) : if b = true then A else B := by
  cases b with
  | true => exact iteT (h1 rfl)
  | false => exact iteF (h2 rfl)
theorem cmul_l {i j : Int} (h : -(2 ^ 64) < i) (h' : i < 2 ^ 64) : CMul i j := .inl ⟨h, h'⟩
theorem cmul_r {i j : Int} (h : -(2 ^ 64) < j) (h' : j < 2 ^ 64) : CMul i j := .inr ⟨h, h'⟩
theorem dec_t {p : Prop} [Decidable p] (h : decide p = true) : p := of_decide_eq_true h
theorem dec_f {p : Prop} [Decidable p] (h : decide p = false) : ¬ p := of_decide_eq_false h
theorem ndec_t {p : Prop} [Decidable p] (h : (!decide p) = true) : ¬ p := fun q => by rw [decide_eq_true q] at h; cases h
theorem ndec_f {p : Prop} [Decidable p] (h : (!decide p) = false) : p := by
  by_cases q : p
  · exact q
  · rw [decide_eq_false q] at h; cases h
theorem fld_lt {n : Nat} (h : Nat.ble (n + 1) 1000 = true) : n < 1000 := Nat.le_of_ble_eq_true h
def rLen (K : PySem.W.Frag) : List V → Hp → VK → Prop := fun xs H Q => ∃ p ys, xs = [.ref p] ∧ (SqL K H p ys ∨ SqT K H p ys) ∧ Q (.int ys.length) H
def rListOf (K : PySem.W.Frag) : List V → Hp → VK → Prop := fun xs H Q => ∃ p ys, xs = [.ref p] ∧ (SqL K H p ys ∨ SqT K H p ys) ∧ ∀ l, H l = none → Q (.ref l) (upd H l (.lst ys))
def rTupleOf (K : PySem.W.Frag) : List V → Hp → VK → Prop := fun xs H Q => ∃ p ys, xs = [.ref p] ∧ ((SqL K H p ys ∧ ∀ l, H l = none → Q (.ref l) (upd H l (.tup ys))) ∨ (SqT K H p ys ∧ Q (.ref p) H))
theorem len0 : ([] : List V).length ≤ sizeLine := len_le rfl
theorem len1 {a : V} : [a].length ≤ sizeLine := len_le rfl
theorem len2 {a b : V} : [a, b].length ≤ sizeLine := len_le rfl
theorem len3 {a b c : V} : [a, b, c].length ≤ sizeLine := len_le rfl
theorem len4 {a b c d : V} : [a, b, c, d].length ≤ sizeLine := len_le rfl
theorem len5 {a b c d e : V} : [a, b, c, d, e].length ≤ sizeLine := len_le rfl
local macro_rules | `(tactic| walk_at "st") => `(tactic| repeat (first
  | (apply Exists.intro (α := V))
  | (apply Exists.intro (α := Int))
  | (apply Exists.intro (α := Bool))
  | (apply Exists.intro (α := Addr))
  | (apply Exists.intro (α := List V))
  | (apply Exists.intro (α := List Int))
  | (apply Exists.intro (α := List (Str × V)))
  | (apply Exists.intro (α := Str))
  | (apply And.intro; focus (first | omega | (dsimp only; omega) | (simp only [List.length_map, List.length_replicate]; omega) | exact rfl | assumption | exact SqL.of (by assumption) | exact Or.inl (by assumption) | exact Or.inr (by assumption) | exact Or.inr (SqT.of (by assumption)) | exact Or.inl (Or.inl upd_same) | exact Or.inl (Or.inl (Or.inl upd_same)) | (with_reducible exact len0) | (with_reducible exact len1) | (with_reducible exact len2) | (with_reducible exact len3) | (with_reducible exact len4) | (with_reducible exact len5) | exact upd_same | exact ⟨_, Or.inl (Or.inl upd_same)⟩ | exact ⟨_, SqL.of (by assumption)⟩ | exact ⟨_, by assumption⟩ | exact Or.inl ⟨rfl, _, SqL.of (by assumption)⟩ | exact Or.inl ⟨rfl, _, SqL.of upd_same⟩ | exact cmul_l (by omega) (by omega) | exact cmul_r (by omega) (by omega) | exact ⟨by omega, by omega⟩ | (simp only [List.length_map, List.length_replicate]; omega) | exact Or.inl (SqL.of (by assumption)) | exact SqT.of (by assumption) | exact fld_lt rfl | exact Or.inl ⟨_, by assumption, rfl⟩))))
/-- the script's cell at j, 0 where there is none -/
def cellOf (ns : List Int) (j : Nat) : Int := ns.getD j 0
theorem atI_ints {ns : List Int} {j : Nat} (h : j < ns.length) : atI (ns.map V.int) (j : Int) = some (.int (cellOf ns j)) := by
  refine at_of (j := j) rfl ?_
  rw [List.getElem?_map, List.getElem?_eq_getElem h]
  unfold cellOf
  rw [List.getD_eq_getElem?_getD, List.getElem?_eq_getElem h]
  rfl
theorem cellOf_out {ns : List Int} {j : Nat} (h : ¬ j < ns.length) : cellOf ns j = 0 := by
  unfold cellOf
  rw [List.getD_eq_getElem?_getD, List.getElem?_eq_none (by omega)]
  rfl
theorem same_upd {H : Hp} {p : Addr} {o : HO} (h : H p = none) : Same H (upd H p o) := fun b x e => by
  rw [upd_ne (ne_of_none e h)]
  exact e
/-- a slice of a list of ints -/
def cutI (ns : List Int) (lo hi : Option Int) : List Int := (ns.drop (HT.sIx ns.length 0 lo)).take (HT.sIx ns.length ns.length hi - HT.sIx ns.length 0 lo)
theorem cutV_ints (ns : List Int) (lo hi : Option Int) : cutV (ns.map V.int) lo hi = (cutI ns lo hi).map V.int := by
  unfold cutV cutI
  rw [List.length_map, List.map_take, List.map_drop]
theorem cutI_len (ns : List Int) (lo hi : Option Int) : (cutI ns lo hi).length ≤ ns.length := by
  unfold cutI
  rw [List.length_take, List.length_drop]
  omega
theorem ints_at {ns : List Int} {i : Nat} {x : V} (h : (ns.map V.int)[i]? = some x) : ∃ z, ns[i]? = some z ∧ x = V.int z := by
  rw [List.getElem?_map] at h
  cases e : ns[i]? with
  | none => rw [e] at h; cases h
  | some z => rw [e] at h; exact ⟨z, rfl, (Option.some.inj h).symm⟩
theorem take_succ {α : Type} {xs : List α} {i : Nat} {x : α} (h : xs[i]? = some x) : xs.take (i + 1) = xs.take i ++ [x] := by
  rw [List.take_add_one, h]
  rfl
theorem sum_le_mul : ∀ (ws : List Int) (b : Int), (∀ w, w ∈ ws → w ≤ b) → ws.sum ≤ (ws.length : Int) * b
  | [], b, _ => by show (0 : Int) ≤ ((0 : Nat) : Int) * b; omega
  | w :: ws, b, h => by
    rw [List.sum_cons, List.length_cons, Int.natCast_add, Int.add_mul]
    have h1 := h w List.mem_cons_self
    have h2 := sum_le_mul ws b fun x hx => h x (List.mem_cons_of_mem _ hx)
    omega
theorem ixN_nat {n j : Nat} (h : j < n) : ixN n (j : Int) = some j := by
  unfold ixN
  rw [if_pos (by omega), if_pos (by omega), Int.toNat_natCast]
theorem call_int_i {X : Cx} : CallR X (.type "int") (fun xs H Q => ∃ i : Int, xs = [.int i] ∧ Q (.int i) H) := by
  intro pins s σ H xs us Q I r h
  obtain ⟨i, e, q⟩ := h
  exact call_int1 pins s σ H xs us Q I r (.inl ⟨i, e, q⟩)
theorem dpAll_ints {K : PySem.W.Frag} {H : Hp} : ∀ xs : List Int, DpAll K H (xs.map V.int) (xs.map PyData.int)
  | [] => .nil
  | x :: xs => .cons (.int x) (dpAll_ints xs)
theorem eqvAll_ints : ∀ xs ys : List Int, PyData.eqvAll (xs.map PyData.int) (ys.map PyData.int) = decide (xs = ys)
  | [], [] => by simp [PyData.eqvAll]
  | [], _ :: _ => by simp [PyData.eqvAll]
  | _ :: _, [] => by simp [PyData.eqvAll]
  | x :: xs, y :: ys => by
    rw [List.map_cons, List.map_cons]
    simp only [PyData.eqvAll, PyData.eqv]
    rw [eqvAll_ints xs ys]
    by_cases h : x = y <;> by_cases h2 : xs = ys <;> simp [h, h2]
theorem lay_ints : ∀ xs : List Int, PyData.canLayAll0 (xs.map PyData.int) = true
  | [] => rfl
  | x :: xs => by
    rw [List.map_cons]
    simp only [PyData.canLayAll0, PyData.canLay0, Bool.true_and]
    exact lay_ints xs
theorem depth_ints : ∀ xs : List Int, PyData.depthAll (xs.map PyData.int) = 0
  | [] => rfl
  | x :: xs => by
    rw [List.map_cons]
    simp only [PyData.depthAll, PyData.depth, depth_ints xs]
    rfl
theorem shaped_ints (xs : List Int) : SeqAt.shaped (.list (xs.map PyData.int)) = true := by
  unfold SeqAt.shaped
  simp only [PyData.canLay0, PyData.depth, lay_ints, depth_ints]
  rfl
theorem eqD_ints {K : PySem.W.Frag} {H : Hp} {a b : Addr} {xs ys : List Int} {Q : VK} (h1 : SqL K H a (xs.map V.int)) (h2 : SqL K H b (ys.map V.int)) (q : Q (.bl (decide (xs = ys))) H) : rEqD K (.ref a) (.ref b) H Q :=
  ⟨_, _, .lst h1 (dpAll_ints xs), .lst h2 (dpAll_ints ys), shaped_ints xs, shaped_ints ys, by rw [show PyData.eqv (.list (xs.map PyData.int)) (.list (ys.map PyData.int)) = decide (xs = ys) by simp only [PyData.eqv, eqvAll_ints]]; exact q⟩
theorem neD_ints {K : PySem.W.Frag} {H : Hp} {a b : Addr} {xs ys : List Int} {Q : VK} (h1 : SqL K H a (xs.map V.int)) (h2 : SqL K H b (ys.map V.int)) (q : Q (.bl (!decide (xs = ys))) H) : rNeD K (.ref a) (.ref b) H Q :=
  ⟨_, _, .lst h1 (dpAll_ints xs), .lst h2 (dpAll_ints ys), shaped_ints xs, shaped_ints ys, by rw [show PyData.eqv (.list (xs.map PyData.int)) (.list (ys.map PyData.int)) = decide (xs = ys) by simp only [PyData.eqv, eqvAll_ints]]; exact q⟩

/-- how items of one kind are told as data; equal data are equal items -/
structure LayD {α : Type} [DecidableEq α] (L : α → PyData) (k : Nat) (G : α → Prop) : Prop where
  lay : ∀ x, G x → (L x).canLay0 = true
  dep : ∀ x, (L x).depth ≤ k
  eqv : ∀ x y, PyData.eqv (L x) (L y) = decide (x = y)
theorem LayD.shaped {α : Type} [DecidableEq α] {L : α → PyData} {k : Nat} {G : α → Prop} (h : LayD L k G) (hk : k ≤ 64) {x : α} (g : G x) : SeqAt.shaped (L x) = true := by
  have h1 := h.lay x g
  have h2 := h.dep x
  unfold SeqAt.shaped
  rw [h1, Bool.true_and]
  exact decide_eq_true (by omega)
theorem layD_int : LayD PyData.int 0 (fun _ => True) := ⟨fun _ _ => rfl, fun _ => Nat.le_refl _, fun x y => by simp only [PyData.eqv]; exact (Bool.beq_eq_decide_eq x y)⟩
theorem layD_str : LayD PyData.str 0 (fun x => PyData.strOk x = true) := ⟨fun _ h => by simp only [PyData.canLay0]; exact h, fun _ => Nat.le_refl _, fun x y => by simp only [PyData.eqv]; exact (Bool.beq_eq_decide_eq x y)⟩
theorem decide_and2 {p q r : Prop} [Decidable p] [Decidable q] [Decidable r] (h : r ↔ p ∧ q) : (decide p && decide q) = decide r := by
  by_cases hp : p <;> by_cases hq : q <;> simp [h, hp, hq]
theorem layD_all {α : Type} [DecidableEq α] {L : α → PyData} {k : Nat} {G : α → Prop} (h : LayD L k G) : (∀ xs : List α, (∀ x, x ∈ xs → G x) → PyData.canLayAll0 (xs.map L) = true) ∧ (∀ xs : List α, PyData.depthAll (xs.map L) ≤ k) ∧ ∀ xs ys : List α, PyData.eqvAll (xs.map L) (ys.map L) = decide (xs = ys) := by
  refine ⟨fun xs => ?_, fun xs => ?_, fun xs => ?_⟩
  · induction xs with
    | nil => exact fun _ => rfl
    | cons x xs ih =>
      intro g
      rw [List.map_cons]
      simp only [PyData.canLayAll0, ih fun y hy => g y (List.mem_cons_of_mem _ hy), h.lay x (g x List.mem_cons_self)]
      rfl
  · induction xs with
    | nil => exact Nat.zero_le _
    | cons x xs ih => rw [List.map_cons]; simp only [PyData.depthAll]; exact Nat.max_le.mpr ⟨h.dep x, ih⟩
  · induction xs with
    | nil =>
      intro ys
      cases ys with
      | nil => rfl
      | cons y ys => simp [PyData.eqvAll]
    | cons x xs ih =>
      intro ys
      cases ys with
      | nil => simp [PyData.eqvAll]
      | cons y ys =>
        rw [List.map_cons, List.map_cons]
        simp only [PyData.eqvAll]
        rw [ih ys, h.eqv x y]
        exact decide_and2 (by rw [List.cons.injEq])
theorem LayD.list {α : Type} [DecidableEq α] {L : α → PyData} {k : Nat} {G : α → Prop} (h : LayD L k G) : LayD (fun xs : List α => PyData.list (xs.map L)) (k + 1) (fun xs => ∀ x, x ∈ xs → G x) := by
  obtain ⟨h1, h2, h3⟩ := layD_all h
  refine ⟨fun xs g => ?_, fun xs => ?_, fun xs ys => ?_⟩
  · simp only [PyData.canLay0]; exact h1 xs g
  · simp only [PyData.depth]; exact Nat.succ_le_succ (h2 xs)
  · simp only [PyData.eqv]; exact h3 xs ys
theorem LayD.tup2 {α β : Type} [DecidableEq α] [DecidableEq β] {L : α → PyData} {M : β → PyData} {k : Nat} {G : α → Prop} {G2 : β → Prop} (h : LayD L k G) (g : LayD M k G2) : LayD (fun x : α × β => PyData.tuple [L x.1, M x.2]) (k + 1) (fun x => G x.1 ∧ G2 x.2) := by
  refine ⟨fun x a => ?_, fun x => ?_, fun x y => ?_⟩
  · simp only [PyData.canLay0, PyData.canLayAll0, h.lay _ a.1, g.lay _ a.2, Bool.and_true]
  · simp only [PyData.depth, PyData.depthAll]
    have := h.dep x.1
    have := g.dep x.2
    omega
  · simp only [PyData.eqv, PyData.eqvAll, h.eqv, g.eqv, Bool.and_true]
    exact decide_and2 (by rw [Prod.ext_iff])
theorem LayD.tup3 {α β γ : Type} [DecidableEq α] [DecidableEq β] [DecidableEq γ] {L : α → PyData} {M : β → PyData} {N : γ → PyData} {k : Nat} {G : α → Prop} {G2 : β → Prop} {G3 : γ → Prop} (h : LayD L k G) (g : LayD M k G2) (e : LayD N k G3) : LayD (fun x : α × β × γ => PyData.tuple [L x.1, M x.2.1, N x.2.2]) (k + 1) (fun x => G x.1 ∧ G2 x.2.1 ∧ G3 x.2.2) := by
  refine ⟨fun x a => ?_, fun x => ?_, fun x y => ?_⟩
  · simp only [PyData.canLay0, PyData.canLayAll0, h.lay _ a.1, g.lay _ a.2.1, e.lay _ a.2.2, Bool.and_true]
  · simp only [PyData.depth, PyData.depthAll]
    have := h.dep x.1
    have := g.dep x.2.1
    have := e.dep x.2.2
    omega
  · simp only [PyData.eqv, PyData.eqvAll, h.eqv, g.eqv, e.eqv, Bool.and_true]
    rw [decide_and2 (r := x.2 = y.2) (by rw [Prod.ext_iff])]
    exact decide_and2 (by rw [Prod.ext_iff])
theorem LayD.tup4 {α β γ δ : Type} [DecidableEq α] [DecidableEq β] [DecidableEq γ] [DecidableEq δ] {L : α → PyData} {M : β → PyData} {N : γ → PyData} {O : δ → PyData} {k : Nat} {G : α → Prop} {G2 : β → Prop} {G3 : γ → Prop} {G4 : δ → Prop} (h : LayD L k G) (g : LayD M k G2) (e : LayD N k G3) (d : LayD O k G4) : LayD (fun x : α × β × γ × δ => PyData.tuple [L x.1, M x.2.1, N x.2.2.1, O x.2.2.2]) (k + 1) (fun x => G x.1 ∧ G2 x.2.1 ∧ G3 x.2.2.1 ∧ G4 x.2.2.2) := by
  refine ⟨fun x a => ?_, fun x => ?_, fun x y => ?_⟩
  · simp only [PyData.canLay0, PyData.canLayAll0, h.lay _ a.1, g.lay _ a.2.1, e.lay _ a.2.2.1, d.lay _ a.2.2.2, Bool.and_true]
  · simp only [PyData.depth, PyData.depthAll]
    have := h.dep x.1
    have := g.dep x.2.1
    have := e.dep x.2.2.1
    have := d.dep x.2.2.2
    omega
  · simp only [PyData.eqv, PyData.eqvAll, h.eqv, g.eqv, e.eqv, d.eqv, Bool.and_true]
    rw [decide_and2 (r := x.2.2 = y.2.2) (by rw [Prod.ext_iff]), decide_and2 (r := x.2 = y.2) (by rw [Prod.ext_iff])]
    exact decide_and2 (by rw [Prod.ext_iff])
theorem eqL {α : Type} [DecidableEq α] {L : α → PyData} {k : Nat} {G : α → Prop} (h : LayD L k G) (hk : k ≤ 64) {K : PySem.W.Frag} {H : Hp} {x y : V} {a b : α} {Q : VK} (ga : G a) (gb : G b) (h1 : Dp K H x (L a)) (h2 : Dp K H y (L b)) (q : Q (.bl (decide (a = b))) H) : rEqD K x y H Q :=
  ⟨_, _, h1, h2, h.shaped hk ga, h.shaped hk gb, by rw [h.eqv]; exact q⟩
theorem neL {α : Type} [DecidableEq α] {L : α → PyData} {k : Nat} {G : α → Prop} (h : LayD L k G) (hk : k ≤ 64) {K : PySem.W.Frag} {H : Hp} {x y : V} {a b : α} {Q : VK} (ga : G a) (gb : G b) (h1 : Dp K H x (L a)) (h2 : Dp K H y (L b)) (q : Q (.bl (!decide (a = b))) H) : rNeD K x y H Q :=
  ⟨_, _, h1, h2, h.shaped hk ga, h.shaped hk gb, by rw [h.eqv]; exact q⟩
theorem dpAll_refs {α : Type} {L : α → PyData} {K : PySem.W.Frag} {H : Hp} : ∀ {ps : List Addr} {xs : List α}, ps.length = xs.length → (∀ (i : Nat) (p : Addr) (x : α), ps[i]? = some p → xs[i]? = some x → Dp K H (.ref p) (L x)) → DpAll K H (ps.map V.ref) (xs.map L)
  | [], [], _, _ => .nil
  | [], _ :: _, h, _ => by cases h
  | _ :: _, [], h, _ => by cases h
  | p :: ps, x :: xs, h, e => .cons (e 0 p x rfl rfl) (dpAll_refs (Nat.succ.inj h) fun i p' x' h1 h2 => e (i + 1) p' x' h1 h2)

theorem refs_at {ps : List Addr} {i : Nat} {x : V} (h : (ps.map V.ref)[i]? = some x) : ∃ p, ps[i]? = some p ∧ x = V.ref p := by
  rw [List.getElem?_map] at h
  cases e : ps[i]? with
  | none => rw [e] at h; cases h
  | some z => rw [e] at h; exact ⟨z, rfl, (Option.some.inj h).symm⟩

/-- a list of tuples: the tuple of each item -/
structure Tups {α : Type} (enc : α → List V) (H : Hp) (l : Addr) (ps : List Addr) (xs : List α) : Prop where
  lst : H l = some (.lst (ps.map V.ref))
  len : ps.length = xs.length
  row : ∀ (i : Nat) (p : Addr) (x : α), ps[i]? = some p → xs[i]? = some x → H p = some (.tup (enc x))
theorem Tups.nil {α : Type} {enc : α → List V} {H : Hp} {l : Addr} (h : H l = some (.lst [])) : Tups enc H l [] ([] : List α) :=
  ⟨h, rfl, fun _ _ _ e => (by rw [List.getElem?_nil] at e; cases e)⟩
theorem Tups.same {α : Type} {enc : α → List V} {H H' : Hp} {l : Addr} {ps : List Addr} {xs : List α} (h : Tups enc H l ps xs) (e : Same H H') : Tups enc H' l ps xs :=
  ⟨e _ _ h.lst, h.len, fun i p x a b => e _ _ (h.row i p x a b)⟩
theorem Tups.at {α : Type} {enc : α → List V} {H : Hp} {l : Addr} {ps : List Addr} {xs : List α} (h : Tups enc H l ps xs) {i : Nat} {x : α} (e : xs[i]? = some x) : ∃ p, ps[i]? = some p ∧ atI (ps.map V.ref) (i : Int) = some (.ref p) ∧ H p = some (.tup (enc x)) := by
  have hi := (List.getElem?_eq_some_iff.mp e).1
  have hl : i < ps.length := by rw [h.len]; exact hi
  refine ⟨ps[i], List.getElem?_eq_getElem hl, at_of (j := i) rfl ?_, h.row i _ x (List.getElem?_eq_getElem hl) e⟩
  rw [List.getElem?_map, List.getElem?_eq_getElem hl]
  rfl
theorem Tups.item {α : Type} {enc : α → List V} {H : Hp} {l : Addr} {ps : List Addr} {xs : List α} (h : Tups enc H l ps xs) {i : Nat} {v : V} (e : (ps.map V.ref)[i]? = some v) : ∃ p x, ps[i]? = some p ∧ xs[i]? = some x ∧ v = .ref p ∧ H p = some (.tup (enc x)) := by
  obtain ⟨p, hp, rfl⟩ := refs_at e
  have hi := (List.getElem?_eq_some_iff.mp hp).1
  rw [h.len] at hi
  exact ⟨p, xs[i], hp, List.getElem?_eq_getElem hi, rfl, h.row i p _ hp (List.getElem?_eq_getElem hi)⟩
theorem Tups.push {α : Type} {enc : α → List V} {H H' : Hp} {l p : Addr} {ps : List Addr} {xs : List α} {x : α} (h : Tups enc H l ps xs) (e : Same H H') (np : H p = none) (hp : H' p = some (.tup (enc x))) : Tups enc (upd H' l (.lst (ps.map V.ref ++ [V.ref p]))) l (ps ++ [p]) (xs ++ [x]) := by
  have hpl : p ≠ l := fun z => by rw [z, h.lst] at np; cases np
  refine ⟨?_, ?_, fun i q y hq hy => ?_⟩
  · rw [upd_same, List.map_append]
    rfl
  · rw [List.length_append, List.length_append, h.len]
    rfl
  · by_cases hi : i < ps.length
    · rw [List.getElem?_append_left hi] at hq
      rw [List.getElem?_append_left (by rw [← h.len]; exact hi)] at hy
      have hq2 := h.row i q y hq hy
      rw [upd_ne (fun z => by rw [z, h.lst] at hq2; cases hq2)]
      exact e _ _ hq2
    · rw [List.getElem?_append_right (by omega)] at hq
      rw [List.getElem?_append_right (by have := h.len; omega)] at hy
      have h1 := (List.getElem?_eq_some_iff.mp hq).1
      rw [List.length_cons, List.length_nil] at h1
      have e0 : i - ps.length = 0 := by omega
      have e1 : i - xs.length = 0 := by have := h.len; omega
      rw [e0] at hq
      rw [e1] at hy
      have z1 : p = q := Option.some.inj hq
      have z2 : x = y := Option.some.inj hy
      rw [← z1, ← z2, upd_ne hpl]
      exact hp
theorem Tups.dp {α : Type} {enc : α → List V} {L : α → PyData} {K : PySem.W.Frag} {H : Hp} {l : Addr} {ps : List Addr} {xs : List α} (h : Tups enc H l ps xs) (he : ∀ x (p : Addr), H p = some (.tup (enc x)) → Dp K H (.ref p) (L x)) : Dp K H (.ref l) (PyData.list (xs.map L)) :=
  .lst (SqL.of h.lst) (dpAll_refs h.len fun i p x h1 h2 => he x p (h.row i p x h1 h2))
def enc2 (x : Int × Int) : List V := [.int x.1, .int x.2]
def enc3 (x : Int × Int × Int) : List V := [.int x.1, .int x.2.1, .int x.2.2]
def lay3 (x : Int × Int × Int) : PyData := .tuple [.int x.1, .int x.2.1, .int x.2.2]
theorem layD_3 : LayD lay3 1 (fun x => True ∧ True ∧ True) := layD_int.tup3 layD_int layD_int
theorem dp3 {K : PySem.W.Frag} {H : Hp} (x : Int × Int × Int) (p : Addr) (h : H p = some (.tup (enc3 x))) : Dp K H (.ref p) (lay3 x) :=
  .tup (SqT.of h) (.cons (.int _) (.cons (.int _) (.cons (.int _) .nil)))
theorem Tups.push2 {α : Type} {enc : α → List V} {H : Hp} {l p : Addr} {ps : List Addr} {xs : List α} {x : α} (h : Tups enc H l ps xs) (hp : H p = some (.tup (enc x))) : Tups enc (upd H l (.lst (ps.map V.ref ++ [V.ref p]))) l (ps ++ [p]) (xs ++ [x]) := by
  have hpl : p ≠ l := fun z => by rw [z, h.lst] at hp; cases hp
  refine ⟨?_, ?_, fun i q y hq hy => ?_⟩
  · rw [upd_same, List.map_append]
    rfl
  · rw [List.length_append, List.length_append, h.len]
    rfl
  · by_cases hi : i < ps.length
    · rw [List.getElem?_append_left hi] at hq
      rw [List.getElem?_append_left (by rw [← h.len]; exact hi)] at hy
      have hq2 := h.row i q y hq hy
      rw [upd_ne (fun z => by rw [z, h.lst] at hq2; cases hq2)]
      exact hq2
    · rw [List.getElem?_append_right (by omega)] at hq
      rw [List.getElem?_append_right (by have := h.len; omega)] at hy
      have h1 := (List.getElem?_eq_some_iff.mp hq).1
      rw [List.length_cons, List.length_nil] at h1
      have e0 : i - ps.length = 0 := by omega
      have e1 : i - xs.length = 0 := by have := h.len; omega
      rw [e0] at hq
      rw [e1] at hy
      have z1 : p = q := Option.some.inj hq
      have z2 : x = y := Option.some.inj hy
      rw [← z1, ← z2, upd_ne hpl]
      exact hp
theorem Tups.copy {α : Type} {enc : α → List V} {H H' : Hp} {l l2 : Addr} {ps : List Addr} {xs : List α} (h : Tups enc H l ps xs) (e : Same H H') (h2 : H' l2 = some (.lst (ps.map V.ref))) : Tups enc H' l2 ps xs :=
  ⟨h2, h.len, fun i p x a b => e _ _ (h.row i p x a b)⟩
theorem Tups.other {α : Type} {enc : α → List V} {H : Hp} {l A : Addr} {ps : List Addr} {xs : List α} {ys zs : List V} (h : Tups enc H l ps xs) (hA : H A = some (.lst ys)) (ne : l ≠ A) : Tups enc (upd H A (.lst zs)) l ps xs :=
  ⟨by rw [upd_ne ne]; exact h.lst, h.len, fun i p x a b => by
    have hp := h.row i p x a b
    rw [upd_ne (fun z => by rw [z, hA] at hp; cases hp)]
    exact hp⟩

/-! a dict from texts to whole numbers -/
def encD (d : List (Str × Int)) : List (Key × V) := d.map fun x => (Sum.inr x.1, V.int x.2)
def getS (d : List (Str × Int)) (s : Str) : Option Int := (d.find? fun x => decide (x.1 = s)).map (·.2)
def keysS (d : List (Str × Int)) : List Str := d.map (·.1)
def putS (d : List (Str × Int)) (s : Str) (v : Int) : List (Str × Int) := if s ∈ keysS d then d.map (fun x => if x.1 = s then (x.1, v) else x) else d ++ [(s, v)]
def gD (d : List (Str × Int)) (s : Str) : Int := (getS d s).getD 0
theorem inr_eq {a b : Str} : ((Sum.inr a : Key) = Sum.inr b) ↔ a = b := ⟨fun h => Sum.inr.inj h, fun h => by rw [h]⟩
theorem valV_enc (s : Str) : ∀ d : List (Str × Int), valV (encD d) (Sum.inr s) = (getS d s).map V.int
  | [] => rfl
  | x :: d => by
    unfold encD getS
    rw [List.map_cons, List.find?_cons]
    by_cases h : x.1 = s
    · rw [valV_pos (by rw [h]), decide_eq_true h]; rfl
    · rw [valV_neg (fun z => h (Sum.inr.inj z)), decide_eq_false h]
      exact valV_enc s d
theorem any_enc (s : Str) : ∀ d : List (Str × Int), ((encD d).any fun kv => decide (kv.1 = Sum.inr s)) = decide (s ∈ keysS d)
  | [] => rfl
  | x :: d => by
    have ih := any_enc s d
    unfold encD at ih ⊢
    rw [List.map_cons, List.any_cons, ih]
    unfold keysS
    rw [List.map_cons]
    by_cases h : x.1 = s
    · have hm : s ∈ x.1 :: List.map (fun x => x.1) d := by rw [← h]; exact List.mem_cons_self
      rw [decide_eq_true (show ((Sum.inr x.1 : Key) = Sum.inr s) by rw [h]), decide_eq_true hm]; rfl
    · rw [decide_eq_false (fun z => h (Sum.inr.inj z)), Bool.false_or]
      exact decide_eq_decide.mpr ⟨fun z => List.mem_cons_of_mem _ z, fun z => (List.mem_cons.mp z).resolve_left fun e => h e.symm⟩
theorem putK_enc (d : List (Str × Int)) (s : Str) (v : Int) : putK (encD d) (Sum.inr s) (V.int v) = encD (putS d s v) := by
  unfold putK putS
  rw [any_enc]
  by_cases h : s ∈ keysS d
  · rw [if_pos (decide_eq_true h), if_pos h]
    unfold encD
    rw [List.map_map, List.map_map]
    refine List.map_congr_left fun x _ => ?_
    show (if (Sum.inr x.1 : Key) = Sum.inr s then ((Sum.inr x.1 : Key), V.int v) else (Sum.inr x.1, V.int x.2)) = _
    by_cases z : x.1 = s
    · rw [if_pos (by rw [z])]
      show _ = ((Sum.inr (if x.1 = s then (x.1, v) else x).1 : Key), V.int (if x.1 = s then (x.1, v) else x).2)
      rw [if_pos z]
    · rw [if_neg (fun e => z (Sum.inr.inj e))]
      show _ = ((Sum.inr (if x.1 = s then (x.1, v) else x).1 : Key), V.int (if x.1 = s then (x.1, v) else x).2)
      rw [if_neg z]
  · rw [if_neg (by rw [decide_eq_false h]; exact Bool.false_ne_true), if_neg h]
    unfold encD
    rw [List.map_append]
    rfl
def addK (ks : List Str) (s : Str) : List Str := if s ∈ ks then ks else ks ++ [s]
theorem keys_put (d : List (Str × Int)) (s : Str) (v : Int) : keysS (putS d s v) = addK (keysS d) s := by
  unfold putS addK
  by_cases h : s ∈ keysS d
  · rw [if_pos h, if_pos h]
    unfold keysS
    rw [List.map_map]
    refine List.map_congr_left fun x _ => ?_
    show (if x.1 = s then (x.1, v) else x).1 = x.1
    split <;> rfl
  · rw [if_neg h, if_neg h]
    unfold keysS
    rw [List.map_append]
    rfl
theorem get_mem (s : Str) : ∀ d : List (Str × Int), (getS d s).isSome = decide (s ∈ keysS d)
  | [] => rfl
  | x :: d => by
    have ih := get_mem s d
    unfold getS keysS at ih ⊢
    rw [List.find?_cons, List.map_cons]
    by_cases h : x.1 = s
    · rw [decide_eq_true h, decide_eq_true (by rw [h]; exact List.mem_cons_self)]; rfl
    · rw [decide_eq_false h]
      refine ih.trans (decide_eq_decide.mpr ⟨fun z => List.mem_cons_of_mem _ z, fun z => (List.mem_cons.mp z).resolve_left fun e => h e.symm⟩)
theorem get_some {d : List (Str × Int)} {s : Str} (h : s ∈ keysS d) : getS d s = some (gD d s) := by
  have e := get_mem s d
  rw [decide_eq_true h] at e
  unfold gD
  cases w : getS d s with
  | none => rw [w] at e; cases e
  | some x => rfl
theorem get_map (s t : Str) (v : Int) : ∀ d : List (Str × Int), getS (d.map fun x => if x.1 = s then (x.1, v) else x) t = (getS d t).map fun w => if t = s then v else w
  | [] => rfl
  | x :: d => by
    have ih := get_map s t v d
    unfold getS at ih ⊢
    rw [List.map_cons, List.find?_cons, List.find?_cons]
    have e1 : (if x.1 = s then (x.1, v) else x).1 = x.1 := by split <;> rfl
    rw [e1]
    by_cases h : x.1 = t
    · rw [decide_eq_true h]
      show some (if x.1 = s then (x.1, v) else x).2 = some (if t = s then v else x.2)
      by_cases z : x.1 = s
      · rw [if_pos z, if_pos (h.symm.trans z)]
      · rw [if_neg z, if_neg fun e => z (h.trans e)]
    · rw [decide_eq_false h]
      exact ih
theorem gD_put (d : List (Str × Int)) (s t : Str) (v : Int) : gD (putS d s v) t = if t = s then v else gD d t := by
  unfold gD putS
  by_cases h : s ∈ keysS d
  · rw [if_pos h, get_map]
    by_cases z : t = s
    · have := get_some h
      rw [z, this, if_pos rfl]
      show (if s = s then v else gD d s) = v
      rw [if_pos rfl]
    · rw [if_neg z]
      cases getS d t with
      | none => rfl
      | some w => show (if t = s then v else w) = w; rw [if_neg z]
  · rw [if_neg h]
    unfold getS
    rw [List.find?_append]
    by_cases z : t = s
    · have e := get_mem s d
      rw [decide_eq_false h] at e
      unfold getS at e
      rw [z, if_pos rfl]
      cases w : d.find? fun x => decide (x.1 = s) with
      | none => rw [Option.none_or, List.find?_cons, decide_eq_true rfl]; rfl
      | some x => rw [w] at e; cases e
    · rw [if_neg z]
      have : List.find? (fun x : Str × Int => decide (x.1 = t)) [(s, v)] = none := by
        rw [List.find?_cons, decide_eq_false fun e : s = t => z e.symm]
        rfl
      rw [this, Option.or_none]
theorem dget_go {H : Hp} {a : Addr} {s : Str} {d : List (Str × Int)} {R : Option V → Prop} (h : H a = some (.dK (encD d))) (q : R ((getS d s).map V.int)) : ∃ o, DGet H a (.str s) o ∧ R o := by
  refine ⟨_, ?_, q⟩
  have := DGet.k (k := Sum.inr s) h
  rw [valV_enc] at this
  exact this
theorem dget_at {H : Hp} {a : Addr} {s : Str} {d : List (Str × Int)} (h : H a = some (.dK (encD d))) (k : s ∈ keysS d) : DGet H a (.str s) (some (.int (gD d s))) := by
  have := DGet.k (k := Sum.inr s) h
  rw [valV_enc, get_some k] at this
  exact this
theorem dput_go {H : Hp} {a : Addr} {s : Str} {v : Int} {d : List (Str × Int)} {R : Hp → Prop} (h : H a = some (.dK (encD d))) (hl : d.length ≤ 1000) (q : R (upd H a (.dK (encD (putS d s v))))) : ∃ H', V.ref a = V.ref a ∧ DPut H a (.str s) (.int v) H' ∧ R H' := by
  refine ⟨_, rfl, ?_, q⟩
  rw [← putK_enc]
  refine DPut.k (k := Sum.inr s) h ?_
  unfold encD
  rw [List.length_map]
  exact small1000 (by omega)
theorem getD_int (d : List (Str × Int)) (s : Str) : ((getS d s).map V.int).getD (.int 0) = .int (gD d s) := by
  unfold gD
  cases getS d s <;> rfl
theorem isD_enc {H : Hp} {a : Addr} {d : List (Str × Int)} (h : H a = some (.dK (encD d))) : IsD H a := .inl ⟨_, .inl h⟩
theorem addK_mem {ks : List Str} {s t : Str} : t ∈ addK ks s ↔ t ∈ ks ∨ t = s := by
  unfold addK
  split
  · exact ⟨.inl, fun h => h.elim id fun e => by rw [e]; assumption⟩
  · rw [List.mem_append, List.mem_singleton]
theorem addK_nodup {ks : List Str} {s : Str} (h : ks.Nodup) : (addK ks s).Nodup := by
  unfold addK
  split
  · exact h
  · rename_i n
    rw [List.nodup_append]
    exact ⟨h, List.nodup_cons.mpr ⟨fun z => (by cases z), List.nodup_nil⟩, fun a ha b hb e => n (by rw [List.mem_singleton] at hb; rw [← hb, ← e]; exact ha)⟩
theorem addK_len (ks : List Str) (s : Str) : (addK ks s).length ≤ ks.length + 1 := by
  unfold addK
  split
  · omega
  · rw [List.length_append]; exact Nat.le_refl _
/-- two ascending lists with the same texts, none twice, are equal -/
theorem rising_le : ∀ {xs : List Str} {p : Str}, risingS p xs = true → (p :: xs).Pairwise fun a b => a.cps.toList ≤ b.cps.toList
  | [], p, _ => List.pairwise_singleton _ _
  | x :: xs, p, h => by
    have h' : (!ltCps x.cps.toList p.cps.toList && risingS x xs) = true := h
    rw [Bool.and_eq_true] at h'
    have h1 : p.cps.toList ≤ x.cps.toList := by
      have := h'.1
      rw [ltCps_eq] at this
      exact ndec_t this
    have ih := rising_le h'.2
    refine List.pairwise_cons.mpr ⟨fun y hy => ?_, ih⟩
    rcases List.mem_cons.mp hy with e | e
    · rw [e]; exact h1
    · exact List.le_trans h1 ((List.pairwise_cons.mp ih).1 y e)
theorem sorted_le {xs : List Str} (h : sortedS xs = true) : xs.Pairwise fun a b => a.cps.toList ≤ b.cps.toList := by
  cases xs with
  | nil => exact .nil
  | cons x xs => exact rising_le h
theorem sorted_same : ∀ {xs ys : List Str}, xs.Pairwise (fun a b => a.cps.toList ≤ b.cps.toList) → ys.Pairwise (fun a b => a.cps.toList ≤ b.cps.toList) → xs.Nodup → ys.Nodup → (∀ s, s ∈ xs ↔ s ∈ ys) → xs = ys
  | [], [], _, _, _, _, _ => rfl
  | [], y :: ys, _, _, _, _, h => absurd ((h y).mpr List.mem_cons_self) (fun z => by cases z)
  | x :: xs, [], _, _, _, _, h => absurd ((h x).mp List.mem_cons_self) (fun z => by cases z)
  | x :: xs, y :: ys, h1, h2, n1, n2, h => by
    have a := List.pairwise_cons.mp h1
    have b := List.pairwise_cons.mp h2
    have c := List.nodup_cons.mp n1
    have d := List.nodup_cons.mp n2
    have e : x = y := by
      rcases List.mem_cons.mp ((h x).mp List.mem_cons_self) with e | e
      · exact e
      · rcases List.mem_cons.mp ((h y).mpr List.mem_cons_self) with f | f
        · exact f.symm
        · have z := List.le_antisymm (a.1 y f) (b.1 x e)
          cases x
          cases y
          exact congrArg _ (Array.toList_inj.mp z)
    subst e
    rw [sorted_same a.2 b.2 c.2 d.2 fun s => ?_]
    constructor
    · intro hs
      rcases List.mem_cons.mp ((h s).mp (List.mem_cons_of_mem _ hs)) with e | e
      · rw [e] at hs; exact absurd hs c.1
      · exact e
    · intro hs
      rcases List.mem_cons.mp ((h s).mpr (List.mem_cons_of_mem _ hs)) with e | e
      · rw [e] at hs; exact absurd hs d.1
      · exact e
theorem keys_enc (d : List (Str × Int)) : (encD d).map (·.1) = (keysS d).map Sum.inr := by
  unfold encD keysS
  rw [List.map_map, List.map_map]
  rfl

/-! ### the sum of the values of a dict of whole numbers -/
def tSumVals (td : TE) : TE := fun σ H Q => td σ H fun x H1 => ∃ (c : Addr) (kvs : List (Key × V)) (ws : List Int), x = V.ref c ∧ H1 c = some (.dK kvs) ∧ kvs.map (·.2) = ws.map V.int ∧ Q (.int ws.sum) H1
theorem sumW {ws : List Int} : ∀ n : Nat, n ≤ ws.length → PySem.preSum (fun i => ws.getD i 0) n = (ws.take n).sum
  | 0, _ => rfl
  | n + 1, hn => by
    have hl : n < ws.length := hn
    rw [List.take_add_one, List.sum_append, List.getElem?_eq_getElem hl]
    show PySem.preSum _ n + ws.getD n 0 = _ + ([ws[n]] : List Int).sum
    rw [sumW n (by omega), List.getD_eq_getElem?_getD, List.getElem?_eq_getElem hl]
    show _ + ws[n] = _ + (ws[n] + 0)
    omega
section
variable {X : Cx} {ob : Expr} {pn pa pm pe : Pos} {tq : TE}
theorem pe_sumVals (calm : X.calm = true) (glb : Gl X "sum") (own : X.mg "sum" = none) (hO : PE X ob tq) (hB : attributeBase ob "values" X.env (eval ob X.env) = eval ob X.env := by rfl) (hL : (pa.endLine == pm.line) = true := by rfl)
    (hS : starEach [Expr.Call (.Attribute ob "values" pa) [] [] pm] X.env = [(false, eval (Expr.Call (.Attribute ob "values" pa) [] [] pm) X.env)] := by rfl) :
    PE X (.Call (.Name "sum" pn) [.Call (.Attribute ob "values" pa) [] [] pm] [] pe) (tSumVals tq) := by
  refine ⟨fun pins sh σ H Q I hw => ?_⟩
  refine wpAny_Call_Name_kw (ld_blt I glb own (u := .builtin "sum") (by first | rfl | decide +kernel) ?_ (by first | decide +kernel | decide) (by first | decide +kernel | decide))
  rw [hS]
  refine PySem.callWith_builtin1 (wpAny_Call_method0_late hB hL (thn (hO.run pins sh σ H _ I hw) fun vv sh1 ⟨x, H1, J, rr, c, kvs, ws, ec, hc, hws, q⟩ => ?_))
  subst ec
  obtain rfl : vv = Value.ref c := rr
  obtain ⟨_, notsys, vals, rl, dofc⟩ := dk_of J.hok hc
  obtain ⟨ep, dAt⟩ := dofc.dictAt
  have dAt2 := dAt
  obtain ⟨obj, entr, hobj, hplain, _, _, _, _⟩ := dAt2
  refine ⟨"dict", "dict.values", F.plainAttrs_dict, F.slot_dict_values, F.type_dict_values, ⟨obj, hobj, hplain.1⟩, fun b e => ?_, Calls.callWith_builtin rfl (PySem.evalArgs_none ?_)⟩
  · cases e
    exact ⟨obj, hobj, hplain.2.1⟩
  refine call_meetsIn F.slot_dict_values ⟨obj, hobj, hplain.1⟩ F.entry_dict_values (F.args_dict_values_1 _) (meets_dict_values (mixKind X.prog X.w) c notsys) ⟨⟨vals, dofc⟩, ?_⟩
  have up : ∀ b u, sh1.heap.get? b = some u → (sh1.heap.push { cls := .type "dict_values", data := .fields #[.ref c] }).get? b = some u := fun _ _ g => Heap.get?_push_of_some _ g
  have dAt1 : (sh1.heap.push { cls := .type "dict_values", data := .fields #[.ref c] }).DictAt (mixKind X.prog X.w) c vals ep := dAt.keep up
  have lenV : vals.length = ws.length := by
    have h1 := congrArg List.length hws
    rw [List.length_map, List.length_map] at h1
    exact (KV.length rl).symm.trans h1
  have each : ∀ (i : Nat) (v : Value), (∃ k, vals[i]? = some (k, v)) → ∃ t, v = Value.int (ws.getD i 0) t := fun i v ⟨k, hk⟩ => by
    obtain ⟨x, g1, g2⟩ := KV.at' rl hk
    have g3 : (kvs.map (·.2))[i]? = some x := by rw [List.getElem?_map, g1] <;> rfl
    rw [hws, List.getElem?_map] at g3
    obtain ⟨j, hj, g4⟩ := Option.map_eq_some_iff.mp g3
    subst g4
    obtain ⟨t, g5⟩ := g2
    refine ⟨t, ?_⟩
    rw [g5, List.getD_eq_getElem?_getD, hj] <;> rfl
  have clt : c < sh1.heap.objs.size := Heap.lt_size hobj
  have szp : (sh1.heap.push { cls := .type "dict_values", data := .fields #[.ref c] }).objs.size = sh1.heap.objs.size + 1 := Heap.size_push _ _
  refine call_sum_walkG (wpAny_pyIter_values (v := sh1.heap.objs.size) (d := c) ⟨_, Heap.get?_push_size _ rfl, rfl, rfl⟩ dAt1 ?_)
  refine ⟨_, _, _, _, _, _, fun i => ws.getD i 0, rfl, Walks.dictValues (knd := mixKind X.prog X.w) (A := X.A.in1) (J.ok.hd calm) (sh1.heap.push { cls := .type "dict_values", data := .fields #[.ref c] }).objs.size c (by rw [szp]; exact Nat.ne_of_lt (Nat.lt_succ_of_lt clt)) vals ep,
    ⟨⟨_, Heap.get?_push_size _ rfl, rfl, rfl⟩, dAt1.keep fun _ _ g => Heap.get?_push_of_some _ g⟩, fun b hb => ?_, each, fun h2 tk t keep => ?_⟩
  · show b < ((sh1.heap.push _).push _).objs.size
    rw [Heap.size_push _ _, Heap.size_push _ _]
    rw [szp] at hb
    rcases List.mem_cons.mp hb with z | hb
    · rw [z]
      exact Nat.lt_succ_self _
    · rw [List.mem_singleton.mp hb]
      exact Nat.lt_succ_of_lt (Nat.lt_succ_of_lt clt)
  · refine ⟨.int _, H1, J.kept (t' := tk) fun b u g => keep b u (fun hm => ?_) (Heap.get?_push_of_some _ (up b u g)), ⟨t, ?_⟩, q⟩
    · have z1 : b = (sh1.heap.push { cls := .type "dict_values", data := .fields #[.ref c] }).objs.size := List.mem_singleton.mp hm
      have z2 := Heap.lt_size g
      rw [szp] at z1
      exact absurd (z1 ▸ z2) (Nat.not_lt.mpr (Nat.le_succ _))
    · rw [lenV, sumW _ (Nat.le_refl _), List.take_of_length_le (Nat.le_refl _)]
end

/-- for i, x in enumerate(xs): each turn a new pair -/
theorem for_enum {K : PySem.W.Frag} {a : Addr} {xs : List V} {g : TG} {tb : TS} {D : Ends} {σ : L2.St} {H : Hp} (Pv : Nat → L2.St → Hp → Prop) (h0 : Pv 0 σ H) (hl : ∀ i σ H, i ≤ xs.length → Pv i σ H → SqL K H a xs)
    (hs : ∀ (i : Nat) (x : V) (σ : L2.St) (H : Hp) (T : Addr), xs[i]? = some x → Pv i σ H → H T = none → g (.ref T) σ (upd H T (.tup [.int (i : Int), x])) fun σ2 H2 => tb { D with nx := Pv (i + 1), ct := Pv (i + 1), bk := D.nx } σ2 H2) (hd : ∀ σ H, Pv xs.length σ H → D.nx σ H) :
    ∃ W : Nat → Nat → L2.St → Hp → Prop, (∃ m, W 0 m σ H) ∧ ∀ i m σ H, W i m σ H →
      ((Ite K a).stop i H ∧ D.nx σ H) ∨ ((Ite K a).go i H ∧ ∃ N : L2.St → Hp → Prop, (∀ σ' H', N σ' H' → ∃ m', m' < m ∧ W (i + 1) m' σ' H') ∧ ∀ x H', (Ite K a).yld i H x H' → g x σ H' fun σ2 H2 => tb { D with nx := N, ct := N, bk := D.nx } σ2 H2) := by
  refine ⟨fun i m σ H => m + i = xs.length ∧ Pv i σ H, ⟨xs.length, rfl, h0⟩, ?_⟩
  rintro i m σ H ⟨em, p⟩
  have q := hl i σ H (by omega) p
  by_cases hlt : i < xs.length
  · refine .inr ⟨⟨xs, xs[i], q, List.getElem?_eq_getElem hlt⟩, Pv (i + 1), fun σ' H' p' => ⟨m - 1, by omega, by omega, p'⟩, fun x H' y => ?_⟩
    obtain ⟨T, z, rfl, nT, rfl, hz⟩ := y
    exact hs i z σ H T (hz xs q) p nT
  · have e : i = xs.length := by omega
    subst e
    exact .inl ⟨⟨xs, q, Nat.le_refl _⟩, hd σ H p⟩
theorem call_int_b {X : Cx} : CallR X (.type "int") (fun xs H Q => ∃ b : Bool, xs = [.bl b] ∧ Q (.int (if b = true then 1 else 0)) H) := by
  intro pins s σ H xs us Q I r h
  obtain ⟨i, e, q⟩ := h
  exact call_int1 pins s σ H xs us Q I r (.inr ⟨i, e, q⟩)

/-! methods that raise, methods called with keywords (own rules over the library's run_fnN and methodCall_KW) -/
def tMx (C : Addr) (m : Str) (sp : Sp) (dvs : List V) (E : L2.St → XK) (to : TE) (t : TA) : TE := fun σ H Q => to σ H fun x H1 => ∃ (a dx : Addr) (fs : List (Str × V)), x = .ref a ∧ H1 a = some (.ins C dx fs) ∧ fs.lookup m = none ∧ t σ H1 fun vs H2 => sp (.ref a :: vs ++ dvs) H2 Q (E σ)
theorem passLat {X : Cx} {σ : L2.St} : PassesAt (L2.CX X.prog X.w) X σ E0 := fun pn Hh st ev st' inv got => passL pn σ Hh st ev st' inv got
theorem pass0at {X : Cx} {σ : L2.St} : PassesAt CX0 X σ E0 := fun _ _ _ _ _ _ h => h.elim
def tMk (C : Addr) (m : Str) (n k : Nat) (sp : Sp) (gV : List V → List V → List V) (E : L2.St → XK) (to : TE) (t tk : TA) : TE := fun σ H Q => to σ H fun x H1 => ∃ (a dx : Addr) (fs : List (Str × V)), x = .ref a ∧ H1 a = some (.ins C dx fs) ∧ fs.lookup m = none ∧
  t σ H1 fun vs H2 => tk σ H2 fun zs H3 => vs.length = n ∧ zs.length = k ∧ sp (gV (.ref a :: vs) zs) H3 Q (E σ)
section
variable {X : Cx} {CX : CXT} {k n : Nat} {f C : Addr} {fd : FuncData} {ps ks : List Str} {sp : Sp} {E : L2.St → XK} {m : Str} {pos apos : Pos} {e o : Expr} {es : List Expr} {kws : List Keyword} {to : TE} {t tk : TA} {g : List Value → List Value → List Value} {gV : List V → List V → List V} {pl : Sem Bool} {dvs : List V} {ds : List Value}
theorem run_kw {pn : List (Addr × Obj)} {sh : L2.St} {Hh : Hp} {st : Shared} {Q : VK} {us ws : List Value} {vs zs : List V} (prom : FnOk X.prog X.w X.K X.mg X.base CX k f fd ps sp) (room : Room k X.A) (bnd : KBn X.K fd ps n ks g gV) (way : PassesAt CX X sh (E sh))
    (inv : Inv X pn sh Hh st) (rel : Vals vs us) (relz : Vals zs ws) (len1 : vs.length = n) (len2 : zs.length = ks.length) (hyp : sp (gV vs zs) Hh Q (E sh)) : wpAny (model X.prog X.w) X.A (call (.ref f) us (ks.zip ws)) (EP X pn sh Q) X.xe st := by
  have both := bnd.rel rel relz
  have bind := bnd.to st us ws inv.kIn (rel.length.symm.trans len1) (relz.length.symm.trans len2)
  refine wpAny_call (codeAny_mono (prom.run X.A X.stack st Hh ⟨us, ks.zip ws⟩ (g us ws) (gV vs zs) Q (E sh) room inv.env0 bind both hyp) fun out st' got => ?_)
  cases out with
  | error ev => exact way pn Hh st ev st' inv got
  | ok fl =>
    cases fl with
    | ret u => exact inv.after got
    | next => exact (False.elim got)
    | brk => exact (False.elim got)
    | cont => exact (False.elim got)
theorem pe_mx (obj : PE X o to) (cls : Cls X.K C) (mt : Meth X.K C m f) (prom : FnOk X.prog X.w X.K X.mg X.base CX k f fd ps sp) (room : Room k X.A) (bnd : Binds X.K fd ps ds) (dfl : Vals dvs ds) (way : ∀ σ, PassesAt CX X σ (E σ)) (args : PA X (e :: es) t)
    (st1 : starEach (e :: es) X.env = (false, eval e X.env) :: starEach es X.env := by rfl) (st2 : (backTo pos (starEach es X.env)).any (·.1) = false := by rfl)
    (form : eval (.Call (.Attribute o m apos) (e :: es) [] pos) X.env = (do let ov ← eval o X.env; standAt apos.atName; let (fn, fst) ← holding [ov] (getMethod ov m pl); callWith pos fn fst (backTo pos (starEach (e :: es) X.env)) (backToKw pos (keywordEach [] X.env))) := by rfl) :
    PE X (.Call (.Attribute o m apos) (e :: es) [] pos) (tMx C m sp dvs E to t) := by
  refine ⟨fun pn sh st Hh Q inv hyp => ?_⟩
  refine PySem.W.methodCall_KW (pl := pl) (thn (obj.run pn sh st Hh _ inv hyp) fun ov s1 ⟨x, H1, I1, rel, a, dx, fs, ex, ins, noat, more⟩ => ?_) form
  subst ex
  obtain rfl : ov = Value.ref a := rel
  refine getmeth_ok I1 ins cls mt noat ?_
  refine PySem.W.callWith_K (first := [.ref a]) (h₀ := X.base) I1.ok.mod.kin mt.kp (thn (args.run pos pn s1 st H1 _ I1 more) fun us s2 ⟨vs, H2, I2, rels, fin⟩ => ⟨I2.kIn, ?_⟩) st1 st2
  exact run_fnSD (us := Value.ref a :: us) (vs := V.ref a :: vs) prom room bnd dfl (way st) I2 (.cons rfl rels) fin
/-- o.m(e, .., k = v, ..) -/
theorem pe_mk (obj : PE X o to) (cls : Cls X.K C) (mt : Meth X.K C m f) (prom : FnOk X.prog X.w X.K X.mg X.base CX k f fd ps sp) (room : Room k X.A) (bnd : KBn X.K fd ps (n + 1) ks g gV) (way : ∀ σ, PassesAt CX X σ (E σ)) (args : PA X (e :: es) t) (kargs : PK X kws tk)
    (ka : (backToKw pos (keywordEach kws X.env)).all (·.1.isSome) = true := by rfl) (kn : (backToKw pos (keywordEach kws X.env)).filterMap (·.1) = ks := by rfl)
    (st1 : starEach (e :: es) X.env = (false, eval e X.env) :: starEach es X.env := by rfl)
    (st2 : ((backTo pos (starEach (e :: es) X.env)).any (·.1) || (backToKw pos (keywordEach kws X.env)).any (·.1.isNone)) = false := by rfl)
    (form : eval (.Call (.Attribute o m apos) (e :: es) kws pos) X.env = (do let ov ← eval o X.env; standAt apos.atName; let (fn, fst) ← holding [ov] (getMethod ov m pl); callWith pos fn fst (backTo pos (starEach (e :: es) X.env)) (backToKw pos (keywordEach kws X.env))) := by rfl) :
    PE X (.Call (.Attribute o m apos) (e :: es) kws pos) (tMk C m n ks.length sp gV E to t tk) := by
  refine ⟨fun pn sh st Hh Q inv hyp => ?_⟩
  refine PySem.W.methodCall_KW (pl := pl) (thn (obj.run pn sh st Hh _ inv hyp) fun ov s1 ⟨x, H1, I1, rel, a, dx, fs, ex, ins, noat, more⟩ => ?_) form
  subst ex
  obtain rfl : ov = Value.ref a := rel
  refine getmeth_ok I1 ins cls mt noat ?_
  refine PySem.W.callWith_KW (first := [.ref a]) (h₀ := X.base) I1.ok.mod.kin mt.kp ka (thn (args.run pos pn s1 st H1 _ I1 more) fun us s2 ⟨vs, H2, I2, rels, mid⟩ => ?_) st2 st1
  refine thn (kargs.run pos pn s2 st H2 _ I2 mid) fun ws s3 ⟨zs, H3, I3, relz, l1, l2, fin⟩ => ⟨I3.kIn, ?_⟩
  rw [kn]
  exact run_kw (us := Value.ref a :: us) (vs := V.ref a :: vs) prom room bnd (way st) I3 (.cons rfl rels) relz (congrArg (· + 1) l1) l2 fin
end

/-! one try with any except clauses, with names or without (the library has one named clause, or several without names) -/
section
variable {X : Cx}
inductive Clause (X : Cx) : ExceptHandler → (WX → Ends → WX) → Prop
  | named {x n : Str} {c : Value} {i : Nat} {np pp : Pos} {ff : Stmt} {ss : List Stmt} {tt : Addr → Value → Option Addr → TS} (nm : Names X x c) (at_i : X.N[i]? = some n) (loc_n : X.env.kindOf n = some .local)
      (hsu : ∀ (a : Addr) (o : Obj) (cls : Value) (d : Option Addr) (pn : List (Addr × Obj)), Zc cls d o → (∃ vs, o.data = .fields vs) → PSs (X.suite a ((a, o) :: pn)) (ff :: ss) (tt a cls d)) :
      Clause X (.ExceptHandler (some (.Name x np)) (some n) (ff :: ss) pp) (fun Wn D => wAs X.K c i tt Wn D)
  | plain {x : Str} {c : Value} {np pp : Pos} {ff : Stmt} {ss : List Stmt} {tt : Addr → Value → Option Addr → TS} (nm : Names X x c)
      (hsu : ∀ (a : Addr) (o : Obj) (cls : Value) (d : Option Addr) (pn : List (Addr × Obj)), Zc cls d o → (∃ vs, o.data = .fields vs) → PSs (X.suite a ((a, o) :: pn)) (ff :: ss) (tt a cls d)) :
      Clause X (.ExceptHandler (some (.Name x np)) none (ff :: ss) pp) (fun Wn D cls d σ H => ∃ b, PySem.W.exmOne X.K cls c = some b ∧ (b = true → ∀ a, H a = none → tt a cls d D σ H) ∧ (b = false → Wn cls d σ H))
inductive Clauses (X : Cx) : List ExceptHandler → List (WX → Ends → WX) → Prop
  | nil : Clauses X [] []
  | cons {h : ExceptHandler} {w : WX → Ends → WX} {hs : List ExceptHandler} {ws : List (WX → Ends → WX)} : Clause X h w → Clauses X hs ws → Clauses X (h :: hs) (w :: ws)
def wishes (D : Ends) (Wout : WX) : List (WX → Ends → WX) → WX
  | [] => Wout
  | w :: ws => w (wishes D Wout ws) D
theorem ps_try_any {body : List Stmt} {h0 : ExceptHandler} {hds : List ExceptHandler} {ws : List (WX → Ends → WX)} {pos : Pos} {tb : WX → TS} {Wout : WX} (hst : X.stack = X.env :: X.outer) (hfr : X.env.frame = some X.env.locals) (nd : X.N.Nodup) (tk : Takes X Wout)
    (hbody : ∀ (W : WX) (pn : List (Addr × Obj)) (xe : Value → Shared → Prop), Takes (X.tr pn xe) W → PassesOwn (model X.prog X.w) X.A X.env xe → PSs (X.tr pn xe) body (tb W))
    (cl : Clauses X (h0 :: hds) ws) : PS X (.Try body (h0 :: hds) [] [] pos) (fun D σ H => tb (wishes D Wout ws) D σ H) := by
  refine ⟨fun pins sh st Hh D inv hyp => ?_⟩
  have okX := inv.ok
  have frs0 : X.A.frames = some (X.env :: X.outer) := okX.frames.trans (congrArg some hst)
  refine wpAny_Try_except ?_
  refine wpAny_mono ((hbody (wishes D Wout ws) (X.pn ++ pins) (fun ev q₁ => wpAny (model X.prog X.w) X.A (noteFrame ev X.env) (fun _ q₂ => wpAny (model X.prog X.w) X.A (setFlight ev none) (fun _ q₃ =>
    wpAny (model X.prog X.w) X.A (handleBy ev X.env (h0 :: hds)) (SP X pins D) X.xe q₃) X.xe q₂) X.xe q₁) (fun u z xx => ?_) PassesOwn.looking).run [] sh st Hh D (inv.toTry _) hyp) (fun fl z1 left => ?_) (fun _ _ same => same)
  · obtain ⟨a, B, zI, pins2, st2, Hh2, cls, d, rfl, JT, nb, up, sky, na, os, ag, wish⟩ := xx
    have J : Inv X pins st2 Hh2 zI := JT.ofTry okX
    have skyX : Sky B (X.env :: X.outer) a (Zc cls d) X.env.locals z.heap := hst ▸ sky
    show wpAny (model X.prog X.w) X.A (noteFrame (Value.ref a) X.env) _ _ _
    refine Sky.land Zc.steady frs0 hfr skyX fun hp flz upz => ?_
    have J3 : Inv X pins st2 Hh2 { z with heap := hp } := J.landed nb flz.1 (up.trans upz) os ag
    obtain ⟨oA, vsA, atA, zA, dA⟩ := flz.there
    have apart : a ∉ frs (X.env :: X.outer) := fun hm => by
      obtain ⟨_, o', e', hnf⟩ := flz.2.2.1.mem hm
      rw [atA] at e'
      cases e'
      exact hnf _ dA
    have n1 : a ≠ X.env.locals := fun w => apart (List.mem_filterMap.mpr ⟨X.env, List.mem_cons_self, hfr.trans (congrArg some w.symm)⟩)
    have n2 : a ∉ X.fs := fun hm => by
      obtain ⟨ee, he, q⟩ := List.mem_filterMap.mp hm
      exact apart (List.mem_filterMap.mpr ⟨ee, List.mem_cons_of_mem _ he, q⟩)
    have S3 := J3.suite atA dA na n1 n2
    have onward : ∀ {hs' : List ExceptHandler} {ws' : List (WX → Ends → WX)}, Clauses X hs' ws' → wishes D Wout ws' cls d st2 Hh2 → wpAny (model X.prog X.w) X.A (handleBy (.ref a) X.env hs') (SP X pins D) X.xe { z with heap := hp } := by
      intro hs' ws' all
      induction all with
      | nil =>
        intro out
        refine wpAny_handleBy_nil ?_
        obtain ⟨j1, j2, j3, oC, vC, T, oT, tC, atC, zC, dC, fC, rC⟩ := id flz
        unfold PySem.passOn
        refine wpAny_bind (wpAny_field atC dC fC ?_)
        rw [if_neg (show ¬ ((Value.ref T == Value.none) = true) by simp)]
        have fin : wpAny (model X.prog X.w) X.A (setFlight (.ref a) X.env.frame) (fun _ q4 => wpAny (model X.prog X.w) X.A (throw (.ref a) : Sem Flow) (SP X pins D) X.xe q4) X.xe { z with heap := hp } := by
          rw [hfr]
          refine HandSPX.setFlight_upZ flz fun hq fq uq => wpAny_throw (tk _ _ ?_)
          exact ⟨a, B, zI, pins, st2, Hh2, cls, d, rfl, J, nb, (up.trans upz).trans uq, .inr (.inr (hst.symm ▸ fq)), na, os, ag, out⟩
        first | (exact wpAny_bind (wpAny_pure (wpAny_bind fin))) | (exact wpAny_bind fin)
      | @cons h w more ws2 c1 _ ih =>
        intro wish2
        have looks : PySem.W.Looks (model X.prog X.w) hp (typeOf (.ref a)) cls := fun A Q E s k q => wpAny_typeOf_ref (k _ _ atA) (by rw [zA.1]; exact q)
        have test : ∀ {x' : Str} {c' : Value} {np : Pos} {Q E : Value → Shared → Prop}, Names X x' c' → Q c' { z with heap := hp } → wpAny (model X.prog X.w) (X.A.mark (some (.ref a))) (eval (.Name x' np) X.env) Q E { z with heap := hp } := fun {x' c' np Q E} nm q => by
          rcases nm with ⟨gl, nodb, known | ⟨unk, boot, nn⟩⟩
          · exact ld_glob (X := X.suite a ((a, oA) :: (X.pn ++ pins))) S3 gl known q nodb
          · exact ld_blt (X := X.suite a ((a, oA) :: (X.pn ++ pins))) S3 gl unk boot q nn nodb
        cases c1 with
        | @plain x' c' np pp ff ss tt nm hsu =>
          obtain ⟨b, isb, yes, no⟩ := wish2
          refine wpAny_handleBy_cons (codeAny_handlers_test ?_) (fun q => by cases q)
          refine test nm ((PySem.W.exm_one (M := model X.prog X.w) J3.kIn looks isb).here ?_)
          cases b with
          | false => exact ih (no rfl)
          | true =>
            refine (codeAny_handlers_suite ?_)
            refine HandSPX.lands_againZ flz fun hq flq upq => ?_
            have J4 : Inv X pins st2 Hh2 { z with heap := hq } := J.landed nb flq.1 ((up.trans upz).trans upq) os ag
            obtain ⟨oB, vsB, atB, zB, dB⟩ := flq.there
            have S4 := J4.suite atB dB na n1 n2
            refine wpAny_mono ((hsu a oB cls d (X.pn ++ pins) zB ⟨_, dB⟩).run [] _ _ Hh2 _ S4 (yes rfl a na)) (fun fl r6 got => ?_) (fun _ _ w => False.elim w)
            cases fl with
            | next =>
              obtain ⟨σ6, H6, S6, w⟩ := got
              exact ⟨_, _, S6.unsuite okX, w⟩
            | brk =>
              obtain ⟨σ6, H6, S6, w⟩ := got
              exact ⟨_, _, S6.unsuite okX, w⟩
            | cont =>
              obtain ⟨σ6, H6, S6, w⟩ := got
              exact ⟨_, _, S6.unsuite okX, w⟩
            | ret u =>
              obtain ⟨v6, σ6, H6, S6, r6', w⟩ := got
              exact ⟨_, _, _, S6.unsuite okX, r6', w⟩
        | @named x' n c' i np pp ff ss tt nm at_i loc_n hsu =>
          obtain ⟨b, isb, yes, no⟩ := wish2
          refine wpAny_handleBy_cons (codeAny_handlers_test ?_) (fun q => by cases q)
          refine test nm ((PySem.W.exm_one (M := model X.prog X.w) J3.kIn looks isb).here ?_)
          cases b with
          | false => exact ih (no rfl)
          | true =>
            refine (codeAny_handlers_suite_as ?_)
            refine HandSPX.lands_againZ flz fun hq flq upq => ?_
            have J4 : Inv X pins st2 Hh2 { z with heap := hq } := J.landed nb flq.1 ((up.trans upz).trans upq) os ag
            obtain ⟨oB, vsB, atB, zB, dB⟩ := flq.there
            have S4 := J4.suite atB dB na n1 n2
            refine store_ok (X := X.suite a ((a, oB) :: (X.pn ++ pins))) (v := .ref a) S4 nd at_i (.inl loc_n) rfl (fun r5 S5 => ?_) (.inr loc_n)
            refine wpAny_mono ((hsu a oB cls d (X.pn ++ pins) zB ⟨_, dB⟩).run [] r5 _ Hh2 _ S5 (yes rfl a na)) (fun fl r6 got => ?_) (fun _ _ w => False.elim w)
            have close : ∀ {σ6 : L2.St} {H6 : Hp} {Q : Shared → Prop}, Inv (X.suite a ((a, oB) :: (X.pn ++ pins))) [] σ6 H6 r6 → (∀ r7, Inv X pins (σ6.set i none) H6 r7 → Q r7) →
                wpAny (model X.prog X.w) X.A (do bindName X.env n .none; unbindBehindTheSuite X.env n pp) (fun _ r7 => Q r7) X.xe r6 := fun {σ6 H6 Q} S6 hq => gone_ok (S6.unsuite okX) nd at_i loc_n hq
            cases fl with
            | next =>
              obtain ⟨σ6, H6, S6, w⟩ := got
              exact close S6 fun r7 J7 => ⟨_, _, J7, w⟩
            | brk =>
              obtain ⟨σ6, H6, S6, w⟩ := got
              exact close S6 fun r7 J7 => ⟨_, _, J7, w⟩
            | cont =>
              obtain ⟨σ6, H6, S6, w⟩ := got
              exact close S6 fun r7 J7 => ⟨_, _, J7, w⟩
            | ret u =>
              obtain ⟨v6, σ6, H6, S6, r6', w⟩ := got
              exact close S6 fun r7 J7 => ⟨_, _, _, J7, r6', w⟩
    exact onward cl wish
  · cases fl with
    | next =>
      obtain ⟨σ', H', J', q⟩ := left
      exact wpAny_execs_nil ⟨σ', H', J'.ofTry okX, q⟩
    | brk =>
      obtain ⟨σ', H', J', q⟩ := left
      exact ⟨σ', H', J'.ofTry okX, q⟩
    | cont =>
      obtain ⟨σ', H', J', q⟩ := left
      exact ⟨σ', H', J'.ofTry okX, q⟩
    | ret u =>
      obtain ⟨v, σ', H', J', r, q⟩ := left
      exact ⟨v, σ', H', J'.ofTry okX, r, q⟩
end

section
variable {X : Cx}
/-- isinstance(e, C), e the error that the suite holds, of the class D -/
def rIsE' (K : PySem.W.Frag) (D a : Addr) (cls : Value) (d : Option Addr) : List V → Hp → VK → Prop := fun xs H Q => cls = .ref D ∧ d = none ∧ rIsE K D a xs H Q
theorem call_isE' {a D : Addr} {cls : Value} {d : Option Addr} {oe : Obj} {pn : List (Addr × Obj)} (C : ExcC X.K D) (hz : Zc cls d oe) (hf : ∃ vs, oe.data = .fields vs) : CallR (X.suite a ((a, oe) :: pn)) (.builtin "isinstance") (rIsE' X.K D a cls d) := by
  intro pins s σ H xs us Q I r h
  obtain ⟨rfl, rfl, h⟩ := h
  exact call_isE C hz hf pins s σ H xs us Q I r h
end

section
variable {P : Program} {w : World} {K : PySem.W.Frag} {mg : Str → Option Value} {base : Heap}
/-- a field of an instance, set and read -/
theorem setF {K : PySem.W.Frag} {C x dx : Addr} {fs : List (Str × V)} {f : Str} {y : V} {H : Hp} {W : Hp → Prop} (hx : H x = some (.ins C dx fs)) (c : Cls K C) (na : NoAttr K C f) (hl : Nat.ble (fs.length + 1) 1000 = true)
    (h : W (upd H x (.ins C dx (putF f y fs)))) : ∃ (a C : Addr) (dx : Addr) (fs : List (Str × V)), V.ref x = V.ref a ∧ H a = some (.ins C dx fs) ∧ Cls K C ∧ NoAttr K C f ∧ fs.length < 1000 ∧ W (upd H a (.ins C dx (putF f y fs))) :=
  ⟨x, C, dx, fs, rfl, hx, c, na, Nat.le_of_ble_eq_true hl, h⟩
theorem getF {K : PySem.W.Frag} {C x dx : Addr} {fs : List (Str × V)} {f : Str} {v : V} {H : Hp} {σ : L2.St} {Q : VK} (hx : H x = some (.ins C dx fs)) (c : Cls K C) (na : NoAttr K C f) (hl : fs.lookup f = some v) (h : Q v H) :
    tFld K (tC (.ref x)) f σ H Q := ⟨x, C, dx, fs, v, rfl, hx, c, na, hl, h⟩

/-- all but one object stay -/
def KeepX (x : Addr) (H H' : Hp) : Prop := ∀ z o, z ≠ x → H z = some o → H' z = some o
theorem KeepX.then {x : Addr} {H H1 H2 : Hp} (h : KeepX x H H1) (e : Same H1 H2) : KeepX x H H2 := fun z o nz hz => e z o (h z o nz hz)
theorem KeepX.set {x : Addr} {H H1 : Hp} {o : HO} (h : KeepX x H H1) : KeepX x H (upd H1 x o) := fun z o nz hz => by
  rw [upd_ne nz]
  exact h z o nz hz
theorem keepX_of {x : Addr} {H H' : Hp} (e : Same H H') : KeepX x H H' := fun z o _ hz => e z o hz
theorem KeepX.lst {x : Addr} {H H' : Hp} (k : KeepX x H H') {c d : Addr} {l : List (Str × V)} (hx : H x = some (.ins c d l)) {a : Addr} {xs : List V} (h : H a = some (.lst xs)) : H' a = some (.lst xs) := k a _ (fun z => by rw [z, hx] at h; cases h) h

/-! ### a ledger -/
def genD {α : Type} (g : α → V) (l : List (Str × α)) : List (Key × V) := l.map fun y => (Sum.inr y.1, g y.2)
theorem val_gen {α : Type} (g : α → V) (s : Str) : ∀ l : List (Str × α), valV (genD g l) (Sum.inr s) = (l.find? fun y => decide (y.1 = s)).map fun y => g y.2
  | [] => rfl
  | y :: l => by
    unfold genD
    rw [List.map_cons, List.find?_cons]
    by_cases h : y.1 = s
    · rw [valV_pos (by rw [h]), decide_eq_true h]; rfl
    · rw [valV_neg (fun z => h (Sum.inr.inj z)), decide_eq_false h]
      exact val_gen g s l
theorem find_key {α : Type} {s : Str} : ∀ {l : List (Str × α)}, s ∈ l.map (·.1) → ∃ y, y ∈ l ∧ y.1 = s ∧ (l.find? fun y => decide (y.1 = s)) = some y
  | y :: l, h => by
    rw [List.find?_cons]
    by_cases z : y.1 = s
    · rw [decide_eq_true z]
      exact ⟨y, List.mem_cons_self, z, rfl⟩
    · rw [decide_eq_false z]
      rw [List.map_cons] at h
      obtain ⟨w, w1, w2, w3⟩ := find_key ((List.mem_cons.mp h).resolve_left fun e => z e.symm)
      exact ⟨w, List.mem_cons_of_mem _ w1, w2, w3⟩
theorem find_nokey {α : Type} {s : Str} : ∀ {l : List (Str × α)}, s ∉ l.map (·.1) → (l.find? fun y => decide (y.1 = s)) = none
  | [], _ => rfl
  | y :: l, h => by
    rw [List.map_cons] at h
    rw [List.find?_cons, decide_eq_false fun z => h (by rw [z]; exact List.mem_cons_self)]
    exact find_nokey fun z => h (List.mem_cons_of_mem _ z)
theorem put_gen {α : Type} (g : α → V) {l : List (Str × α)} {s : Str} (v : α) (h : s ∉ l.map (·.1)) : putK (genD g l) (Sum.inr s) (g v) = genD g (l ++ [(s, v)]) := by
  unfold putK
  have hn : ((genD g l).any fun kv => decide (kv.1 = Sum.inr s)) = false := by
    rw [List.any_eq_false]
    intro kv hkv
    obtain ⟨y, hy, rfl⟩ := List.mem_map.mp hkv
    intro z
    have z2 : (Sum.inr y.1 : Key) = Sum.inr s := of_decide_eq_true z
    exact h (List.mem_map.mpr ⟨y, hy, Sum.inr.inj z2⟩)
  rw [if_neg (by rw [hn]; exact Bool.false_ne_true)]
  unfold genD
  rw [List.map_append]
  rfl
def mayF (ms : List (Str × Bool)) (s : Str) : Bool := ((ms.find? fun y => decide (y.1 = s)).map (·.2)).getD false
theorem nodup_fst {α : Type} : ∀ {l : List (Str × α)} {a b : Str × α}, (l.map (·.1)).Nodup → a ∈ l → b ∈ l → a.1 = b.1 → a = b
  | y :: r, a, b, h, ha, hb, e => by
    rw [List.map_cons] at h
    obtain ⟨n1, n2⟩ := List.nodup_cons.mp h
    rcases List.mem_cons.mp ha with za | za
    · rcases List.mem_cons.mp hb with zb | zb
      · rw [za, zb]
      · exact absurd (List.mem_map.mpr ⟨b, zb, by rw [← e, za]⟩) n1
    · rcases List.mem_cons.mp hb with zb | zb
      · exact absurd (List.mem_map.mpr ⟨a, za, by rw [e, zb]⟩) n1
      · exact nodup_fst n2 za zb e
theorem nodup_snd {α β : Type} : ∀ {l : List (β × α)} {a b : β × α}, (l.map (·.2)).Nodup → a ∈ l → b ∈ l → a.2 = b.2 → a = b
  | y :: r, a, b, h, ha, hb, e => by
    rw [List.map_cons] at h
    obtain ⟨n1, n2⟩ := List.nodup_cons.mp h
    rcases List.mem_cons.mp ha with za | za
    · rcases List.mem_cons.mp hb with zb | zb
      · rw [za, zb]
      · exact absurd (List.mem_map.mpr ⟨b, zb, by rw [← e, za]⟩) n1
    · rcases List.mem_cons.mp hb with zb | zb
      · exact absurd (List.mem_map.mpr ⟨a, za, by rw [e, zb]⟩) n1
      · exact nodup_snd n2 za zb e
structure Led (C : Addr) (H : Hp) (x dx D1 D2 D3 L : Addr) (bs : List (Str × Int)) (ms : List (Str × Bool)) (ss : List (Str × Addr)) (rs : Str → List V) (en : List V) : Prop where
  ob : H x = some (.ins C dx [("_balances", .ref D1), ("_may_owe", .ref D2), ("_statements", .ref D3), ("_entries", .ref L)])
  b : H D1 = some (.dK (encD bs))
  m : H D2 = some (.dK (genD V.bl ms))
  s : H D3 = some (.dK (genD V.ref ss))
  e : H L = some (.lst en)
  st : ∀ y, y ∈ ss → H y.2 = some (.lst (rs y.1))
  km : ms.map (·.1) = keysS bs
  ks : ss.map (·.1) = keysS bs
  nd : (keysS bs).Nodup
  na : (ss.map (·.2)).Nodup
  nl : ∀ y, y ∈ ss → y.2 ≠ L
  ap : D1 ≠ D2 ∧ D1 ≠ D3 ∧ D2 ≠ D3
  sz : ∀ n, (rs n).length ≤ en.length
section
variable {C : Addr} {H H' : Hp} {x dx D1 D2 D3 L : Addr} {bs : List (Str × Int)} {ms : List (Str × Bool)} {ss : List (Str × Addr)} {rs : Str → List V} {en : List V}
/-- what of the heap a ledger is -/
def OutL (S x D1 D2 D3 L : Addr) (ss : List (Str × Addr)) : Prop := S ≠ x ∧ S ≠ D1 ∧ S ≠ D2 ∧ S ≠ D3 ∧ S ≠ L ∧ ∀ y, y ∈ ss → y.2 ≠ S
theorem Led.out (h : Led C H x dx D1 D2 D3 L bs ms ss rs en) {S : Addr} (n : H S = none) : OutL S x D1 D2 D3 L ss :=
  ⟨(ne_of_none h.ob n).symm, (ne_of_none h.b n).symm, (ne_of_none h.m n).symm, (ne_of_none h.s n).symm, (ne_of_none h.e n).symm, fun y hy => ne_of_none (h.st y hy) n⟩
theorem Led.keep (h : Led C H x dx D1 D2 D3 L bs ms ss rs en) {S : Addr} (o : OutL S x D1 D2 D3 L ss) (k : KeepX S H H') : Led C H' x dx D1 D2 D3 L bs ms ss rs en :=
  ⟨k _ _ o.1.symm h.ob, k _ _ o.2.1.symm h.b, k _ _ o.2.2.1.symm h.m, k _ _ o.2.2.2.1.symm h.s, k _ _ o.2.2.2.2.1.symm h.e, fun y hy => k _ _ (o.2.2.2.2.2 y hy) (h.st y hy), h.km, h.ks, h.nd, h.na, h.nl, h.ap, h.sz⟩
theorem Led.same (h : Led C H x dx D1 D2 D3 L bs ms ss rs en) (e : Same H H') : Led C H' x dx D1 D2 D3 L bs ms ss rs en :=
  ⟨e _ _ h.ob, e _ _ h.b, e _ _ h.m, e _ _ h.s, e _ _ h.e, fun y hy => e _ _ (h.st y hy), h.km, h.ks, h.nd, h.na, h.nl, h.ap, h.sz⟩
/-- a balance is set -/
theorem Led.bal (h : Led C H x dx D1 D2 D3 L bs ms ss rs en) {n : Str} {v : Int} (hn : n ∈ keysS bs) : Led C (upd H D1 (.dK (encD (putS bs n v)))) x dx D1 D2 D3 L (putS bs n v) ms ss rs en := by
  have hk : keysS (putS bs n v) = keysS bs := by rw [keys_put]; unfold addK; rw [if_pos hn]
  refine ⟨(upd_ne fun z => ?_).trans h.ob, upd_same, (upd_ne h.ap.1.symm).trans h.m, (upd_ne h.ap.2.1.symm).trans h.s, (upd_ne fun z => ?_).trans h.e, fun y hy => (upd_ne fun z => ?_).trans (h.st y hy), by rw [hk]; exact h.km, by rw [hk]; exact h.ks, by rw [hk]; exact h.nd, h.na, h.nl, h.ap, h.sz⟩
  · have := h.ob; rw [z, h.b] at this; cases this
  · have := h.e; rw [z, h.b] at this; cases this
  · have := h.st y hy; rw [z, h.b] at this; cases this
/-- a row is written behind a statement -/
theorem Led.row (h : Led C H x dx D1 D2 D3 L bs ms ss rs en) {y : Str × Addr} (hy : y ∈ ss) {v : V} (hl : (rs y.1).length + 1 ≤ en.length) : Led C (upd H y.2 (.lst (rs y.1 ++ [v]))) x dx D1 D2 D3 L bs ms ss (fun n => if n = y.1 then rs n ++ [v] else rs n) en := by
  have hst := h.st y hy
  refine ⟨(upd_ne fun z => ?_).trans h.ob, (upd_ne fun z => ?_).trans h.b, (upd_ne fun z => ?_).trans h.m, (upd_ne fun z => ?_).trans h.s, (upd_ne fun z => (h.nl y hy z.symm)).trans h.e, fun w hw => ?_, h.km, h.ks, h.nd, h.na, h.nl, h.ap, fun n => ?_⟩
  · have := h.ob; rw [z, hst] at this; cases this
  · have := h.b; rw [z, hst] at this; cases this
  · have := h.m; rw [z, hst] at this; cases this
  · have := h.s; rw [z, hst] at this; cases this
  · by_cases e : w.1 = y.1
    · have ew : w = y := by
        have hnd : (ss.map (·.1)).Nodup := by rw [h.ks]; exact h.nd
        exact nodup_fst hnd hw hy e
      rw [ew, if_pos rfl]
      exact upd_same
    · rw [if_neg e]
      refine (upd_ne fun z => e ?_).trans (h.st w hw)
      exact congrArg Prod.fst (nodup_snd h.na hw hy z)
  · show (if n = y.1 then rs n ++ [v] else rs n).length ≤ _
    split
    · next e => rw [e, List.length_append]; exact hl
    · exact h.sz n
/-- an entry is written -/
theorem Led.entry (h : Led C H x dx D1 D2 D3 L bs ms ss rs en) (v : V) : Led C (upd H L (.lst (en ++ [v]))) x dx D1 D2 D3 L bs ms ss rs (en ++ [v]) := by
  refine ⟨(upd_ne fun z => ?_).trans h.ob, (upd_ne fun z => ?_).trans h.b, (upd_ne fun z => ?_).trans h.m, (upd_ne fun z => ?_).trans h.s, upd_same, fun y hy => (upd_ne (h.nl y hy)).trans (h.st y hy), h.km, h.ks, h.nd, h.na, h.nl, h.ap, fun n => ?_⟩
  · have := h.ob; rw [z, h.e] at this; cases this
  · have := h.b; rw [z, h.e] at this; cases this
  · have := h.m; rw [z, h.e] at this; cases this
  · have := h.s; rw [z, h.e] at this; cases this
  · rw [List.length_append]
    exact Nat.le_succ_of_le (h.sz n)
end
/-! ### the sums of an entry -/
def encMv (m : Str × V) : List V := [.str m.1, m.2]
def stepS (ks : List Str) (d : List (Str × Int)) (m : Str × V) : Except Bool (List (Str × Int)) := if m.1 ∈ ks then (match m.2 with | .int i => .ok (putS d m.1 (gD d m.1 + i)) | _ => .error true) else .error false
def scanS (ks : List Str) : List (Str × V) → List (Str × Int) → Except Bool (List (Str × Int))
  | [], d => .ok d
  | m :: r, d => match stepS ks d m with
    | .ok d' => scanS ks r d'
    | .error e => .error e
theorem scanS_app (ks : List Str) : ∀ (a b : List (Str × V)) (d : List (Str × Int)), scanS ks (a ++ b) d = match scanS ks a d with | .ok d' => scanS ks b d' | .error e => .error e
  | [], b, d => rfl
  | m :: a, b, d => by
    show (match stepS ks d m with | .ok d' => scanS ks (a ++ b) d' | .error e => .error e) = match (match stepS ks d m with | .ok d' => scanS ks a d' | .error e => .error e) with | .ok d' => scanS ks b d' | .error e => .error e
    cases stepS ks d m with
    | ok d' => exact scanS_app ks a b d'
    | error e => rfl
theorem scanS_keys {ks : List Str} : ∀ {mv : List (Str × V)} {d d' : List (Str × Int)}, scanS ks mv d = .ok d' → (∀ k, k ∈ keysS d → k ∈ ks) → (keysS d).Nodup → (∀ k, k ∈ keysS d' → k ∈ ks) ∧ (keysS d').Nodup ∧ d'.length ≤ d.length + mv.length
  | [], d, d', h, h1, h2 => by
    cases h
    exact ⟨h1, h2, Nat.le_refl _⟩
  | m :: r, d, d', h, h1, h2 => by
    change (match stepS ks d m with | .ok d' => scanS ks r d' | .error e => .error e) = _ at h
    unfold stepS at h
    by_cases hm : m.1 ∈ ks
    · rw [if_pos hm] at h
      split at h
      · next e he =>
        split at he
        · next i hi =>
          cases he
          have hk := keys_put d m.1 (gD d m.1 + i)
          have ih := scanS_keys h (fun k hk2 => by
            rw [hk] at hk2
            rcases addK_mem.mp hk2 with z | z
            · exact h1 k z
            · rw [z]
              exact hm) (by rw [hk]; exact addK_nodup h2)
          refine ⟨ih.1, ih.2.1, ?_⟩
          have l1 : (putS d m.1 (gD d m.1 + i)).length ≤ d.length + 1 := by
            have := addK_len (keysS d) m.1
            rw [← hk] at this
            unfold keysS at this
            rw [List.length_map, List.length_map] at this
            exact this
          have := ih.2.2
          rw [List.length_cons]
          omega
        · cases he
      · cases h
    · rw [if_neg hm] at h
      cases h

theorem paired_snoc {α β : Type} {F : α → β → Prop} : ∀ {xs : List α} {ys : List β} {x : α} {y : β}, Paired F xs ys → F x y → Paired F (xs ++ [x]) (ys ++ [y])
  | [], [], _, _, _, h => .cons h .nil
  | _ :: _, _ :: _, _, _, .cons a b, h => .cons a (paired_snoc b h)
  | [], _ :: _, _, _, h, _ => by cases h
  | _ :: _, [], _, _, h, _ => by cases h
theorem paired_imp {α β : Type} {F G : α → β → Prop} (k : ∀ a b, F a b → G a b) : ∀ {xs : List α} {ys : List β}, Paired F xs ys → Paired G xs ys
  | [], [], _ => .nil
  | _ :: _, _ :: _, .cons a b => .cons (k _ _ a) (paired_imp k b)
  | [], _ :: _, h => by cases h
  | _ :: _, [], h => by cases h
theorem KeepX.free {x z : Addr} {H H' : Hp} (k : KeepX x H H') (nz : z ≠ x) (n : H' z = none) : H z = none := by
  cases h : H z with
  | none => rfl
  | some v => rw [k z v nz h] at n; cases n
def sp_is_integral (K : PySem.W.Frag) : Sp := fun vs H Q _ => ∃ v : V, vs = [v] ∧ (∀ i : Int, v = .int i → Q (.bl true) H) ∧ (∀ b : Bool, v = .bl b → Q (.bl false) H) ∧ ((∃ i : Int, v = .int i) ∨ ∃ b : Bool, v = .bl b)
set_option maxHeartbeats 0 in
theorem ok_is_integral (T : Txt K mg) : FnOk P w K mg base CX0 1 T.f_is_integral T.d_is_integral ["value"] (sp_is_integral K) := by
  refine T.F_is_integral.ok sc_is_integral (fun vs H Q E h => ?_) (fun cdv A outer s H vs Q E hr h => ?_)
  · obtain ⟨v, rfl, _⟩ := h
    rfl
  · obtain ⟨v, rfl, qi, qb, hv⟩ := h
    refine ⟨_, (pss_one (ps_ret (pe_and (pe_callB call_isi (by rfl) T.z_isinstance (by decide +kernel) (pa_cons (pv 0) (pa_cons (pe_bltn (v := .ty "int") (u := .type "int") (by rfl) T.z_int (by decide +kernel) rfl) pa_nil))) (pe_one (pe_not (pe_callB call_isi (by rfl) T.z_isinstance (by decide +kernel) (pa_cons (pv 0) (pa_cons (pe_bltn (v := .ty "bool") (u := .type "bool") (by rfl) T.z_bool (by decide +kernel) rfl) pa_nil)))))))), ?_⟩
    rcases hv with ⟨i, rfl⟩ | ⟨b, rfl⟩
    · refine ⟨_, rfl, ?_⟩
      refine ⟨_, _, _, _, true, rfl, .ty _, .base (.int _), kit_ty (by decide +kernel), ?_⟩
      refine ⟨true, rfl, iteT ?_⟩
      refine ⟨_, rfl, ?_⟩
      refine ⟨_, _, _, _, false, rfl, .ty _, .base (.int _), kit_ty (by decide +kernel), ?_⟩
      refine ⟨false, rfl, ?_⟩
      exact qi i rfl
    · refine ⟨_, rfl, ?_⟩
      refine ⟨_, _, _, _, true, rfl, .ty _, .base (.bl _), kit_ty (by decide +kernel), ?_⟩
      refine ⟨true, rfl, iteT ?_⟩
      refine ⟨_, rfl, ?_⟩
      refine ⟨_, _, _, _, true, rfl, .ty _, .base (.bl _), kit_ty (by decide +kernel), ?_⟩
      refine ⟨true, rfl, ?_⟩
      exact qb b rfl
def sp_Ledger_init (K : PySem.W.Frag) (C : Addr) : Sp := fun vs H Q _ => ∃ x dx : Addr, vs = [.ref x] ∧ H x = some (.ins C dx []) ∧ ∀ D1 D2 D3 L H', Led C H' x dx D1 D2 D3 L [] [] [] (fun _ => []) [] → KeepX x H H' → (H D1 = none ∧ H D2 = none ∧ H D3 = none) → Q .non H'
set_option maxHeartbeats 0 in
theorem ok_Ledger_init (T : Txt K mg) : FnOk P w K mg base CX0 1 T.f_Ledger_init T.d_Ledger_init ["self"] (sp_Ledger_init K T.c_Ledger) := by
  refine T.F_Ledger_init.ok sc_Ledger_init (fun vs H Q E h => ?_) (fun cdv A outer s H vs Q E hr h => ?_)
  · obtain ⟨x, dx, rfl, _⟩ := h
    rfl
  · obtain ⟨x, dx, rfl, hx, q⟩ := h
    
    refine ⟨_, (pss_cons (ps_fld (pv 0) pe_dnewK rfl)
    (pss_cons (ps_fld (pv 0) pe_dnewK rfl)
    (pss_cons (ps_fld (pv 0) pe_dnewK rfl)
    (pss_one (ps_fld (pv 0) (pe_lst pa_nil) rfl))))), ?_⟩
    have fact_Ledger_0 := T.cl_Ledger; have fact_Ledger_1 := T.na_Ledger__balances; have fact_Ledger_2 := T.na_Ledger__may_owe; have fact_Ledger_3 := T.na_Ledger__statements; have fact_Ledger_4 := T.na_Ledger__entries
    walk_at "st"
    intro D1 n1
    have x1 : x ≠ D1 := ne_of_none hx n1
    have k1 := keepX_of (x := x) (same_upd (o := .dK []) n1)
    have hx1 : upd H D1 (.dK []) x = some (.ins T.c_Ledger dx []) := (upd_ne x1).trans hx
    have d1 : upd H D1 (.dK []) D1 = some (.dK (encD [])) := upd_same
    generalize upd H D1 (.dK []) = H1 at *
    refine ⟨_, rfl, setF hx1 T.cl_Ledger T.na_Ledger__balances rfl ?_⟩
    have k2 := k1.set (o := .ins T.c_Ledger dx (putF "_balances" (.ref D1) []))
    have hx2 : upd H1 x (.ins T.c_Ledger dx (putF "_balances" (.ref D1) [])) x = some (.ins T.c_Ledger dx [("_balances", .ref D1)]) := upd_same
    have d1' := (upd_ne (o := .ins T.c_Ledger dx (putF "_balances" (.ref D1) [])) x1.symm).trans d1
    generalize upd H1 x _ = H2 at *
    walk_at "st"
    intro D2 n2
    have x2 : x ≠ D2 := ne_of_none hx2 n2
    have d12 : D1 ≠ D2 := ne_of_none d1' n2
    have k3 := k2.then (same_upd (o := .dK []) n2)
    have hx3 : upd H2 D2 (.dK []) x = some (.ins T.c_Ledger dx [("_balances", .ref D1)]) := (upd_ne x2).trans hx2
    have d13 := (upd_ne (o := .dK []) d12).trans d1'
    have d23 : upd H2 D2 (.dK []) D2 = some (.dK (genD V.bl [])) := upd_same
    generalize upd H2 D2 (.dK []) = H3 at *
    refine ⟨_, rfl, setF hx3 T.cl_Ledger T.na_Ledger__may_owe rfl ?_⟩
    have k4 := k3.set (o := .ins T.c_Ledger dx (putF "_may_owe" (.ref D2) [("_balances", .ref D1)]))
    have hx4 : upd H3 x (.ins T.c_Ledger dx (putF "_may_owe" (.ref D2) [("_balances", .ref D1)])) x = some (.ins T.c_Ledger dx [("_balances", .ref D1), ("_may_owe", .ref D2)]) := upd_same
    have d14 := (upd_ne (o := .ins T.c_Ledger dx (putF "_may_owe" (.ref D2) [("_balances", .ref D1)])) x1.symm).trans d13
    have d24 := (upd_ne (o := .ins T.c_Ledger dx (putF "_may_owe" (.ref D2) [("_balances", .ref D1)])) x2.symm).trans d23
    generalize upd H3 x _ = H4 at *
    walk_at "st"
    intro D3 n3
    have x3 : x ≠ D3 := ne_of_none hx4 n3
    have e13 : D1 ≠ D3 := ne_of_none d14 n3
    have e23 : D2 ≠ D3 := ne_of_none d24 n3
    have k5 := k4.then (same_upd (o := .dK []) n3)
    have hx5 : upd H4 D3 (.dK []) x = some (.ins T.c_Ledger dx [("_balances", .ref D1), ("_may_owe", .ref D2)]) := (upd_ne x3).trans hx4
    have d15 := (upd_ne (o := .dK []) e13).trans d14
    have d25 := (upd_ne (o := .dK []) e23).trans d24
    have d35 : upd H4 D3 (.dK []) D3 = some (.dK (genD V.ref [])) := upd_same
    generalize upd H4 D3 (.dK []) = H5 at *
    refine ⟨_, rfl, setF hx5 T.cl_Ledger T.na_Ledger__statements rfl ?_⟩
    have k6 := k5.set (o := .ins T.c_Ledger dx (putF "_statements" (.ref D3) [("_balances", .ref D1), ("_may_owe", .ref D2)]))
    have hx6 : upd H5 x (.ins T.c_Ledger dx (putF "_statements" (.ref D3) [("_balances", .ref D1), ("_may_owe", .ref D2)])) x = some (.ins T.c_Ledger dx [("_balances", .ref D1), ("_may_owe", .ref D2), ("_statements", .ref D3)]) := upd_same
    have d16 := (upd_ne (o := .ins T.c_Ledger dx (putF "_statements" (.ref D3) [("_balances", .ref D1), ("_may_owe", .ref D2)])) x1.symm).trans d15
    have d26 := (upd_ne (o := .ins T.c_Ledger dx (putF "_statements" (.ref D3) [("_balances", .ref D1), ("_may_owe", .ref D2)])) x2.symm).trans d25
    have d36 := (upd_ne (o := .ins T.c_Ledger dx (putF "_statements" (.ref D3) [("_balances", .ref D1), ("_may_owe", .ref D2)])) x3.symm).trans d35
    generalize upd H5 x _ = H6 at *
    walk_at "st"
    intro L nL
    have xL : x ≠ L := ne_of_none hx6 nL
    have k7 := k6.then (same_upd (o := .lst []) nL)
    have sL := same_upd (o := .lst []) nL
    have hx7 := sL _ _ hx6
    have d17 := sL _ _ d16
    have d27 := sL _ _ d26
    have d37 := sL _ _ d36
    have l7 : upd H6 L (.lst []) L = some (.lst []) := upd_same
    generalize upd H6 L (.lst []) = H7 at *
    refine ⟨_, rfl, setF hx7 T.cl_Ledger T.na_Ledger__entries rfl ?_⟩
    refine q D1 D2 D3 L _ ⟨upd_same, (upd_ne x1.symm).trans d17, (upd_ne x2.symm).trans d27, (upd_ne x3.symm).trans d37, (upd_ne xL.symm).trans l7, fun y hy => (by cases hy), rfl, rfl, List.nodup_nil, List.nodup_nil, fun y hy => (by cases hy), ⟨d12, e13, e23⟩, fun _ => Nat.le_refl _⟩ k7.set ⟨n1, k2.free x2.symm n2, k4.free x3.symm n3⟩
def sp_Ledgercheck_account (K : PySem.W.Frag) (CU C : Addr) : Sp := fun vs H Q E => ∃ (x dx D1 D2 D3 L : Addr) (bs : List (Str × Int)) (ms : List (Str × Bool)) (ss : List (Str × Addr)) (rs : Str → List V) (en : List V) (n : Str), vs = [.ref x, .str n] ∧ Led C H x dx D1 D2 D3 L bs ms ss rs en ∧ (n ∈ keysS bs → Q .non H) ∧ (n ∉ keysS bs → E (.ref CU) none H)
set_option maxHeartbeats 0 in
theorem ok_Ledgercheck_account (T : Txt K mg) : FnOk P w K mg base (L2.CX P w) 1 T.f_Ledgercheck_account T.d_Ledgercheck_account ["self", "name"] (sp_Ledgercheck_account K T.c_UnknownName T.c_Ledger) := by
  refine T.F_Ledgercheck_account.okX sc_Ledgercheck_account (fun vs H Q E h => ?_) (fun cdv A outer s H vs Q E hr h => ?_)
  · obtain ⟨x, dx, D1, D2, D3, L, bs, ms, ss, rs, en, n, rfl, _⟩ := h
    rfl
  · obtain ⟨x, dx, D1, D2, D3, L, bs, ms, ss, rs, en, n, rfl, B, q, qu⟩ := h
    
    refine ⟨_, (pss_one (ps_if (pt_cmp (pc_dnotin (hu_of hr) (pv 1) (pe_fld (pv 0) rfl)))
      (pss_one (ps_raise rfl (takes_of rfl rfl rfl rfl) (pmk_own PySem.F.excBase_ValueError T.x_UnknownName T.m_UnknownName T.k_UnknownName (raises_own T.b_UnknownName T.t_UnknownName) (by rfl))))
      pss_nil)), ?_⟩
    have fact_Ledger_0 := T.cl_Ledger; have fact_Ledger_1 := T.na_Ledger__balances; have fact_Ledger_2 := T.na_Ledger__may_owe; have fact_Ledger_3 := T.na_Ledger__statements; have fact_Ledger_4 := T.na_Ledger__entries
    have hob := B.ob
    walk_at "st"
    refine ⟨_, rfl, DGet.k (k := Sum.inr n) B.b, ?_⟩
    rw [valV_enc]
    have hm := get_mem n bs
    cases hg : getS bs n with
    | none =>
      rw [hg] at hm
      have hn : n ∉ keysS bs := fun z => by rw [decide_eq_true z] at hm; cases hm
      walk_at "st"
      exact qu hn
    | some i =>
      rw [hg] at hm
      have hn : n ∈ keysS bs := of_decide_eq_true hm.symm
      walk_at "st"
      exact q hn
def sp_Ledgersums (K : PySem.W.Frag) (CU CA C : Addr) : Sp := fun vs H Q E => ∃ (x dx D1 D2 D3 L a : Addr) (bs : List (Str × Int)) (ms : List (Str × Bool)) (ss : List (Str × Addr)) (rs : Str → List V) (en : List V) (ps : List Addr) (mv : List (Str × V)), vs = [.ref x, .ref a] ∧ Led C H x dx D1 D2 D3 L bs ms ss rs en ∧ Tups encMv H a ps mv ∧ (∀ m, m ∈ mv → (∃ i : Int, m.2 = .int i) ∨ ∃ b : Bool, m.2 = .bl b) ∧ mv.length ≤ 800 ∧
  (scanS (keysS bs) mv [] = .error false → ∀ H', Same H H' → E (.ref CU) none H') ∧ (scanS (keysS bs) mv [] = .error true → ∀ H', Same H H' → E (.ref CA) none H') ∧ (∀ d S H', scanS (keysS bs) mv [] = .ok d → Same H H' → H S = none → H' S = some (.dK (encD d)) → Q (.ref S) H')
set_option maxHeartbeats 0 in
theorem ok_Ledgersums (T : Txt K mg) : FnOk P w K mg base (L2.CX P w) 2 T.f_Ledgersums T.d_Ledgersums ["self", "moves"] (sp_Ledgersums K T.c_UnknownName T.c_InvalidAmount T.c_Ledger) := by
  refine T.F_Ledgersums.okX sc_Ledgersums (fun vs H Q E h => ?_) (fun cdv A outer s H vs Q E hr h => ?_)
  · obtain ⟨x, dx, D1, D2, D3, L, a, bs, ms, ss, rs, en, ps, mv, rfl, _⟩ := h
    rfl
  · obtain ⟨x, dx, D1, D2, D3, L, a, bs, ms, ss, rs, en, ps, mv, rfl, B, hT, hfl, hln, qu, qa, q⟩ := h
    have G_Ledgercheck_account : FnOk P w K mg base (L2.CX P w) 1 T.f_Ledgercheck_account T.d_Ledgercheck_account ["self", "name"] (sp_Ledgercheck_account K T.c_UnknownName T.c_Ledger) := ok_Ledgercheck_account T
    have G_is_integral : FnOk P w K mg base CX0 1 T.f_is_integral T.d_is_integral ["value"] (sp_is_integral K) := ok_is_integral T
    refine ⟨_, (pss_cons (ps_set (i := 2) sc_Ledgersums.nd rfl (Or.inl rfl) pe_dnewK)
    (pss_cons (ps_for (passes_of rfl) rfl (pi_list (pv 1)) (pg_tup rfl (pgs_cons (pg_name (i := 3) sc_Ledgersums.nd rfl (Or.inl rfl)) (pgs_cons (pg_name (i := 4) sc_Ledgersums.nd rfl (Or.inl rfl)) pgs_nil)))
      (pss_cons (ps_expr (pe_mx (pv 0) T.cl_Ledger T.mt_Ledgercheck_account G_Ledgercheck_account hr T.b_Ledgercheck_account .nil (fun σ => passAt (takes_of rfl rfl rfl rfl) σ) (pa_cons (pv 3) pa_nil)))
      (pss_cons (ps_if (pt_not (pt_val (pe_call G_is_integral hr (by rfl) T.m_is_integral T.F_is_integral.kp T.b_is_integral .nil pass0 (pa_cons (pv 4) pa_nil))))
        (pss_one (ps_raise rfl (takes_of rfl rfl rfl rfl) (pmk_own PySem.F.excBase_ValueError T.x_InvalidAmount T.m_InvalidAmount T.k_InvalidAmount (raises_own T.b_InvalidAmount T.t_InvalidAmount) (by rfl))))
        pss_nil)
      (pss_one (ps_dput (hu_of hr) (pv 2) (pv 3) (pe_op op_add (pe_dget2 (hu_of hr) (pv 2) (pv 3) pe_int ⟨rfl, rfl, rfl, rfl⟩) (pv 4)) rfl)))))
    (pss_one (ps_ret (pv 2))))), ?_⟩
    have fact_Ledger_0 := T.cl_Ledger; have fact_Ledger_1 := T.na_Ledger__balances; have fact_Ledger_2 := T.na_Ledger__may_owe; have fact_Ledger_3 := T.na_Ledger__statements; have fact_Ledger_4 := T.na_Ledger__entries
    walk_at "st"
    intro S nS
    generalize hH1 : upd H S _ = H1
    have s1 : Same H H1 := hH1 ▸ same_upd nS
    have hS : H1 S = some (.dK (encD [])) := (congrFun hH1 S).symm.trans upd_same
    have B1 := B.same s1
    have hT1 := hT.same s1
    have ha1 := SqL.of (K := K) hT1.lst
    have oS := B.out nS
    walk_at "st"
    have key : ∀ i, i ≤ mv.length → ∀ d, scanS (keysS bs) (mv.take i) [] = .ok d → d.length ≤ 800 := fun i hi d hd => by
      have := (scanS_keys hd (fun k hk => by cases hk) List.nodup_nil).2.2
      rw [List.length_take] at this
      have h0 : ([] : List (Str × Int)).length = 0 := rfl
      omega
    refine for_list (K := K) (a := a) (xs := ps.map V.ref) (fun i σ H' => ∃ (v3 v4 : Option V) (d : List (Str × Int)), σ = [some (.ref x), some (.ref a), some (.ref S), v3, v4] ∧ Same H H' ∧ H' S = some (.dK (encD d)) ∧ scanS (keysS bs) (mv.take i) [] = .ok d)
      ⟨none, none, [], rfl, s1, hS, rfl⟩ (fun i σ H' _ ⟨_, _, _, _, e, _⟩ => e.seq (SqL.of hT.lst)) ?_ ?_
    · rintro i y σ H' hy ⟨v3, v4, d, rfl, e1, hS', hsc⟩
      obtain ⟨p, m, hp, hmi, rfl, hpr⟩ := (hT.same e1).item hy
      have hi := (List.getElem?_eq_some_iff.mp hmi).1
      have hps : SqT K H' p [.str m.1, m.2] := SqT.of hpr
      have B' := B.same e1
      have hob' := B'.ob
      have hap := scanS_app (keysS bs) (mv.take i) (mv.drop i) []
      have hdr : mv.drop i = m :: mv.drop (i + 1) := by rw [List.drop_eq_getElem_cons hi, (List.getElem?_eq_some_iff.mp hmi).2]
      rw [List.take_append_drop, hsc, hdr] at hap
      change scanS (keysS bs) mv [] = (match stepS (keysS bs) d m with | .ok d' => scanS (keysS bs) (mv.drop (i + 1)) d' | .error e => .error e) at hap
      have hap2 := scanS_app (keysS bs) (mv.take i) [m] []
      rw [hsc] at hap2
      change scanS (keysS bs) (mv.take i ++ [m]) [] = (match stepS (keysS bs) d m with | .ok d' => .ok d' | .error e => .error e) at hap2
      have hdl := key i (by omega) d hsc
      have hdD := isD_enc hS'
      have hmf := hfl m (List.mem_of_getElem? hmi)
      have htk := take_succ hmi
      obtain ⟨mn, mval⟩ := m
      unfold encMv at hps
      unfold stepS at hap hap2
      dsimp only at hmf hps hap hap2
      walk_at "st"
      refine ⟨bs, ms, ss, rs, en, mn, rfl, B', fun hn => ?_, fun hn => ?_⟩
      · rw [if_pos hn] at hap hap2
        walk_at "st"
        rcases hmf with ⟨z, rfl⟩ | ⟨b, rfl⟩
        · refine ⟨fun i' e => ?_, fun b e => (by cases e), .inl ⟨z, rfl⟩⟩
          obtain rfl := V.int.inj e
          walk_at "st"
          refine dget_go hS' ?_
          rw [getD_int]
          walk_at "st"
          refine dput_go hS' (by omega) ?_
          refine ⟨_, _, putS d mn (gD d mn + z), rfl, fun w o hw => ?_, upd_same, ?_⟩
          · rw [upd_ne (ne_of_none hw nS)]
            exact e1 _ _ hw
          · rw [htk]
            exact hap2
        · refine ⟨fun i' e => (by cases e), fun b e => ?_, .inr ⟨b, rfl⟩⟩
          walk_at "st"
          exact qa hap _ e1
      · rw [if_neg hn] at hap
        exact qu hap _ e1
    · rintro σ H' ⟨v3, v4, d, rfl, e1, hS', hsc⟩
      rw [List.length_map, hT.len, List.take_of_length_le (Nat.le_refl _)] at hsc
      walk_at "st"
      exact q d S H' hsc e1 nS hS'
/-! ### what an entry may do -/
def overF (bs : List (Str × Int)) (ms : List (Str × Bool)) (d : List (Str × Int)) : Bool := d.any fun y => decide (gD bs y.1 + y.2 < 0) && !mayF ms y.1
theorem items_at {d : List (Str × Int)} {i : Nat} {k : Key} {v : V} (h : (encD d)[i]? = some (k, v)) : ∃ y, d[i]? = some y ∧ k = Sum.inr y.1 ∧ v = .int y.2 := by
  unfold encD at h
  rw [List.getElem?_map] at h
  cases e : d[i]? with
  | none => rw [e] at h; cases h
  | some y =>
    rw [e] at h
    have h2 := Option.some.inj h
    exact ⟨y, rfl, (congrArg Prod.fst h2).symm, (congrArg Prod.snd h2).symm⟩
theorem Led.mayat {C : Addr} {H : Hp} {x dx D1 D2 D3 L : Addr} {bs : List (Str × Int)} {ms : List (Str × Bool)} {ss : List (Str × Addr)} {rs : Str → List V} {en : List V} (h : Led C H x dx D1 D2 D3 L bs ms ss rs en) {n : Str} (hn : n ∈ keysS bs) : DGet H D2 (.str n) (some (.bl (mayF ms n))) := by
  obtain ⟨y, y1, y2, y3⟩ := find_key (s := n) (l := ms) (by rw [h.km]; exact hn)
  have := DGet.k (k := Sum.inr n) h.m
  rw [val_gen, y3] at this
  unfold mayF
  rw [y3]
  exact this
theorem Led.stat {C : Addr} {H : Hp} {x dx D1 D2 D3 L : Addr} {bs : List (Str × Int)} {ms : List (Str × Bool)} {ss : List (Str × Addr)} {rs : Str → List V} {en : List V} (h : Led C H x dx D1 D2 D3 L bs ms ss rs en) {n : Str} (hn : n ∈ keysS bs) : ∃ y, y ∈ ss ∧ y.1 = n ∧ DGet H D3 (.str n) (some (.ref y.2)) := by
  obtain ⟨y, y1, y2, y3⟩ := find_key (s := n) (l := ss) (by rw [h.ks]; exact hn)
  have := DGet.k (k := Sum.inr n) h.s
  rw [val_gen, y3] at this
  exact ⟨y, y1, y2, this⟩
def sp_Ledgercheck_sums (K : PySem.W.Frag) (CB CO C : Addr) : Sp := fun vs H Q E => ∃ (x dx D1 D2 D3 L S : Addr) (bs : List (Str × Int)) (ms : List (Str × Bool)) (ss : List (Str × Addr)) (rs : Str → List V) (en : List V) (d : List (Str × Int)), vs = [.ref x, .ref S] ∧ Led C H x dx D1 D2 D3 L bs ms ss rs en ∧ H S = some (.dK (encD d)) ∧ OutL S x D1 D2 D3 L ss ∧ (∀ k, k ∈ keysS d → k ∈ keysS bs) ∧
  ((d.map (·.2)).sum ≠ 0 → E (.ref CB) none H) ∧ ((d.map (·.2)).sum = 0 → overF bs ms d = true → ∀ H', KeepX S H H' → E (.ref CO) none H') ∧ ((d.map (·.2)).sum = 0 → overF bs ms d = false → ∀ H', Same H H' → Q .non H')
set_option maxHeartbeats 0 in
theorem ok_Ledgercheck_sums (T : Txt K mg) : FnOk P w K mg base (L2.CX P w) 1 T.f_Ledgercheck_sums T.d_Ledgercheck_sums ["self", "sums"] (sp_Ledgercheck_sums K T.c_Unbalanced T.c_Overdrawn T.c_Ledger) := by
  refine T.F_Ledgercheck_sums.okX sc_Ledgercheck_sums (fun vs H Q E h => ?_) (fun cdv A outer s H vs Q E hr h => ?_)
  · obtain ⟨x, dx, D1, D2, D3, L, S, bs, ms, ss, rs, en, d, rfl, _⟩ := h
    rfl
  · obtain ⟨x, dx, D1, D2, D3, L, S, bs, ms, ss, rs, en, d, rfl, B, hS, oS, hks, qb, qo, q⟩ := h
    
    refine ⟨_, (pss_cons (ps_if (pt_cmpR op_ne (pe_sumVals rfl (by rfl) T.z_sum (pv 1)) pe_int (nomark _))
      (pss_one (ps_raise rfl (takes_of rfl rfl rfl rfl) (pmk_own PySem.F.excBase_ValueError T.x_Unbalanced T.m_Unbalanced T.k_Unbalanced (raises_own T.b_Unbalanced T.t_Unbalanced) (by rfl))))
      pss_nil)
    (pss_one (ps_lock (ps_for (passes_of rfl) rfl (pi_items (pv 1)) (pg_tup rfl (pgs_cons (pg_name (i := 2) sc_Ledgercheck_sums.nd rfl (Or.inl rfl)) (pgs_cons (pg_name (i := 3) sc_Ledgercheck_sums.nd rfl (Or.inl rfl)) pgs_nil)))
      (pss_one (ps_if (PW.pt (pw_and (pt_cmpR op_lt (pe_op op_add (pe_dget (hu_of hr) (pe_fld (pv 0) rfl) (pv 2) (fun _ _ => rfl)) (pv 3)) pe_int (nomark _)) (pw_and1 (pt_not (pt_val (pe_dget (hu_of hr) (pe_fld (pv 0) rfl) (pv 2) (fun _ _ => rfl)))))))
        (pss_one (ps_raise rfl (takes_of rfl rfl rfl rfl) (pmk_own PySem.F.excBase_ValueError T.x_Overdrawn T.m_Overdrawn T.k_Overdrawn (raises_own T.b_Overdrawn T.t_Overdrawn) (by rfl))))
        pss_nil)))))), ?_⟩
    have fact_Ledger_0 := T.cl_Ledger; have fact_Ledger_1 := T.na_Ledger__balances; have fact_Ledger_2 := T.na_Ledger__may_owe; have fact_Ledger_3 := T.na_Ledger__statements; have fact_Ledger_4 := T.na_Ledger__entries
    have hsv : (encD d).map (·.2) = (d.map (·.2)).map V.int := by
      unfold encD
      rw [List.map_map, List.map_map]
      rfl
    walk_at "st"
    refine ⟨encD d, d.map (·.2), rfl, hS, hsv, ?_⟩
    walk_at "st"
    refine iteB (fun h => qb fun z => ?_) (fun h => ?_)
    · rw [z] at h
      cases h
    · have hz : (d.map (·.2)).sum = 0 := V.int.inj (ndec_f h)
      walk_at "st"
      refine ⟨_, hS, trivial, fun od => ?_⟩
      walk_at "st"
      refine ⟨_, _, rfl, upd_same, ?_⟩
      refine for_it (walk_items (d := S) (o := od) (kvs := encD d)) (fun i σ H' => (∃ (v2 v3 : Option V), σ = [some (.ref x), some (.ref S), v2, v3]) ∧ KeepX S H H' ∧ H' S = some (.frz od (.dK (encD d))) ∧ ∀ j y, j < i → d[j]? = some y → (decide (gD bs y.1 + y.2 < 0) && !mayF ms y.1) = false)
        ⟨⟨_, _, rfl⟩, (keepX_of (Same.refl H)).set, upd_same, fun j y hj => by omega⟩ (fun i σ H' _ ⟨_, _, e, _⟩ => e) ?_ ?_
      · rintro i v σ H6 H7 hi ⟨⟨v2, v3, rfl⟩, k6, hF, hno⟩ ⟨U, kk, vv, rfl, nU, rfl, e1, e2⟩
        dsimp only at e1 e2
        cases hx : (encD d)[i]? with
        | none => rw [hx] at e1; cases e1
        | some kv =>
          obtain ⟨k0, w0⟩ := kv
          rw [hx] at e1 e2
          obtain ⟨y, hy, rfl, rfl⟩ := items_at hx
          have e1 : V.str y.1 = kk := Option.some.inj e1
          have e2 : V.int y.2 = vv := Option.some.inj e2
          subst e1 e2
          have hym : y.1 ∈ keysS bs := hks _ (List.mem_map.mpr ⟨y, List.mem_of_getElem? hy, rfl⟩)
          have SU : S ≠ U := ne_of_none hF nU
          generalize hH7 : upd H6 U _ = H7
          have s7 : Same H6 H7 := hH7 ▸ same_upd nU
          have hU7 := SqT.of (K := K) ((congrFun hH7 U).symm.trans upd_same)
          have k7 := k6.then s7
          have B7 := B.keep oS k7
          have hob7 := B7.ob
          have g1 := dget_at B7.b hym
          have g2 := B7.mayat hym
          have nxt : (decide (gD bs y.1 + y.2 < 0) && !mayF ms y.1) = false → ∀ v2 v3 : Option V, (∃ (v2' v3' : Option V), [some (V.ref x), some (.ref S), v2, v3] = [some (.ref x), some (.ref S), v2', v3']) ∧ KeepX S H H7 ∧ H7 S = some (.frz od (.dK (encD d))) ∧ ∀ j y, j < i + 1 → d[j]? = some y → (decide (gD bs y.1 + y.2 < 0) && !mayF ms y.1) = false := fun hh v2 v3 => by
            refine ⟨⟨v2, v3, rfl⟩, k7, s7 _ _ hF, fun j w hj hw => ?_⟩
            by_cases e : j < i
            · exact hno j w e hw
            · obtain rfl : j = i := by omega
              rw [hy] at hw
              obtain rfl := Option.some.inj hw
              exact hh
          walk_at "st"
          refine iteB (fun h1 => ?_) (fun h1 => ?_)
          · walk_at "st"
            refine iteB (fun h2 => ?_) (fun h2 => ?_)
            · refine qo hz ?_ _ k7
              unfold overF
              rw [List.any_eq_true]
              exact ⟨y, List.mem_of_getElem? hy, by rw [h1]; exact h2⟩
            · exact nxt (by rw [h1]; exact h2) _ _
          · exact nxt (by rw [h1]; rfl) _ _
      · rintro σ H6 ⟨⟨v2, v3, rfl⟩, k6, hF, hno⟩
        refine ⟨hF, ?_⟩
        refine q hz ?_ _ fun z o hz2 => ?_
        · unfold overF
          rw [List.any_eq_false]
          intro y hy
          obtain ⟨j, hj, hj2⟩ := List.getElem_of_mem hy
          rw [hno j y (by unfold encD; rw [List.length_map]; exact hj) (by rw [List.getElem?_eq_getElem hj, hj2])]
          exact Bool.false_ne_true
        · by_cases e : z = S
          · rw [e, upd_same, ← hS, ← e]
            exact hz2
          · rw [upd_ne e]
            exact k6 _ _ e hz2
/-! ### an entry is posted -/
def postB (bs d : List (Str × Int)) : List (Str × Int) := d.foldl (fun b y => putS b y.1 (gD b y.1 + y.2)) bs
theorem postB_snoc (bs d : List (Str × Int)) (y : Str × Int) : postB bs (d ++ [y]) = putS (postB bs d) y.1 (gD (postB bs d) y.1 + y.2) := by
  unfold postB
  rw [List.foldl_append]
  rfl
theorem postB_keys {bs : List (Str × Int)} : ∀ {d : List (Str × Int)}, (∀ k, k ∈ keysS d → k ∈ keysS bs) → keysS (postB bs d) = keysS bs
  | [], _ => rfl
  | y :: r, h => by
    have hy : y.1 ∈ keysS bs := h _ List.mem_cons_self
    have hk : keysS (putS bs y.1 (gD bs y.1 + y.2)) = keysS bs := by rw [keys_put]; unfold addK; rw [if_pos hy]
    show keysS (postB (putS bs y.1 (gD bs y.1 + y.2)) r) = _
    rw [postB_keys (bs := putS bs y.1 (gD bs y.1 + y.2)) fun k hk2 => by rw [hk]; exact h k (List.mem_cons_of_mem _ hk2), hk]
theorem gD_nokey {d : List (Str × Int)} {n : Str} (h : n ∉ keysS d) : gD d n = 0 := by
  have e := get_mem n d
  rw [decide_eq_false h] at e
  unfold gD
  cases w : getS d n with
  | none => rfl
  | some x => rw [w] at e; cases e
theorem gD_cons (y : Str × Int) (r : List (Str × Int)) (n : Str) : gD (y :: r) n = if n = y.1 then y.2 else gD r n := by
  unfold gD getS
  rw [List.find?_cons]
  by_cases h : n = y.1
  · rw [decide_eq_true h.symm, if_pos h]
    rfl
  · rw [decide_eq_false (Ne.symm h), if_neg h]
theorem gD_post : ∀ {d bs : List (Str × Int)}, (keysS d).Nodup → ∀ n, gD (postB bs d) n = gD bs n + gD d n
  | [], bs, _, n => (Int.add_zero _).symm
  | y :: r, bs, h, n => by
    obtain ⟨h1, h2⟩ := List.nodup_cons.mp (show (y.1 :: keysS r).Nodup from h)
    show gD (postB (putS bs y.1 (gD bs y.1 + y.2)) r) n = _
    rw [gD_post h2, gD_put, gD_cons]
    by_cases e : n = y.1
    · rw [if_pos e, if_pos e, e, gD_nokey h1]
      omega
    · rw [if_neg e, if_neg e]
/-- what stays but for the balances, the entries and the statements -/
def FrL (H H' : Hp) (D1 L : Addr) (ss : List (Str × Addr)) : Prop := ∀ z v, z ≠ D1 → z ≠ L → (∀ y, y ∈ ss → y.2 ≠ z) → H z = some v → H' z = some v
theorem FrL.free {C : Addr} {H H' : Hp} {x dx D1 D2 D3 L U : Addr} {bs : List (Str × Int)} {ms : List (Str × Bool)} {ss : List (Str × Addr)} {rs : Str → List V} {en : List V} (f : FrL H H' D1 L ss) (B : Led C H' x dx D1 D2 D3 L bs ms ss rs en) (nU : H' U = none) : H U = none := by
  cases hh : H U with
  | none => rfl
  | some w =>
    by_cases z1 : U = D1
    · rw [z1, B.b] at nU; cases nU
    · by_cases z2 : U = L
      · rw [z2, B.e] at nU; cases nU
      · by_cases z3 : ∃ y, y ∈ ss ∧ y.2 = U
        · obtain ⟨y3, h3, h4⟩ := z3
          rw [← h4, B.st y3 h3] at nU
          cases nU
        · rw [f U w z1 z2 (fun y hy hz => z3 ⟨y, hy, hz⟩) hh] at nU
          cases nU
theorem dput_go2 {H : Hp} {a : Addr} {s : Str} {v : Int} {d : List (Str × Int)} {R : Hp → Prop} (h : H a = some (.dK (encD d))) (hl : d.length ≤ 1000) (q : R (upd H a (.dK (encD (putS d s v))))) : ∃ H', DPut H a (.str s) (.int v) H' ∧ R H' := by
  obtain ⟨H', _, h2, h3⟩ := dput_go (s := s) (v := v) (R := R) h hl q
  exact ⟨H', h2, h3⟩
def sp_Ledger_post (K : PySem.W.Frag) (CU CA CB CO C : Addr) : Sp := fun vs H Q E => ∃ (x dx D1 D2 D3 L a : Addr) (bs : List (Str × Int)) (ms : List (Str × Bool)) (ss : List (Str × Addr)) (rs : Str → List V) (en : List V) (ps : List Addr) (mv : List (Str × V)), vs = [.ref x, .ref a] ∧ Led C H x dx D1 D2 D3 L bs ms ss rs en ∧ Tups encMv H a ps mv ∧ (∀ m, m ∈ mv → (∃ i : Int, m.2 = .int i) ∨ ∃ b : Bool, m.2 = .bl b) ∧ mv.length ≤ 800 ∧ en.length ≤ 800 ∧ bs.length ≤ 800 ∧ a ≠ L ∧ (∀ y, y ∈ ss → y.2 ≠ a) ∧
  (scanS (keysS bs) mv [] = .error false → ∀ H', Same H H' → E (.ref CU) none H') ∧ (scanS (keysS bs) mv [] = .error true → ∀ H', Same H H' → E (.ref CA) none H') ∧
  (∀ d, scanS (keysS bs) mv [] = .ok d → (d.map (·.2)).sum ≠ 0 → ∀ H', Same H H' → E (.ref CB) none H') ∧ (∀ d, scanS (keysS bs) mv [] = .ok d → (d.map (·.2)).sum = 0 → overF bs ms d = true → ∀ H', Same H H' → E (.ref CO) none H') ∧
  (∀ d M pm rs' H', scanS (keysS bs) mv [] = .ok d → (d.map (·.2)).sum = 0 → overF bs ms d = false → Led C H' x dx D1 D2 D3 L (postB bs d) ms ss rs' (en ++ [.ref M]) → Tups encMv H' M pm mv → H M = none → FrL H H' D1 L ss →
    (∀ n, n ∉ keysS d → rs' n = rs n) → (∀ y, y ∈ d → ∃ t, rs' y.1 = rs y.1 ++ [.ref t] ∧ H t = none ∧ H' t = some (.tup [.int ((en.length : Nat) + 1 : Int), .int y.2, .int (gD bs y.1 + y.2)])) → Q (.int ((en.length : Nat) + 1 : Int)) H')
set_option maxHeartbeats 0 in
theorem ok_Ledger_post (T : Txt K mg) : FnOk P w K mg base (L2.CX P w) 3 T.f_Ledger_post T.d_Ledger_post ["self", "moves"] (sp_Ledger_post K T.c_UnknownName T.c_InvalidAmount T.c_Unbalanced T.c_Overdrawn T.c_Ledger) := by
  refine T.F_Ledger_post.okX sc_Ledger_post (fun vs H Q E h => ?_) (fun cdv A outer s H vs Q E hr h => ?_)
  · obtain ⟨x, dx, D1, D2, D3, L, a, bs, ms, ss, rs, en, ps, mv, rfl, _⟩ := h
    rfl
  · obtain ⟨x, dx, D1, D2, D3, L, a, bs, ms, ss, rs, en, ps, mv, rfl, B, hT, hfl, hln, hen, hbl, haL, has, qu, qa, qb, qo, q⟩ := h
    have G_Ledgersums : FnOk P w K mg base (L2.CX P w) 2 T.f_Ledgersums T.d_Ledgersums ["self", "moves"] (sp_Ledgersums K T.c_UnknownName T.c_InvalidAmount T.c_Ledger) := ok_Ledgersums T
    have G_Ledgercheck_sums : FnOk P w K mg base (L2.CX P w) 1 T.f_Ledgercheck_sums T.d_Ledgercheck_sums ["self", "sums"] (sp_Ledgercheck_sums K T.c_Unbalanced T.c_Overdrawn T.c_Ledger) := ok_Ledgercheck_sums T
    refine ⟨_, (pss_cons (ps_set (i := 2) sc_Ledger_post.nd rfl (Or.inl rfl) (pe_mx (pv 0) T.cl_Ledger T.mt_Ledgersums G_Ledgersums hr T.b_Ledgersums .nil (fun σ => passAt (takes_of rfl rfl rfl rfl) σ) (pa_cons (pv 1) pa_nil)))
    (pss_cons (ps_expr (pe_mx (pv 0) T.cl_Ledger T.mt_Ledgercheck_sums G_Ledgercheck_sums (hr.mono (by decide)) T.b_Ledgercheck_sums .nil (fun σ => passAt (takes_of rfl rfl rfl rfl) σ) (pa_cons (pv 2) pa_nil)))
    (pss_cons (ps_expr (pe_bm PySem.F.plainAttrs_list PySem.F.slot_list_append PySem.F.type_list_append mt_append (pe_fld (pv 0) rfl) (pa_cons (pe_lc (own := [("name", 3), ("amount", 4)]) (tt := tYes) rfl sc_Ledger_post.nd (pi_list (pv 1)) (blkOk_by (own := [("name", 3), ("amount", 4)]) (N := N_Ledger_post) (sc := defScope s_Ledger_post) (by decide +kernel)) (fun _ _ _ _ _ => (show PG _ _ (gTup K 2 (gCons (gName 3) (gCons (gName 4) gNil))) from (pg_tup rfl (pgs_cons (pg_name (i := 3) sc_Ledger_post.nd rfl (Or.inl rfl)) (pgs_cons (pg_name (i := 4) sc_Ledger_post.nd rfl (Or.inl rfl)) pgs_nil))))) (fun _ _ _ _ _ => pts_nil) (fun _ _ _ _ _ => (pe_tup (pa_cons (pv 3) (pa_cons (pv 4) pa_nil))))) pa_nil)))
    (pss_cons (ps_set (i := 5) sc_Ledger_post.nd rfl (Or.inl rfl) (pe_callB call_len_seq (by rfl) T.z_len PySem.boot_len (pa_cons (pe_fld (pv 0) rfl) pa_nil)))
    (pss_cons (ps_lock (ps_for (passes_of rfl) rfl (pi_items (pv 2)) (pg_tup rfl (pgs_cons (pg_name (i := 3) sc_Ledger_post.nd rfl (Or.inl rfl)) (pgs_cons (pg_name (i := 4) sc_Ledger_post.nd rfl (Or.inl rfl)) pgs_nil)))
      (pss_cons (ps_daug (hu_of hr) (pe_fld (pv 0) rfl) (pv 3) (pv 4) in_add (fun _ _ _ => rfl))
      (pss_one (ps_expr (pe_bm PySem.F.plainAttrs_list PySem.F.slot_list_append PySem.F.type_list_append mt_append (pe_dget (hu_of hr) (pe_fld (pv 0) rfl) (pv 3) (fun _ _ => rfl)) (pa_cons (pe_tup (pa_cons (pv 5) (pa_cons (pv 4) (pa_cons (pe_dget (hu_of hr) (pe_fld (pv 0) rfl) (pv 3) (fun _ _ => rfl)) pa_nil)))) pa_nil)))))))
    (pss_one (ps_ret (pv 5)))))))), ?_⟩
    have fact_Ledger_0 := T.cl_Ledger; have fact_Ledger_1 := T.na_Ledger__balances; have fact_Ledger_2 := T.na_Ledger__may_owe; have fact_Ledger_3 := T.na_Ledger__statements; have fact_Ledger_4 := T.na_Ledger__entries
    have hob := B.ob
    walk_at "st"
    refine ⟨bs, ms, ss, rs, en, ps, mv, rfl, B, hT, hfl, hln, qu, qa, fun d S H1 hsc s1 nS hS => ?_⟩
    have B1 := B.same s1
    have hob1 := B1.ob
    have hkd := scanS_keys hsc (fun k hk => by cases hk) List.nodup_nil
    have oS := B.out nS
    walk_at "st"
    have sk : ∀ {H'}, KeepX S H1 H' → Same H H' := fun k z v hz => k z v (ne_of_none hz nS) (s1 _ _ hz)
    refine ⟨bs, ms, ss, rs, en, d, rfl, B1, hS, oS, hkd.1, fun hz => qb d hsc hz _ s1, fun hz ho H' k => qo d hsc hz ho _ (sk k), fun hz ho H2 s2 => ?_⟩
    have B2 := B1.same s2
    have hob2 := B2.ob
    have hT2 := hT.same (s1.trans s2)
    have hS2 := s2 _ _ hS
    have ha2 := SqL.of (K := K) hT2.lst
    have hL2 := B2.e
    walk_at "st"
    intro M nM
    have nMH : H M = none := (s1.trans s2).free nM
    refine lc_list (K := K) (a := a) (xs := ps.map V.ref) (fun i H' => ∃ pm, Tups encMv H' M pm (mv.take i) ∧ Same H2 H')
      ⟨[], by rw [List.take_zero]; exact .nil upd_same, same_upd nM⟩ (fun i H' _ ⟨_, _, e⟩ => e.seq ha2) ?_ ?_
    · rintro i y H' hy ⟨pm, hpm, e⟩
      obtain ⟨p, m, hp, hmi, rfl, hpr⟩ := (hT2.same e).item hy
      have hi := (List.getElem?_eq_some_iff.mp hmi).1
      have hps := SqT.of (K := K) hpr
      unfold encMv at hps
      walk_at "st"
      intro p2 np2
      have hpl : pm.length = i := by rw [hpm.len, List.length_take]; omega
      have np2M : M ≠ p2 := ne_of_none hpm.lst np2
      refine ⟨_, (upd_ne np2M).trans hpm.lst, ?_, pm ++ [p2], ?_, ?_⟩
      · exact small1000 (by rw [List.length_map]; omega)
      · rw [take_succ hmi]
        exact hpm.push (same_upd np2) np2 upd_same
      · intro z o hz
        rw [upd_ne (ne_of_none hz nM), upd_ne (ne_of_none (e _ _ hz) np2)]
        exact e _ _ hz
    · rintro H3 ⟨pm, hpm, e3⟩
      rw [List.length_map, hT2.len, List.take_of_length_le (Nat.le_refl _)] at hpm
      have hL3 := e3 _ _ hL2
      have hLs := small1000 (n := en.length) (by omega)
      have B3 := B2.same e3
      have hS3 := e3 _ _ hS2
      have B4 := B3.entry (.ref M)
      have hob4 := B4.ob
      have hL4 := SqL.of (K := K) B4.e
      have SL : S ≠ L := oS.2.2.2.2.1
      have hS4 := (upd_ne (o := HO.lst (en ++ [V.ref M])) SL).trans hS3
      walk_at "st"
      have hM3 : upd H3 L (.lst (en ++ [V.ref M])) M = some (.lst (pm.map V.ref)) := by
        refine (upd_ne fun z => ?_).trans hpm.lst
        rw [z] at nM
        rw [hL2] at nM
        cases nM
      have fr4 : FrL H (upd H3 L (.lst (en ++ [V.ref M]))) D1 L ss := fun z v h1 h2 h3 h4 => (upd_ne h2).trans (e3 _ _ (s2 _ _ (s1 _ _ h4)))
      have hpm4 : Tups encMv (upd H3 L (.lst (en ++ [V.ref M]))) M pm mv := hpm.other B3.e (fun z => by rw [z, hL2] at nM; cases nM)
      have hlen : ((en ++ [V.ref M]).length : Int) = (en.length : Int) + 1 := by rw [List.length_append]; rfl
      have nMS : M ≠ S := fun z => by rw [z, hS2] at nM; cases nM
      refine ⟨_, hS4, trivial, fun od => ?_⟩
      generalize upd H3 L (.lst (en ++ [V.ref M])) = H4 at *
      walk_at "st"
      refine ⟨_, _, rfl, upd_same, ?_⟩
      refine for_it (walk_items (d := S) (o := od) (kvs := encD d)) (fun i σ H' => ∃ (v3 v4 : Option V) (ri : Str → List V), σ = [some (.ref x), some (.ref a), some (.ref S), v3, v4, some (.int ((en ++ [V.ref M]).length : Int))] ∧ Led T.c_Ledger H' x dx D1 D2 D3 L (postB bs (d.take i)) ms ss ri (en ++ [V.ref M]) ∧ H' S = some (.frz od (.dK (encD d))) ∧ Tups encMv H' M pm mv ∧ FrL H H' D1 L ss ∧
          (∀ n, n ∉ keysS (d.take i) → ri n = rs n) ∧ (∀ y, y ∈ d.take i → ∃ t, ri y.1 = rs y.1 ++ [V.ref t] ∧ H t = none ∧ H' t = some (.tup [.int ((en.length : Nat) + 1 : Int), .int y.2, .int (gD bs y.1 + y.2)])))
        ⟨_, _, rs, rfl, B4.keep oS (keepX_of (Same.refl _)).set, upd_same, ?_, fun z v h1 h2 h3 h4 => ?_, fun _ _ => rfl, fun y hy => by rw [List.take_zero] at hy; cases hy⟩ (fun i σ H' _ ⟨_, _, _, _, _, e, _⟩ => e) ?_ ?_
      · refine ⟨(upd_ne nMS).trans hpm4.lst, hpm4.len, fun i p x h1 h2 => ?_⟩
        have h3 := hpm4.row i p x h1 h2
        exact (upd_ne fun z => by rw [z, hS4] at h3; cases h3).trans h3
      · rw [upd_ne (ne_of_none h4 nS)]
        exact fr4 z v h1 h2 h3 h4
      · rintro i v σ H6 H7 hi ⟨v3, v4, ri, rfl, B6, hF, hT6, fr6, hno, hyes⟩ ⟨U, kk, vv, rfl, nU, rfl, e1, e2⟩
        dsimp only at e1 e2
        cases hx : (encD d)[i]? with
        | none => rw [hx] at e1; cases e1
        | some kv =>
          obtain ⟨k0, w0⟩ := kv
          rw [hx] at e1 e2
          obtain ⟨y, hy, rfl, rfl⟩ := items_at hx
          have e1 : V.str y.1 = kk := Option.some.inj e1
          have e2 : V.int y.2 = vv := Option.some.inj e2
          subst e1 e2
          have hymd : y.1 ∈ keysS d := List.mem_map.mpr ⟨y, List.mem_of_getElem? hy, rfl⟩
          have hkb : ∀ k, k ∈ keysS (d.take i) → k ∈ keysS bs := fun k hk => hkd.1 k (((List.take_sublist i d).map _).subset hk)
          have hym : y.1 ∈ keysS (postB bs (d.take i)) := by rw [postB_keys hkb]; exact hkd.1 _ hymd
          have hyn : y.1 ∉ keysS (d.take i) := fun z => by
            have h1 := hkd.2.1
            rw [← List.take_append_drop (i + 1) d, take_succ hy] at h1
            unfold keysS at h1 z
            rw [List.map_append, List.map_append] at h1
            exact (List.nodup_append.mp (List.nodup_append.mp h1).1).2.2 _ z _ (List.mem_singleton_self _) rfl
          have hsn := postB_snoc bs (d.take i) y
          rw [← take_succ hy] at hsn
          have hval : gD (postB bs (d.take i)) y.1 = gD bs y.1 := by
            rw [gD_post (((List.take_sublist i d).map _).nodup hkd.2.1), gD_nokey hyn]
            omega
          generalize hH7 : upd H6 U _ = H7
          have s7 : Same H6 H7 := hH7 ▸ same_upd nU
          have hU7 := SqT.of (K := K) ((congrFun hH7 U).symm.trans upd_same)
          have B7 := B6.same s7
          have hob7 := B7.ob
          have g1 := dget_at B7.b hym
          have hbl7 : (postB bs (d.take i)).length ≤ 800 := by
            have := congrArg List.length (postB_keys hkb)
            unfold keysS at this
            rw [List.length_map, List.length_map] at this
            omega
          have SD1 : S ≠ D1 := oS.2.1
          have B8 := B7.bal (v := gD (postB bs (d.take i)) y.1 + y.2) hym
          rw [← hsn] at B8
          have hym8 : y.1 ∈ keysS (postB bs (d.take (i + 1))) := by
            have hk := keys_put (postB bs (d.take i)) y.1 (gD (postB bs (d.take i)) y.1 + y.2)
            rw [← hsn] at hk
            rw [hk]
            exact addK_mem.mpr (.inl hym)
          have hg8 : gD (postB bs (d.take (i + 1))) y.1 = gD bs y.1 + y.2 := by rw [hsn, gD_put, if_pos rfl, hval]
          have fr8 : FrL H (upd H7 D1 (.dK (encD (postB bs (d.take (i + 1)))))) D1 L ss := fun z v h1 h2 h3 h4 => (upd_ne h1).trans (s7 _ _ (fr6 z v h1 h2 h3 h4))
          have hF8 := (upd_ne (o := HO.dK (encD (postB bs (d.take (i + 1))))) SD1).trans (s7 _ _ hF)
          have ne8 : ∀ {z v}, H6 z = some v → (∀ k, v ≠ .dK k) → upd H7 D1 (.dK (encD (postB bs (d.take (i + 1))))) z = some v := fun {z v} h h2 => (upd_ne fun e => by rw [e, B6.b] at h; exact h2 _ (Option.some.inj h).symm).trans (s7 _ _ h)
          walk_at "st"
          refine dput_go2 B7.b (by omega) ?_
          rw [← hsn]
          generalize upd H7 D1 _ = H8 at *
          have hob8 := B8.ob
          obtain ⟨ys, hys, hys1, hsg⟩ := B8.stat hym8
          have hyl := B8.st ys hys
          have g8 := dget_at B8.b hym8
          rw [hg8] at g8
          have hrl : (ri ys.1).length ≤ en.length := by rw [hys1, hno _ hyn]; exact B.sz _
          have hrs := small1000 (n := (ri ys.1).length) (by omega)
          walk_at "st"
          intro t nt
          have ntH := fr8.free B8 nt
          generalize hH9 : upd H8 t _ = H9
          have s9 : Same H8 H9 := hH9 ▸ same_upd nt
          have ht9 := (congrFun hH9 t).symm.trans upd_same
          rw [hlen] at ht9
          have B9 := B8.same s9
          have hyl9 := B9.st ys hys
          have nyt : ys.2 ≠ t := ne_of_none hyl nt
          walk_at "st"
          have SY : ys.2 ≠ S := oS.2.2.2.2.2 ys hys
          have MY : ys.2 ≠ M := (B2.out nM).2.2.2.2.2 ys hys
          have hkt : keysS (d.take (i + 1)) = keysS (d.take i) ++ [y.1] := by rw [take_succ hy]; unfold keysS; rw [List.map_append]; rfl
          refine ⟨_, _, (fun n => if n = ys.1 then ri n ++ [V.ref t] else ri n), rfl, B9.row hys (by rw [List.length_append]; exact Nat.succ_le_succ hrl), (upd_ne SY.symm).trans (s9 _ _ hF8), ⟨(upd_ne MY.symm).trans (s9 _ _ (ne8 hT6.lst (fun k h => by cases h))), hT6.len, fun j p w h1 h2 => ?_⟩, fun z v h1 h2 h3 h4 => (upd_ne (fun e => h3 ys hys e.symm)).trans (s9 _ _ (fr8 z v h1 h2 h3 h4)), fun n hn => ?_, fun w hw => ?_⟩
          · have h3 := s9 _ _ (ne8 (hT6.row j p w h1 h2) (fun k h => by cases h))
            exact (upd_ne fun z => by rw [z, hyl9] at h3; cases h3).trans h3
          · rw [hkt] at hn
            show (if n = ys.1 then _ else ri n) = _
            rw [if_neg fun z => hn (List.mem_append_right _ (by rw [z, hys1]; exact List.mem_singleton_self _))]
            exact hno n fun z => hn (List.mem_append_left _ z)
          · rw [take_succ hy] at hw
            rcases List.mem_append.mp hw with hw | hw
            · obtain ⟨t', t1, t2, t3⟩ := hyes w hw
              have hwk : w.1 ∈ keysS (d.take i) := List.mem_map.mpr ⟨w, hw, rfl⟩
              refine ⟨t', ?_, t2, ?_⟩
              · show (if w.1 = ys.1 then _ else ri w.1) = _
                rw [if_neg fun z => hyn (by rw [← hys1, ← z]; exact hwk)]
                exact t1
              · have h3 := s9 _ _ (ne8 t3 (fun k h => by cases h))
                exact (upd_ne fun z => by rw [z, hyl9] at h3; cases h3).trans h3
            · obtain rfl := List.mem_singleton.mp hw
              refine ⟨t, ?_, ntH, (upd_ne nyt.symm).trans ht9⟩
              show (if w.1 = ys.1 then _ else ri w.1) = _
              rw [if_pos hys1.symm, hno _ hyn]
      · rintro σ H6 ⟨v3, v4, ri, rfl, B6, hF, hT6, fr6, hno, hyes⟩
        refine ⟨hF, ?_⟩
        have hdl : (encD d).length = d.length := List.length_map ..
        rw [hdl, List.take_of_length_le (Nat.le_refl _)] at B6 hno hyes
        walk_at "st"
        rw [hlen]
        have hun : KeepX S H6 (upd H6 S (.dK (encD d))) := (keepX_of (Same.refl _)).set
        refine q d M pm ri _ hsc hz ho (B6.keep oS hun) ⟨hun _ _ nMS hT6.lst, hT6.len, fun i p x h1 h2 => hun _ _ (fun z => ?_) (hT6.row i p x h1 h2)⟩ nMH (fun z v h1 h2 h3 h4 => hun _ _ (ne_of_none h4 nS) (fr6 z v h1 h2 h3 h4)) hno fun y hy => ?_
        · have := hT6.row i p x h1 h2
          rw [z, hF] at this
          cases this
        · obtain ⟨t, t1, t2, t3⟩ := hyes y hy
          exact ⟨t, t1, t2, hun _ _ (fun z => by rw [z, hF] at t3; cases t3) t3⟩
theorem dput_gen {α : Type} {g : α → V} {H : Hp} {a : Addr} {s : Str} {v : α} {l : List (Str × α)} {R : Hp → Prop} (h : H a = some (.dK (genD g l))) (hn : s ∉ l.map (·.1)) (hl : l.length ≤ 1000) (q : R (upd H a (.dK (genD g (l ++ [(s, v)]))))) : ∃ H', V.ref a = V.ref a ∧ DPut H a (.str s) (g v) H' ∧ R H' := by
  refine ⟨_, rfl, ?_, q⟩
  rw [← put_gen g v hn]
  refine DPut.k (k := Sum.inr s) h ?_
  unfold genD
  rw [List.length_map]
  exact small1000 (by omega)
def sp_Ledger_open_account (K : PySem.W.Frag) (CD C : Addr) : Sp := fun vs H Q E => ∃ (x dx D1 D2 D3 L : Addr) (bs : List (Str × Int)) (ms : List (Str × Bool)) (ss : List (Str × Addr)) (rs : Str → List V) (en : List V) (n : Str) (b : Bool), vs = [.ref x, .str n, .bl b] ∧ Led C H x dx D1 D2 D3 L bs ms ss rs en ∧ bs.length ≤ 800 ∧
  (n ∈ keysS bs → E (.ref CD) none H) ∧ (n ∉ keysS bs → ∀ A H', Led C H' x dx D1 D2 D3 L (bs ++ [(n, 0)]) (ms ++ [(n, b)]) (ss ++ [(n, A)]) (fun k => if k = n then [] else rs k) en → H A = none → (∀ z v, z ≠ D1 → z ≠ D2 → z ≠ D3 → H z = some v → H' z = some v) → Q .non H')
set_option maxHeartbeats 0 in
theorem ok_Ledger_open_account (T : Txt K mg) : FnOk P w K mg base (L2.CX P w) 1 T.f_Ledger_open_account T.d_Ledger_open_account ["self", "name", "may_owe"] (sp_Ledger_open_account K T.c_DuplicateName T.c_Ledger) := by
  refine T.F_Ledger_open_account.ok sc_Ledger_open_account (fun vs H Q E h => ?_) (fun cdv A outer s H vs Q E hr h => ?_)
  · obtain ⟨x, dx, D1, D2, D3, L, bs, ms, ss, rs, en, n, b, rfl, _⟩ := h
    rfl
  · obtain ⟨x, dx, D1, D2, D3, L, bs, ms, ss, rs, en, n, b, rfl, B, hbl, qd, q⟩ := h
    
    refine ⟨_, (pss_cons (ps_if (pt_cmp (pc_din (hu_of hr) (pv 1) (pe_fld (pv 0) rfl)))
      (pss_one (ps_raise rfl (takes_of rfl rfl rfl rfl) (pmk_own PySem.F.excBase_ValueError T.x_DuplicateName T.m_DuplicateName T.k_DuplicateName (raises_own T.b_DuplicateName T.t_DuplicateName) (by rfl))))
      pss_nil)
    (pss_cons (ps_dput (hu_of hr) (pe_fld (pv 0) rfl) (pv 1) pe_int rfl)
    (pss_cons (ps_dput (hu_of hr) (pe_fld (pv 0) rfl) (pv 1) (pv 2) rfl)
    (pss_one (ps_dput (hu_of hr) (pe_fld (pv 0) rfl) (pv 1) (pe_lst pa_nil) rfl))))), ?_⟩
    have fact_Ledger_0 := T.cl_Ledger; have fact_Ledger_1 := T.na_Ledger__balances; have fact_Ledger_2 := T.na_Ledger__may_owe; have fact_Ledger_3 := T.na_Ledger__statements; have fact_Ledger_4 := T.na_Ledger__entries
    have hob := B.ob
    walk_at "st"
    refine ⟨_, rfl, DGet.k (k := Sum.inr n) B.b, ?_⟩
    rw [valV_enc]
    have hm := get_mem n bs
    cases hg : getS bs n with
    | some i =>
      rw [hg] at hm
      have hn : n ∈ keysS bs := of_decide_eq_true hm.symm
      walk_at "st"
      exact qd hn
    | none =>
      rw [hg] at hm
      have hn : n ∉ keysS bs := fun z => by rw [decide_eq_true z] at hm; cases hm
      walk_at "st"
      refine dput_go B.b (by omega) ?_
      have hput : putS bs n 0 = bs ++ [(n, 0)] := by unfold putS; rw [if_neg hn]
      rw [hput]
      have hx1 : x ≠ D1 := fun z => by have := B.ob; rw [z, B.b] at this; cases this
      have hx2 : x ≠ D2 := fun z => by have := B.ob; rw [z, B.m] at this; cases this
      have hx3 : x ≠ D3 := fun z => by have := B.ob; rw [z, B.s] at this; cases this
      have hL1 : L ≠ D1 := fun z => by have := B.e; rw [z, B.b] at this; cases this
      have hL2 : L ≠ D2 := fun z => by have := B.e; rw [z, B.m] at this; cases this
      have hL3 : L ≠ D3 := fun z => by have := B.e; rw [z, B.s] at this; cases this
      have hs1 : ∀ y, y ∈ ss → y.2 ≠ D1 := fun y hy z => by have := B.st y hy; rw [z, B.b] at this; cases this
      have hs2 : ∀ y, y ∈ ss → y.2 ≠ D2 := fun y hy z => by have := B.st y hy; rw [z, B.m] at this; cases this
      have hs3 : ∀ y, y ∈ ss → y.2 ≠ D3 := fun y hy z => by have := B.st y hy; rw [z, B.s] at this; cases this
      have ob1 := (upd_ne (o := HO.dK (encD (bs ++ [(n, 0)]))) hx1).trans B.ob
      have b1 : upd H D1 (.dK (encD (bs ++ [(n, 0)]))) D1 = some (.dK (encD (bs ++ [(n, 0)]))) := upd_same
      have m1 := (upd_ne (o := HO.dK (encD (bs ++ [(n, 0)]))) B.ap.1.symm).trans B.m
      have s1 := (upd_ne (o := HO.dK (encD (bs ++ [(n, 0)]))) B.ap.2.1.symm).trans B.s
      have e1 := (upd_ne (o := HO.dK (encD (bs ++ [(n, 0)]))) hL1).trans B.e
      have st1 : ∀ y, y ∈ ss → upd H D1 (.dK (encD (bs ++ [(n, 0)]))) y.2 = some (.lst (rs y.1)) := fun y hy => (upd_ne (hs1 y hy)).trans (B.st y hy)
      have f1 : ∀ z v, z ≠ D1 → H z = some v → upd H D1 (.dK (encD (bs ++ [(n, 0)]))) z = some v := fun z v h h2 => (upd_ne h).trans h2
      have n1 : ∀ z, upd H D1 (.dK (encD (bs ++ [(n, 0)]))) z = none → H z = none := fun z hz => by
        by_cases e : z = D1
        · rw [e, upd_same] at hz; cases hz
        · rw [upd_ne e] at hz; exact hz
      generalize upd H D1 _ = H1 at *
      have hml : ms.length = bs.length := by have := congrArg List.length B.km; unfold keysS at this; rwa [List.length_map, List.length_map] at this
      have hsl : ss.length = bs.length := by have := congrArg List.length B.ks; unfold keysS at this; rwa [List.length_map, List.length_map] at this
      walk_at "st"
      refine dput_gen (g := V.bl) m1 (by rw [B.km]; exact hn) (by omega) ?_
      have ob2 := (upd_ne (o := HO.dK (genD V.bl (ms ++ [(n, b)]))) hx2).trans ob1
      have b2 := (upd_ne (o := HO.dK (genD V.bl (ms ++ [(n, b)]))) B.ap.1).trans b1
      have m2 : upd H1 D2 (.dK (genD V.bl (ms ++ [(n, b)]))) D2 = some (.dK (genD V.bl (ms ++ [(n, b)]))) := upd_same
      have s2 := (upd_ne (o := HO.dK (genD V.bl (ms ++ [(n, b)]))) B.ap.2.2.symm).trans s1
      have e2 := (upd_ne (o := HO.dK (genD V.bl (ms ++ [(n, b)]))) hL2).trans e1
      have st2 : ∀ y, y ∈ ss → upd H1 D2 (.dK (genD V.bl (ms ++ [(n, b)]))) y.2 = some (.lst (rs y.1)) := fun y hy => (upd_ne (hs2 y hy)).trans (st1 y hy)
      have f2 : ∀ z v, z ≠ D1 → z ≠ D2 → H z = some v → upd H1 D2 (.dK (genD V.bl (ms ++ [(n, b)]))) z = some v := fun z v h h3 h2 => (upd_ne h3).trans (f1 z v h h2)
      have n2 : ∀ z, upd H1 D2 (.dK (genD V.bl (ms ++ [(n, b)]))) z = none → H z = none := fun z hz => by
        by_cases e : z = D2
        · rw [e, upd_same] at hz; cases hz
        · rw [upd_ne e] at hz; exact n1 z hz
      generalize upd H1 D2 _ = H2 at *
      walk_at "st"
      intro A nA
      have nAH := n2 A nA
      have a1 := same_upd (o := HO.lst []) nA
      have a2 : upd H2 A (.lst []) A = some (.lst []) := upd_same
      have ob3 := a1 _ _ ob2
      have b3 := a1 _ _ b2
      have m3 := a1 _ _ m2
      have s3 := a1 _ _ s2
      have e3 := a1 _ _ e2
      have st3 : ∀ y, y ∈ ss → upd H2 A (.lst []) y.2 = some (.lst (rs y.1)) := fun y hy => a1 _ _ (st2 y hy)
      have f3 : ∀ z v, z ≠ D1 → z ≠ D2 → H z = some v → upd H2 A (.lst []) z = some v := fun z v h h3 h2 => a1 _ _ (f2 z v h h3 h2)
      have A3 : A ≠ D3 := fun z => by rw [z, s2] at nA; cases nA
      have AL : A ≠ L := fun z => by rw [z, e2] at nA; cases nA
      have hAs : ∀ y, y ∈ ss → y.2 ≠ A := fun y hy z => by have := st2 y hy; rw [z, nA] at this; cases this
      generalize upd H2 A _ = H3 at *
      walk_at "st"
      refine dput_gen (g := V.ref) s3 (by rw [B.ks]; exact hn) (by omega) ?_
      have kb : keysS (bs ++ [(n, 0)]) = keysS bs ++ [n] := by unfold keysS; rw [List.map_append]; rfl
      refine q hn A _ ⟨(upd_ne hx3).trans ob3, (upd_ne B.ap.2.1).trans b3, (upd_ne B.ap.2.2).trans m3, upd_same, (upd_ne hL3).trans e3, fun y hy => ?_, ?_, ?_, ?_, ?_, fun y hy => ?_, B.ap, fun k => ?_⟩ nAH fun z v h1 h2 h3 h4 => (upd_ne h3).trans (f3 z v h1 h2 h4)
      · rcases List.mem_append.mp hy with hy | hy
        · have hyk : y.1 ≠ n := fun z => hn (by rw [← B.ks, ← z]; exact List.mem_map.mpr ⟨y, hy, rfl⟩)
          show _ = some (HO.lst (if y.1 = n then [] else rs y.1))
          rw [if_neg hyk]
          exact (upd_ne (hs3 y hy)).trans (st3 y hy)
        · obtain rfl := List.mem_singleton.mp hy
          show _ = some (HO.lst (if n = n then [] else rs n))
          rw [if_pos rfl]
          exact (upd_ne A3).trans a2
      · rw [List.map_append, B.km, kb]
        rfl
      · rw [List.map_append, B.ks, kb]
        rfl
      · rw [kb, List.nodup_append]
        exact ⟨B.nd, List.nodup_cons.mpr ⟨fun z => (by cases z), List.nodup_nil⟩, fun u hu w hw e => hn (by rw [List.mem_singleton] at hw; rw [← hw, ← e]; exact hu)⟩
      · rw [List.map_append, List.nodup_append]
        refine ⟨B.na, List.nodup_cons.mpr ⟨fun z => (by cases z), List.nodup_nil⟩, fun u hu w hw e => ?_⟩
        obtain ⟨y, hy, hyu⟩ := List.mem_map.mp hu
        have hw2 : w = A := List.mem_singleton.mp hw
        exact hAs y hy (hyu.trans (e.trans hw2))
      · rcases List.mem_append.mp hy with hy | hy
        · exact B.nl y hy
        · obtain rfl := List.mem_singleton.mp hy
          exact AL
      · show (if k = n then [] else rs k).length ≤ _
        split
        · exact Nat.zero_le _
        · exact B.sz k
def sp_Ledger_balance (K : PySem.W.Frag) (CU C : Addr) : Sp := fun vs H Q E => ∃ (x dx D1 D2 D3 L : Addr) (bs : List (Str × Int)) (ms : List (Str × Bool)) (ss : List (Str × Addr)) (rs : Str → List V) (en : List V) (n : Str), vs = [.ref x, .str n] ∧ Led C H x dx D1 D2 D3 L bs ms ss rs en ∧ (n ∈ keysS bs → Q (.int (gD bs n)) H) ∧ (n ∉ keysS bs → E (.ref CU) none H)
set_option maxHeartbeats 0 in
theorem ok_Ledger_balance (T : Txt K mg) : FnOk P w K mg base (L2.CX P w) 2 T.f_Ledger_balance T.d_Ledger_balance ["self", "name"] (sp_Ledger_balance K T.c_UnknownName T.c_Ledger) := by
  refine T.F_Ledger_balance.okX sc_Ledger_balance (fun vs H Q E h => ?_) (fun cdv A outer s H vs Q E hr h => ?_)
  · obtain ⟨x, dx, D1, D2, D3, L, bs, ms, ss, rs, en, n, rfl, _⟩ := h
    rfl
  · obtain ⟨x, dx, D1, D2, D3, L, bs, ms, ss, rs, en, n, rfl, B, q, qu⟩ := h
    have G_Ledgercheck_account : FnOk P w K mg base (L2.CX P w) 1 T.f_Ledgercheck_account T.d_Ledgercheck_account ["self", "name"] (sp_Ledgercheck_account K T.c_UnknownName T.c_Ledger) := ok_Ledgercheck_account T
    refine ⟨_, (pss_cons (ps_expr (pe_mx (pv 0) T.cl_Ledger T.mt_Ledgercheck_account G_Ledgercheck_account hr T.b_Ledgercheck_account .nil (fun σ => passAt (takes_of rfl rfl rfl rfl) σ) (pa_cons (pv 1) pa_nil)))
    (pss_one (ps_ret (pe_dget (hu_of hr) (pe_fld (pv 0) rfl) (pv 1) (fun _ _ => rfl))))), ?_⟩
    have fact_Ledger_0 := T.cl_Ledger; have fact_Ledger_1 := T.na_Ledger__balances; have fact_Ledger_2 := T.na_Ledger__may_owe; have fact_Ledger_3 := T.na_Ledger__statements; have fact_Ledger_4 := T.na_Ledger__entries
    have hob := B.ob
    walk_at "st"
    refine ⟨bs, ms, ss, rs, en, n, rfl, B, fun hn => ?_, qu⟩
    have g1 := dget_at B.b hn
    walk_at "st"
    exact q hn
def sp_Ledger_statement (K : PySem.W.Frag) (CU C : Addr) : Sp := fun vs H Q E => ∃ (x dx D1 D2 D3 L : Addr) (bs : List (Str × Int)) (ms : List (Str × Bool)) (ss : List (Str × Addr)) (rs : Str → List V) (en : List V) (n : Str), vs = [.ref x, .str n] ∧ Led C H x dx D1 D2 D3 L bs ms ss rs en ∧ (n ∈ keysS bs → ∀ p, H p = none → Q (.ref p) (upd H p (.lst (rs n)))) ∧ (n ∉ keysS bs → E (.ref CU) none H)
set_option maxHeartbeats 0 in
theorem ok_Ledger_statement (T : Txt K mg) : FnOk P w K mg base (L2.CX P w) 2 T.f_Ledger_statement T.d_Ledger_statement ["self", "name"] (sp_Ledger_statement K T.c_UnknownName T.c_Ledger) := by
  refine T.F_Ledger_statement.okX sc_Ledger_statement (fun vs H Q E h => ?_) (fun cdv A outer s H vs Q E hr h => ?_)
  · obtain ⟨x, dx, D1, D2, D3, L, bs, ms, ss, rs, en, n, rfl, _⟩ := h
    rfl
  · obtain ⟨x, dx, D1, D2, D3, L, bs, ms, ss, rs, en, n, rfl, B, q, qu⟩ := h
    have G_Ledgercheck_account : FnOk P w K mg base (L2.CX P w) 1 T.f_Ledgercheck_account T.d_Ledgercheck_account ["self", "name"] (sp_Ledgercheck_account K T.c_UnknownName T.c_Ledger) := ok_Ledgercheck_account T
    refine ⟨_, (pss_cons (ps_expr (pe_mx (pv 0) T.cl_Ledger T.mt_Ledgercheck_account G_Ledgercheck_account hr T.b_Ledgercheck_account .nil (fun σ => passAt (takes_of rfl rfl rfl rfl) σ) (pa_cons (pv 1) pa_nil)))
    (pss_one (ps_ret (pe_callTy call_list_of (by rfl) T.z_list (by decide +kernel) (pa_cons (pe_dget (hu_of hr) (pe_fld (pv 0) rfl) (pv 1) (fun _ _ => rfl)) pa_nil))))), ?_⟩
    have fact_Ledger_0 := T.cl_Ledger; have fact_Ledger_1 := T.na_Ledger__balances; have fact_Ledger_2 := T.na_Ledger__may_owe; have fact_Ledger_3 := T.na_Ledger__statements; have fact_Ledger_4 := T.na_Ledger__entries
    have hob := B.ob
    walk_at "st"
    refine ⟨bs, ms, ss, rs, en, n, rfl, B, fun hn => ?_, qu⟩
    obtain ⟨y, y1, y2, g1⟩ := B.stat hn
    have hst := SqL.of (K := K) (B.st y y1)
    subst y2
    walk_at "st"
    exact q hn
theorem sum_set {n : Str} {v : Int} : ∀ {d : List (Str × Int)}, (keysS d).Nodup → n ∈ keysS d → ((d.map fun x => if x.1 = n then (x.1, v) else x).map (·.2)).sum = (d.map (·.2)).sum - gD d n + v
  | y :: r, h, hn => by
    obtain ⟨h1, h2⟩ := List.nodup_cons.mp (show (y.1 :: keysS r).Nodup from h)
    rw [List.map_cons, List.map_cons, List.sum_cons, List.map_cons, List.sum_cons, gD_cons]
    by_cases e : y.1 = n
    · rw [if_pos e, if_pos e.symm]
      have hr : (r.map fun x => if x.1 = n then (x.1, v) else x) = r := by
        conv => rhs; rw [← List.map_id r]
        refine List.map_congr_left fun x hx => ?_
        rw [if_neg fun z => h1 (by rw [e, ← z]; exact List.mem_map.mpr ⟨x, hx, rfl⟩)]
        rfl
      rw [hr]
      show v + _ = _
      omega
    · rw [if_neg e, if_neg (Ne.symm e), sum_set h2 ((List.mem_cons.mp (show n ∈ y.1 :: keysS r from hn)).resolve_left (Ne.symm e))]
      omega
theorem sum_put {d : List (Str × Int)} (h : (keysS d).Nodup) (n : Str) (a : Int) : ((putS d n (gD d n + a)).map (·.2)).sum = (d.map (·.2)).sum + a := by
  unfold putS
  by_cases e : n ∈ keysS d
  · rw [if_pos e, sum_set h e]
    omega
  · rw [if_neg e, List.map_append, List.sum_append, gD_nokey e]
    show _ + (0 + a + 0) = _
    omega
def intOf : V → Int
  | .int i => i
  | _ => 0
theorem scanS_sum {ks : List Str} : ∀ {mv : List (Str × V)} {d d' : List (Str × Int)}, scanS ks mv d = .ok d' → (keysS d).Nodup → (∀ m, m ∈ mv → ∃ z : Int, m.2 = .int z) → (d'.map (·.2)).sum = (d.map (·.2)).sum + (mv.map fun m => intOf m.2).sum
  | [], d, d', h, _, _ => by
    cases h
    exact (Int.add_zero _).symm
  | m :: r, d, d', h, hn, hm => by
    obtain ⟨z, hz⟩ := hm m List.mem_cons_self
    change (match stepS ks d m with | .ok d' => scanS ks r d' | .error e => .error e) = _ at h
    unfold stepS at h
    rw [hz] at h
    by_cases hk : m.1 ∈ ks
    · rw [if_pos hk] at h
      have ih := scanS_sum (d := putS d m.1 (gD d m.1 + z)) h (by rw [keys_put]; exact addK_nodup hn) fun w hw => hm w (List.mem_cons_of_mem _ hw)
      rw [ih, sum_put hn, List.map_cons, List.sum_cons, hz]
      show _ = _ + (z + _)
      omega
    · rw [if_neg hk] at h
      cases h
def sp_Ledger_transfer (K : PySem.W.Frag) (CU CA CB CO C : Addr) : Sp := fun vs H Q E => ∃ (x dx D1 D2 D3 L : Addr) (bs : List (Str × Int)) (ms : List (Str × Bool)) (ss : List (Str × Addr)) (rs : Str → List V) (en : List V) (n1 n2 : Str) (i : Int), vs = [.ref x, .str n1, .str n2, .int i] ∧ Led C H x dx D1 D2 D3 L bs ms ss rs en ∧ en.length ≤ 800 ∧ bs.length ≤ 800 ∧
  (i < 0 → E (.ref CA) none H) ∧ (0 ≤ i → scanS (keysS bs) [(n1, V.int (-i)), (n2, .int i)] [] = .error false → ∀ H', Same H H' → E (.ref CU) none H') ∧
  (∀ d, 0 ≤ i → scanS (keysS bs) [(n1, V.int (-i)), (n2, .int i)] [] = .ok d → (d.map (·.2)).sum = 0 → overF bs ms d = true → ∀ H', Same H H' → E (.ref CO) none H') ∧
  (∀ d M rs' H', 0 ≤ i → scanS (keysS bs) [(n1, V.int (-i)), (n2, .int i)] [] = .ok d → (d.map (·.2)).sum = 0 → overF bs ms d = false → Led C H' x dx D1 D2 D3 L (postB bs d) ms ss rs' (en ++ [.ref M]) → FrL H H' D1 L ss → H M = none → (∃ xs, H' M = some (.lst xs)) → Q (.int ((en.length : Nat) + 1 : Int)) H')
def sp_Ledger_entries (K : PySem.W.Frag) (C : Addr) : Sp := fun vs H Q _ => ∃ (x dx D1 D2 D3 L : Addr) (bs : List (Str × Int)) (ms : List (Str × Bool)) (ss : List (Str × Addr)) (rs : Str → List V) (en : List V), vs = [.ref x] ∧ Led C H x dx D1 D2 D3 L bs ms ss rs en ∧ en.length ≤ 800 ∧ (∀ v, v ∈ en → ∃ a xs, v = .ref a ∧ H a = some (.lst xs)) ∧
  ∀ p H' ns, Same H H' → H p = none → H' p = some (.lst (ns.map V.ref)) → ns.length = en.length → Paired (fun (n : Addr) (v : V) => ∃ a xs, v = .ref a ∧ H a = some (.lst xs) ∧ H' n = some (.lst xs)) ns en → Q (.ref p) H'
set_option maxHeartbeats 0 in
theorem ok_Ledger_entries (T : Txt K mg) : FnOk P w K mg base CX0 1 T.f_Ledger_entries T.d_Ledger_entries ["self"] (sp_Ledger_entries K T.c_Ledger) := by
  refine T.F_Ledger_entries.ok sc_Ledger_entries (fun vs H Q E h => ?_) (fun cdv A outer s H vs Q E hr h => ?_)
  · obtain ⟨x, dx, D1, D2, D3, L, bs, ms, ss, rs, en, rfl, _⟩ := h
    rfl
  · obtain ⟨x, dx, D1, D2, D3, L, bs, ms, ss, rs, en, rfl, B, hen, hel, q⟩ := h
    
    refine ⟨_, (pss_one (ps_ret (pe_lc (own := [("moves", 1)]) (g := gName 1) (tt := tYes) rfl sc_Ledger_entries.nd (pi_list (pe_fld (pv 0) rfl)) (blkOk_by (own := [("moves", 1)]) (N := N_Ledger_entries) (sc := defScope s_Ledger_entries) (by decide +kernel)) (fun _ _ _ _ _ => (pg_name (i := 1) sc_Ledger_entries.nd rfl (Or.inl rfl))) (fun _ _ _ _ _ => pts_nil) (fun _ _ _ _ _ => (pe_callTy (show CallR _ (.type "list") (rListOf K) from call_list_of) (by rfl) T.z_list (by decide +kernel) (pa_cons (pv 1) pa_nil)))))), ?_⟩
    have fact_Ledger_0 := T.cl_Ledger; have fact_Ledger_1 := T.na_Ledger__balances; have fact_Ledger_2 := T.na_Ledger__may_owe; have fact_Ledger_3 := T.na_Ledger__statements; have fact_Ledger_4 := T.na_Ledger__entries
    have hob := B.ob
    have he := SqL.of (K := K) B.e
    walk_at "st"
    intro D nD
    refine lc_list (K := K) (a := L) (xs := en) (fun i H' => ∃ ns : List Addr, H' D = some (.lst (ns.map V.ref)) ∧ ns.length = i ∧ Paired (fun (n : Addr) (v : V) => ∃ a xs, v = .ref a ∧ H a = some (.lst xs) ∧ H' n = some (.lst xs) ∧ n ≠ D) ns (en.take i) ∧ Same H H')
      ⟨[], upd_same, rfl, by rw [List.take_zero]; exact .nil, same_upd nD⟩ (fun i H' _ ⟨_, _, _, _, e⟩ => e.seq he) ?_ ?_
    · rintro i y H' hy ⟨ns, hD, hnl, hP, e⟩
      have hi := (List.getElem?_eq_some_iff.mp hy).1
      obtain ⟨a, xs, rfl, ha⟩ := hel y (List.mem_of_getElem? hy)
      have ha' := SqL.of (K := K) (e _ _ ha)
      refine ⟨rfl, ?_⟩
      walk_at "st"
      intro n nn
      have nD2 : D ≠ n := ne_of_none hD nn
      refine ⟨_, (upd_ne nD2).trans hD, small1000 (by rw [List.length_map]; omega), ns ++ [n], ?_, ?_, ?_, ?_⟩
      · rw [upd_same, List.map_append]
        rfl
      · rw [List.length_append, hnl]
        rfl
      · rw [take_succ hy]
        refine paired_snoc (paired_imp (fun m v h => ?_) hP) ⟨a, xs, rfl, ha, ?_, nD2.symm⟩
        · obtain ⟨b, ys, h1, h2, h3, h4⟩ := h
          exact ⟨b, ys, h1, h2, by rw [upd_ne h4, upd_ne (ne_of_none h3 nn)]; exact h3, h4⟩
        · rw [upd_ne nD2.symm]
          exact upd_same
      · intro z o hz
        rw [upd_ne (ne_of_none hz nD), upd_ne (ne_of_none (e _ _ hz) nn)]
        exact e _ _ hz
    · rintro H3 ⟨ns, hD, hnl, hP, e⟩
      rw [List.take_of_length_le (Nat.le_refl _)] at hP
      exact q D H3 ns e nD hD hnl (paired_imp (fun m v h => by
        obtain ⟨b, ys, h1, h2, h3, _⟩ := h
        exact ⟨b, ys, h1, h2, h3⟩) hP)

theorem flat_ints : ∀ xs : List Int, (xs.map V.int).all flatV = true
  | [] => rfl
  | x :: xs => by
    rw [List.map_cons, List.all_cons, flat_ints xs]
    rfl
theorem eqV_ints (x y : Int) : eqV (V.int x) (V.int y) = decide (x = y) := by
  show (x == y) = _
  exact Bool.beq_eq_decide_eq x y
theorem inV_ints (x : Int) : ∀ xs : List Int, inV (V.int x) (xs.map V.int) = decide (x ∈ xs)
  | [] => rfl
  | y :: xs => by
    have ih := inV_ints x xs
    unfold inV at ih ⊢
    rw [List.map_cons, List.any_cons, ih, eqV_ints]
    by_cases h : y = x
    · rw [decide_eq_true h, Bool.true_or, decide_eq_true (by rw [h]; exact List.mem_cons_self)]
    · rw [decide_eq_false h, Bool.false_or]
      exact decide_eq_decide.mpr ⟨fun z => List.mem_cons_of_mem _ z, fun z => (List.mem_cons.mp z).resolve_left fun e => h e.symm⟩

def K5 : List Str := ["bank", "till", "safe", "desk", "tray"]
def mvV (mv : List (Str × Int)) : List (Str × V) := mv.map fun m => (m.1, V.int m.2)
theorem mvV_flat (mv : List (Str × Int)) : ∀ m, m ∈ mvV mv → (∃ i : Int, m.2 = .int i) ∨ ∃ b : Bool, m.2 = .bl b := fun m hm => by
  obtain ⟨y, _, rfl⟩ := List.mem_map.mp hm
  exact .inl ⟨_, rfl⟩
/-- two dicts with the same keys and values are one -/
theorem assoc_ext : ∀ {a b : List (Str × Int)}, keysS a = keysS b → (keysS a).Nodup → (∀ n, gD a n = gD b n) → a = b
  | [], [], _, _, _ => rfl
  | [], _ :: _, h, _, _ => by cases h
  | _ :: _, [], h, _, _ => by cases h
  | x :: a, y :: b, h, hn, hg => by
    obtain ⟨h1, h2⟩ := List.cons.inj (show x.1 :: keysS a = y.1 :: keysS b from h)
    obtain ⟨n1, n2⟩ := List.nodup_cons.mp (show (x.1 :: keysS a).Nodup from hn)
    have e2 : x.2 = y.2 := by
      have := hg x.1
      rw [gD_cons, if_pos rfl, gD_cons, if_pos h1] at this
      exact this
    have e : x = y := Prod.ext h1 e2
    subst e
    rw [assoc_ext h2 n2 fun n => ?_]
    by_cases z : n = x.1
    · rw [z, gD_nokey n1, gD_nokey (by rw [← h2]; exact n1)]
    · have := hg n
      rw [gD_cons, if_neg z, gD_cons, if_neg z] at this
      exact this
/-- what the moves of an entry do for a name -/
def sumM (mv : List (Str × Int)) (n : Str) : Int := ((mv.filter fun m => decide (m.1 = n)).map (·.2)).sum
theorem sumM_cons (m : Str × Int) (r : List (Str × Int)) (n : Str) : sumM (m :: r) n = (if m.1 = n then m.2 else 0) + sumM r n := by
  unfold sumM
  rw [List.filter_cons]
  by_cases h : m.1 = n
  · rw [decide_eq_true h, if_pos rfl, if_pos h, List.map_cons, List.sum_cons]
  · rw [decide_eq_false h, if_neg Bool.false_ne_true, if_neg h]
    omega
/-- the balances behind the moves, one by one -/
def addM (bs mv : List (Str × Int)) : List (Str × Int) := mv.foldl (fun d m => putS d m.1 (gD d m.1 + m.2)) bs
theorem addM_snoc (bs mv : List (Str × Int)) (m : Str × Int) : addM bs (mv ++ [m]) = putS (addM bs mv) m.1 (gD (addM bs mv) m.1 + m.2) := by
  unfold addM
  rw [List.foldl_append]
  rfl
theorem gD_addM : ∀ (mv : List (Str × Int)) (bs : List (Str × Int)) (n : Str), gD (addM bs mv) n = gD bs n + sumM mv n
  | [], bs, n => (Int.add_zero _).symm
  | m :: r, bs, n => by
    show gD (addM (putS bs m.1 (gD bs m.1 + m.2)) r) n = _
    rw [gD_addM r, gD_put, sumM_cons]
    by_cases h : n = m.1
    · rw [if_pos h, if_pos h.symm, h]
      omega
    · rw [if_neg h, if_neg (Ne.symm h)]
      omega
theorem addM_keys : ∀ {mv bs : List (Str × Int)}, (∀ m, m ∈ mv → m.1 ∈ keysS bs) → keysS (addM bs mv) = keysS bs
  | [], _, _ => rfl
  | m :: r, bs, h => by
    have hk : keysS (putS bs m.1 (gD bs m.1 + m.2)) = keysS bs := by rw [keys_put]; unfold addK; rw [if_pos (h m List.mem_cons_self)]
    show keysS (addM (putS bs m.1 (gD bs m.1 + m.2)) r) = _
    rw [addM_keys (mv := r) fun w hw => by rw [hk]; exact h w (List.mem_cons_of_mem _ hw), hk]
/-- the scan of good moves is their sums -/
theorem scan_add {ks : List Str} : ∀ {mv d : List (Str × Int)}, (∀ m, m ∈ mv → m.1 ∈ ks) → scanS ks (mvV mv) d = .ok (addM d mv)
  | [], d, _ => rfl
  | m :: r, d, h => by
    have hs : stepS ks d (m.1, V.int m.2) = .ok (putS d m.1 (gD d m.1 + m.2)) := by
      unfold stepS
      rw [if_pos (show (m.1, V.int m.2).1 ∈ ks from h m List.mem_cons_self)]
    show (match stepS ks d (m.1, V.int m.2) with | .ok d' => scanS ks (mvV r) d' | .error e => .error e) = _
    rw [hs]
    exact scan_add fun w hw => h w (List.mem_cons_of_mem _ hw)
theorem scan_bad {ks : List Str} : ∀ {mv d : List (Str × Int)}, (∃ m, m ∈ mv ∧ m.1 ∉ ks) → scanS ks (mvV mv) d = .error false
  | [], d, h => by
    obtain ⟨m, hm, _⟩ := h
    cases hm
  | m :: r, d, h => by
    show (match stepS ks d (m.1, V.int m.2) with | .ok d' => scanS ks (mvV r) d' | .error e => .error e) = _
    by_cases hk : m.1 ∈ ks
    · have hs : stepS ks d (m.1, V.int m.2) = .ok (putS d m.1 (gD d m.1 + m.2)) := by
        unfold stepS
        rw [if_pos (show (m.1, V.int m.2).1 ∈ ks from hk)]
      rw [hs]
      obtain ⟨w, hw, hn⟩ := h
      rcases List.mem_cons.mp hw with z | z
      · exact absurd (by rw [z]; exact hk) hn
      · exact scan_bad ⟨w, z, hn⟩
    · have hs : stepS ks d (m.1, V.int m.2) = .error false := by
        unfold stepS
        rw [if_neg (show ¬ (m.1, V.int m.2).1 ∈ ks from hk)]
      rw [hs]
theorem addM_nodup : ∀ {mv d : List (Str × Int)}, (keysS d).Nodup → (keysS (addM d mv)).Nodup
  | [], _, h => h
  | m :: r, d, h => addM_nodup (mv := r) (by rw [keys_put]; exact addK_nodup h)
theorem addM_mem : ∀ {mv d : List (Str × Int)} {n : Str}, n ∈ keysS (addM d mv) ↔ n ∈ keysS d ∨ ∃ m, m ∈ mv ∧ m.1 = n
  | [], d, n => ⟨.inl, fun h => h.elim id fun ⟨_, h, _⟩ => by cases h⟩
  | m :: r, d, n => by
    show n ∈ keysS (addM (putS d m.1 (gD d m.1 + m.2)) r) ↔ _
    rw [addM_mem, keys_put, addK_mem]
    constructor
    · rintro ((h | h) | ⟨w, hw, e⟩)
      · exact .inl h
      · exact .inr ⟨m, List.mem_cons_self, h.symm⟩
      · exact .inr ⟨w, List.mem_cons_of_mem _ hw, e⟩
    · rintro (h | ⟨w, hw, e⟩)
      · exact .inl (.inl h)
      · rcases List.mem_cons.mp hw with z | z
        · exact .inl (.inr (by rw [← e, z]))
        · exact .inr ⟨w, z, e⟩
theorem addM_sum : ∀ {mv d : List (Str × Int)}, (keysS d).Nodup → ((addM d mv).map (·.2)).sum = (d.map (·.2)).sum + (mv.map (·.2)).sum
  | [], d, _ => (Int.add_zero _).symm
  | m :: r, d, h => by
    show ((addM (putS d m.1 (gD d m.1 + m.2)) r).map (·.2)).sum = _
    rw [addM_sum (mv := r) (by rw [keys_put]; exact addK_nodup h), sum_put h, List.map_cons, List.sum_cons]
    omega
/-- what the law thinks an entry does -/
def dueF (bs mv : List (Str × Int)) : Option (List (Str × Int)) :=
  if (∀ m, m ∈ mv → m.1 ∈ K5) ∧ (mv.map (·.2)).sum = 0 ∧ ∀ m, m ∈ mv → m.1 ≠ "bank" → 0 ≤ gD (addM bs mv) m.1 then some (addM bs mv) else none
/-- a dict told name by name -/
theorem told_step {bs : List (Str × Int)} {i : Nat} {n : Str} (h : keysS bs = K5) (hi : K5[i]? = some n) : putS (bs.take i) n (gD bs n) = bs.take (i + 1) ∧ i < bs.length := by
  have hn : (keysS bs).Nodup := by rw [h]; decide +kernel
  rw [← h] at hi
  unfold keysS at hi
  rw [List.getElem?_map] at hi
  cases hb : bs[i]? with
  | none => rw [hb] at hi; cases hi
  | some y =>
    rw [hb] at hi
    have hy : y.1 = n := Option.some.inj hi
    subst hy
    have hni : y.1 ∉ keysS (bs.take i) := fun z => by
      rw [← List.take_append_drop (i + 1) bs, take_succ hb] at hn
      unfold keysS at hn z
      rw [List.map_append, List.map_append] at hn
      exact (List.nodup_append.mp (List.nodup_append.mp hn).1).2.2 _ z _ (List.mem_singleton_self _) rfl
    have hg : gD bs y.1 = y.2 := by
      unfold gD getS
      have : bs.find? (fun x => decide (x.1 = y.1)) = some y := by
        rw [← List.take_append_drop (i + 1) bs, take_succ hb, List.find?_append, List.find?_append]
        have e := get_mem y.1 (bs.take i)
        rw [decide_eq_false hni] at e
        unfold getS at e
        cases w : (bs.take i).find? fun x => decide (x.1 = y.1) with
        | none => rw [Option.none_or, List.find?_cons, decide_eq_true rfl]; rfl
        | some x => rw [w] at e; cases e
      rw [this]
      rfl
    refine ⟨?_, (List.getElem?_eq_some_iff.mp hb).1⟩
    rw [hg, take_succ hb]
    unfold putS
    rw [if_neg hni]

theorem flat_strs : ∀ nm : List Str, (nm.map V.str).all flatV = true
  | [] => rfl
  | y :: nm => by rw [List.map_cons, List.all_cons, flat_strs nm]; rfl
theorem inV_strs (x : Str) : ∀ nm : List Str, inV (.str x) (nm.map V.str) = decide (x ∈ nm)
  | [] => rfl
  | y :: nm => by
    have ih := inV_strs x nm
    unfold inV at ih ⊢
    rw [List.map_cons, List.any_cons, ih]
    have e : eqV (.str y) (.str x) = decide (y = x) := by
      unfold eqV
      exact Bool.beq_eq_decide_eq y x
    rw [e]
    by_cases h : y = x
    · have hm : x ∈ y :: nm := by rw [h]; exact List.mem_cons_self
      rw [decide_eq_true h, decide_eq_true hm]
      rfl
    · rw [decide_eq_false h, Bool.false_or]
      exact decide_eq_decide.mpr ⟨fun z => List.mem_cons_of_mem _ z, fun z => (List.mem_cons.mp z).resolve_left fun e => h e.symm⟩
/-! ### the laws' own texts -/
def digF (c b : Int) : Nat → Int
  | 0 => c
  | k + 1 => digF c b k / b
def sp_law_digit (K : PySem.W.Frag) : Sp := fun vs H Q _ => ∃ (c b : Int) (k : Nat), vs = [.int c, .int b, .int (k : Int)] ∧ 0 < b ∧ b < 1073741824 ∧ k < 1000 ∧ Q (.int (digF c b k % b)) H
set_option maxHeartbeats 0 in
theorem ok_law_digit (T : Txt K mg) : FnOk P w K mg base CX0 1 T.f_law_digit T.d_law_digit ["cell", "base", "k"] (sp_law_digit K) := by
  refine T.F_law_digit.ok sc_law_digit (fun vs H Q E h => ?_) (fun cdv A outer s H vs Q E hr h => ?_)
  · obtain ⟨c, b, k, rfl, _⟩ := h
    rfl
  · obtain ⟨c, b, k, rfl, h0, h1, hk, q⟩ := h
    refine ⟨_, (pss_cons (ps_set (i := 3) sc_law_digit.nd rfl (Or.inl rfl) (pe_callTy call_int_i (by rfl) T.z_int (by decide +kernel) (pa_cons (pv 0) pa_nil)))
    (pss_cons (ps_for PassesOwn.never rfl (pi_range1 (by rfl) T.z_range (pa_cons (pv 2) pa_nil)) (pg_name (i := 4) sc_law_digit.nd rfl (Or.inl rfl))
      (pss_one (ps_set (i := 3) sc_law_digit.nd rfl (Or.inl rfl) (pe_op op_fdiv (pv 3) (pv 1)))))
    (pss_one (ps_ret (pe_op op_mod (pv 3) (pv 1)))))), ?_⟩
    walk_at "st"
    refine for_range (lo := 0) (n := ((k : Int)).toNat) (fun i σ H' => ∃ (v : Option V), σ = [some (.int c), some (.int b), some (.int (k : Int)), some (.int (digF c b i)), v] ∧ H' = H) ⟨none, rfl, rfl⟩ ?_ ?_
    · rintro i σ H' hi ⟨v, rfl, rfl⟩
      walk_at "st"
      exact ⟨_, rfl, rfl⟩
    · rintro σ H' ⟨v, rfl, rfl⟩
      rw [Int.toNat_natCast]
      walk_at "st"
      exact q

def sp_law_names (K : PySem.W.Frag) : Sp := fun vs H Q _ => vs = [] ∧ ∀ p, H p = none → Q (.ref p) (upd H p (.lst (K5.map V.str)))
set_option maxHeartbeats 0 in
theorem ok_law_names (T : Txt K mg) : FnOk P w K mg base CX0 1 T.f_law_names T.d_law_names [] (sp_law_names K) := by
  refine T.F_law_names.ok sc_law_names (fun vs H Q E h => ?_) (fun cdv A outer s H vs Q E hr h => ?_)
  · obtain ⟨rfl, _⟩ := h
    rfl
  · obtain ⟨rfl, q⟩ := h
    refine ⟨_, (pss_one (ps_ret (pe_lst (pa_cons pe_str (pa_cons pe_str (pa_cons pe_str (pa_cons pe_str (pa_cons pe_str pa_nil)))))))), ?_⟩
    walk_at "st"
    exact q
theorem mvV_snoc (mv : List (Str × Int)) (n : Str) (i : Int) : mvV (mv ++ [(n, i)]) = mvV mv ++ [(n, V.int i)] := by
  unfold mvV
  rw [List.map_append]
  rfl
theorem k5_at {i : Int} (h0 : 0 ≤ i) (h1 : i < 5) : ∃ n, n ∈ K5 ∧ atI (K5.map V.str) i = some (.str n) := by
  rcases (show i = 0 ∨ i = 1 ∨ i = 2 ∨ i = 3 ∨ i = 4 by omega) with e | e | e | e | e <;> rw [e]
  · exact ⟨"bank", by decide +kernel, rfl⟩
  · exact ⟨"till", by decide +kernel, rfl⟩
  · exact ⟨"safe", by decide +kernel, rfl⟩
  · exact ⟨"desk", by decide +kernel, rfl⟩
  · exact ⟨"tray", by decide +kernel, rfl⟩
def sp_law_moves (K : PySem.W.Frag) : Sp := fun vs H Q _ => ∃ c : Int, vs = [.int c] ∧ ∀ (a : Addr) (H' : Hp) (ps : List Addr) (mv : List (Str × Int)), Same H H' → H a = none → Tups encMv H' a ps (mvV mv) → mv.length ≤ 4 → Q (.ref a) H'
set_option maxHeartbeats 0 in
theorem ok_law_moves (T : Txt K mg) : FnOk P w K mg base CX0 2 T.f_law_moves T.d_law_moves ["cell"] (sp_law_moves K) := by
  refine T.F_law_moves.ok sc_law_moves (fun vs H Q E h => ?_) (fun cdv A outer s H vs Q E hr h => ?_)
  · obtain ⟨c, rfl, _⟩ := h
    rfl
  · obtain ⟨c, rfl, q⟩ := h
    have G_law_digit : FnOk P w K mg base CX0 1 T.f_law_digit T.d_law_digit ["cell", "base", "k"] (sp_law_digit K) := ok_law_digit T
    have G_law_names : FnOk P w K mg base CX0 1 T.f_law_names T.d_law_names [] (sp_law_names K) := ok_law_names T
    refine ⟨_, (pss_cons (ps_set (i := 1) sc_law_moves.nd rfl (Or.inl rfl) (pe_lst pa_nil))
    (pss_cons (ps_set (i := 2) sc_law_moves.nd rfl (Or.inl rfl) pe_int)
    (pss_cons (ps_for PassesOwn.never rfl (pi_range1 (by rfl) T.z_range (pa_cons (pe_op op_mod (pe_callTy call_int_i (by rfl) T.z_int (by decide +kernel) (pa_cons (pv 0) pa_nil)) pe_int) pa_nil)) (pg_name (i := 3) sc_law_moves.nd rfl (Or.inl rfl))
      (pss_cons (ps_set (i := 4) sc_law_moves.nd rfl (Or.inl rfl) (pe_op op_sub (pe_call G_law_digit hr (by rfl) T.m_law_digit T.F_law_digit.kp T.b_law_digit .nil pass0 (pa_cons (pe_op op_fdiv (pv 0) pe_int) (pa_cons pe_int (pa_cons (pv 3) pa_nil)))) pe_int))
      (pss_cons (ps_set (i := 5) sc_law_moves.nd rfl (Or.inl rfl) (pe_ix ix_list (pe_call0 G_law_names hr (by rfl) T.m_law_names T.F_law_names.kp T.b_law_names .nil pass0) (pe_call G_law_digit hr (by rfl) T.m_law_digit T.F_law_digit.kp T.b_law_digit .nil pass0 (pa_cons (pe_op op_fdiv (pv 0) pe_int) (pa_cons pe_int (pa_cons (pv 3) pa_nil)))) (fun _ _ => rfl)))
      (C8.pss_cut (ps_if (PW.pt (pw_and (pt_cmpR op_eq (pe_op op_mod (pe_op op_fdiv (pe_callTy call_int_i (by rfl) T.z_int (by decide +kernel) (pa_cons (pv 0) pa_nil)) pe_int) pe_int) pe_int (nomark _)) (pw_and1 (pt_cmpR op_eq (pv 3) pe_int (nomark _)))))
        (pss_one (ps_set (i := 5) sc_law_moves.nd rfl (Or.inl rfl) pe_str))
        pss_nil)
      (pss_cons (ps_expr (pe_bm PySem.F.plainAttrs_list PySem.F.slot_list_append PySem.F.type_list_append mt_append (pv 1) (pa_cons (pe_tup (pa_cons (pv 5) (pa_cons (pv 4) pa_nil))) pa_nil)))
      (pss_one (ps_set (i := 2) sc_law_moves.nd rfl (Or.inl rfl) (pe_op op_add (pv 2) (pv 4)))))))))
    (pss_cons (ps_if (pt_cmpR op_ne (pe_op op_mod (pe_op op_fdiv (pe_callTy call_int_i (by rfl) T.z_int (by decide +kernel) (pa_cons (pv 0) pa_nil)) pe_int) pe_int) pe_int (nomark _))
      (pss_one (ps_expr (pe_bm PySem.F.plainAttrs_list PySem.F.slot_list_append PySem.F.type_list_append mt_append (pv 1) (pa_cons (pe_tup (pa_cons (pe_ix ix_list (pe_call0 G_law_names hr (by rfl) T.m_law_names T.F_law_names.kp T.b_law_names .nil pass0) (pe_op op_mod (pe_op op_fdiv (pe_callTy call_int_i (by rfl) T.z_int (by decide +kernel) (pa_cons (pv 0) pa_nil)) pe_int) pe_int) (fun _ _ => rfl)) (pa_cons (pe_op op_sub pe_int (pv 2)) pa_nil))) pa_nil))))
      pss_nil)
    (pss_one (ps_ret (pv 1))))))), ?_⟩
    walk_at "st"
    intro a na
    have fin : ∀ {H' : Hp}, Same (upd H a (.lst [])) H' → Same H H' := fun e => (same_upd na).trans e
    have hT0 : Tups encMv (upd H a (.lst [])) a [] (mvV []) := .nil upd_same
    generalize upd H a (.lst []) = H1 at *
    walk_at "st"
    refine for_range (lo := 0) (n := (c % 4).toNat) (fun i σ H' => ∃ (v3 v4 v5 : Option V) (t : Int) (ps : List Addr) (mv : List (Str × Int)), σ = [some (.int c), some (.ref a), some (.int t), v3, v4, v5] ∧ Same H H' ∧ Tups encMv H' a ps (mvV mv) ∧ mv.length = i)
      ⟨none, none, none, 0, [], [], rfl, fin (Same.refl _), hT0, rfl⟩ ?_ ?_
    · rintro i σ H' hi ⟨v3, v4, v5, t, ps, mv, rfl, e, hT, hl⟩
      have hi4 : i < 4 := by omega
      have w0 : 0 ≤ digF (c / 7) 5 (0 + i) % 5 := Int.emod_nonneg _ (by decide)
      have w1 : digF (c / 7) 5 (0 + i) % 5 < 5 := Int.emod_lt_of_pos _ (by decide)
      obtain ⟨nm, hnm, hat⟩ := k5_at w0 w1
      have hi0 : 0 + i < 1000 := by omega
      walk_at "st"
      intro p np
      generalize hH2 : upd H' p _ = H2
      have s2 : Same H' H2 := hH2 ▸ same_upd np
      have hp := SqL.of (K := K) ((congrFun hH2 p).symm.trans upd_same)
      walk_at "st"
      refine ⟨fun σ' H3 => H3 = H2 ∧ ∃ (am : Int) (nm' : Str), σ' = [some (.int c), some (.ref a), some (.int t), some (.int (0 + (i : Int))), some (.int am), some (.str nm')], ?_, ?_⟩
      · walk_at "st"
        refine iteB (fun h => ?_) (fun h => ?_)
        · walk_at "st"
          refine iteB (fun h => ?_) (fun h => ?_)
          · walk_at "st"
            first
              | exact ⟨_, _, rfl⟩
              | exact rfl
          · exact ⟨rfl, _, _, rfl⟩
        · exact ⟨rfl, _, _, rfl⟩
      · rintro σ' H3 ⟨rfl, am, nm', rfl⟩
        have hT3 := hT.same s2
        have hL3 := hT3.lst
        have hlt : (ps.map V.ref).length < sizeLine := small1000 (by
          rw [List.length_map, hT3.len]
          unfold mvV
          rw [List.length_map]
          omega)
        walk_at "st"
        intro p2 np2
        have np2a : a ≠ p2 := ne_of_none hL3 np2
        have hL4 := (upd_ne (o := HO.tup [V.str nm', V.int am]) np2a).trans hL3
        walk_at "st"
        refine ⟨_, _, _, t + am, ps ++ [p2], mv ++ [(nm', am)], rfl, fun z o hz => ?_, ?_, by rw [List.length_append, hl]; rfl⟩
        · rw [upd_ne (ne_of_none hz na), upd_ne (ne_of_none (s2 _ _ (e _ _ hz)) np2)]
          exact s2 _ _ (e _ _ hz)
        · rw [mvV_snoc]
          exact hT3.push (same_upd np2) np2 upd_same
    · rintro σ H' ⟨v3, v4, v5, t, ps, mv, rfl, e, hT, hl⟩
      have hl4 : mv.length ≤ 3 := by omega
      walk_at "st"
      refine iteB (fun h => ?_) (fun h => ?_)
      · have w0 : 0 ≤ c / 11 % 5 := Int.emod_nonneg _ (by decide)
        have w1 : c / 11 % 5 < 5 := Int.emod_lt_of_pos _ (by decide)
        obtain ⟨nm, hnm, hat⟩ := k5_at w0 w1
        have hL2 := hT.lst
        walk_at "st"
        intro p np
        generalize hH2 : upd H' p _ = H2
        have s2 : Same H' H2 := hH2 ▸ same_upd np
        have hp := SqL.of (K := K) ((congrFun hH2 p).symm.trans upd_same)
        have hT3 := hT.same s2
        have hL3 := hT3.lst
        have hlt : (ps.map V.ref).length < sizeLine := small1000 (by
          rw [List.length_map, hT3.len]
          unfold mvV
          rw [List.length_map]
          omega)
        walk_at "st"
        intro p2 np2
        have np2a : a ≠ p2 := ne_of_none hL3 np2
        have hL4 := (upd_ne (o := HO.tup [V.str nm, V.int (0 - t)]) np2a).trans hL3
        walk_at "st"
        refine q a _ (ps ++ [p2]) (mv ++ [(nm, 0 - t)]) (fun z o hz => ?_) na ?_ (by rw [List.length_append]; show mv.length + 1 ≤ 4; omega)
        · rw [upd_ne (ne_of_none hz na), upd_ne (ne_of_none (s2 _ _ (e _ _ hz)) np2)]
          exact s2 _ _ (e _ _ hz)
        · rw [mvV_snoc]
          exact hT3.push (same_upd np2) np2 upd_same
      · walk_at "st"
        exact q a _ ps mv e na hT (by omega)
def sp_law_due (K : PySem.W.Frag) : Sp := fun vs H Q _ => ∃ (B a : Addr) (bs : List (Str × Int)) (ps : List Addr) (mv : List (Str × Int)), vs = [.ref B, .ref a] ∧ H B = some (.dK (encD bs)) ∧ keysS bs = K5 ∧ Tups encMv H a ps (mvV mv) ∧ mv.length ≤ 100 ∧
  (dueF bs mv = none → ∀ H', Same H H' → Q .non H') ∧ (∀ d, dueF bs mv = some d → ∀ p H', Same H H' → H p = none → H' p = some (.dK (encD d)) → Q (.ref p) H')
set_option maxHeartbeats 0 in
theorem ok_law_due (T : Txt K mg) : FnOk P w K mg base CX0 2 T.f_law_due T.d_law_due ["balances", "moves"] (sp_law_due K) := by
  refine T.F_law_due.ok sc_law_due (fun vs H Q E h => ?_) (fun cdv A outer s H vs Q E hr h => ?_)
  · obtain ⟨B, a, bs, ps, mv, rfl, _⟩ := h
    rfl
  · obtain ⟨B, a, bs, ps, mv, rfl, hB, hk, hT, hln, qn, q⟩ := h
    have G_law_names : FnOk P w K mg base CX0 1 T.f_law_names T.d_law_names [] (sp_law_names K) := ok_law_names T
    refine ⟨_, (pss_cons (ps_set (i := 2) sc_law_due.nd rfl (Or.inl rfl) pe_dnewK)
    (pss_cons (ps_for PassesOwn.never rfl (pi_list (pe_call0 G_law_names hr (by rfl) T.m_law_names T.F_law_names.kp T.b_law_names .nil pass0)) (pg_name (i := 3) sc_law_due.nd rfl (Or.inl rfl))
      (pss_one (ps_dput (hu_of hr) (pv 2) (pv 3) (pe_dget (hu_of hr) (pv 0) (pv 3) (fun _ _ => rfl)) rfl)))
    (pss_cons (ps_set (i := 4) sc_law_due.nd rfl (Or.inl rfl) pe_int)
    (pss_cons (ps_for PassesOwn.never rfl (pi_list (pv 1)) (pg_tup rfl (pgs_cons (pg_name (i := 3) sc_law_due.nd rfl (Or.inl rfl)) (pgs_cons (pg_name (i := 5) sc_law_due.nd rfl (Or.inl rfl)) pgs_nil)))
      (pss_cons (ps_if (pt_cmpR op_notIn_seq (pv 3) (pe_call0 G_law_names hr (by rfl) T.m_law_names T.F_law_names.kp T.b_law_names .nil pass0) rfl)
        (pss_one (ps_ret pe_non))
        pss_nil)
      (pss_cons (ps_dput (hu_of hr) (pv 2) (pv 3) (pe_op op_add (pe_dget (hu_of hr) (pv 2) (pv 3) (fun _ _ => rfl)) (pv 5)) rfl)
      (pss_one (ps_set (i := 4) sc_law_due.nd rfl (Or.inl rfl) (pe_op op_add (pv 4) (pv 5)))))))
    (pss_cons (ps_if (pt_cmpR op_ne (pv 4) pe_int (nomark _))
      (pss_one (ps_ret pe_non))
      pss_nil)
    (pss_cons (ps_for PassesOwn.never rfl (pi_list (pv 1)) (pg_tup rfl (pgs_cons (pg_name (i := 3) sc_law_due.nd rfl (Or.inl rfl)) (pgs_cons (pg_name (i := 5) sc_law_due.nd rfl (Or.inl rfl)) pgs_nil)))
      (pss_one (ps_if (PW.pt (pw_and (pt_cmpR op_ne (pv 3) pe_str (nomark _)) (pw_and1 (pt_cmpR op_lt (pe_dget (hu_of hr) (pv 2) (pv 3) (fun _ _ => rfl)) pe_int (nomark _)))))
        (pss_one (ps_ret pe_non))
        pss_nil)))
    (pss_one (ps_ret (pv 2))))))))), ?_⟩
    have hbl : bs.length = 5 := by
      have := congrArg List.length hk
      unfold keysS at this
      rw [List.length_map] at this
      exact this
    walk_at "st"
    intro A nA
    generalize hH1 : upd H A _ = H1
    have s1 : Same H H1 := hH1 ▸ same_upd nA
    have hA := (congrFun hH1 A).symm.trans upd_same
    walk_at "st"
    intro N nN
    generalize hH2 : upd H1 N _ = H2
    have s2 : Same H1 H2 := hH2 ▸ same_upd nN
    have hN := (congrFun hH2 N).symm.trans upd_same
    have nAN : A ≠ N := ne_of_none hA nN
    have s02 := s1.trans s2
    have hB2 := s02 _ _ hB
    have nBA : B ≠ A := ne_of_none hB nA
    walk_at "st"
    refine for_list (K := K) (a := N) (xs := K5.map V.str) (fun i σ H' => ∃ v3 : Option V, σ = [some (.ref B), some (.ref a), some (.ref A), v3, none, none] ∧ H' = upd H2 A (.dK (encD (bs.take i))))
      ⟨none, rfl, funext fun z => ?_⟩ (fun i σ H' _ ⟨_, _, e⟩ => by rw [e]; exact SqL.of ((upd_ne nAN.symm).trans hN)) ?_ ?_
    · by_cases h : z = A
      · rw [h, upd_same]
        exact s2 _ _ hA
      · exact (upd_ne h).symm
    · rintro i y σ H' hy ⟨v3, rfl, rfl⟩
      rw [List.getElem?_map] at hy
      cases hn : K5[i]? with
      | none => rw [hn] at hy; cases hy
      | some n =>
        rw [hn] at hy
        have hyn : V.str n = y := Option.some.inj hy
        subst hyn
        obtain ⟨hp, hib⟩ := told_step hk hn
        have hBu := (upd_ne (o := HO.dK (encD (bs.take i))) nBA).trans hB2
        have hnk : n ∈ keysS bs := by rw [hk]; exact List.mem_of_getElem? hn
        have g1 := dget_at hBu hnk
        walk_at "st"
        refine dput_go (d := bs.take i) upd_same (by rw [List.length_take]; omega) ?_
        rw [upd_upd, hp]
        exact ⟨_, rfl, rfl⟩
    · rintro σ H' ⟨v3, rfl, rfl⟩
      rw [show (K5.map V.str).length = bs.length by rw [hbl]; rfl, List.take_of_length_le (Nat.le_refl _)]
      have s03 : Same H (upd H2 A (.dK (encD bs))) := fun z o hz => by
        rw [upd_ne (ne_of_none hz nA)]
        exact s02 _ _ hz
      have hA3 : upd H2 A (.dK (encD bs)) A = some (.dK (encD bs)) := upd_same
      generalize upd H2 A _ = H3 at *
      have ha3 := SqL.of (K := K) (hT.same s03).lst
      have hTl : ps.length = mv.length := by
        rw [hT.len]
        unfold mvV
        rw [List.length_map]
      walk_at "st"
      refine for_list (K := K) (a := a) (xs := ps.map V.ref) (fun i σ H' => ∃ v3 v5 : Option V, σ = [some (.ref B), some (.ref a), some (.ref A), v3, some (.int ((mv.take i).map (·.2)).sum), v5] ∧ Same H H' ∧ H' A = some (.dK (encD (addM bs (mv.take i)))) ∧ ∀ m, m ∈ mv.take i → m.1 ∈ K5)
        ⟨_, none, rfl, s03, hA3, fun m hm => by rw [List.take_zero] at hm; cases hm⟩ (fun i σ H' _ ⟨_, _, _, e, _⟩ => e.seq (SqL.of hT.lst)) ?_ ?_
      · rintro i y σ H' hy ⟨w3, w5, rfl, e, hA', hin⟩
        obtain ⟨p, m0, hp, hm0, rfl, hpr⟩ := (hT.same e).item hy
        obtain ⟨m, hmi, rfl⟩ : ∃ m, mv[i]? = some m ∧ m0 = (m.1, V.int m.2) := by
          unfold mvV at hm0
          rw [List.getElem?_map] at hm0
          cases h : mv[i]? with
          | none => rw [h] at hm0; cases hm0
          | some m => rw [h] at hm0; exact ⟨m, rfl, (Option.some.inj hm0).symm⟩
        have hi := (List.getElem?_eq_some_iff.mp hmi).1
        have hps : SqT K H' p [.str m.1, .int m.2] := SqT.of hpr
        have htk := take_succ hmi
        walk_at "st"
        intro p2 np2
        generalize hH4 : upd H' p2 _ = H4
        have s4 : Same H' H4 := hH4 ▸ same_upd np2
        have hp2 := SqL.of (K := K) ((congrFun hH4 p2).symm.trans upd_same)
        have e4 := e.trans s4
        have hA4 := s4 _ _ hA'
        have hk1 : keysS (addM bs (mv.take i)) = K5 := by rw [addM_keys (fun w hw => by rw [hk]; exact hin w hw), hk]
        have hl1 : (addM bs (mv.take i)).length ≤ 1000 := by
          have := congrArg List.length hk1
          unfold keysS at this
          rw [List.length_map] at this
          rw [this]
          decide
        walk_at "st"
        have hib : inV (V.str m.1) (K5.map V.str) = decide (m.1 ∈ K5) := inV_strs _ _
        refine iteB (fun h => ?_) (fun h => ?_)
        · rw [if_pos rfl, hib] at h
          have hnk : m.1 ∉ K5 := ndec_t h
          walk_at "st"
          refine qn ?_ _ e4
          unfold dueF
          rw [if_neg fun z => hnk (z.1 m (List.mem_of_getElem? hmi))]
        · rw [if_pos rfl, hib] at h
          have hmk : m.1 ∈ K5 := ndec_f h
          have g1 := dget_at hA4 (show m.1 ∈ keysS (addM bs (mv.take i)) by rw [hk1]; exact hmk)
          walk_at "st"
          refine dput_go hA4 hl1 ?_
          walk_at "st"
          have hsum : ((mv.take i).map (·.2)).sum + m.2 = ((mv.take (i + 1)).map (·.2)).sum := by
            rw [htk, List.map_append, List.sum_append]
            show _ = _ + (m.2 + 0)
            omega
          refine ⟨_, _, by rw [← hsum]; rfl, fun z o hz => ?_, ?_, fun w hw => ?_⟩
          · rw [upd_ne (ne_of_none hz nA)]
            exact e4 _ _ hz
          · rw [htk, addM_snoc]
            exact upd_same
          · rw [htk] at hw
            rcases List.mem_append.mp hw with z | z
            · exact hin w z
            · rw [List.mem_singleton.mp z]
              exact hmk
      · rintro σ H' ⟨w3, w5, rfl, e, hA', hin⟩
        rw [List.length_map, hTl, List.take_of_length_le (Nat.le_refl _)] at hA' hin ⊢
        have hk1 : keysS (addM bs mv) = K5 := by rw [addM_keys (fun w hw => by rw [hk]; exact hin w hw), hk]
        walk_at "st"
        refine iteB (fun h => ?_) (fun h => ?_)
        · have hz : (mv.map (·.2)).sum ≠ 0 := fun z => (ndec_t h) (congrArg V.int z)
          walk_at "st"
          refine qn ?_ _ e
          unfold dueF
          rw [if_neg fun z => hz z.2.1]
        · have hz : (mv.map (·.2)).sum = 0 := V.int.inj (ndec_f h)
          have ha4 := SqL.of (K := K) (hT.same e).lst
          walk_at "st"
          refine for_list (K := K) (a := a) (xs := ps.map V.ref) (fun i σ H4 => ∃ v3 v5 : Option V, σ = [some (.ref B), some (.ref a), some (.ref A), v3, some (.int (mv.map (·.2)).sum), v5] ∧ H4 = H' ∧ ∀ m, m ∈ mv.take i → m.1 ≠ "bank" → 0 ≤ gD (addM bs mv) m.1)
            ⟨_, _, rfl, rfl, fun m hm => by rw [List.take_zero] at hm; cases hm⟩ (fun i σ H4 _ ⟨_, _, _, e, _⟩ => by rw [e]; exact ha4) ?_ ?_
          · rintro i y σ H4 hy ⟨w3, w5, rfl, rfl, hov⟩
            obtain ⟨p, m0, hp, hm0, rfl, hpr⟩ := (hT.same e).item hy
            obtain ⟨m, hmi, rfl⟩ : ∃ m, mv[i]? = some m ∧ m0 = (m.1, V.int m.2) := by
              unfold mvV at hm0
              rw [List.getElem?_map] at hm0
              cases h : mv[i]? with
              | none => rw [h] at hm0; cases hm0
              | some m => rw [h] at hm0; exact ⟨m, rfl, (Option.some.inj hm0).symm⟩
            have hps : SqT K H4 p [.str m.1, .int m.2] := SqT.of hpr
            have htk := take_succ hmi
            have hmm := List.mem_of_getElem? hmi
            have g1 := dget_at hA' (show m.1 ∈ keysS (addM bs mv) by rw [hk1]; exact hin m hmm)
            have nxt : (m.1 ≠ "bank" → 0 ≤ gD (addM bs mv) m.1) → ∀ w, w ∈ mv.take (i + 1) → w.1 ≠ "bank" → 0 ≤ gD (addM bs mv) w.1 := fun hh w hw => by
              rw [htk] at hw
              rcases List.mem_append.mp hw with z | z
              · exact hov w z
              · rw [List.mem_singleton.mp z]
                exact hh
            walk_at "st"
            refine iteB (fun h1 => ?_) (fun h1 => ?_)
            · have hnb : m.1 ≠ "bank" := fun z => (ndec_t h1) (congrArg V.str z)
              walk_at "st"
              refine iteD (fun h2 => ?_) (fun h2 => ?_)
              · walk_at "st"
                refine qn ?_ _ e
                unfold dueF
                rw [if_neg fun z => absurd (z.2.2 m hmm hnb) (by omega)]
              · exact ⟨_, _, rfl, rfl, nxt fun _ => by omega⟩
            · exact ⟨_, _, rfl, rfl, nxt fun z => absurd (V.str.inj (ndec_f h1)) z⟩
          · rintro σ H4 ⟨w3, w5, rfl, rfl, hov⟩
            rw [List.length_map, hTl, List.take_of_length_le (Nat.le_refl _)] at hov
            walk_at "st"
            refine q (addM bs mv) ?_ A H4 e nA hA'
            unfold dueF
            rw [if_pos ⟨hin, hz, hov⟩]
def sp_law_told (K : PySem.W.Frag) (C : Addr) : Sp := fun vs H Q _ => ∃ (x dx D1 D2 D3 L : Addr) (bs : List (Str × Int)) (ms : List (Str × Bool)) (ss : List (Str × Addr)) (rs : Str → List V) (en : List V), vs = [.ref x] ∧ Led C H x dx D1 D2 D3 L bs ms ss rs en ∧ keysS bs = K5 ∧ ∀ p H', Same H H' → H p = none → H' p = some (.dK (encD bs)) → Q (.ref p) H'
set_option maxHeartbeats 0 in
theorem ok_law_told (T : Txt K mg) : FnOk P w K mg base CX0 3 T.f_law_told T.d_law_told ["ledger"] (sp_law_told K T.c_Ledger) := by
  refine T.F_law_told.ok sc_law_told (fun vs H Q E h => ?_) (fun cdv A outer s H vs Q E hr h => ?_)
  · obtain ⟨x, dx, D1, D2, D3, L, bs, ms, ss, rs, en, rfl, _⟩ := h
    rfl
  · obtain ⟨x, dx, D1, D2, D3, L, bs, ms, ss, rs, en, rfl, B, hk, q⟩ := h
    have G_law_names : FnOk P w K mg base CX0 1 T.f_law_names T.d_law_names [] (sp_law_names K) := ok_law_names T
    have G_Ledger_balance : FnOk P w K mg base (L2.CX P w) 2 T.f_Ledger_balance T.d_Ledger_balance ["self", "name"] (sp_Ledger_balance K T.c_UnknownName T.c_Ledger) := ok_Ledger_balance T
    refine ⟨_, (pss_cons (ps_set (i := 1) sc_law_told.nd rfl (Or.inl rfl) pe_dnewK)
    (pss_cons (ps_for PassesOwn.never rfl (pi_list (pe_call0 G_law_names (hr.mono (by decide)) (by rfl) T.m_law_names T.F_law_names.kp T.b_law_names .nil pass0)) (pg_name (i := 2) sc_law_told.nd rfl (Or.inl rfl))
      (pss_one (ps_dput (hu_of hr) (pv 1) (pv 2) (pe_mx (pv 0) T.cl_Ledger T.mt_Ledger_balance G_Ledger_balance hr T.b_Ledger_balance .nil (fun _ => passLat) (pa_cons (pv 2) pa_nil)) rfl)))
    (pss_one (ps_ret (pv 1))))), ?_⟩
    have fact_Ledger_0 := T.cl_Ledger; have fact_Ledger_1 := T.na_Ledger__balances; have fact_Ledger_2 := T.na_Ledger__may_owe; have fact_Ledger_3 := T.na_Ledger__statements; have fact_Ledger_4 := T.na_Ledger__entries
    have hbl : bs.length = 5 := by
      have := congrArg List.length hk
      unfold keysS at this
      rw [List.length_map] at this
      exact this
    walk_at "st"
    intro A nA
    generalize hH1 : upd H A _ = H1
    have s1 : Same H H1 := hH1 ▸ same_upd nA
    have hA := (congrFun hH1 A).symm.trans upd_same
    walk_at "st"
    intro N nN
    generalize hH2 : upd H1 N _ = H2
    have s2 : Same H1 H2 := hH2 ▸ same_upd nN
    have hN := (congrFun hH2 N).symm.trans upd_same
    have nAN : A ≠ N := ne_of_none hA nN
    have s02 := s1.trans s2
    walk_at "st"
    refine for_list (K := K) (a := N) (xs := K5.map V.str) (fun i σ H' => ∃ v2 : Option V, σ = [some (.ref x), some (.ref A), v2] ∧ H' = upd H2 A (.dK (encD (bs.take i))))
      ⟨none, rfl, funext fun z => ?_⟩ (fun i σ H' _ ⟨_, _, e⟩ => by rw [e]; exact SqL.of ((upd_ne nAN.symm).trans hN)) ?_ ?_
    · by_cases h : z = A
      · rw [h, upd_same]
        exact s2 _ _ hA
      · exact (upd_ne h).symm
    · rintro i y σ H' hy ⟨v2, rfl, rfl⟩
      rw [List.getElem?_map] at hy
      cases hn : K5[i]? with
      | none => rw [hn] at hy; cases hy
      | some n =>
        rw [hn] at hy
        have hyn : V.str n = y := Option.some.inj hy
        subst hyn
        obtain ⟨hp, hib⟩ := told_step hk hn
        have hnk : n ∈ keysS bs := by rw [hk]; exact List.mem_of_getElem? hn
        have su : Same H (upd H2 A (.dK (encD (bs.take i)))) := fun z o hz => by
          rw [upd_ne (ne_of_none hz nA)]
          exact s02 _ _ hz
        have Bu := B.same su
        have hobu := Bu.ob
        walk_at "st"
        refine ⟨bs, ms, ss, rs, en, n, rfl, Bu, fun _ => ?_, fun h => absurd hnk h⟩
        walk_at "st"
        refine dput_go (d := bs.take i) upd_same (by rw [List.length_take]; omega) ?_
        rw [upd_upd, hp]
        exact ⟨_, rfl, rfl⟩
    · rintro σ H' ⟨v2, rfl, rfl⟩
      rw [show (K5.map V.str).length = bs.length by rw [hbl]; rfl, List.take_of_length_le (Nat.le_refl _)]
      walk_at "st"
      refine q A _ (fun z o hz => ?_) nA upd_same
      rw [upd_ne (ne_of_none hz nA)]
      exact s02 _ _ hz
/-! ### what a statement must tell -/
def hasM (mv : List (Str × Int)) (n : Str) : Bool := decide (n ∈ mv.map (·.1))
def stepR (n : Str) (r : List (Int × Int × Int) × Int × Nat) (m : List (Str × Int)) : List (Int × Int × Int) × Int × Nat :=
  if hasM m n = true then (r.1 ++ [((r.2.2 : Int) + 1, sumM m n, r.2.1 + sumM m n)], r.2.1 + sumM m n, r.2.2 + 1) else (r.1, r.2.1, r.2.2 + 1)
def accF (n : Str) (es : List (List (Str × Int))) : List (Int × Int × Int) × Int × Nat := es.foldl (stepR n) ([], 0, 0)
theorem accF_snoc (n : Str) (es : List (List (Str × Int))) (m : List (Str × Int)) : accF n (es ++ [m]) = stepR n (accF n es) m := by
  unfold accF
  rw [List.foldl_append]
  rfl
theorem stepR_yes {n : Str} {r : List (Int × Int × Int) × Int × Nat} {m : List (Str × Int)} (h : hasM m n = true) : stepR n r m = (r.1 ++ [((r.2.2 : Int) + 1, sumM m n, r.2.1 + sumM m n)], r.2.1 + sumM m n, r.2.2 + 1) := if_pos h
theorem stepR_no {n : Str} {r : List (Int × Int × Int) × Int × Nat} {m : List (Str × Int)} (h : ¬ hasM m n = true) : stepR n r m = (r.1, r.2.1, r.2.2 + 1) := if_neg h
theorem stepR_num (n : Str) (r : List (Int × Int × Int) × Int × Nat) (m : List (Str × Int)) : (stepR n r m).2.2 = r.2.2 + 1 := by
  unfold stepR
  split <;> rfl
theorem accF_num (n : Str) (es : List (List (Str × Int))) : (accF n es).2.2 = es.length := by
  have key : ∀ (es : List (List (Str × Int))) (r : List (Int × Int × Int) × Int × Nat), (es.foldl (stepR n) r).2.2 = r.2.2 + es.length := by
    intro es
    induction es with
    | nil => intro r; rfl
    | cons m es ih =>
      intro r
      rw [List.foldl_cons, ih, stepR_num, List.length_cons]
      omega
  have := key es ([], 0, 0)
  rw [Nat.zero_add] at this
  exact this
theorem sumM_no {m : List (Str × Int)} {n : Str} (h : ¬ hasM m n = true) : sumM m n = 0 := by
  unfold sumM
  rw [List.filter_eq_nil_iff.mpr fun y hy => ?_]
  · rfl
  · intro z
    exact h (decide_eq_true (List.mem_map.mpr ⟨y, hy, of_decide_eq_true z⟩))
theorem stepR_bal (n : Str) (r : List (Int × Int × Int) × Int × Nat) (m : List (Str × Int)) : (stepR n r m).2.1 = r.2.1 + sumM m n := by
  by_cases h : hasM m n = true
  · rw [stepR_yes h]
  · rw [stepR_no h, sumM_no h]
    exact (Int.add_zero _).symm
def MovAt (H : Hp) (a : Addr) (m : List (Str × Int)) : Prop := ∃ ps, Tups encMv H a ps (mvV m)
def EntsAt (H : Hp) (E : Addr) (as : List Addr) (es : List (List (Str × Int))) : Prop := H E = some (.lst (as.map V.ref)) ∧ Paired (fun a m => MovAt H a m) as es
theorem mv_item {H : Hp} {a : Addr} {ps : List Addr} {mv : List (Str × Int)} {j : Nat} {y : V} (hT : Tups encMv H a ps (mvV mv)) (hy : (ps.map V.ref)[j]? = some y) : ∃ p m, mv[j]? = some m ∧ y = .ref p ∧ H p = some (.tup [.str m.1, .int m.2]) := by
  obtain ⟨p, m0, hp, hm0, rfl, hpr⟩ := hT.item hy
  unfold mvV at hm0
  rw [List.getElem?_map] at hm0
  cases h : mv[j]? with
  | none => rw [h] at hm0; cases hm0
  | some m =>
    rw [h] at hm0
    obtain rfl := Option.some.inj hm0
    exact ⟨p, m, rfl, rfl, hpr⟩
theorem mv_len {H : Hp} {a : Addr} {ps : List Addr} {mv : List (Str × Int)} (hT : Tups encMv H a ps (mvV mv)) : ps.length = mv.length := by
  rw [hT.len]
  unfold mvV
  rw [List.length_map]
theorem paired_at {α β : Type} {F : α → β → Prop} : ∀ {xs : List α} {ys : List β}, Paired F xs ys → ∀ {i : Nat} {y : β}, ys[i]? = some y → ∃ x, xs[i]? = some x ∧ F x y
  | _, _, .nil, i, y, h => by cases h
  | _, _, .cons r t, 0, y, h => by
    obtain rfl := Option.some.inj h
    exact ⟨_, rfl, r⟩
  | _, _, .cons r t, i + 1, y, h => paired_at t h
theorem paired_at2 {α β : Type} {F : α → β → Prop} : ∀ {xs : List α} {ys : List β}, Paired F xs ys → ∀ {i : Nat} {x : α}, xs[i]? = some x → ∃ y, ys[i]? = some y ∧ F x y
  | _, _, .nil, i, x, h => by cases h
  | _, _, .cons r t, 0, x, h => by
    obtain rfl := Option.some.inj h
    exact ⟨_, rfl, r⟩
  | _, _, .cons r t, i + 1, x, h => paired_at2 t h
def sp_law_statement (K : PySem.W.Frag) : Sp := fun vs H Q _ => ∃ (E : Addr) (n : Str) (as : List Addr) (es : List (List (Str × Int))), vs = [.ref E, .str n] ∧ EntsAt H E as es ∧ es.length ≤ 100 ∧ (∀ m, m ∈ es → m.length ≤ 100) ∧
  ∀ p H' ts, Same H H' → H p = none → Tups enc3 H' p ts (accF n es).1 → Q (.ref p) H'
set_option maxHeartbeats 0 in
theorem ok_law_statement (T : Txt K mg) : FnOk P w K mg base CX0 1 T.f_law_statement T.d_law_statement ["entries", "name"] (sp_law_statement K) := by
  refine T.F_law_statement.ok sc_law_statement (fun vs H Q E h => ?_) (fun cdv A outer s H vs Q E hr h => ?_)
  · obtain ⟨E, n, as, es, rfl, _⟩ := h
    rfl
  · obtain ⟨E, n, as, es, rfl, hE, hel, hml, q⟩ := h
    
    refine ⟨_, (pss_cons (ps_set (i := 2) sc_law_statement.nd rfl (Or.inl rfl) (pe_lst pa_nil))
    (pss_cons (ps_set (i := 3) sc_law_statement.nd rfl (Or.inl rfl) pe_int)
    (pss_cons (ps_for PassesOwn.never rfl (pi_enum (by rfl) T.z_enumerate (pa_cons (pv 0) pa_nil)) (pg_tup rfl (pgs_cons (pg_name (i := 4) sc_law_statement.nd rfl (Or.inl rfl)) (pgs_cons (pg_name (i := 5) sc_law_statement.nd rfl (Or.inl rfl)) pgs_nil)))
      (pss_one (ps_if (pt_cmpR op_in_seq (pv 1) (pe_lc (own := [("moved", 6), ("amount", 7)]) (tt := tYes) rfl sc_law_statement.nd (pi_list (pv 5)) (blkOk_by (own := [("moved", 6), ("amount", 7)]) (N := N_law_statement) (sc := defScope s_law_statement) (by decide +kernel)) (fun _ _ _ _ _ => (show PG _ _ (gTup K 2 (gCons (gName 6) (gCons (gName 7) gNil))) from (pg_tup rfl (pgs_cons (pg_name (i := 6) sc_law_statement.nd rfl (Or.inl rfl)) (pgs_cons (pg_name (i := 7) sc_law_statement.nd rfl (Or.inl rfl)) pgs_nil))))) (fun _ _ _ _ _ => pts_nil) (fun _ _ _ _ _ => (pv 6))) rfl)
        (pss_cons (ps_set (i := 7) sc_law_statement.nd rfl (Or.inl rfl) (pe_callB (cr_sum rfl) (by rfl) T.z_sum (by decide +kernel) (pa_cons (pe_lc (own := [("moved", 6), ("amount", 7)]) rfl sc_law_statement.nd (pi_list (pv 5)) (blkOk_by (own := [("moved", 6), ("amount", 7)]) (N := N_law_statement) (sc := defScope s_law_statement) (by decide +kernel)) (fun _ _ _ _ _ => (show PG _ _ (gTup K 2 (gCons (gName 6) (gCons (gName 7) gNil))) from (pg_tup rfl (pgs_cons (pg_name (i := 6) sc_law_statement.nd rfl (Or.inl rfl)) (pgs_cons (pg_name (i := 7) sc_law_statement.nd rfl (Or.inl rfl)) pgs_nil))))) (fun _ _ _ _ _ => pts_one (pt_cmpR op_eq (pv 6) (pv 1) (nomark _))) (fun _ _ _ _ _ => (pv 7))) pa_nil)))
        (pss_cons (ps_set (i := 3) sc_law_statement.nd rfl (Or.inl rfl) (pe_op op_add (pv 3) (pv 7)))
        (pss_one (ps_expr (pe_bm PySem.F.plainAttrs_list PySem.F.slot_list_append PySem.F.type_list_append mt_append (pv 2) (pa_cons (pe_tup (pa_cons (pe_op op_add (pv 4) pe_int) (pa_cons (pv 7) (pa_cons (pv 3) pa_nil)))) pa_nil))))))
        pss_nil)))
    (pss_one (ps_ret (pv 2)))))), ?_⟩
    walk_at "st"
    intro R nR
    generalize hH1 : upd H R _ = H1
    have s1 : Same H H1 := hH1 ▸ same_upd nR
    have hR := (congrFun hH1 R).symm.trans upd_same
    have hE1 := SqL.of (K := K) (s1 _ _ hE.1)
    have hal : as.length = es.length := Paired.length hE.2
    walk_at "st"
    refine for_enum (a := E) (xs := as.map V.ref) (fun i σ H' => ∃ (v4 v5 v6 v7 : Option V) (ts : List Addr), σ = [some (.ref E), some (.str n), some (.ref R), some (.int (accF n (es.take i)).2.1), v4, v5, v6, v7] ∧ Same H H' ∧ Tups enc3 H' R ts (accF n (es.take i)).1 ∧ ts.length ≤ i)
      ⟨none, none, none, none, [], rfl, s1, .nil hR, Nat.le_refl _⟩ (fun i σ H' _ ⟨_, _, _, _, _, _, e, _⟩ => e.seq (SqL.of hE.1)) ?_ ?_
    · rintro i y σ H' U hy ⟨v4, v5, v6, v7, ts, rfl, e, hT, hl⟩ nU
      rw [List.getElem?_map] at hy
      cases hai : as[i]? with
      | none => rw [hai] at hy; cases hy
      | some ai =>
        rw [hai] at hy
        obtain rfl := Option.some.inj hy
        obtain ⟨mv, hmi, ps, hm⟩ := paired_at2 hE.2 hai
        have hi := (List.getElem?_eq_some_iff.mp hmi).1
        have hml2 := hml mv (List.mem_of_getElem? hmi)
        have htk := take_succ hmi
        have hacc : accF n (es.take (i + 1)) = stepR n (accF n (es.take i)) mv := by rw [htk, accF_snoc]
        have hnum : (accF n (es.take i)).2.2 = i := by rw [accF_num, List.length_take]; omega
        generalize hH2 : upd H' U _ = H2
        have s2 : Same H' H2 := hH2 ▸ same_upd nU
        have hU2 := SqT.of (K := K) ((congrFun hH2 U).symm.trans upd_same)
        have e2 := e.trans s2
        have hm2 := hm.same e2
        have hai2 := SqL.of (K := K) hm2.lst
        have hT2 := hT.same s2
        have hpl := mv_len hm
        walk_at "st"
        intro C nC
        refine lc_list (K := K) (a := ai) (xs := ps.map V.ref) (fun j H3 => H3 = upd H2 C (.lst (((mv.take j).map (·.1)).map V.str)))
          rfl (fun j H3 _ e => by rw [e]; exact (same_upd nC).seq hai2) ?_ ?_
        · rintro j y H3 hy rfl
          obtain ⟨p, m, hmj, rfl, hpr⟩ := mv_item hm2 hy
          have hj := (List.getElem?_eq_some_iff.mp hmj).1
          have hps := SqT.of (K := K) ((same_upd (o := HO.lst (((mv.take j).map (·.1)).map V.str)) nC) _ _ hpr)
          have hlt : (((mv.take j).map (·.1)).map V.str).length < sizeLine := small1000 (by rw [List.length_map, List.length_map, List.length_take]; omega)
          walk_at "st"
          rw [upd_upd, take_succ hmj, List.map_append, List.map_append]
          rfl
        · rintro H3 rfl
          rw [List.length_map, hpl, List.take_of_length_le (Nat.le_refl _)]
          have hC := SqL.of (K := K) (H := upd H2 C (.lst ((mv.map (·.1)).map V.str))) (a := C) upd_same
          have sC := same_upd (o := HO.lst ((mv.map (·.1)).map V.str)) nC
          generalize upd H2 C _ = H3 at *
          have e3 := e2.trans sC
          have hT3 := hT2.same sC
          have hm3 := hm2.same sC
          have hai3 := SqL.of (K := K) hm3.lst
          have hib : inV (V.str n) ((mv.map (·.1)).map V.str) = decide (n ∈ mv.map (·.1)) := inV_strs _ _
          walk_at "st"
          refine ⟨flat_strs _, ?_⟩
          rw [if_neg (show ¬ false = true from Bool.false_ne_true), hib]
          refine ⟨_, rfl, iteB (fun h => ?_) (fun h => ?_)⟩
          · have hsr : stepR n (accF n (es.take i)) mv = _ := stepR_yes h
            rw [hnum] at hsr
            walk_at "st"
            intro C2 nC2
            refine lc_list (K := K) (a := ai) (xs := ps.map V.ref) (fun j H4 => H4 = upd H3 C2 (.lst ((((mv.take j).filter fun m => decide (m.1 = n)).map (·.2)).map V.int)))
              rfl (fun j H4 _ e => by rw [e]; exact (same_upd nC2).seq hai3) ?_ ?_
            · rintro j y H4 hy rfl
              obtain ⟨p, m, hmj, rfl, hpr⟩ := mv_item hm3 hy
              have hj := (List.getElem?_eq_some_iff.mp hmj).1
              have hps := SqT.of (K := K) ((same_upd (o := HO.lst ((((mv.take j).filter fun m => decide (m.1 = n)).map (·.2)).map V.int)) nC2) _ _ hpr)
              have hlt : ((((mv.take j).filter fun m => decide (m.1 = n)).map (·.2)).map V.int).length < sizeLine := small1000 (by
                have := List.length_filter_le (fun m : Str × Int => decide (m.1 = n)) (mv.take j)
                rw [List.length_take] at this
                rw [List.length_map, List.length_map]
                omega)
              walk_at "st"
              refine iteB (fun h => ?_) (fun h => ?_)
              · have hmn : m.1 = n := V.str.inj (dec_t h)
                walk_at "st"
                rw [upd_upd, take_succ hmj, List.filter_append, List.map_append, List.map_append]
                rw [show List.filter (fun m : Str × Int => decide (m.1 = n)) [m] = [m] by rw [List.filter_cons, if_pos (decide_eq_true hmn), List.filter_nil]]
                rfl
              · have hmn : ¬ m.1 = n := fun z => dec_f h (congrArg V.str z)
                rw [take_succ hmj, List.filter_append]
                rw [show List.filter (fun m : Str × Int => decide (m.1 = n)) [m] = [] by rw [List.filter_cons, if_neg (by rw [decide_eq_false hmn]; exact Bool.false_ne_true), List.filter_nil], List.append_nil]
            · rintro H4 rfl
              rw [List.length_map, hpl, List.take_of_length_le (Nat.le_refl _)]
              have hC2 := SqL.of (K := K) (H := upd H3 C2 (.lst (((mv.filter fun m => decide (m.1 = n)).map (·.2)).map V.int))) (a := C2) upd_same
              have sC2 := same_upd (o := HO.lst (((mv.filter fun m => decide (m.1 = n)).map (·.2)).map V.int)) nC2
              generalize upd H3 C2 _ = H4 at *
              have e4 := e3.trans sC2
              have hT4 := hT3.same sC2
              have hL4 := hT4.lst
              have hltR : (ts.map V.ref).length < sizeLine := small1000 (by rw [List.length_map]; omega)
              walk_at "st"
              intro t nt
              have ntR : R ≠ t := ne_of_none hL4 nt
              have hL5 := (upd_ne (o := HO.tup [V.int ((i : Int) + 1), V.int ((mv.filter fun m => decide (m.1 = n)).map (·.2)).sum, V.int ((accF n (es.take i)).2.1 + ((mv.filter fun m => decide (m.1 = n)).map (·.2)).sum)]) ntR).trans hL4
              walk_at "st"
              rw [hacc, hsr]
              refine ⟨_, _, _, _, ts ++ [t], rfl, fun z o hz => ?_, ?_, by rw [List.length_append]; show ts.length + 1 ≤ i + 1; omega⟩
              · rw [upd_ne (ne_of_none hz nR), upd_ne (ne_of_none (e4 _ _ hz) nt)]
                exact e4 _ _ hz
              · exact hT4.push (same_upd nt) nt upd_same
          · have hsr := stepR_no (n := n) (r := accF n (es.take i)) (m := mv) (by unfold hasM; rw [h]; exact Bool.false_ne_true)
            rw [hacc, hsr]
            exact ⟨_, _, _, _, ts, rfl, e3, hT3, by omega⟩
    · rintro σ H' ⟨v4, v5, v6, v7, ts, rfl, e, hT, hl⟩
      rw [List.length_map, hal, List.take_of_length_le (Nat.le_refl _)] at hT
      walk_at "st"
      exact q R H' ts e nR hT
def sp_Ledger_accounts (K : PySem.W.Frag) (C : Addr) : Sp := fun vs H Q _ => ∃ (x dx D1 D2 D3 L : Addr) (bs : List (Str × Int)) (ms : List (Str × Bool)) (ss : List (Str × Addr)) (rs : Str → List V) (en : List V), vs = [.ref x] ∧ Led C H x dx D1 D2 D3 L bs ms ss rs en ∧ bs.length < 64 ∧ ∀ ys p, ys.Perm (keysS bs) → sortedS ys = true → H p = none → Q (.ref p) (upd H p (.lst (ys.map V.str)))
set_option maxHeartbeats 0 in
theorem ok_Ledger_accounts (T : Txt K mg) : FnOk P w K mg base CX0 1 T.f_Ledger_accounts T.d_Ledger_accounts ["self"] (sp_Ledger_accounts K T.c_Ledger) := by
  refine T.F_Ledger_accounts.ok sc_Ledger_accounts (fun vs H Q E h => ?_) (fun cdv A outer s H vs Q E hr h => ?_)
  · obtain ⟨x, dx, D1, D2, D3, L, bs, ms, ss, rs, en, rfl, _⟩ := h
    rfl
  · obtain ⟨x, dx, D1, D2, D3, L, bs, ms, ss, rs, en, rfl, B, hl, q⟩ := h
    
    refine ⟨_, (pss_one (ps_ret (pe_callB (call_sortedD rfl) (by rfl) T.z_sorted (by decide +kernel) (pa_cons (pe_fld (pv 0) rfl) pa_nil)))), ?_⟩
    have fact_Ledger_0 := T.cl_Ledger; have fact_Ledger_1 := T.na_Ledger__balances; have fact_Ledger_2 := T.na_Ledger__may_owe; have fact_Ledger_3 := T.na_Ledger__statements; have fact_Ledger_4 := T.na_Ledger__entries
    have hob := B.ob
    walk_at "st"
    refine ⟨_, keysS bs, rfl, .inl B.b, keys_enc bs, by unfold keysS; rw [List.length_map]; exact hl, ?_⟩
    walk_at "st"
    exact q

/-! ### where the law's ledger stands -/
def M5 : List (Str × Bool) := [("bank", true), ("till", false), ("safe", false), ("desk", false), ("tray", false)]
theorem may5 {n : Str} (h : n ∈ K5) : mayF M5 n = decide (n = "bank") := by
  have key : ∀ n, n ∈ K5 → mayF M5 n = decide (n = "bank") := by decide +kernel
  exact key n h
theorem due_none {bs mv d : List (Str × Int)} (h : dueF bs mv = none) (hs : scanS K5 (mvV mv) [] = .ok d) (hz : (d.map (·.2)).sum = 0) (ho : overF bs M5 d = false) : False := by
  have hin : ∀ m, m ∈ mv → m.1 ∈ K5 := fun m hm => by
    by_cases z : m.1 ∈ K5
    · exact z
    · rw [scan_bad ⟨m, hm, z⟩] at hs
      cases hs
  rw [scan_add hin] at hs
  cases hs
  rw [addM_sum (d := []) List.nodup_nil] at hz
  have hz2 : (mv.map (·.2)).sum = 0 := by
    have h0 : (([] : List (Str × Int)).map (·.2)).sum = 0 := rfl
    omega
  have h3 : ∀ m, m ∈ mv → m.1 ≠ "bank" → 0 ≤ gD (addM bs mv) m.1 := fun m hm hb => by
    unfold overF at ho
    rw [List.any_eq_false] at ho
    have hk : m.1 ∈ keysS (addM [] mv) := addM_mem.mpr (.inr ⟨m, hm, rfl⟩)
    obtain ⟨y, hy, hy1, hy2⟩ := find_key hk
    have hg : gD (addM [] mv) m.1 = y.2 := by
      unfold gD getS
      rw [hy2]
      rfl
    have h1 := ho y hy
    rw [hy1, may5 (hin m hm), decide_eq_false hb] at h1
    rw [gD_addM] at hg ⊢
    have h0 : gD [] m.1 = 0 := rfl
    by_cases z : gD bs m.1 + y.2 < 0
    · exact absurd (by rw [decide_eq_true z]; rfl) h1
    · omega
  unfold dueF at h
  rw [if_pos ⟨hin, hz2, h3⟩] at h
  cases h
theorem due_some {bs mv d : List (Str × Int)} (h : dueF bs mv = some d) (hk : keysS bs = K5) : d = addM bs mv ∧ (∀ m, m ∈ mv → m.1 ∈ K5) ∧ scanS K5 (mvV mv) [] = .ok (addM [] mv) ∧ ((addM [] mv).map (·.2)).sum = 0 ∧ overF bs M5 (addM [] mv) = false ∧ postB bs (addM [] mv) = addM bs mv ∧ (mv.map (·.2)).sum = 0 := by
  unfold dueF at h
  split at h
  · next hh =>
    obtain ⟨hin, hz, ho⟩ := hh
    have hnd : (keysS (addM [] mv)).Nodup := addM_nodup List.nodup_nil
    have hsub : ∀ k, k ∈ keysS (addM [] mv) → k ∈ K5 := fun k hk => by
      rcases addM_mem.mp hk with z | ⟨m, hm, e⟩
      · cases z
      · rw [← e]
        exact hin m hm
    have hkb : keysS (addM bs mv) = K5 := by rw [addM_keys fun m hm => by rw [hk]; exact hin m hm, hk]
    refine ⟨(Option.some.inj h).symm, hin, scan_add hin, ?_, ?_, ?_, hz⟩
    · rw [addM_sum (d := []) List.nodup_nil, hz]
      rfl
    · unfold overF
      rw [List.any_eq_false]
      intro y hy
      have hyk : y.1 ∈ keysS (addM [] mv) := List.mem_map.mpr ⟨y, hy, rfl⟩
      have hg : gD (addM [] mv) y.1 = y.2 := by
        obtain ⟨w, hw, hw1, hw2⟩ := find_key hyk
        have : w = y := nodup_fst hnd hw hy hw1
        unfold gD getS
        rw [hw2, this]
        rfl
      rw [may5 (hsub _ hyk)]
      by_cases hb : y.1 = "bank"
      · rw [decide_eq_true hb]
        simp
      · rcases addM_mem.mp hyk with z | ⟨m, hm, e⟩
        · cases z
        · have := ho m hm (by rw [e]; exact hb)
          rw [e, gD_addM] at this
          rw [gD_addM] at hg
          have h0 : gD [] y.1 = 0 := rfl
          rw [decide_eq_false (show ¬ gD bs y.1 + y.2 < 0 by omega)]
          exact Bool.false_ne_true
    · refine assoc_ext ?_ ?_ fun n => ?_
      · rw [postB_keys (fun k h => by rw [hk]; exact hsub k h), hk, hkb]
      · rw [postB_keys (fun k h => by rw [hk]; exact hsub k h), hk]
        decide +kernel
      · rw [gD_post hnd, gD_addM, gD_addM]
        have h0 : gD [] n = 0 := rfl
        omega
  · cases h
theorem MovAt.same {H H' : Hp} {a : Addr} {m : List (Str × Int)} (h : MovAt H a m) (e : Same H H') : MovAt H' a m := by
  obtain ⟨ps, h⟩ := h
  exact ⟨ps, h.same e⟩
/-- a heap that grew, but for places that are no tuples -/
theorem MovAt.fr {H H' : Hp} {a : Addr} {m : List (Str × Int)} (h : MovAt H a m) (ha : ∀ o, H a = some o → H' a = some o) (ht : ∀ p xs, H p = some (.tup xs) → H' p = some (.tup xs)) : MovAt H' a m := by
  obtain ⟨ps, h⟩ := h
  exact ⟨ps, ha _ h.lst, h.len, fun i p x h1 h2 => ht p _ (h.row i p x h1 h2)⟩
structure St70 (C : Addr) (H : Hp) (x dx D1 D2 D3 L B E : Addr) (bs : List (Str × Int)) (ss : List (Str × Addr)) (rs : Str → List V) (en : List V) (as : List Addr) (es : List (List (Str × Int))) : Prop where
  led : Led C H x dx D1 D2 D3 L bs M5 ss rs en
  kb : keysS bs = K5
  hB : H B = some (.dK (encD bs))
  nB : B ≠ D1
  hE : H E = some (.lst (as.map V.ref))
  ents : Paired (fun a m => MovAt H a m ∧ a ≠ L ∧ a ≠ E ∧ ∀ y, y ∈ ss → y.2 ≠ a) as es
  nE : E ≠ L ∧ ∀ y, y ∈ ss → y.2 ≠ E
  mens : Paired (fun v m => ∃ M, v = V.ref M ∧ MovAt H M m ∧ M ≠ L ∧ M ≠ E ∧ ∀ y, y ∈ ss → y.2 ≠ M) en es
  st : ∀ n, n ∈ K5 → ∃ ts, rs n = ts.map V.ref ∧ Paired (fun (t : Addr) (r : Int × Int × Int) => H t = some (.tup (enc3 r))) ts (accF n es).1
  bal : ∀ n, n ∈ K5 → gD bs n = (accF n es).2.1
  sum : (bs.map (·.2)).sum = 0
  ml : ∀ m, m ∈ es → m.length ≤ 4 ∧ ∀ y, y ∈ m → y.1 ∈ K5
theorem St70.same {C : Addr} {H H' : Hp} {x dx D1 D2 D3 L B E : Addr} {bs : List (Str × Int)} {ss : List (Str × Addr)} {rs : Str → List V} {en : List V} {as : List Addr} {es : List (List (Str × Int))} (h : St70 C H x dx D1 D2 D3 L B E bs ss rs en as es) (e : Same H H') : St70 C H' x dx D1 D2 D3 L B E bs ss rs en as es :=
  ⟨h.led.same e, h.kb, e _ _ h.hB, h.nB, e _ _ h.hE, paired_imp (fun a m k => ⟨k.1.same e, k.2⟩) h.ents, h.nE, paired_imp (fun v m ⟨M, k1, k2, k3⟩ => ⟨M, k1, k2.same e, k3⟩) h.mens, fun n hn => (h.st n hn).elim fun ts k => ⟨ts, k.1, paired_imp (fun t r z => e _ _ z) k.2⟩, h.bal, h.sum, h.ml⟩
/-- a good entry -/
theorem St70.post {C : Addr} {H H' : Hp} {x dx D1 D2 D3 L B E M : Addr} {bs mv : List (Str × Int)} {ss : List (Str × Addr)} {rs rs' : Str → List V} {en : List V} {as : List Addr} {es : List (List (Str × Int))} {pm : List Addr} (h : St70 C H x dx D1 D2 D3 L B E bs ss rs en as es) (hd : dueF bs mv = some (addM bs mv)) (hm4 : mv.length ≤ 4)
    (B' : Led C H' x dx D1 D2 D3 L (postB bs (addM [] mv)) M5 ss rs' (en ++ [.ref M])) (hM : Tups encMv H' M pm (mvV mv)) (nM : H M = none) (fr : FrL H H' D1 L ss) (hno : ∀ n, n ∉ keysS (addM [] mv) → rs' n = rs n)
    (hyes : ∀ y, y ∈ addM [] mv → ∃ t, rs' y.1 = rs y.1 ++ [V.ref t] ∧ H t = none ∧ H' t = some (.tup [.int ((en.length : Nat) + 1 : Int), .int y.2, .int (gD bs y.1 + y.2)]))
    {B2 a : Addr} (hB2 : H B2 = some (.dK (encD (addM bs mv)))) (nB2 : B2 ≠ D1) (ha : MovAt H a mv) (na : a ≠ L ∧ a ≠ E ∧ ∀ y, y ∈ ss → y.2 ≠ a) :
    St70 C (upd H' E (.lst ((as ++ [a]).map V.ref))) x dx D1 D2 D3 L B2 E (addM bs mv) ss rs' (en ++ [.ref M]) (as ++ [a]) (es ++ [mv]) := by
  obtain ⟨_, hin, hsc, hs0, hov, hpost, hz⟩ := due_some hd h.kb
  rw [hpost] at B'
  have ft : ∀ p xs, H p = some (.tup xs) → H' p = some (.tup xs) := fun p xs hp => fr p _ (fun z => by rw [z, h.led.b] at hp; cases hp) (fun z => by rw [z, h.led.e] at hp; cases hp) (fun y hy z => by rw [← z, h.led.st y hy] at hp; cases hp) hp
  have hE' : H' E = some (.lst (as.map V.ref)) := fr E _ (fun z => by have := h.hE; rw [z, h.led.b] at this; cases this) h.nE.1 h.nE.2 h.hE
  have up : ∀ p xs, H' p = some (.tup xs) → upd H' E (.lst ((as ++ [a]).map V.ref)) p = some (.tup xs) := fun p xs hp => (upd_ne fun z => by rw [z, hE'] at hp; cases hp).trans hp
  have mvk : ∀ {b : Addr} {m : List (Str × Int)}, MovAt H b m → b ≠ L → b ≠ E → (∀ y, y ∈ ss → y.2 ≠ b) → MovAt (upd H' E (.lst ((as ++ [a]).map V.ref))) b m := fun {b m} hb h1 h2 h3 =>
    hb.fr (fun o ho => (upd_ne h2).trans (fr b o (fun z => by obtain ⟨ps, k⟩ := hb; have := k.lst; rw [z, h.led.b] at this; cases this) h1 h3 ho)) fun p xs hp => up p xs (ft p xs hp)
  have oM := h.led.out nM
  have EM : E ≠ M := fun z => by have := h.hE; rw [z, nM] at this; cases this
  have hkb : keysS (addM bs mv) = K5 := by rw [addM_keys fun m hm => by rw [h.kb]; exact hin m hm, h.kb]
  have hlen : en.length = es.length := Paired.length h.mens
  have hgs : ∀ n, gD (addM [] mv) n = sumM mv n := fun n => by
    rw [gD_addM]
    have h0 : gD [] n = 0 := rfl
    omega
  refine ⟨⟨(upd_ne fun z => ?_).trans B'.ob, (upd_ne fun z => ?_).trans B'.b, (upd_ne fun z => ?_).trans B'.m, (upd_ne fun z => ?_).trans B'.s, (upd_ne h.nE.1.symm).trans B'.e, fun y hy => (upd_ne (h.nE.2 y hy)).trans (B'.st y hy), B'.km, B'.ks, B'.nd, B'.na, B'.nl, B'.ap, B'.sz⟩, hkb, ?_, nB2, upd_same, paired_snoc (paired_imp (fun b m k => ⟨mvk k.1 k.2.1 k.2.2.1 k.2.2.2, k.2⟩) h.ents) ⟨mvk ha na.1 na.2.1 na.2.2, na⟩, h.nE, paired_snoc (paired_imp (fun v m ⟨M', k1, k2, k3, k4, k5⟩ => ⟨M', k1, mvk k2 k3 k4 k5, k3, k4, k5⟩) h.mens) ⟨M, rfl, ⟨pm, (upd_ne EM.symm).trans hM.lst, hM.len, fun i p w h1 h2 => up p _ (hM.row i p w h1 h2)⟩, oM.2.2.2.2.1, EM.symm, oM.2.2.2.2.2⟩, fun n hn => ?_, fun n hn => ?_, ?_, fun m hm => ?_⟩
  · have := B'.ob; rw [z, hE'] at this; cases this
  · have := B'.b; rw [z, hE'] at this; cases this
  · have := B'.m; rw [z, hE'] at this; cases this
  · have := B'.s; rw [z, hE'] at this; cases this
  · have hb := fr B2 _ nB2 (fun z => by rw [z, h.led.e] at hB2; cases hB2) (fun y hy z => by rw [← z, h.led.st y hy] at hB2; cases hB2) hB2
    exact (upd_ne fun z => by rw [z, hE'] at hb; cases hb).trans hb
  · obtain ⟨ts, t1, t2⟩ := h.st n hn
    have old : Paired (fun (t : Addr) (r : Int × Int × Int) => upd H' E (.lst ((as ++ [a]).map V.ref)) t = some (.tup (enc3 r))) ts (accF n es).1 := paired_imp (fun t r z => up t _ (ft t _ z)) t2
    rw [accF_snoc]
    by_cases hh : hasM mv n = true
    · rw [stepR_yes hh, accF_num, ← h.bal n hn]
      obtain ⟨m, hm, hmn⟩ := List.mem_map.mp (of_decide_eq_true hh)
      have hk : n ∈ keysS (addM [] mv) := addM_mem.mpr (.inr ⟨m, hm, hmn⟩)
      obtain ⟨y, hy, hy1, hy2⟩ := find_key hk
      obtain ⟨t, u1, u2, u3⟩ := hyes y hy
      have hyv : y.2 = sumM mv n := by
        rw [← hgs n]
        unfold gD getS
        rw [hy2]
        rfl
      rw [hy1, t1] at u1
      rw [hy1, hyv, hlen] at u3
      exact ⟨ts ++ [t], by rw [u1, List.map_append]; rfl, paired_snoc old (up t _ u3)⟩
    · rw [stepR_no hh]
      have hk : n ∉ keysS (addM [] mv) := fun z => by
        rcases addM_mem.mp z with z | ⟨m, hm, e⟩
        · cases z
        · exact hh (decide_eq_true (List.mem_map.mpr ⟨m, hm, e⟩))
      exact ⟨ts, by rw [hno n hk, t1], old⟩
  · rw [accF_snoc, stepR_bal, ← h.bal n hn, gD_addM]
  · have hnd : (keysS bs).Nodup := by rw [h.kb]; decide +kernel
    rw [addM_sum hnd, h.sum, hz]
    rfl
  · rcases List.mem_append.mp hm with z | z
    · exact h.ml m z
    · rw [List.mem_singleton.mp z]
      exact ⟨hm4, hin⟩

theorem dp_strs {K : PySem.W.Frag} {H : Hp} : ∀ ys : List Str, DpAll K H (ys.map V.str) (ys.map PyData.str)
  | [] => .nil
  | y :: ys => .cons (.str y) (dp_strs ys)
theorem paired_tups {α : Type} {enc : α → List V} {H : Hp} {l : Addr} : ∀ {ts : List Addr} {xs : List α}, H l = some (.lst (ts.map V.ref)) → Paired (fun (t : Addr) (r : α) => H t = some (.tup (enc r))) ts xs → Tups enc H l ts xs := fun h p => ⟨h, Paired.length p, fun i t x h1 h2 => by
  obtain ⟨y, h3, h4⟩ := paired_at2 p h1
  rw [h2] at h3
  obtain rfl := Option.some.inj h3
  exact h4⟩
theorem paired_comp {α β γ : Type} {F : α → β → Prop} {G : β → γ → Prop} : ∀ {xs : List α} {ys : List β} {zs : List γ}, Paired F xs ys → Paired G ys zs → Paired (fun x z => ∃ y, F x y ∧ G y z) xs zs
  | _, _, _, .nil, .nil => .nil
  | _, _, _, .cons a b, .cons c d => .cons ⟨_, a, c⟩ (paired_comp b d)
def layMv (m : Str × Int) : PyData := .tuple [.str m.1, .int m.2]
theorem layD_Mv : LayD layMv 1 (fun m => PyData.strOk m.1 = true) := by
  refine ⟨fun x a => ?_, fun x => Nat.le_refl _, fun x y => ?_⟩
  · unfold layMv
    simp only [PyData.canLay0, PyData.canLayAll0, Bool.and_true]
    exact a
  · unfold layMv
    simp only [PyData.eqv, PyData.eqvAll, Bool.and_true, Bool.beq_eq_decide_eq]
    exact decide_and2 (by rw [Prod.ext_iff])
theorem mov_dp {K : PySem.W.Frag} {H : Hp} {a : Addr} {m : List (Str × Int)} (h : MovAt H a m) : Dp K H (.ref a) (.list (m.map layMv)) := by
  obtain ⟨ps, hT⟩ := h
  refine .lst (SqL.of hT.lst) (dpAll_refs (mv_len hT) fun i p x h1 h2 => ?_)
  have h3 := hT.row i p (x.1, V.int x.2) h1 (by unfold mvV; rw [List.getElem?_map, h2]; rfl)
  exact .tup (SqT.of h3) (.cons (.str _) (.cons (.int _) .nil))
theorem movs_dp {K : PySem.W.Frag} {H : Hp} {E : Addr} {as : List Addr} {es : List (List (Str × Int))} (h : H E = some (.lst (as.map V.ref))) (p : Paired (fun a m => MovAt H a m) as es) : Dp K H (.ref E) (.list (es.map fun m => .list (m.map layMv))) := by
  refine .lst (SqL.of h) (dpAll_refs (Paired.length p) fun i a m h1 h2 => ?_)
  obtain ⟨y, h3, h4⟩ := paired_at2 p h1
  rw [h2] at h3
  obtain rfl := Option.some.inj h3
  exact mov_dp h4
theorem k5_ok {n : Str} (h : n ∈ K5) : PyData.strOk n = true := by
  have key : ∀ n, n ∈ K5 → PyData.strOk n = true := by decide +kernel
  exact key n h
theorem told_val {bs : List (Str × Int)} {i : Nat} {n : Str} (h : keysS bs = K5) (hi : K5[i]? = some n) : ∃ y, bs[i]? = some y ∧ gD bs n = y.2 ∧ y.1 = n := by
  have hn : (keysS bs).Nodup := by rw [h]; decide +kernel
  rw [← h] at hi
  unfold keysS at hi
  rw [List.getElem?_map] at hi
  cases hb : bs[i]? with
  | none => rw [hb] at hi; cases hi
  | some y =>
    rw [hb] at hi
    have hy : y.1 = n := Option.some.inj hi
    subst hy
    obtain ⟨w, hw, hw1, hw2⟩ := find_key (l := bs) (s := y.1) (List.mem_map.mpr ⟨y, List.mem_of_getElem? hb, rfl⟩)
    have : w = y := nodup_fst hn hw (List.mem_of_getElem? hb) hw1
    refine ⟨y, rfl, ?_, rfl⟩
    unfold gD getS
    rw [hw2, this]
    rfl
theorem open_step : ∀ i, i < 4 → K5.take (i + 1 + 1) = K5.take (i + 1) ++ [K5.getD (i + 1) ""] ∧ M5.take (i + 1 + 1) = M5.take (i + 1) ++ [(K5.getD (i + 1) "", false)] ∧ K5.getD (i + 1) "" ∉ K5.take (i + 1) ∧ (K5.drop 1)[i]? = some (K5.getD (i + 1) "") := by decide +kernel
theorem val_self {bs : List (Str × Int)} (h : (keysS bs).Nodup) : ∀ p, p ∈ encD bs → valV (encD bs) p.1 = some p.2 ∧ flatB p.2 = true := fun p hp => by
  obtain ⟨y, hy, rfl⟩ := List.mem_map.mp hp
  refine ⟨?_, rfl⟩
  rw [valV_enc]
  obtain ⟨w, hw, hw1, hw2⟩ := find_key (l := bs) (s := y.1) (List.mem_map.mpr ⟨y, hy, rfl⟩)
  have : w = y := nodup_fst h hw hy hw1
  unfold getS
  rw [hw2, this]
  rfl
def sp_law (K : PySem.W.Frag) : Sp := fun vs H Q _ => ∃ (a : Addr) (ns : List Int), vs = [.ref a] ∧ SqL K H a (ns.map V.int) ∧ ns.length ≤ 63 ∧ ∀ H', Q (.bl true) H'
set_option maxHeartbeats 0 in
theorem ok_law {f : Addr} {fd : FuncData} (T : Txt K mg) (F : Fun K "law" "law" s_law f fd) : FnOk P w K mg base CX0 4 f fd ["script"] (sp_law K) := by
  refine F.ok sc_law (fun vs H Q E h => ?_) (fun cdv A outer s H vs Q E hr h => ?_)
  · obtain ⟨a, ns, rfl, _⟩ := h
    rfl
  · obtain ⟨a, ns, rfl, hs, hlen, q⟩ := h
    have G_Ledger_init : FnOk P w K mg base CX0 1 T.f_Ledger_init T.d_Ledger_init ["self"] (sp_Ledger_init K T.c_Ledger) := ok_Ledger_init T
    have G_Ledger_open_account : FnOk P w K mg base (L2.CX P w) 1 T.f_Ledger_open_account T.d_Ledger_open_account ["self", "name", "may_owe"] (sp_Ledger_open_account K T.c_DuplicateName T.c_Ledger) := ok_Ledger_open_account T
    have G_law_told : FnOk P w K mg base CX0 3 T.f_law_told T.d_law_told ["ledger"] (sp_law_told K T.c_Ledger) := ok_law_told T
    have G_law_names : FnOk P w K mg base CX0 1 T.f_law_names T.d_law_names [] (sp_law_names K) := ok_law_names T
    have G_law_moves : FnOk P w K mg base CX0 2 T.f_law_moves T.d_law_moves ["cell"] (sp_law_moves K) := ok_law_moves T
    have G_law_due : FnOk P w K mg base CX0 2 T.f_law_due T.d_law_due ["balances", "moves"] (sp_law_due K) := ok_law_due T
    have G_Ledger_post : FnOk P w K mg base (L2.CX P w) 3 T.f_Ledger_post T.d_Ledger_post ["self", "moves"] (sp_Ledger_post K T.c_UnknownName T.c_InvalidAmount T.c_Unbalanced T.c_Overdrawn T.c_Ledger) := ok_Ledger_post T
    have G_Ledger_statement : FnOk P w K mg base (L2.CX P w) 2 T.f_Ledger_statement T.d_Ledger_statement ["self", "name"] (sp_Ledger_statement K T.c_UnknownName T.c_Ledger) := ok_Ledger_statement T
    have G_law_statement : FnOk P w K mg base CX0 1 T.f_law_statement T.d_law_statement ["entries", "name"] (sp_law_statement K) := ok_law_statement T
    have G_Ledger_entries : FnOk P w K mg base CX0 1 T.f_Ledger_entries T.d_Ledger_entries ["self"] (sp_Ledger_entries K T.c_Ledger) := ok_Ledger_entries T
    have G_Ledger_accounts : FnOk P w K mg base CX0 1 T.f_Ledger_accounts T.d_Ledger_accounts ["self"] (sp_Ledger_accounts K T.c_Ledger) := ok_Ledger_accounts T
    have fact_Ledger_0 := T.cl_Ledger; have fact_Ledger_1 := T.na_Ledger__balances; have fact_Ledger_2 := T.na_Ledger__may_owe; have fact_Ledger_3 := T.na_Ledger__statements; have fact_Ledger_4 := T.na_Ledger__entries
    refine ⟨_, (pss_cons (ps_set (i := 1) sc_law.nd rfl (Or.inl rfl) (pe_make0 T.mk_Ledger G_Ledger_init (hr.mono (by decide)) (by rfl) T.m_Ledger T.b_Ledger_init .nil pass0))
    (pss_cons (ps_expr (pe_mk (pv 1) T.cl_Ledger T.mt_Ledger_open_account G_Ledger_open_account (hr.mono (by decide)) T.kb_Ledger_open_account_may_owe.choose_spec (fun _ => passLat) (pa_cons pe_str pa_nil) (pk_cons pe_bl pk_nil)))
    (pss_cons (ps_for PassesOwn.never rfl (pi_list (pe_slice sl_list (pe_call0 G_law_names (hr.mono (by decide)) (by rfl) T.m_law_names T.F_law_names.kp T.b_law_names .nil pass0) (po_some pe_int) po_none)) (pg_name (i := 2) sc_law.nd rfl (Or.inl rfl))
      (pss_one (ps_expr (pe_mx (pv 1) T.cl_Ledger T.mt_Ledger_open_account G_Ledger_open_account (hr.mono (by decide)) T.b_Ledger_open_account.choose_spec.2 T.b_Ledger_open_account.choose_spec.1 (fun _ => passLat) (pa_cons (pv 2) pa_nil)))))
    (pss_cons (ps_set (i := 3) sc_law.nd rfl (Or.inr rfl) (pe_call G_law_told hr (by rfl) T.m_law_told T.F_law_told.kp T.b_law_told .nil pass0 (pa_cons (pv 1) pa_nil)))
    (pss_cons (ps_set (i := 4) sc_law.nd rfl (Or.inl rfl) (pe_lst pa_nil))
    (pss_cons (ps_for PassesOwn.never rfl (pi_list (pe_slice sl_list (pv 0) po_none (po_some pe_int))) (pg_name (i := 5) sc_law.nd rfl (Or.inl rfl))
      (pss_cons (ps_set (i := 6) sc_law.nd rfl (Or.inl rfl) (pe_call G_law_moves (hr.mono (by decide)) (by rfl) T.m_law_moves T.F_law_moves.kp T.b_law_moves .nil pass0 (pa_cons (pv 5) pa_nil)))
      (pss_cons (ps_set (i := 7) sc_law.nd rfl (Or.inl rfl) (pe_call G_law_due (hr.mono (by decide)) (by rfl) T.m_law_due T.F_law_due.kp T.b_law_due .nil pass0 (pa_cons (pv 3) (pa_cons (pv 6) pa_nil))))
      (C8.pss_cut (ps_try_any rfl rfl sc_law.nd takes0
        (fun W pn xe tk _ => (pss_one (ps_set (i := 8) sc_law.nd rfl (Or.inl rfl) (pe_mx (pv 1) T.cl_Ledger T.mt_Ledger_post G_Ledger_post hr T.b_Ledger_post .nil (fun σ => passAt tk σ) (pa_cons (pe_callTy (show CallR _ (.type "list") (rListOf K) from call_list_of) (by rfl) T.z_list (by decide +kernel) (pa_cons (pv 6) pa_nil)) pa_nil)))))
        (.cons (.plain ⟨rfl, by decide, Or.inl T.m_BourseError⟩ (fun a oe cls d pn hz hf => (pss_one (ps_set (i := 8) sc_law.nd rfl (Or.inl rfl) pe_non))))
        .nil))
      (pss_cons (ps_if (pt_cmpR op_isN (pv 7) pe_non (nomark _))
        (pss_one (ps_if (pt_cmpR op_notN (pv 8) pe_non (nomark _))
          (pss_one (ps_ret pe_bl))
          pss_nil))
        (pss_cons (ps_expr (pe_bm PySem.F.plainAttrs_list PySem.F.slot_list_append PySem.F.type_list_append mt_append (pv 4) (pa_cons (pv 6) pa_nil)))
        (pss_cons (ps_set (i := 3) sc_law.nd rfl (Or.inr rfl) (pv 7))
        (pss_one (ps_if (pt_cmpR op_ne (pv 8) (pe_callB call_len_seq (by rfl) T.z_len PySem.boot_len (pa_cons (pv 4) pa_nil)) (nomark _))
          (pss_one (ps_ret pe_bl))
          pss_nil)))))
      (pss_one (ps_if (PW.pt (pw_or (pt_cmpR (op_ne_dictA (Nat.lt_of_succ_lt (hu_of hr))) (pe_call G_law_told hr (by rfl) T.m_law_told T.F_law_told.kp T.b_law_told .nil pass0 (pa_cons (pv 1) pa_nil)) (pv 3) (nomark _)) (pw_or1 (pt_cmpR op_ne (pe_callB (cr_sum rfl) (by rfl) T.z_sum (by decide +kernel) (pa_cons (pe_lc (own := [("name", 2)]) (g := gName 2) (tt := tYes) rfl sc_law.nd (pi_list (pe_call0 G_law_names (hr.mono (by decide)) (by rfl) T.m_law_names T.F_law_names.kp T.b_law_names .nil pass0)) (blkOk_by (own := [("name", 2)]) (N := N_law) (sc := defScope s_law) (by decide +kernel)) (fun _ _ _ _ _ => (pg_name (i := 2) sc_law.nd rfl (Or.inl rfl))) (fun _ _ _ _ _ => pts_nil) (fun _ _ _ _ _ => (pe_dget (hu_of hr) (pv 3) (pv 2) (fun _ _ => rfl)))) pa_nil)) pe_int (nomark _)))))
        (pss_one (ps_ret pe_bl))
        pss_nil)))))))
    (pss_cons (ps_for PassesOwn.never rfl (pi_list (pe_call0 G_law_names (hr.mono (by decide)) (by rfl) T.m_law_names T.F_law_names.kp T.b_law_names .nil pass0)) (pg_name (i := 2) sc_law.nd rfl (Or.inl rfl))
      (pss_one (ps_if (pt_cmpR (op_neD hr.units) (pe_mx (pv 1) T.cl_Ledger T.mt_Ledger_statement G_Ledger_statement (hr.mono (by decide)) T.b_Ledger_statement .nil (fun _ => passLat) (pa_cons (pv 2) pa_nil)) (pe_call G_law_statement (hr.mono (by decide)) (by rfl) T.m_law_statement T.F_law_statement.kp T.b_law_statement .nil pass0 (pa_cons (pv 4) (pa_cons (pv 2) pa_nil))) (nomark _))
        (pss_one (ps_ret pe_bl))
        pss_nil)))
    (pss_one (ps_ret (pe_and (pe_cmpR (op_eqD hr.units) (pe_meth0 (pv 1) T.cl_Ledger T.mt_Ledger_entries G_Ledger_entries (hr.mono (by decide)) T.b_Ledger_entries .nil pass0) (pv 4) (nomark _)) (pe_one (pe_cmpR (op_eqD hr.units) (pe_meth0 (pv 1) T.cl_Ledger T.mt_Ledger_accounts G_Ledger_accounts (hr.mono (by decide)) T.b_Ledger_accounts .nil pass0) (pe_callB cr_sortedS (by rfl) T.z_sorted (by decide +kernel) (pa_cons (pe_call0 G_law_names (hr.mono (by decide)) (by rfl) T.m_law_names T.F_law_names.kp T.b_law_names .nil pass0) pa_nil)) (nomark _))))))))))))), ?_⟩
    walk_at "st"
    intro x dx nx ndx nex
    have nx' : upd H dx (.own x) x = none := by
      first
        | (rw [upd_ne nex]; exact nx)
        | (rw [upd_ne (Ne.symm nex)]; exact nx)
    have s0 : Same H (upd (upd H dx (.own x)) x (.ins T.c_Ledger dx [])) := (same_upd ndx).trans (same_upd nx')
    refine ⟨x, dx, rfl, upd_same, fun D1 D2 D3 L H1 B1 k fre => ?_⟩
    have s1 : Same H H1 := fun z o hz => k z o (ne_of_none hz nx) (s0 z o hz)
    have nD : H D1 = none ∧ H D2 = none ∧ H D3 = none := ⟨s0.free fre.1, s0.free fre.2.1, s0.free fre.2.2⟩
    have keepD : ∀ {H' H'' : Hp}, Same H H' → (∀ z v, z ≠ D1 → z ≠ D2 → z ≠ D3 → H' z = some v → H'' z = some v) → Same H H'' := fun e f z v hz => f z v (ne_of_none hz nD.1) (ne_of_none hz nD.2.1) (ne_of_none hz nD.2.2) (e z v hz)
    refine ⟨rfl, ?_⟩
    have hob := B1.ob
    walk_at "st"
    refine ⟨[], [], [], _, [], "bank", true, rfl, B1, Nat.zero_le _, fun h => (by cases h), fun _ A1 H2 B2 nA1 f2 => ?_⟩
    walk_at "st"
    intro N nN
    generalize hH3 : upd H2 N _ = H3
    have s3 : Same H2 H3 := hH3 ▸ same_upd nN
    have hN : H3 N = some (.lst (K5.map V.str)) := (congrFun hH3 N).symm.trans upd_same
    have hNs := SqL.of (K := K) hN
    have B3 := B2.same s3
    walk_at "st"
    intro C nC
    generalize hH4 : upd H3 C _ = H4
    have s4 : Same H3 H4 := hH4 ▸ same_upd nC
    have hC : H4 C = some (.lst ((K5.drop 1).map V.str)) := (congrFun hH4 C).symm.trans upd_same
    have B4 := B3.same s4
    refine ⟨C, rfl, ⟨_, SqL.of hC⟩, ?_⟩
    refine for_list (K := K) (a := C) (xs := (K5.drop 1).map V.str) (fun i σ H' => ∃ (v2 : Option V) (ss : List (Str × Addr)) (rs : Str → List V), σ = [some (.ref a), some (.ref x), v2, none, none, none, none, none, none] ∧ Led T.c_Ledger H' x dx D1 D2 D3 L ((K5.take (i + 1)).map fun n => (n, 0)) (M5.take (i + 1)) ss rs [] ∧ H' C = some (.lst ((K5.drop 1).map V.str)) ∧ (∀ n, rs n = []) ∧ Same H H')
      ⟨none, _, _, rfl, B4, hC, fun n => by show (if n = "bank" then _ else _) = _; split <;> rfl, ((keepD s1 f2).trans s3).trans s4⟩ (fun i σ H' _ ⟨_, _, _, _, _, e, _⟩ => SqL.of e) ?_ ?_
    · rintro i y σ H' hy ⟨v2, ss, rs, rfl, B, hC', hrs, sH⟩
      have hi : i < 4 := by
        have := (List.getElem?_eq_some_iff.mp hy).1
        rw [List.length_map] at this
        exact this
      obtain ⟨k1, k2, k3, k4⟩ := open_step i hi
      rw [List.getElem?_map, k4] at hy
      have hyn : V.str (K5.getD (i + 1) "") = y := Option.some.inj hy
      rw [← hyn]
      generalize K5.getD (i + 1) "" = n at *
      have hob' := B.ob
      have hkk : keysS ((K5.take (i + 1)).map fun n => (n, (0 : Int))) = K5.take (i + 1) := by
        unfold keysS
        rw [List.map_map]
        exact List.map_id _
      walk_at "st"
      refine ⟨_, _, ss, rs, [], n, false, rfl, B, by rw [List.length_map, List.length_take]; omega, fun h => absurd (by rw [← hkk]; exact h) k3, fun _ A5 H5 B5 nA5 f5 => ?_⟩
      refine ⟨_, ss ++ [(n, A5)], fun k => if k = n then [] else rs k, rfl, ?_, f5 C _ (fun z => by rw [z, B.b] at hC'; cases hC') (fun z => by rw [z, B.m] at hC'; cases hC') (fun z => by rw [z, B.s] at hC'; cases hC') hC', fun k => ?_, keepD sH f5⟩
      · rw [k1, k2, List.map_append]
        exact B5
      · show (if k = n then [] else rs k) = []
        rw [hrs]
        split <;> rfl
    · rintro σ H' ⟨v2, ss, rs, rfl, B, hC', hrs, sH⟩
      change Led T.c_Ledger H' x dx D1 D2 D3 L [("bank", 0), ("till", 0), ("safe", 0), ("desk", 0), ("tray", 0)] M5 ss rs [] at B
      have hob' := B.ob
      walk_at "st"
      refine ⟨_, M5, ss, rs, [], rfl, B, rfl, fun Bp H6 e6 nBp hBp => ?_⟩
      have B6 := B.same e6
      have nBD : Bp ≠ D1 := fun z => by rw [z, B.b] at nBp; cases nBp
      walk_at "st"
      intro E nE
      generalize hH7 : upd H6 E _ = H7
      have s7 : Same H6 H7 := hH7 ▸ same_upd nE
      have hE7 := (congrFun hH7 E).symm.trans upd_same
      have oE := B6.out nE
      have S7 : St70 T.c_Ledger H7 x dx D1 D2 D3 L Bp E [("bank", 0), ("till", 0), ("safe", 0), ("desk", 0), ("tray", 0)] ss rs [] [] [] := ⟨B6.same s7, rfl, s7 _ _ hBp, nBD, hE7, .nil, ⟨oE.2.2.2.2.1, oE.2.2.2.2.2⟩, .nil, fun n _ => ⟨[], hrs n, .nil⟩, by decide +kernel, rfl, fun m hm => by cases hm⟩
      have hs7 := ((sH.trans e6).trans s7).seq hs
      walk_at "st"
      intro C2 nC2
      rw [cutV_ints]
      have hcl : (cutI ns none (some 30)).length ≤ 30 := by
        unfold cutI
        rw [HT.sIx_none, show (30 : Int) = ((30 : Nat) : Int) from rfl, HT.sIx_nat, List.length_take]
        omega
      generalize cutI ns none (some 30) = cs at hcl
      generalize hH8 : upd H7 C2 _ = H8
      have s8 : Same H7 H8 := hH8 ▸ same_upd nC2
      have hC2 := (congrFun hH8 C2).symm.trans upd_same
      have oC := S7.led.out nC2
      have nCE : C2 ≠ E := fun z => by rw [z, hE7] at nC2; cases nC2
      refine ⟨C2, rfl, ⟨_, SqL.of hC2⟩, ?_⟩
      refine for_list (K := K) (a := C2) (xs := cs.map V.int) (fun i σ H' => ∃ (v2 v5 v6 v7 v8 : Option V) (Bp : Addr) (bs : List (Str × Int)) (rs : Str → List V) (en : List V) (as : List Addr) (es : List (List (Str × Int))), σ = [some (.ref a), some (.ref x), v2, some (.ref Bp), some (.ref E), v5, v6, v7, v8] ∧ St70 T.c_Ledger H' x dx D1 D2 D3 L Bp E bs ss rs en as es ∧ H' C2 = some (.lst (cs.map V.int)) ∧ es.length ≤ i)
        ⟨_, _, _, _, _, Bp, _, rs, [], [], [], rfl, S7.same s8, hC2, Nat.le_refl _⟩ (fun i σ H' _ ⟨_, _, _, _, _, _, _, _, _, _, _, _, _, e, _⟩ => SqL.of e) ?_ ?_
      · rintro i y σ H' hy ⟨w2, w5, w6, w7, w8, Bp, bs, rs, en, as, es, rfl, S, hC2', hle⟩
        obtain ⟨c, hc, rfl⟩ := ints_at hy
        have hi := (List.getElem?_eq_some_iff.mp hc).1
        walk_at "st"
        intro a6 H6 ps6 mv6 e6 na6 hT6 hl6
        have S6 := S.same e6
        have teUnknownName := PySem.W.exm_ref T.b_BourseError T.d_BourseError T.t_BourseError T.su_UnknownName_BourseError
        have teInvalidAmount := PySem.W.exm_ref T.b_BourseError T.d_BourseError T.t_BourseError T.su_InvalidAmount_BourseError
        have teUnbalanced := PySem.W.exm_ref T.b_BourseError T.d_BourseError T.t_BourseError T.su_Unbalanced_BourseError
        have teOverdrawn := PySem.W.exm_ref T.b_BourseError T.d_BourseError T.t_BourseError T.su_Overdrawn_BourseError
        walk_at "st"
        refine ⟨bs, ps6, mv6, rfl, S6.hB, S6.kb, hT6, by omega, fun hd H9 e9 => ?_, fun d hd p9 H9 e9 np9 hp9 => ?_⟩
        · have S9 := S6.same e9
          have hT9 := hT6.same e9
          have hob9 := S9.led.ob
          have ha9 := SqL.of (K := K) hT9.lst
          have hen : en.length = es.length := Paired.length S.mens
          have hmvl : (mvV mv6).length = mv6.length := List.length_map ..
          have hbsl : bs.length = 5 := by
            have := congrArg List.length S.kb
            unfold keysS at this
            rw [List.length_map] at this
            exact this
          walk_at "st"
          refine ⟨fun σ' H10 => σ' = [some (.ref a), some (.ref x), w2, some (.ref Bp), some (.ref E), some (.int c), some (.ref a6), some .non, some .non] ∧ Same H9 H10, ?_, ?_⟩
          · walk_at "st"
            intro l nl
            generalize hH11 : upd H9 l _ = H11
            have s11 : Same H9 H11 := hH11 ▸ same_upd nl
            have hl11 := (congrFun hH11 l).symm.trans upd_same
            have hT11 := hT9.copy s11 hl11
            have oL := S9.led.out nl
            walk_at "st"
            refine ⟨bs, M5, ss, rs, en, ps6, mvV mv6, rfl, S9.led.same s11, hT11, mvV_flat _, by omega, by omega, by omega, oL.2.2.2.2.1, oL.2.2.2.2.2, fun hs H12 e12 => ?_, fun hs H12 e12 => ?_, fun d hs hz H12 e12 => ?_, fun d hs hz ho H12 e12 => ?_, fun d M pm rs' H12 hs hz ho => ?_⟩
            · refine ⟨true, teUnknownName, fun _ z nz => ?_, fun h => absurd h (by decide)⟩
              walk_at "st"
              exact s11.trans e12
            · refine ⟨true, teInvalidAmount, fun _ z nz => ?_, fun h => absurd h (by decide)⟩
              walk_at "st"
              exact s11.trans e12
            · refine ⟨true, teUnbalanced, fun _ z nz => ?_, fun h => absurd h (by decide)⟩
              walk_at "st"
              exact s11.trans e12
            · refine ⟨true, teOverdrawn, fun _ z nz => ?_, fun h => absurd h (by decide)⟩
              walk_at "st"
              exact s11.trans e12
            · exfalso
              rw [S9.kb] at hs
              exact due_none hd hs hz ho
          · rintro σ' H10 ⟨rfl, e10⟩
            have S10 := S9.same e10
            have hC10 := e10 _ _ (e9 _ _ (e6 _ _ hC2'))
            have hobt := S10.led.ob
            have hBt := S10.hB
            walk_at "st"
            refine ⟨bs, M5, ss, rs, en, rfl, S10.led, S10.kb, fun p20 H20 e20 np20 hp20 => ?_⟩
            have S20 := S10.same e20
            have hkt := S10.kb
            have ndt : (keysS bs).Nodup := by rw [hkt]; decide +kernel
            walk_at "st"
            refine ⟨_, _, rfl, rfl, hp20, S20.hB, rfl, val_self ndt, ?_⟩
            walk_at "st"
            intro N21 nN21
            generalize hH21 : upd H20 N21 _ = H21
            have s21 : Same H20 H21 := hH21 ▸ same_upd nN21
            have hN21 : H21 N21 = some (.lst (K5.map V.str)) := (congrFun hH21 N21).symm.trans upd_same
            have S21 := S20.same s21
            have hN21s := SqL.of (K := K) hN21
            walk_at "st"
            intro C22 nC22
            refine lc_list (K := K) (a := N21) (xs := K5.map V.str) (fun j H22 => H22 = upd H21 C22 (.lst ((((bs).take j).map (·.2)).map V.int))) rfl (fun j H22 _ e => by rw [e]; exact (same_upd nC22).seq hN21s) ?_ ?_
            · rintro j z H22 hz rfl
              rw [List.getElem?_map] at hz
              cases hn : K5[j]? with
              | none => rw [hn] at hz; cases hz
              | some n =>
                rw [hn] at hz
                have hzn : V.str n = z := Option.some.inj hz
                subst hzn
                obtain ⟨yy, hyy, hyv, hyn⟩ := told_val hkt hn
                have hBu := (same_upd (o := HO.lst ((((bs).take j).map (·.2)).map V.int)) nC22) _ _ S21.hB
                have g1 := dget_at hBu (show n ∈ keysS (bs) by rw [hkt]; exact List.mem_of_getElem? hn)
                have hlt : ((((bs).take j).map (·.2)).map V.int).length < sizeLine := small1000 (by
                  have hj5 : j < 5 := (List.getElem?_eq_some_iff.mp hn).1
                  rw [List.length_map, List.length_map, List.length_take]
                  omega)
                refine ⟨rfl, ?_⟩
                walk_at "st"
                rw [upd_upd, take_succ hyy, List.map_append, List.map_append, hyv]
                rfl
            · rintro H22 rfl
              have hb5 : (K5.map V.str).length = (bs).length := by
                have := congrArg List.length hkt
                unfold keysS at this
                rw [List.length_map] at this
                rw [List.length_map, this]
              rw [hb5, List.take_of_length_le (Nat.le_refl _)]
              have hC22 := SqL.of (K := K) (H := upd H21 C22 (.lst (((bs).map (·.2)).map V.int))) (a := C22) upd_same
              have S22 := S21.same (same_upd (o := HO.lst (((bs).map (·.2)).map V.int)) nC22)
              have c22 := (same_upd (o := HO.lst (((bs).map (·.2)).map V.int)) nC22) _ _ (s21 _ _ (e20 _ _ hC10))
              generalize upd H21 C22 _ = H22 at *
              have hsum := S10.sum
              walk_at "st"
              rw [hsum]
              walk_at "st"
              exact ⟨_, _, _, _, _, Bp, bs, rs, en, as, es, rfl, S22, c22, by omega⟩
        · obtain ⟨hdd, hin, hsc, hs0, hov, hpost, hz0⟩ := due_some hd S.kb
          subst hdd
          have S9 := S6.same e9
          have hT9 := hT6.same e9
          have hob9 := S9.led.ob
          have ha9 := SqL.of (K := K) hT9.lst
          have hen : en.length = es.length := Paired.length S.mens
          have hasl : as.length = es.length := Paired.length S.ents
          have hmvl : (mvV mv6).length = mv6.length := List.length_map ..
          have hbsl : bs.length = 5 := by
            have := congrArg List.length S.kb
            unfold keysS at this
            rw [List.length_map] at this
            exact this
          have o6 := S.led.out na6
          have o9 := S6.led.out np9
          have nE6 : a6 ≠ E := fun z => by have := S.hE; rw [← z, na6] at this; cases this
          walk_at "st"
          refine ⟨fun σ' H10 => σ' = [some (.ref a), some (.ref x), w2, some (.ref Bp), some (.ref E), some (.int c), some (.ref a6), some (.ref p9), some (.int ((en.length : Nat) + 1 : Int))] ∧ ∃ (_ : Unit) (H11 : Hp) (rs' : Str → List V) (M : Addr) (pm : List Addr), St70 T.c_Ledger H11 x dx D1 D2 D3 L Bp E bs ss rs en as es ∧ H11 p9 = some (.dK (encD (addM bs mv6))) ∧ MovAt H11 a6 mv6 ∧ H11 C2 = some (.lst (cs.map V.int)) ∧
              Led T.c_Ledger H10 x dx D1 D2 D3 L (postB bs (addM [] mv6)) M5 ss rs' (en ++ [.ref M]) ∧ Tups encMv H10 M pm (mvV mv6) ∧ H11 M = none ∧ FrL H11 H10 D1 L ss ∧ (∀ n, n ∉ keysS (addM [] mv6) → rs' n = rs n) ∧ (∀ y, y ∈ addM [] mv6 → ∃ t, rs' y.1 = rs y.1 ++ [V.ref t] ∧ H11 t = none ∧ H10 t = some (.tup [.int ((en.length : Nat) + 1 : Int), .int y.2, .int (gD bs y.1 + y.2)])), ?_, ?_⟩
          · walk_at "st"
            intro l nl
            generalize hH11 : upd H9 l _ = H11
            have s11 : Same H9 H11 := hH11 ▸ same_upd nl
            have hl11 := (congrFun hH11 l).symm.trans upd_same
            have hT11 := hT9.copy s11 hl11
            have oL := S9.led.out nl
            have S11 := S9.same s11
            walk_at "st"
            refine ⟨bs, M5, ss, rs, en, ps6, mvV mv6, rfl, S11.led, hT11, mvV_flat _, by omega, by omega, by omega, oL.2.2.2.2.1, oL.2.2.2.2.2, fun hs => ?_, fun hs => ?_, fun d hs hz => ?_, fun d hs hz ho => ?_, fun d M pm rs' H12 hs hz ho BL hM nM fr hno hyes => ?_⟩
            · rw [S9.kb, hsc] at hs
              cases hs
            · rw [S9.kb, hsc] at hs
              cases hs
            · rw [S9.kb, hsc] at hs
              cases hs
              exact absurd hs0 hz
            · rw [S9.kb, hsc] at hs
              cases hs
              rw [hov] at ho
              cases ho
            · rw [S9.kb, hsc] at hs
              cases hs
              walk_at "st"
              exact ⟨(), H11, rs', M, pm, S11, s11 _ _ hp9, ⟨ps6, hT9.same s11⟩, s11 _ _ (e9 _ _ (e6 _ _ hC2')), BL, hM, nM, fr, hno, hyes⟩
          · rintro σ' H10 ⟨rfl, _, H11, rs', M, pm, S11, hp11, hmv11, hC11, BL, hM, nM, fr, hno, hyes⟩
            have hE10 : H10 E = some (.lst (as.map V.ref)) := fr E _ (fun z => by have := S11.hE; rw [z, S11.led.b] at this; cases this) S11.nE.1 S11.nE.2 S11.hE
            have hC10 : H10 C2 = some (.lst (cs.map V.int)) := fr C2 _ (fun z => by rw [z, S11.led.b] at hC11; cases hC11) oC.2.2.2.2.1 oC.2.2.2.2.2 hC11
            have SF := S11.post hd (by omega) BL hM nM fr hno hyes hp11 o9.2.1 hmv11 ⟨o6.2.2.2.2.1, nE6, o6.2.2.2.2.2⟩
            have hEl : (as.map V.ref).length < sizeLine := small1000 (by rw [List.length_map]; omega)
            rw [List.map_append] at SF
            change St70 _ (upd H10 E (.lst (as.map V.ref ++ [V.ref a6]))) _ _ _ _ _ _ _ _ _ _ _ _ _ _ at SF
            have hCF : upd H10 E (.lst (as.map V.ref ++ [V.ref a6])) C2 = some (.lst (cs.map V.int)) := (upd_ne nCE).trans hC10
            have hEF := SqL.of (K := K) (H := upd H10 E (.lst (as.map V.ref ++ [V.ref a6]))) (a := E) upd_same
            have hlE : ((as.map V.ref ++ [V.ref a6]).length : Int) = (en.length : Int) + 1 := by
              rw [List.length_append, List.length_map, hasl, hen]
              rfl
            walk_at "st"
            generalize upd H10 E (.lst (as.map V.ref ++ [V.ref a6])) = HF at *
            refine iteB (fun h => absurd (by rw [hlE]) (ndec_t h)) (fun _ => ?_)
            have hobt := SF.led.ob
            have hBt := SF.hB
            walk_at "st"
            refine ⟨addM bs mv6, M5, ss, rs', en ++ [V.ref M], rfl, SF.led, SF.kb, fun p20 H20 e20 np20 hp20 => ?_⟩
            have S20 := SF.same e20
            have hkt := SF.kb
            have ndt : (keysS (addM bs mv6)).Nodup := by rw [hkt]; decide +kernel
            walk_at "st"
            refine ⟨_, _, rfl, rfl, hp20, S20.hB, rfl, val_self ndt, ?_⟩
            walk_at "st"
            intro N21 nN21
            generalize hH21 : upd H20 N21 _ = H21
            have s21 : Same H20 H21 := hH21 ▸ same_upd nN21
            have hN21 : H21 N21 = some (.lst (K5.map V.str)) := (congrFun hH21 N21).symm.trans upd_same
            have S21 := S20.same s21
            have hN21s := SqL.of (K := K) hN21
            walk_at "st"
            intro C22 nC22
            refine lc_list (K := K) (a := N21) (xs := K5.map V.str) (fun j H22 => H22 = upd H21 C22 (.lst ((((addM bs mv6).take j).map (·.2)).map V.int))) rfl (fun j H22 _ e => by rw [e]; exact (same_upd nC22).seq hN21s) ?_ ?_
            · rintro j z H22 hz rfl
              rw [List.getElem?_map] at hz
              cases hn : K5[j]? with
              | none => rw [hn] at hz; cases hz
              | some n =>
                rw [hn] at hz
                have hzn : V.str n = z := Option.some.inj hz
                subst hzn
                obtain ⟨yy, hyy, hyv, hyn⟩ := told_val hkt hn
                have hBu := (same_upd (o := HO.lst ((((addM bs mv6).take j).map (·.2)).map V.int)) nC22) _ _ S21.hB
                have g1 := dget_at hBu (show n ∈ keysS (addM bs mv6) by rw [hkt]; exact List.mem_of_getElem? hn)
                have hlt : ((((addM bs mv6).take j).map (·.2)).map V.int).length < sizeLine := small1000 (by
                  have hj5 : j < 5 := (List.getElem?_eq_some_iff.mp hn).1
                  rw [List.length_map, List.length_map, List.length_take]
                  omega)
                refine ⟨rfl, ?_⟩
                walk_at "st"
                rw [upd_upd, take_succ hyy, List.map_append, List.map_append, hyv]
                rfl
            · rintro H22 rfl
              have hb5 : (K5.map V.str).length = (addM bs mv6).length := by
                have := congrArg List.length hkt
                unfold keysS at this
                rw [List.length_map] at this
                rw [List.length_map, this]
              rw [hb5, List.take_of_length_le (Nat.le_refl _)]
              have hC22 := SqL.of (K := K) (H := upd H21 C22 (.lst (((addM bs mv6).map (·.2)).map V.int))) (a := C22) upd_same
              have S22 := S21.same (same_upd (o := HO.lst (((addM bs mv6).map (·.2)).map V.int)) nC22)
              have c22 := (same_upd (o := HO.lst (((addM bs mv6).map (·.2)).map V.int)) nC22) _ _ (s21 _ _ (e20 _ _ hCF))
              generalize upd H21 C22 _ = H22 at *
              have hsum := SF.sum
              walk_at "st"
              rw [hsum]
              walk_at "st"
              exact ⟨_, _, _, _, _, p9, addM bs mv6, rs', en ++ [V.ref M], as ++ [a6], es ++ [mv6], rfl, S22, c22, by rw [List.length_append]; show es.length + 1 ≤ i + 1; omega⟩
      · rintro σ H' ⟨w2, w5, w6, w7, w8, Bp, bs, rs, en, as, es, rfl, S, hC2', hle⟩
        have hen : en.length = es.length := Paired.length S.mens
        have hE100 : es.length ≤ 100 := by
          rw [List.length_map] at hle
          omega
        walk_at "st"
        intro N30 nN30
        generalize hH30 : upd H' N30 _ = H30
        have s30 : Same H' H30 := hH30 ▸ same_upd nN30
        have hN30 : H30 N30 = some (.lst (K5.map V.str)) := (congrFun hH30 N30).symm.trans upd_same
        refine ⟨N30, rfl, ⟨_, SqL.of hN30⟩, ?_⟩
        refine for_list (K := K) (a := N30) (xs := K5.map V.str) (fun j σ H31 => ∃ v2 : Option V, σ = [some (.ref a), some (.ref x), v2, some (.ref Bp), some (.ref E), w5, w6, w7, w8] ∧ Same H30 H31) ⟨_, rfl, Same.refl _⟩ (fun j σ H31 _ ⟨_, _, e⟩ => e.seq (SqL.of hN30)) ?_ ?_
        · rintro j z σ H31 hz ⟨v2, rfl, e31⟩
          rw [List.getElem?_map] at hz
          cases hn : K5[j]? with
          | none => rw [hn] at hz; cases hz
          | some n =>
            rw [hn] at hz
            have hzn : V.str n = z := Option.some.inj hz
            subst hzn
            have hn5 := List.mem_of_getElem? hn
            have S31 := (S.same s30).same e31
            have hob31 := S31.led.ob
            walk_at "st"
            refine ⟨bs, M5, ss, rs, en, n, rfl, S31.led, fun _ p32 np32 => ?_, fun h => absurd (by rw [S.kb]; exact hn5) h⟩
            generalize hH32 : upd H31 p32 _ = H32
            have s32 : Same H31 H32 := hH32 ▸ same_upd np32
            have hp32 := (congrFun hH32 p32).symm.trans upd_same
            have S32 := S31.same s32
            walk_at "st"
            refine ⟨as, es, rfl, ⟨S32.hE, paired_imp (fun _ _ k => k.1) S32.ents⟩, hE100, fun m hm => by have := (S.ml m hm).1; omega, fun p33 H33 ts33 e33 np33 hT33 => ?_⟩
            obtain ⟨ts, t1, t2⟩ := S32.st n hn5
            rw [t1] at hp32
            have hT32 : Tups enc3 H33 p32 ts (accF n es).1 := (paired_tups hp32 t2).same e33
            walk_at "st"
            refine neL layD_3.list (by decide) (a := (accF n es).1) (b := (accF n es).1) (fun _ _ => ⟨trivial, trivial, trivial⟩) (fun _ _ => ⟨trivial, trivial, trivial⟩) (hT32.dp fun x p h => dp3 x p h) (hT33.dp fun x p h => dp3 x p h) ?_
            rw [decide_eq_true rfl]
            walk_at "st"
            exact ⟨_, rfl, (e31.trans s32).trans e33⟩
        · rintro σ H31 ⟨v2, rfl, e31⟩
          have S31 := (S.same s30).same e31
          have hob31 := S31.led.ob
          walk_at "st"
          refine ⟨bs, M5, ss, rs, en, rfl, S31.led, by omega, fun v hv => ?_, fun p34 H34 ns34 e34 np34 hp34 hl34 hP34 => ?_⟩
          · obtain ⟨j, hj, hjv⟩ := List.getElem_of_mem hv
            obtain ⟨m, _, M, k1, ⟨ps, k2⟩, _⟩ := paired_at2 S31.mens (i := j) (x := v) (by rw [List.getElem?_eq_getElem hj, hjv])
            exact ⟨M, _, k1, k2.lst⟩
          have S34 := S31.same e34
          have hob34 := S34.led.ob
          have hcopy : Paired (fun a m => MovAt H34 a m) ns34 es := paired_imp (fun a m ⟨v, ⟨b, xs, h1, h2, h3⟩, M, k1, ⟨ps, k2⟩, _⟩ => by
            rw [k1] at h1
            obtain rfl := V.ref.inj h1
            rw [k2.lst] at h2
            rw [← Option.some.inj h2] at h3
            exact ⟨ps, h3, k2.len, fun i p w g1 g2 => e34 _ _ (k2.row i p w g1 g2)⟩) (paired_comp hP34 S31.mens)
          walk_at "st"
          refine eqL layD_Mv.list.list (by decide) (a := es) (b := es) (fun m hm y hy => k5_ok ((S.ml m hm).2 y hy)) (fun m hm y hy => k5_ok ((S.ml m hm).2 y hy)) (movs_dp hp34 hcopy) (movs_dp S34.hE (paired_imp (fun _ _ k => k.1) S34.ents)) ?_
          rw [decide_eq_true rfl]
          have hb5 : bs.length = 5 := by
            have := congrArg List.length S.kb
            unfold keysS at this
            rw [List.length_map] at this
            exact this
          walk_at "st"
          refine ⟨bs, M5, ss, rs, en, rfl, S34.led, by omega, fun ys p35 hpm hso np35 => ?_⟩
          rw [S.kb] at hpm
          have s35 : Same H34 (upd H34 p35 (.lst (ys.map V.str))) := same_upd np35
          have hp35 : upd H34 p35 (.lst (ys.map V.str)) p35 = some (.lst (ys.map V.str)) := upd_same
          generalize upd H34 p35 _ = H35 at *
          walk_at "st"
          intro p36 np36
          generalize hH36 : upd H35 p36 _ = H36
          have s36 : Same H35 H36 := hH36 ▸ same_upd np36
          have hp36 := SqL.of (K := K) ((congrFun hH36 p36).symm.trans upd_same)
          have hp35b := s36 _ _ hp35
          walk_at "st"
          refine ⟨K5, rfl, hp36, by decide, fun ys2 p37 hpm2 hso2 np37 => ?_⟩
          have h5n : K5.Nodup := by decide +kernel
          have hys : ys = ys2 := sorted_same (sorted_le hso) (sorted_le hso2) (hpm.nodup_iff.mpr h5n) (hpm2.nodup_iff.mpr h5n) fun s => ⟨fun z => hpm2.symm.subset (hpm.subset z), fun z => hpm.symm.subset (hpm2.subset z)⟩
          subst hys
          have strs_dp : ∀ {HH : Hp} {l : Addr}, HH l = some (.lst (ys.map V.str)) → Dp K HH (.ref l) (.list (ys.map PyData.str)) := fun h => .lst (SqL.of h) (dp_strs ys)
          refine eqL layD_str.list (by decide) (a := ys) (b := ys) (fun s hs => k5_ok (hpm.subset hs)) (fun s hs => k5_ok (hpm.subset hs)) (strs_dp ((same_upd np37) _ _ hp35b)) (strs_dp upd_same) ?_
          rw [decide_eq_true rfl]
          exact q _

end
set_option maxHeartbeats 0 in
theorem all_mk {l : PySem.W.OpenLaw} {w : World} {K : PySem.W.Frag} {h : Heap} {mg : Str → Option Value} {fa f1 f2 f3 f4 f5 f6 f7 f8 f9 f10 f11 f12 f13 f14 f15 f16 f17 f18 : Addr} (X : K.In h) (G : h.Ns mainGlobals mg) (hfa : mg "law" = some (.ref fa))
    {c_BourseError c_InvalidAmount c_UnknownName c_DuplicateName c_Unbalanced c_Overdrawn c_Ledger : Addr}
    {od1 an1 od2 an2 od3 an3 od4 an4 od5 an5 od6 an6 od7 an7 od8 an8 od9 an9 od10 an10 od11 an11 od12 an12 od13 an13 od14 an14 od15 an15 od16 an16 od17 an17 od18 an18 : Option Addr} {sl1 sl2 sl3 sl4 sl5 sl6 sl7 sl8 sl9 sl10 sl11 sl12 sl13 sl14 sl15 sl16 sl17 sl18 : Array (Option Value)} {oc1 kV1 dc1 pm1 cd1 ct1 oc2 kV2 dc2 pm2 cd2 ct2 oc3 dc3 pm3 cd3 ct3 oc4 kV4 dc4 pm4 cd4 ct4 oc5 kV5 dc5 pm5 cd5 ct5 oc6 kV6 dc6 pm6 cd6 ct6 oc7 kV7 dc7 pm7 cd7 ct7 oc8 kV8 dc8 pm8 cd8 ct8 oc9 kV9 dc9 pm9 cd9 ct9 oc10 kV10 dc10 pm10 cd10 ct10 oc11 kV11 dc11 pm11 cd11 ct11 oc12 kV12 dc12 pm12 cd12 ct12 oc13 kV13 dc13 pm13 cd13 ct13 oc14 kV14 dc14 pm14 cd14 ct14 oc15 kV15 dc15 pm15 cd15 ct15 oc16 kV16 dc16 pm16 cd16 ct16 oc17 kV17 dc17 pm17 cd17 ct17 oc18 kV18 dc18 pm18 cd18 ct18 : Value}
    (a1 : PySem.W.nsIn K mainGlobals "is_integral" = some (some (.ref f1)))
    (l1 : K.lookup f1 = some ⟨oc1, od1, .func (PySem.W.fnOf "is_integral" "is_integral" (defArgs s_is_integral) (defBody s_is_integral) (defScope s_is_integral) .none kV1 dc1 pm1 an1 cd1 ct1), sl1⟩) (c1 : PySem.W.codeIn K cd1 "is_integral" = true) (k1 : PySem.W.keepIn K (.ref f1) = true)
    (a2 : PySem.W.findIn K (.ref c_Ledger) "__init__" = some (some (.ref f2))) (i2 : PySem.W.isFn K (.ref f2) = true)
    (l2 : K.lookup f2 = some ⟨oc2, od2, .func (PySem.W.fnOf "__init__" "Ledger.__init__" (defArgs s_Ledger_init) (defBody s_Ledger_init) (defScope s_Ledger_init) .none kV2 dc2 pm2 an2 cd2 ct2), sl2⟩) (c2 : PySem.W.codeIn K cd2 "Ledger.__init__" = true) (k2 : PySem.W.keepIn K (.ref f2) = true)
    (a3 : PySem.W.findIn K (.ref c_Ledger) "open_account" = some (some (.ref f3))) (i3 : PySem.W.isFn K (.ref f3) = true)
    {KD3 : Addr}
    (l3 : K.lookup f3 = some ⟨oc3, od3, .func (PySem.W.fnOf "open_account" "Ledger.open_account" (defArgs s_Ledger_open_account) (defBody s_Ledger_open_account) (defScope s_Ledger_open_account) .none (.ref KD3) dc3 pm3 an3 cd3 ct3), sl3⟩) (c3 : PySem.W.codeIn K cd3 "Ledger.open_account" = true) (k3 : PySem.W.keepIn K (.ref f3) = true)
    (kd3_0 : PySem.W.nsIn K KD3 "may_owe" = some (some (.bool false)))
    (a4 : PySem.W.findIn K (.ref c_Ledger) "accounts" = some (some (.ref f4))) (i4 : PySem.W.isFn K (.ref f4) = true)
    (l4 : K.lookup f4 = some ⟨oc4, od4, .func (PySem.W.fnOf "accounts" "Ledger.accounts" (defArgs s_Ledger_accounts) (defBody s_Ledger_accounts) (defScope s_Ledger_accounts) .none kV4 dc4 pm4 an4 cd4 ct4), sl4⟩) (c4 : PySem.W.codeIn K cd4 "Ledger.accounts" = true) (k4 : PySem.W.keepIn K (.ref f4) = true)
    (a5 : PySem.W.findIn K (.ref c_Ledger) "balance" = some (some (.ref f5))) (i5 : PySem.W.isFn K (.ref f5) = true)
    (l5 : K.lookup f5 = some ⟨oc5, od5, .func (PySem.W.fnOf "balance" "Ledger.balance" (defArgs s_Ledger_balance) (defBody s_Ledger_balance) (defScope s_Ledger_balance) .none kV5 dc5 pm5 an5 cd5 ct5), sl5⟩) (c5 : PySem.W.codeIn K cd5 "Ledger.balance" = true) (k5 : PySem.W.keepIn K (.ref f5) = true)
    (a6 : PySem.W.findIn K (.ref c_Ledger) "post" = some (some (.ref f6))) (i6 : PySem.W.isFn K (.ref f6) = true)
    (l6 : K.lookup f6 = some ⟨oc6, od6, .func (PySem.W.fnOf "post" "Ledger.post" (defArgs s_Ledger_post) (defBody s_Ledger_post) (defScope s_Ledger_post) .none kV6 dc6 pm6 an6 cd6 ct6), sl6⟩) (c6 : PySem.W.codeIn K cd6 "Ledger.post" = true) (k6 : PySem.W.keepIn K (.ref f6) = true)
    (a7 : PySem.W.findIn K (.ref c_Ledger) "entries" = some (some (.ref f7))) (i7 : PySem.W.isFn K (.ref f7) = true)
    (l7 : K.lookup f7 = some ⟨oc7, od7, .func (PySem.W.fnOf "entries" "Ledger.entries" (defArgs s_Ledger_entries) (defBody s_Ledger_entries) (defScope s_Ledger_entries) .none kV7 dc7 pm7 an7 cd7 ct7), sl7⟩) (c7 : PySem.W.codeIn K cd7 "Ledger.entries" = true) (k7 : PySem.W.keepIn K (.ref f7) = true)
    (a8 : PySem.W.findIn K (.ref c_Ledger) "statement" = some (some (.ref f8))) (i8 : PySem.W.isFn K (.ref f8) = true)
    (l8 : K.lookup f8 = some ⟨oc8, od8, .func (PySem.W.fnOf "statement" "Ledger.statement" (defArgs s_Ledger_statement) (defBody s_Ledger_statement) (defScope s_Ledger_statement) .none kV8 dc8 pm8 an8 cd8 ct8), sl8⟩) (c8 : PySem.W.codeIn K cd8 "Ledger.statement" = true) (k8 : PySem.W.keepIn K (.ref f8) = true)
    (a9 : PySem.W.findIn K (.ref c_Ledger) "_check_account" = some (some (.ref f9))) (i9 : PySem.W.isFn K (.ref f9) = true)
    (l9 : K.lookup f9 = some ⟨oc9, od9, .func (PySem.W.fnOf "_check_account" "Ledger._check_account" (defArgs s_Ledgercheck_account) (defBody s_Ledgercheck_account) (defScope s_Ledgercheck_account) .none kV9 dc9 pm9 an9 cd9 ct9), sl9⟩) (c9 : PySem.W.codeIn K cd9 "Ledger._check_account" = true) (k9 : PySem.W.keepIn K (.ref f9) = true)
    (a10 : PySem.W.findIn K (.ref c_Ledger) "_sums" = some (some (.ref f10))) (i10 : PySem.W.isFn K (.ref f10) = true)
    (l10 : K.lookup f10 = some ⟨oc10, od10, .func (PySem.W.fnOf "_sums" "Ledger._sums" (defArgs s_Ledgersums) (defBody s_Ledgersums) (defScope s_Ledgersums) .none kV10 dc10 pm10 an10 cd10 ct10), sl10⟩) (c10 : PySem.W.codeIn K cd10 "Ledger._sums" = true) (k10 : PySem.W.keepIn K (.ref f10) = true)
    (a11 : PySem.W.findIn K (.ref c_Ledger) "_check_sums" = some (some (.ref f11))) (i11 : PySem.W.isFn K (.ref f11) = true)
    (l11 : K.lookup f11 = some ⟨oc11, od11, .func (PySem.W.fnOf "_check_sums" "Ledger._check_sums" (defArgs s_Ledgercheck_sums) (defBody s_Ledgercheck_sums) (defScope s_Ledgercheck_sums) .none kV11 dc11 pm11 an11 cd11 ct11), sl11⟩) (c11 : PySem.W.codeIn K cd11 "Ledger._check_sums" = true) (k11 : PySem.W.keepIn K (.ref f11) = true)
    (a12 : PySem.W.nsIn K mainGlobals "_law_digit" = some (some (.ref f12)))
    (l12 : K.lookup f12 = some ⟨oc12, od12, .func (PySem.W.fnOf "_law_digit" "_law_digit" (defArgs s_law_digit) (defBody s_law_digit) (defScope s_law_digit) .none kV12 dc12 pm12 an12 cd12 ct12), sl12⟩) (c12 : PySem.W.codeIn K cd12 "_law_digit" = true) (k12 : PySem.W.keepIn K (.ref f12) = true)
    (a13 : PySem.W.nsIn K mainGlobals "_law_names" = some (some (.ref f13)))
    (l13 : K.lookup f13 = some ⟨oc13, od13, .func (PySem.W.fnOf "_law_names" "_law_names" (defArgs s_law_names) (defBody s_law_names) (defScope s_law_names) .none kV13 dc13 pm13 an13 cd13 ct13), sl13⟩) (c13 : PySem.W.codeIn K cd13 "_law_names" = true) (k13 : PySem.W.keepIn K (.ref f13) = true)
    (a14 : PySem.W.nsIn K mainGlobals "_law_moves" = some (some (.ref f14)))
    (l14 : K.lookup f14 = some ⟨oc14, od14, .func (PySem.W.fnOf "_law_moves" "_law_moves" (defArgs s_law_moves) (defBody s_law_moves) (defScope s_law_moves) .none kV14 dc14 pm14 an14 cd14 ct14), sl14⟩) (c14 : PySem.W.codeIn K cd14 "_law_moves" = true) (k14 : PySem.W.keepIn K (.ref f14) = true)
    (a15 : PySem.W.nsIn K mainGlobals "_law_due" = some (some (.ref f15)))
    (l15 : K.lookup f15 = some ⟨oc15, od15, .func (PySem.W.fnOf "_law_due" "_law_due" (defArgs s_law_due) (defBody s_law_due) (defScope s_law_due) .none kV15 dc15 pm15 an15 cd15 ct15), sl15⟩) (c15 : PySem.W.codeIn K cd15 "_law_due" = true) (k15 : PySem.W.keepIn K (.ref f15) = true)
    (a16 : PySem.W.nsIn K mainGlobals "_law_told" = some (some (.ref f16)))
    (l16 : K.lookup f16 = some ⟨oc16, od16, .func (PySem.W.fnOf "_law_told" "_law_told" (defArgs s_law_told) (defBody s_law_told) (defScope s_law_told) .none kV16 dc16 pm16 an16 cd16 ct16), sl16⟩) (c16 : PySem.W.codeIn K cd16 "_law_told" = true) (k16 : PySem.W.keepIn K (.ref f16) = true)
    (a17 : PySem.W.nsIn K mainGlobals "_law_statement" = some (some (.ref f17)))
    (l17 : K.lookup f17 = some ⟨oc17, od17, .func (PySem.W.fnOf "_law_statement" "_law_statement" (defArgs s_law_statement) (defBody s_law_statement) (defScope s_law_statement) .none kV17 dc17 pm17 an17 cd17 ct17), sl17⟩) (c17 : PySem.W.codeIn K cd17 "_law_statement" = true) (k17 : PySem.W.keepIn K (.ref f17) = true)
    (a18 : PySem.W.nsIn K mainGlobals "law" = some (some (.ref f18)))
    (l18 : K.lookup f18 = some ⟨oc18, od18, .func (PySem.W.fnOf "law" "law" (defArgs s_law) (defBody s_law) (defScope s_law) .none kV18 dc18 pm18 an18 cd18 ct18), sl18⟩) (c18 : PySem.W.codeIn K cd18 "law" = true) (k18 : PySem.W.keepIn K (.ref f18) = true)
    (z_bool : PySem.W.nsIn K mainGlobals "bool" = some none)
    (z_enumerate : PySem.W.nsIn K mainGlobals "enumerate" = some none)
    (z_int : PySem.W.nsIn K mainGlobals "int" = some none)
    (z_isinstance : PySem.W.nsIn K mainGlobals "isinstance" = some none)
    (z_len : PySem.W.nsIn K mainGlobals "len" = some none)
    (z_list : PySem.W.nsIn K mainGlobals "list" = some none)
    (z_range : PySem.W.nsIn K mainGlobals "range" = some none)
    (z_sorted : PySem.W.nsIn K mainGlobals "sorted" = some none)
    (z_sum : PySem.W.nsIn K mainGlobals "sum" = some none)
    (g_BourseError : PySem.W.nsIn K mainGlobals "BourseError" = some (some (.ref c_BourseError)))
    (x_BourseError : PySem.W.excIn K c_BourseError [.type "ValueError", .type "Exception", .type "BaseException", .type "object"] "ValueError.__new__" = true)
    (k_BourseError : PySem.W.keepIn K (.ref c_BourseError) = true)
    (b_BourseError : PySem.W.subIn K (.ref c_BourseError) (.type "BaseException") = some true)
    (t_BourseError : PySem.W.typeIn K (.ref c_BourseError) = some (.type "type"))
    (d_BourseError : PySem.W.hasDictIn K c_BourseError = true)
    (s_BourseError : PySem.W.subIn K (.ref c_BourseError) (.ref c_BourseError) = some true)
    (eg_BourseError : PySem.W.findIn K (.ref c_BourseError) "__getattribute__" = some (some (.builtin "BaseException.__getattribute__")))
    (ek_BourseError : PySem.W.findIn K (.ref c_BourseError) "__getattr__" = some none)
    (ea_BourseError : PySem.W.findIn K (.ref c_BourseError) "__class__" = some (some (.builtin "object.__class__")))
    (en_BourseError : PySem.W.specialIn K (.builtin "object.__class__") "__get__" = some (some (.builtin "getset_descriptor.__get__")))
    (et_BourseError : PySem.W.takesIn K (.builtin "object.__class__") = some true)
    (em_BourseError : PySem.W.mroIn K c_BourseError (.type "object") = some true)
    (g_InvalidAmount : PySem.W.nsIn K mainGlobals "InvalidAmount" = some (some (.ref c_InvalidAmount)))
    (x_InvalidAmount : PySem.W.excIn K c_InvalidAmount [.type "ValueError", .type "Exception", .type "BaseException", .type "object"] "ValueError.__new__" = true)
    (k_InvalidAmount : PySem.W.keepIn K (.ref c_InvalidAmount) = true)
    (b_InvalidAmount : PySem.W.subIn K (.ref c_InvalidAmount) (.type "BaseException") = some true)
    (t_InvalidAmount : PySem.W.typeIn K (.ref c_InvalidAmount) = some (.type "type"))
    (d_InvalidAmount : PySem.W.hasDictIn K c_InvalidAmount = true)
    (s_InvalidAmount : PySem.W.subIn K (.ref c_InvalidAmount) (.ref c_InvalidAmount) = some true)
    (g_UnknownName : PySem.W.nsIn K mainGlobals "UnknownName" = some (some (.ref c_UnknownName)))
    (x_UnknownName : PySem.W.excIn K c_UnknownName [.type "ValueError", .type "Exception", .type "BaseException", .type "object"] "ValueError.__new__" = true)
    (k_UnknownName : PySem.W.keepIn K (.ref c_UnknownName) = true)
    (b_UnknownName : PySem.W.subIn K (.ref c_UnknownName) (.type "BaseException") = some true)
    (t_UnknownName : PySem.W.typeIn K (.ref c_UnknownName) = some (.type "type"))
    (d_UnknownName : PySem.W.hasDictIn K c_UnknownName = true)
    (s_UnknownName : PySem.W.subIn K (.ref c_UnknownName) (.ref c_UnknownName) = some true)
    (g_DuplicateName : PySem.W.nsIn K mainGlobals "DuplicateName" = some (some (.ref c_DuplicateName)))
    (x_DuplicateName : PySem.W.excIn K c_DuplicateName [.type "ValueError", .type "Exception", .type "BaseException", .type "object"] "ValueError.__new__" = true)
    (k_DuplicateName : PySem.W.keepIn K (.ref c_DuplicateName) = true)
    (b_DuplicateName : PySem.W.subIn K (.ref c_DuplicateName) (.type "BaseException") = some true)
    (t_DuplicateName : PySem.W.typeIn K (.ref c_DuplicateName) = some (.type "type"))
    (d_DuplicateName : PySem.W.hasDictIn K c_DuplicateName = true)
    (s_DuplicateName : PySem.W.subIn K (.ref c_DuplicateName) (.ref c_DuplicateName) = some true)
    (g_Unbalanced : PySem.W.nsIn K mainGlobals "Unbalanced" = some (some (.ref c_Unbalanced)))
    (x_Unbalanced : PySem.W.excIn K c_Unbalanced [.type "ValueError", .type "Exception", .type "BaseException", .type "object"] "ValueError.__new__" = true)
    (k_Unbalanced : PySem.W.keepIn K (.ref c_Unbalanced) = true)
    (b_Unbalanced : PySem.W.subIn K (.ref c_Unbalanced) (.type "BaseException") = some true)
    (t_Unbalanced : PySem.W.typeIn K (.ref c_Unbalanced) = some (.type "type"))
    (d_Unbalanced : PySem.W.hasDictIn K c_Unbalanced = true)
    (s_Unbalanced : PySem.W.subIn K (.ref c_Unbalanced) (.ref c_Unbalanced) = some true)
    (g_Overdrawn : PySem.W.nsIn K mainGlobals "Overdrawn" = some (some (.ref c_Overdrawn)))
    (x_Overdrawn : PySem.W.excIn K c_Overdrawn [.type "ValueError", .type "Exception", .type "BaseException", .type "object"] "ValueError.__new__" = true)
    (k_Overdrawn : PySem.W.keepIn K (.ref c_Overdrawn) = true)
    (b_Overdrawn : PySem.W.subIn K (.ref c_Overdrawn) (.type "BaseException") = some true)
    (t_Overdrawn : PySem.W.typeIn K (.ref c_Overdrawn) = some (.type "type"))
    (d_Overdrawn : PySem.W.hasDictIn K c_Overdrawn = true)
    (s_Overdrawn : PySem.W.subIn K (.ref c_Overdrawn) (.ref c_Overdrawn) = some true)
    (g_Ledger : PySem.W.nsIn K mainGlobals "Ledger" = some (some (.ref c_Ledger)))
    (pg_Ledger : PySem.W.plainGet K c_Ledger Str.empty = true)
    (hd_Ledger : PySem.W.hasDictIn K c_Ledger = true)
    (po_Ledger : PySem.W.plainOver K c_Ledger = true)
    (sa_Ledger : PySem.W.findIn K (.ref c_Ledger) "__setattr__" = some (some (.builtin "object.__setattr__")))
    (ma_Ledger : PySem.W.makesIn K c_Ledger = true)
    (kc_Ledger : PySem.W.keepIn K (.ref c_Ledger) = true)
    (na_Ledger__balances : PySem.W.findIn K (.ref c_Ledger) "_balances" = some none)
    (na_Ledger__may_owe : PySem.W.findIn K (.ref c_Ledger) "_may_owe" = some none)
    (na_Ledger__statements : PySem.W.findIn K (.ref c_Ledger) "_statements" = some none)
    (na_Ledger__entries : PySem.W.findIn K (.ref c_Ledger) "_entries" = some none)
    (su_UnknownName_BourseError : PySem.W.subIn K (.ref c_UnknownName) (.ref c_BourseError) = some true)
    (su_InvalidAmount_BourseError : PySem.W.subIn K (.ref c_InvalidAmount) (.ref c_BourseError) = some true)
    (su_Unbalanced_BourseError : PySem.W.subIn K (.ref c_Unbalanced) (.ref c_BourseError) = some true)
    (su_Overdrawn_BourseError : PySem.W.subIn K (.ref c_Overdrawn) (.ref c_BourseError) = some true) :
    ∃ fd : FuncData, (∀ (s : Shared) (v : Value), BindsTo s fd ⟨[v], []⟩ [("script", v)]) ∧ ∀ base : Heap, K.In base → base.Ns mainGlobals mg → FnOk l.prog w K mg base CX0 4 fa fd ["script"] (sp_law K) := by
  have e := hfa.symm.trans (PySem.W.mg_of X G a18)
  cases e
  have F1 := fun_mk (st := s_is_integral) l1 c1 k1
  have b1 := F1.binds (ps := ["value"]) fun _ _ _ _ _ _ us hl => match us, hl with | [_], _ => rfl
  have F2 := fun_mk (st := s_Ledger_init) l2 c2 k2
  have b2 := F2.binds (ps := ["self"]) fun _ _ _ _ _ _ us hl => match us, hl with | [_], _ => rfl
  have hk3 : ∀ q ∈ ([("may_owe", .bl false)] : List (Str × V)), ∃ u, PySem.W.nsIn K KD3 q.1 = some (some u) ∧ RelV q.2 u := by
    intro q hq
    rw [List.mem_singleton.mp hq]
    exact ⟨_, kd3_0, rfl⟩
  have F3 : FunD K "open_account" "Ledger.open_account" (defArgs s_Ledger_open_account) (defBody s_Ledger_open_account) (defScope s_Ledger_open_account) [] [("may_owe", .bl false)] f3 (PySem.W.fnOf "open_account" "Ledger.open_account" (defArgs s_Ledger_open_account) (defBody s_Ledger_open_account) (defScope s_Ledger_open_account) .none (.ref KD3) dc3 pm3 an3 cd3 ct3) := ⟨⟨_, _, _, _, _, _, _, _, _, _, rfl, l3, c3, .inl ⟨rfl, rfl⟩, .inr ⟨KD3, rfl, hk3⟩⟩, k3⟩
  have b3 := F3.binds0 (ps := ["self", "name", "may_owe"]) 2 (by simp) rfl fun _ _ _ _ _ _ us ks h1 h2 => match us, ks, h1, h2 with | [_, _], [_], _, _ => ⟨_, _, _, _, _, _, rfl, rfl, rfl⟩
  have kb3_may_owe : ∃ g : List Value → List Value → List Value, KBn K (PySem.W.fnOf "open_account" "Ledger.open_account" (defArgs s_Ledger_open_account) (defBody s_Ledger_open_account) (defScope s_Ledger_open_account) .none (.ref KD3) dc3 pm3 an3 cd3 ct3) ["self", "name", "may_owe"] 2 ["may_owe"] g _ := (F3.kbinds0 (ps := ["self", "name", "may_owe"]) 2 ["may_owe"] [] (fun us mv ws => us ++ ws) (by simp) (by simp) (fun r1 r2 r3 => (r1.append r3)) fun _ _ _ _ _ _ us mv ws h1 h2 h3 => match us, mv, ws, h1, h2, h3 with | [_, _], [], [_], _, _, _ => rfl).elim fun mv h => ⟨_, h⟩
  have F4 := fun_mk (st := s_Ledger_accounts) l4 c4 k4
  have b4 := F4.binds (ps := ["self"]) fun _ _ _ _ _ _ us hl => match us, hl with | [_], _ => rfl
  have F5 := fun_mk (st := s_Ledger_balance) l5 c5 k5
  have b5 := F5.binds (ps := ["self", "name"]) fun _ _ _ _ _ _ us hl => match us, hl with | [_, _], _ => rfl
  have F6 := fun_mk (st := s_Ledger_post) l6 c6 k6
  have b6 := F6.binds (ps := ["self", "moves"]) fun _ _ _ _ _ _ us hl => match us, hl with | [_, _], _ => rfl
  have F7 := fun_mk (st := s_Ledger_entries) l7 c7 k7
  have b7 := F7.binds (ps := ["self"]) fun _ _ _ _ _ _ us hl => match us, hl with | [_], _ => rfl
  have F8 := fun_mk (st := s_Ledger_statement) l8 c8 k8
  have b8 := F8.binds (ps := ["self", "name"]) fun _ _ _ _ _ _ us hl => match us, hl with | [_, _], _ => rfl
  have F9 := fun_mk (st := s_Ledgercheck_account) l9 c9 k9
  have b9 := F9.binds (ps := ["self", "name"]) fun _ _ _ _ _ _ us hl => match us, hl with | [_, _], _ => rfl
  have F10 := fun_mk (st := s_Ledgersums) l10 c10 k10
  have b10 := F10.binds (ps := ["self", "moves"]) fun _ _ _ _ _ _ us hl => match us, hl with | [_, _], _ => rfl
  have F11 := fun_mk (st := s_Ledgercheck_sums) l11 c11 k11
  have b11 := F11.binds (ps := ["self", "sums"]) fun _ _ _ _ _ _ us hl => match us, hl with | [_, _], _ => rfl
  have F12 := fun_mk (st := s_law_digit) l12 c12 k12
  have b12 := F12.binds (ps := ["cell", "base", "k"]) fun _ _ _ _ _ _ us hl => match us, hl with | [_, _, _], _ => rfl
  have F13 := fun_mk (st := s_law_names) l13 c13 k13
  have b13 := F13.binds (ps := []) fun _ _ _ _ _ _ us hl => match us, hl with | [], _ => rfl
  have F14 := fun_mk (st := s_law_moves) l14 c14 k14
  have b14 := F14.binds (ps := ["cell"]) fun _ _ _ _ _ _ us hl => match us, hl with | [_], _ => rfl
  have F15 := fun_mk (st := s_law_due) l15 c15 k15
  have b15 := F15.binds (ps := ["balances", "moves"]) fun _ _ _ _ _ _ us hl => match us, hl with | [_, _], _ => rfl
  have F16 := fun_mk (st := s_law_told) l16 c16 k16
  have b16 := F16.binds (ps := ["ledger"]) fun _ _ _ _ _ _ us hl => match us, hl with | [_], _ => rfl
  have F17 := fun_mk (st := s_law_statement) l17 c17 k17
  have b17 := F17.binds (ps := ["entries", "name"]) fun _ _ _ _ _ _ us hl => match us, hl with | [_, _], _ => rfl
  have F18 := fun_mk (st := s_law) l18 c18 k18
  have b18 := F18.binds (ps := ["script"]) fun _ _ _ _ _ _ us hl => match us, hl with | [_], _ => rfl
  have T : Txt K mg := ⟨f1, _, F1, PySem.W.mg_of X G a1, b1, f2, _, F2, b2, f3, _, F3, b3, kb3_may_owe, f4, _, F4, b4, f5, _, F5, b5, f6, _, F6, b6, f7, _, F7, b7, f8, _, F8, b8, f9, _, F9, b9, f10, _, F10, b10, f11, _, F11, b11, f12, _, F12, PySem.W.mg_of X G a12, b12, f13, _, F13, PySem.W.mg_of X G a13, b13, f14, _, F14, PySem.W.mg_of X G a14, b14, f15, _, F15, PySem.W.mg_of X G a15, b15, f16, _, F16, PySem.W.mg_of X G a16, b16, f17, _, F17, PySem.W.mg_of X G a17, b17, c_BourseError, PySem.W.mg_of X G g_BourseError, x_BourseError, k_BourseError, b_BourseError, t_BourseError, d_BourseError, s_BourseError, eg_BourseError, ek_BourseError, ea_BourseError, en_BourseError, et_BourseError, em_BourseError, ⟨eg_BourseError, ek_BourseError, b_BourseError, d_BourseError, ea_BourseError, en_BourseError, et_BourseError, em_BourseError⟩, c_InvalidAmount, PySem.W.mg_of X G g_InvalidAmount, x_InvalidAmount, k_InvalidAmount, b_InvalidAmount, t_InvalidAmount, d_InvalidAmount, s_InvalidAmount, c_UnknownName, PySem.W.mg_of X G g_UnknownName, x_UnknownName, k_UnknownName, b_UnknownName, t_UnknownName, d_UnknownName, s_UnknownName, c_DuplicateName, PySem.W.mg_of X G g_DuplicateName, x_DuplicateName, k_DuplicateName, b_DuplicateName, t_DuplicateName, d_DuplicateName, s_DuplicateName, c_Unbalanced, PySem.W.mg_of X G g_Unbalanced, x_Unbalanced, k_Unbalanced, b_Unbalanced, t_Unbalanced, d_Unbalanced, s_Unbalanced, c_Overdrawn, PySem.W.mg_of X G g_Overdrawn, x_Overdrawn, k_Overdrawn, b_Overdrawn, t_Overdrawn, d_Overdrawn, s_Overdrawn, c_Ledger, PySem.W.mg_of X G g_Ledger, pg_Ledger, hd_Ledger, po_Ledger, sa_Ledger, ma_Ledger, kc_Ledger, ⟨pg_Ledger, hd_Ledger, po_Ledger, sa_Ledger⟩, na_Ledger__balances, na_Ledger__may_owe, na_Ledger__statements, na_Ledger__entries, ⟨ma_Ledger, a2, i2, kc_Ledger⟩, ⟨a3, i3, k3⟩, ⟨a4, i4, k4⟩, ⟨a5, i5, k5⟩, ⟨a6, i6, k6⟩, ⟨a7, i7, k7⟩, ⟨a8, i8, k8⟩, ⟨a9, i9, k9⟩, ⟨a10, i10, k10⟩, ⟨a11, i11, k11⟩, su_UnknownName_BourseError, su_InvalidAmount_BourseError, su_Unbalanced_BourseError, su_Overdrawn_BourseError, PySem.W.mg_none_of X G z_bool, PySem.W.mg_none_of X G z_enumerate, PySem.W.mg_none_of X G z_int, PySem.W.mg_none_of X G z_isinstance, PySem.W.mg_none_of X G z_len, PySem.W.mg_none_of X G z_list, PySem.W.mg_none_of X G z_range, PySem.W.mg_none_of X G z_sorted, PySem.W.mg_none_of X G z_sum⟩
  exact ⟨PySem.W.fnOf "law" "law" (defArgs s_law) (defBody s_law) (defScope s_law) .none kV18 dc18 pm18 an18 cd18 ct18, fun s v => .of_eq rfl, fun base _ _ => ok_law T F18⟩
end FB
open PySem PySem.W PyProof.Rows
set_option maxRecDepth 100000 in
set_option maxHeartbeats 0 in
theorem PySem.Challenge.cw_fairbourse_k70_ledger_balances_holds : PySem.Challenge.rw_fairbourse_k70_ledger_balances.Holds := by
  w_on; o_law; k_head; (case hw => w_witness2)
  k_fill
  refine L2.walk_of (l := PySem.Challenge.rw_fairbourse_k70_ledger_balances) (n := 63) (k := 4) (x := "script") (CX := fun _ => L2.CX0) (sp := fun w => FB.sp_law _) rfl (by decide) rfl ⟨rfl, by decide, by decide⟩ (fun w h Y => PySem.W.kIn_of Y) ?F (fun _ _ a ns hl _ hS => ⟨a, ns, rfl, hS, hl, fun _ => rfl⟩) (fun _ _ _ _ _ h => h)
  case F =>
    intro w mg fa h KX G hmg
    refine' FB.all_mk KX G hmg ?a1 ?l1 ?c1 ?k1 ?a2 ?i2 ?l2 ?c2 ?k2 ?a3 ?i3 ?l3 ?c3 ?k3 ?kd3_0 ?a4 ?i4 ?l4 ?c4 ?k4 ?a5 ?i5 ?l5 ?c5 ?k5 ?a6 ?i6 ?l6 ?c6 ?k6 ?a7 ?i7 ?l7 ?c7 ?k7 ?a8 ?i8 ?l8 ?c8 ?k8 ?a9 ?i9 ?l9 ?c9 ?k9 ?a10 ?i10 ?l10 ?c10 ?k10 ?a11 ?i11 ?l11 ?c11 ?k11 ?a12 ?l12 ?c12 ?k12 ?a13 ?l13 ?c13 ?k13 ?a14 ?l14 ?c14 ?k14 ?a15 ?l15 ?c15 ?k15 ?a16 ?l16 ?c16 ?k16 ?a17 ?l17 ?c17 ?k17 ?a18 ?l18 ?c18 ?k18 ?z_bool ?z_enumerate ?z_int ?z_isinstance ?z_len ?z_list ?z_range ?z_sorted ?z_sum ?g_BourseError ?x_BourseError ?k_BourseError ?b_BourseError ?t_BourseError ?d_BourseError ?s_BourseError ?eg_BourseError ?ek_BourseError ?ea_BourseError ?en_BourseError ?et_BourseError ?em_BourseError ?g_InvalidAmount ?x_InvalidAmount ?k_InvalidAmount ?b_InvalidAmount ?t_InvalidAmount ?d_InvalidAmount ?s_InvalidAmount ?g_UnknownName ?x_UnknownName ?k_UnknownName ?b_UnknownName ?t_UnknownName ?d_UnknownName ?s_UnknownName ?g_DuplicateName ?x_DuplicateName ?k_DuplicateName ?b_DuplicateName ?t_DuplicateName ?d_DuplicateName ?s_DuplicateName ?g_Unbalanced ?x_Unbalanced ?k_Unbalanced ?b_Unbalanced ?t_Unbalanced ?d_Unbalanced ?s_Unbalanced ?g_Overdrawn ?x_Overdrawn ?k_Overdrawn ?b_Overdrawn ?t_Overdrawn ?d_Overdrawn ?s_Overdrawn ?g_Ledger ?pg_Ledger ?hd_Ledger ?po_Ledger ?sa_Ledger ?ma_Ledger ?kc_Ledger ?na_Ledger__balances ?na_Ledger__may_owe ?na_Ledger__statements ?na_Ledger__entries ?su_UnknownName_BourseError ?su_InvalidAmount_BourseError ?su_Unbalanced_BourseError ?su_Overdrawn_BourseError
    (case g_BourseError => k_is)
    (case g_InvalidAmount => k_is)
    (case g_UnknownName => k_is)
    (case g_DuplicateName => k_is)
    (case g_Unbalanced => k_is)
    (case g_Overdrawn => k_is)
    (case g_Ledger => k_is)
    (case a1 => k_is)
    (case l1 => k_is)
    (case c1 => k_is)
    (case k1 => k_is)
    (case a2 => k_is)
    (case i2 => k_is)
    (case l2 => k_is)
    (case c2 => k_is)
    (case k2 => k_is)
    (case a3 => k_is)
    (case i3 => k_is)
    (case l3 => k_is)
    (case c3 => k_is)
    (case k3 => k_is)
    (case kd3_0 => k_is)
    (case a4 => k_is)
    (case i4 => k_is)
    (case l4 => k_is)
    (case c4 => k_is)
    (case k4 => k_is)
    (case a5 => k_is)
    (case i5 => k_is)
    (case l5 => k_is)
    (case c5 => k_is)
    (case k5 => k_is)
    (case a6 => k_is)
    (case i6 => k_is)
    (case l6 => k_is)
    (case c6 => k_is)
    (case k6 => k_is)
    (case a7 => k_is)
    (case i7 => k_is)
    (case l7 => k_is)
    (case c7 => k_is)
    (case k7 => k_is)
    (case a8 => k_is)
    (case i8 => k_is)
    (case l8 => k_is)
    (case c8 => k_is)
    (case k8 => k_is)
    (case a9 => k_is)
    (case i9 => k_is)
    (case l9 => k_is)
    (case c9 => k_is)
    (case k9 => k_is)
    (case a10 => k_is)
    (case i10 => k_is)
    (case l10 => k_is)
    (case c10 => k_is)
    (case k10 => k_is)
    (case a11 => k_is)
    (case i11 => k_is)
    (case l11 => k_is)
    (case c11 => k_is)
    (case k11 => k_is)
    (case a12 => k_is)
    (case l12 => k_is)
    (case c12 => k_is)
    (case k12 => k_is)
    (case a13 => k_is)
    (case l13 => k_is)
    (case c13 => k_is)
    (case k13 => k_is)
    (case a14 => k_is)
    (case l14 => k_is)
    (case c14 => k_is)
    (case k14 => k_is)
    (case a15 => k_is)
    (case l15 => k_is)
    (case c15 => k_is)
    (case k15 => k_is)
    (case a16 => k_is)
    (case l16 => k_is)
    (case c16 => k_is)
    (case k16 => k_is)
    (case a17 => k_is)
    (case l17 => k_is)
    (case c17 => k_is)
    (case k17 => k_is)
    (case a18 => k_is)
    (case l18 => k_is)
    (case c18 => k_is)
    (case k18 => k_is)
    (case z_bool => k_is)
    (case z_enumerate => k_is)
    (case z_int => k_is)
    (case z_isinstance => k_is)
    (case z_len => k_is)
    (case z_list => k_is)
    (case z_range => k_is)
    (case z_sorted => k_is)
    (case z_sum => k_is)
    (case x_BourseError => k_exc)
    (case k_BourseError => k_is)
    (case b_BourseError => k_is)
    (case t_BourseError => k_is)
    (case d_BourseError => k_is)
    (case s_BourseError => first | rfl | k_is)
    (case eg_BourseError => k_is)
    (case ek_BourseError => k_is)
    (case ea_BourseError => k_is)
    (case en_BourseError => k_is)
    (case et_BourseError => k_is)
    (case em_BourseError => k_is)
    (case x_InvalidAmount => k_exc)
    (case k_InvalidAmount => k_is)
    (case b_InvalidAmount => k_is)
    (case t_InvalidAmount => k_is)
    (case d_InvalidAmount => k_is)
    (case s_InvalidAmount => first | rfl | k_is)
    (case x_UnknownName => k_exc)
    (case k_UnknownName => k_is)
    (case b_UnknownName => k_is)
    (case t_UnknownName => k_is)
    (case d_UnknownName => k_is)
    (case s_UnknownName => first | rfl | k_is)
    (case x_DuplicateName => k_exc)
    (case k_DuplicateName => k_is)
    (case b_DuplicateName => k_is)
    (case t_DuplicateName => k_is)
    (case d_DuplicateName => k_is)
    (case s_DuplicateName => first | rfl | k_is)
    (case x_Unbalanced => k_exc)
    (case k_Unbalanced => k_is)
    (case b_Unbalanced => k_is)
    (case t_Unbalanced => k_is)
    (case d_Unbalanced => k_is)
    (case s_Unbalanced => first | rfl | k_is)
    (case x_Overdrawn => k_exc)
    (case k_Overdrawn => k_is)
    (case b_Overdrawn => k_is)
    (case t_Overdrawn => k_is)
    (case d_Overdrawn => k_is)
    (case s_Overdrawn => first | rfl | k_is)
    (case pg_Ledger => k_is)
    (case hd_Ledger => k_is)
    (case po_Ledger => k_is)
    (case sa_Ledger => k_is)
    (case ma_Ledger => k_is)
    (case kc_Ledger => k_is)
    (case na_Ledger__balances => k_is)
    (case na_Ledger__may_owe => k_is)
    (case na_Ledger__statements => k_is)
    (case na_Ledger__entries => k_is)
    (case su_UnknownName_BourseError => first | rfl | k_is)
    (case su_InvalidAmount_BourseError => first | rfl | k_is)
    (case su_Unbalanced_BourseError => first | rfl | k_is)
    (case su_Overdrawn_BourseError => first | rfl | k_is)
