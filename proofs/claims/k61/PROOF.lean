import PyProof.Rows.All
import Wide.All
import OpenK.AllK
import Wide.FinOn
import HandS.ForMost
import HandS.Defaults
import HandS.IsInst
import HandS.Wide
import HandS.Codes
import HandS.NoneIn
import HandS.Walk
import KE.GoesMore
import KE.GoesNew
import HandS.ForExc
import HandS.ExcIs
import HandS.TryMany
import PySem.Challenge.RW_fairbourse_k61_errors_of_two_instruments
set_option Elab.async false
set_option linter.all false
set_option maxRecDepth 100000
namespace FB
open PySem PySem.Spec PyProof.Rows L2
def topS (i : Nat) : Stmt := PySem.Challenge.pw_fairbourse_k61_errors_of_two_instruments.main.body.getD i (.Pass ⟨0, 0, 0, 0⟩)
abbrev s_is_integral : Stmt := topS 6
abbrev N_is_integral : List Str := ["value"]
theorem sc_is_integral : FnScope N_is_integral ["value"] (defScope s_is_integral) := ⟨rfl, rfl, rfl, by decide +kernel, rfl, by decide +kernel, by decide +kernel⟩
abbrev s_is_within : Stmt := topS 7
abbrev N_is_within : List Str := ["least", "most", "value"]
theorem sc_is_within : FnScope N_is_within ["least", "most", "value"] (defScope s_is_within) := ⟨rfl, rfl, rfl, by decide +kernel, rfl, by decide +kernel, by decide +kernel⟩
abbrev s_check_amount : Stmt := topS 12
abbrev N_check_amount : List Str := ["amount", "most"]
theorem sc_check_amount : FnScope N_check_amount ["amount", "most"] (defScope s_check_amount) := ⟨rfl, rfl, rfl, by decide +kernel, rfl, by decide +kernel, by decide +kernel⟩
abbrev s_check_weights : Stmt := topS 13
abbrev N_check_weights : List Str := ["weights", "amount", "weight"]
theorem sc_check_weights : FnScope N_check_weights ["weights", "amount"] (defScope s_check_weights) := ⟨rfl, rfl, rfl, by decide +kernel, rfl, by decide +kernel, by decide +kernel⟩
abbrev s_split : Stmt := topS 14
abbrev N_split : List Str := ["amount", "weights", "total", "parts", "weight", "_"]
theorem sc_split : FnScope N_split ["amount", "weights"] (defScope s_split) := ⟨rfl, rfl, rfl, by decide +kernel, rfl, by decide +kernel, by decide +kernel⟩
abbrev s_greatest_quotient : Stmt := topS 15
abbrev N_greatest_quotient : List Str := ["weights", "parts", "best", "at"]
theorem sc_greatest_quotient : FnScope N_greatest_quotient ["weights", "parts"] (defScope s_greatest_quotient) := ⟨rfl, rfl, rfl, by decide +kernel, rfl, by decide +kernel, by decide +kernel⟩
abbrev s_check_debts : Stmt := topS 19
abbrev N_check_debts : List Str := ["owed", "house", "row", "debt"]
theorem sc_check_debts : FnScope N_check_debts ["owed"] (defScope s_check_debts) := ⟨rfl, rfl, rfl, by decide +kernel, rfl, by decide +kernel, by decide +kernel⟩
abbrev s_receipts : Stmt := topS 22
abbrev N_receipts : List Str := ["owed", "pay", "amount", "debts"]
theorem sc_receipts : FnScope N_receipts ["owed", "pay"] (defScope s_receipts) := ⟨rfl, rfl, rfl, by decide +kernel, rfl, by decide +kernel, by decide +kernel⟩
abbrev s_received : Stmt := topS 23
abbrev N_received : List Str := ["owed", "pay", "table", "row", "house"]
theorem sc_received : FnScope N_received ["owed", "pay"] (defScope s_received) := ⟨rfl, rfl, rfl, by decide +kernel, rfl, by decide +kernel, by decide +kernel⟩
abbrev s_round_of : Stmt := topS 24
abbrev N_round_of : List Str := ["owed", "cash", "pay", "income", "debts", "held", "got"]
theorem sc_round_of : FnScope N_round_of ["owed", "cash", "pay"] (defScope s_round_of) := ⟨rfl, rfl, rfl, by decide +kernel, rfl, by decide +kernel, by decide +kernel⟩
abbrev s_clearing : Stmt := topS 25
abbrev N_clearing : List Str := ["owed", "cash", "pay", "debts", "lower", "old", "new"]
theorem sc_clearing : FnScope N_clearing ["owed", "cash"] (defScope s_clearing) := ⟨rfl, rfl, rfl, by decide +kernel, rfl, by decide +kernel, by decide +kernel⟩
abbrev s_after_rounds : Stmt := topS 26
abbrev N_after_rounds : List Str := ["owed", "cash", "pay", "_"]
theorem sc_after_rounds : FnScope N_after_rounds ["owed", "cash", "pay"] (defScope s_after_rounds) := ⟨rfl, rfl, rfl, by decide +kernel, rfl, by decide +kernel, by decide +kernel⟩
abbrev s_leap : Stmt := topS 27
abbrev N_leap : List Str := ["owed", "cash", "pay", "drop", "reached", "times", "found", "amount", "fall"]
theorem sc_leap : FnScope N_leap ["owed", "cash", "pay", "drop"] (defScope s_leap) := ⟨rfl, rfl, rfl, by decide +kernel, rfl, by decide +kernel, by decide +kernel⟩
abbrev s_raised : Stmt := topS 28
abbrev N_raised : List Str := ["owed", "cash", "pay", "_", "able", "amount", "most"]
theorem sc_raised : FnScope N_raised ["owed", "cash", "pay"] (defScope s_raised) := ⟨rfl, rfl, rfl, by decide +kernel, rfl, by decide +kernel, by decide +kernel⟩
abbrev s_may_rise : Stmt := topS 29
abbrev N_may_rise : List Str := ["owed", "pay", "able", "following", "house", "debts", "start", "_"]
theorem sc_may_rise : FnScope N_may_rise ["owed", "pay", "able"] (defScope s_may_rise) := ⟨rfl, rfl, rfl, by decide +kernel, rfl, by decide +kernel, by decide +kernel⟩
abbrev s_next_creditor : Stmt := topS 30
abbrev N_next_creditor : List Str := ["debts", "amount", "parts", "more", "creditor"]
theorem sc_next_creditor : FnScope N_next_creditor ["debts", "amount"] (defScope s_next_creditor) := ⟨rfl, rfl, rfl, by decide +kernel, rfl, by decide +kernel, by decide +kernel⟩
abbrev s_cash_after : Stmt := topS 31
abbrev N_cash_after : List Str := ["owed", "cash", "pay", "income", "held", "got", "paid"]
theorem sc_cash_after : FnScope N_cash_after ["owed", "cash", "pay"] (defScope s_cash_after) := ⟨rfl, rfl, rfl, by decide +kernel, rfl, by decide +kernel, by decide +kernel⟩
abbrev s_fallen : Stmt := topS 32
abbrev N_fallen : List Str := ["owed", "pay", "house", "debts"]
theorem sc_fallen : FnScope N_fallen ["owed", "pay"] (defScope s_fallen) := ⟨rfl, rfl, rfl, by decide +kernel, rfl, by decide +kernel, by decide +kernel⟩
abbrev s_missing : Stmt := topS 33
abbrev N_missing : List Str := ["owed", "delivered", "debt", "got", "debts", "parts"]
theorem sc_missing : FnScope N_missing ["owed", "delivered"] (defScope s_missing) := ⟨rfl, rfl, rfl, by decide +kernel, rfl, by decide +kernel, by decide +kernel⟩
abbrev s_Delivery_init : Stmt := inClass (topS 34) 0
abbrev N_Delivery_init : List Str := ["self", "owed", "held", "price", "pay"]
theorem sc_Delivery_init : FnScope N_Delivery_init ["self", "owed", "held", "price"] (defScope s_Delivery_init) := ⟨rfl, rfl, rfl, by decide +kernel, rfl, by decide +kernel, by decide +kernel⟩
abbrev s_Settlement_init : Stmt := inClass (topS 35) 0
abbrev N_Settlement_init : List Str := ["self", "deliveries", "owed", "cash", "debts"]
theorem sc_Settlement_init : FnScope N_Settlement_init ["self", "deliveries", "owed", "cash"] (defScope s_Settlement_init) := ⟨rfl, rfl, rfl, by decide +kernel, rfl, by decide +kernel, by decide +kernel⟩
abbrev s_settle_day : Stmt := topS 36
abbrev N_settle_day : List Str := ["instruments", "owed", "cash", "deliveries", "debts", "units", "held", "price", "delivery"]
theorem sc_settle_day : FnScope N_settle_day ["instruments", "owed", "cash"] (defScope s_settle_day) := ⟨rfl, rfl, rfl, by decide +kernel, rfl, by decide +kernel, by decide +kernel⟩
abbrev s_with_missing : Stmt := topS 37
abbrev N_with_missing : List Str := ["owed", "delivery", "bought_in", "units", "row", "debt", "cents", "debts"]
theorem sc_with_missing : FnScope N_with_missing ["owed", "delivery"] (defScope s_with_missing) := ⟨rfl, rfl, rfl, by decide +kernel, rfl, by decide +kernel, by decide +kernel⟩
abbrev s_check_held : Stmt := topS 38
abbrev N_check_held : List Str := ["amounts", "houses", "amount"]
theorem sc_check_held : FnScope N_check_held ["amounts", "houses"] (defScope s_check_held) := ⟨rfl, rfl, rfl, by decide +kernel, rfl, by decide +kernel, by decide +kernel⟩
abbrev s_law_cell : Stmt := topS 40
abbrev N_law_cell : List Str := ["script", "k"]
theorem sc_law_cell : FnScope N_law_cell ["script", "k"] (defScope s_law_cell) := ⟨rfl, rfl, rfl, by decide +kernel, rfl, by decide +kernel, by decide +kernel⟩
abbrev s_law_draws : Stmt := topS 41
abbrev N_law_draws : List Str := ["cell", "count", "size", "draws", "rest", "k"]
theorem sc_law_draws : FnScope N_law_draws ["cell", "count", "size"] (defScope s_law_draws) := ⟨rfl, rfl, rfl, by decide +kernel, rfl, by decide +kernel, by decide +kernel⟩
abbrev s_law_small_row : Stmt := topS 42
abbrev N_law_small_row : List Str := ["cell", "payer", "count", "size", "draws", "draw"]
theorem sc_law_small_row : FnScope N_law_small_row ["cell", "payer", "count", "size"] (defScope s_law_small_row) := ⟨rfl, rfl, rfl, by decide +kernel, rfl, by decide +kernel, by decide +kernel⟩
abbrev s_law_small_table : Stmt := topS 43
abbrev N_law_small_table : List Str := ["script", "at", "count", "size", "k"]
theorem sc_law_small_table : FnScope N_law_small_table ["script", "at", "count", "size"] (defScope s_law_small_table) := ⟨rfl, rfl, rfl, by decide +kernel, rfl, by decide +kernel, by decide +kernel⟩
abbrev s_law_told : Stmt := topS 44
abbrev N_law_told : List Str := ["instruments", "owed", "cash", "day", "error"]
theorem sc_law_told : FnScope N_law_told ["instruments", "owed", "cash"] (defScope s_law_told) := ⟨rfl, rfl, rfl, by decide +kernel, rfl, by decide +kernel, by decide +kernel⟩
abbrev s_law_instrument : Stmt := topS 45
abbrev N_law_instrument : List Str := ["script", "at", "count", "units", "a", "b", "held", "house", "cell", "price", "kind", "due", "row"]
theorem sc_law_instrument : FnScope N_law_instrument ["script", "at", "count"] (defScope s_law_instrument) := ⟨rfl, rfl, rfl, by decide +kernel, rfl, by decide +kernel, by decide +kernel⟩
abbrev s_law_debts : Stmt := topS 46
abbrev N_law_debts : List Str := ["owed", "instruments", "debts", "row", "units", "held", "price", "a", "b"]
theorem sc_law_debts : FnScope N_law_debts ["owed", "instruments"] (defScope s_law_debts) := ⟨rfl, rfl, rfl, by decide +kernel, rfl, by decide +kernel, by decide +kernel⟩
abbrev s_law_copies : Stmt := topS 47
abbrev N_law_copies : List Str := ["instruments", "row", "units", "held", "price"]
theorem sc_law_copies : FnScope N_law_copies ["instruments"] (defScope s_law_copies) := ⟨rfl, rfl, rfl, by decide +kernel, rfl, by decide +kernel, by decide +kernel⟩
abbrev s_law : Stmt := topS 48
abbrev N_law : List Str := ["script", "count", "owed", "cash", "first", "due", "second", "later", "debts", "row", "actual"]
theorem sc_law : FnScope N_law ["script"] (defScope s_law) := ⟨rfl, rfl, rfl, by decide +kernel, rfl, by decide +kernel, by decide +kernel⟩
set_option maxHeartbeats 0 in
structure Txt (K : PySem.W.Frag) (mg : Str → Option Value) where
  f_is_integral : Addr
  d_is_integral : FuncData
  F_is_integral : Fun K "is_integral" "is_integral" s_is_integral f_is_integral d_is_integral
  m_is_integral : mg "is_integral" = some (.ref f_is_integral)
  b_is_integral : Binds K d_is_integral ["value"] []
  f_is_within : Addr
  d_is_within : FuncData
  F_is_within : Fun K "is_within" "is_within" s_is_within f_is_within d_is_within
  m_is_within : mg "is_within" = some (.ref f_is_within)
  b_is_within : Binds K d_is_within ["least", "most", "value"] []
  f_check_amount : Addr
  d_check_amount : FuncData
  F_check_amount : Fun K "_check_amount" "_check_amount" s_check_amount f_check_amount d_check_amount
  m_check_amount : mg "_check_amount" = some (.ref f_check_amount)
  b_check_amount : Binds K d_check_amount ["amount", "most"] []
  f_check_weights : Addr
  d_check_weights : FuncData
  F_check_weights : Fun K "_check_weights" "_check_weights" s_check_weights f_check_weights d_check_weights
  m_check_weights : mg "_check_weights" = some (.ref f_check_weights)
  b_check_weights : Binds K d_check_weights ["weights", "amount"] []
  f_split : Addr
  d_split : FuncData
  F_split : Fun K "split" "split" s_split f_split d_split
  m_split : mg "split" = some (.ref f_split)
  b_split : Binds K d_split ["amount", "weights"] []
  f_greatest_quotient : Addr
  d_greatest_quotient : FuncData
  F_greatest_quotient : Fun K "_greatest_quotient" "_greatest_quotient" s_greatest_quotient f_greatest_quotient d_greatest_quotient
  m_greatest_quotient : mg "_greatest_quotient" = some (.ref f_greatest_quotient)
  b_greatest_quotient : Binds K d_greatest_quotient ["weights", "parts"] []
  f_check_debts : Addr
  d_check_debts : FuncData
  F_check_debts : Fun K "check_debts" "check_debts" s_check_debts f_check_debts d_check_debts
  m_check_debts : mg "check_debts" = some (.ref f_check_debts)
  b_check_debts : Binds K d_check_debts ["owed"] []
  f_receipts : Addr
  d_receipts : FuncData
  F_receipts : Fun K "receipts" "receipts" s_receipts f_receipts d_receipts
  m_receipts : mg "receipts" = some (.ref f_receipts)
  b_receipts : Binds K d_receipts ["owed", "pay"] []
  f_received : Addr
  d_received : FuncData
  F_received : Fun K "received" "received" s_received f_received d_received
  m_received : mg "received" = some (.ref f_received)
  b_received : Binds K d_received ["owed", "pay"] []
  f_round_of : Addr
  d_round_of : FuncData
  F_round_of : Fun K "round_of" "round_of" s_round_of f_round_of d_round_of
  m_round_of : mg "round_of" = some (.ref f_round_of)
  b_round_of : Binds K d_round_of ["owed", "cash", "pay"] []
  f_clearing : Addr
  d_clearing : FuncData
  F_clearing : Fun K "clearing" "clearing" s_clearing f_clearing d_clearing
  m_clearing : mg "clearing" = some (.ref f_clearing)
  b_clearing : Binds K d_clearing ["owed", "cash"] []
  f_after_rounds : Addr
  d_after_rounds : FuncData
  F_after_rounds : Fun K "_after_rounds" "_after_rounds" s_after_rounds f_after_rounds d_after_rounds
  m_after_rounds : mg "_after_rounds" = some (.ref f_after_rounds)
  b_after_rounds : Binds K d_after_rounds ["owed", "cash", "pay"] []
  f_leap : Addr
  d_leap : FuncData
  F_leap : Fun K "_leap" "_leap" s_leap f_leap d_leap
  m_leap : mg "_leap" = some (.ref f_leap)
  b_leap : Binds K d_leap ["owed", "cash", "pay", "drop"] []
  f_raised : Addr
  d_raised : FuncData
  F_raised : Fun K "_raised" "_raised" s_raised f_raised d_raised
  m_raised : mg "_raised" = some (.ref f_raised)
  b_raised : Binds K d_raised ["owed", "cash", "pay"] []
  f_may_rise : Addr
  d_may_rise : FuncData
  F_may_rise : Fun K "_may_rise" "_may_rise" s_may_rise f_may_rise d_may_rise
  m_may_rise : mg "_may_rise" = some (.ref f_may_rise)
  b_may_rise : Binds K d_may_rise ["owed", "pay", "able"] []
  f_next_creditor : Addr
  d_next_creditor : FuncData
  F_next_creditor : Fun K "_next_creditor" "_next_creditor" s_next_creditor f_next_creditor d_next_creditor
  m_next_creditor : mg "_next_creditor" = some (.ref f_next_creditor)
  b_next_creditor : Binds K d_next_creditor ["debts", "amount"] []
  f_cash_after : Addr
  d_cash_after : FuncData
  F_cash_after : Fun K "cash_after" "cash_after" s_cash_after f_cash_after d_cash_after
  m_cash_after : mg "cash_after" = some (.ref f_cash_after)
  b_cash_after : Binds K d_cash_after ["owed", "cash", "pay"] []
  f_fallen : Addr
  d_fallen : FuncData
  F_fallen : Fun K "fallen" "fallen" s_fallen f_fallen d_fallen
  m_fallen : mg "fallen" = some (.ref f_fallen)
  b_fallen : Binds K d_fallen ["owed", "pay"] []
  f_missing : Addr
  d_missing : FuncData
  F_missing : Fun K "missing" "missing" s_missing f_missing d_missing
  m_missing : mg "missing" = some (.ref f_missing)
  b_missing : Binds K d_missing ["owed", "delivered"] []
  f_Delivery_init : Addr
  d_Delivery_init : FuncData
  F_Delivery_init : Fun K "__init__" "Delivery.__init__" s_Delivery_init f_Delivery_init d_Delivery_init
  b_Delivery_init : Binds K d_Delivery_init ["self", "owed", "held", "price"] []
  f_Settlement_init : Addr
  d_Settlement_init : FuncData
  F_Settlement_init : Fun K "__init__" "Settlement.__init__" s_Settlement_init f_Settlement_init d_Settlement_init
  b_Settlement_init : Binds K d_Settlement_init ["self", "deliveries", "owed", "cash"] []
  f_settle_day : Addr
  d_settle_day : FuncData
  F_settle_day : Fun K "settle_day" "settle_day" s_settle_day f_settle_day d_settle_day
  m_settle_day : mg "settle_day" = some (.ref f_settle_day)
  b_settle_day : Binds K d_settle_day ["instruments", "owed", "cash"] []
  f_with_missing : Addr
  d_with_missing : FuncData
  F_with_missing : Fun K "_with_missing" "_with_missing" s_with_missing f_with_missing d_with_missing
  m_with_missing : mg "_with_missing" = some (.ref f_with_missing)
  b_with_missing : Binds K d_with_missing ["owed", "delivery"] []
  f_check_held : Addr
  d_check_held : FuncData
  F_check_held : Fun K "_check_held" "_check_held" s_check_held f_check_held d_check_held
  m_check_held : mg "_check_held" = some (.ref f_check_held)
  b_check_held : Binds K d_check_held ["amounts", "houses"] []
  f_law_cell : Addr
  d_law_cell : FuncData
  F_law_cell : Fun K "_law_cell" "_law_cell" s_law_cell f_law_cell d_law_cell
  m_law_cell : mg "_law_cell" = some (.ref f_law_cell)
  b_law_cell : Binds K d_law_cell ["script", "k"] []
  f_law_draws : Addr
  d_law_draws : FuncData
  F_law_draws : Fun K "_law_draws" "_law_draws" s_law_draws f_law_draws d_law_draws
  m_law_draws : mg "_law_draws" = some (.ref f_law_draws)
  b_law_draws : Binds K d_law_draws ["cell", "count", "size"] []
  f_law_small_row : Addr
  d_law_small_row : FuncData
  F_law_small_row : Fun K "_law_small_row" "_law_small_row" s_law_small_row f_law_small_row d_law_small_row
  m_law_small_row : mg "_law_small_row" = some (.ref f_law_small_row)
  b_law_small_row : Binds K d_law_small_row ["cell", "payer", "count", "size"] []
  f_law_small_table : Addr
  d_law_small_table : FuncData
  F_law_small_table : Fun K "_law_small_table" "_law_small_table" s_law_small_table f_law_small_table d_law_small_table
  m_law_small_table : mg "_law_small_table" = some (.ref f_law_small_table)
  b_law_small_table : Binds K d_law_small_table ["script", "at", "count", "size"] []
  f_law_told : Addr
  d_law_told : FuncData
  F_law_told : Fun K "_law_told" "_law_told" s_law_told f_law_told d_law_told
  m_law_told : mg "_law_told" = some (.ref f_law_told)
  b_law_told : Binds K d_law_told ["instruments", "owed", "cash"] []
  f_law_instrument : Addr
  d_law_instrument : FuncData
  F_law_instrument : Fun K "_law_instrument" "_law_instrument" s_law_instrument f_law_instrument d_law_instrument
  m_law_instrument : mg "_law_instrument" = some (.ref f_law_instrument)
  b_law_instrument : Binds K d_law_instrument ["script", "at", "count"] []
  f_law_debts : Addr
  d_law_debts : FuncData
  F_law_debts : Fun K "_law_debts" "_law_debts" s_law_debts f_law_debts d_law_debts
  m_law_debts : mg "_law_debts" = some (.ref f_law_debts)
  b_law_debts : Binds K d_law_debts ["owed", "instruments"] []
  f_law_copies : Addr
  d_law_copies : FuncData
  F_law_copies : Fun K "_law_copies" "_law_copies" s_law_copies f_law_copies d_law_copies
  m_law_copies : mg "_law_copies" = some (.ref f_law_copies)
  b_law_copies : Binds K d_law_copies ["instruments"] []
  c_BourseError : Addr
  m_BourseError : mg "BourseError" = some (.ref c_BourseError)
  c_InvalidAmount : Addr
  m_InvalidAmount : mg "InvalidAmount" = some (.ref c_InvalidAmount)
  x_InvalidAmount : PySem.W.excIn K c_InvalidAmount [.type "ValueError", .type "Exception", .type "BaseException", .type "object"] "ValueError.__new__" = true
  k_InvalidAmount : PySem.W.keepIn K (.ref c_InvalidAmount) = true
  b_InvalidAmount : PySem.W.subIn K (.ref c_InvalidAmount) (.type "BaseException") = some true
  t_InvalidAmount : PySem.W.typeIn K (.ref c_InvalidAmount) = some (.type "type")
  d_InvalidAmount : PySem.W.hasDictIn K c_InvalidAmount = true
  s_InvalidAmount : PySem.W.subIn K (.ref c_InvalidAmount) (.ref c_InvalidAmount) = some true
  eg_InvalidAmount : PySem.W.findIn K (.ref c_InvalidAmount) "__getattribute__" = some (some (.builtin "BaseException.__getattribute__"))
  ek_InvalidAmount : PySem.W.findIn K (.ref c_InvalidAmount) "__getattr__" = some none
  ea_InvalidAmount : PySem.W.findIn K (.ref c_InvalidAmount) "__class__" = some (some (.builtin "object.__class__"))
  en_InvalidAmount : PySem.W.specialIn K (.builtin "object.__class__") "__get__" = some (some (.builtin "getset_descriptor.__get__"))
  et_InvalidAmount : PySem.W.takesIn K (.builtin "object.__class__") = some true
  em_InvalidAmount : PySem.W.mroIn K c_InvalidAmount (.type "object") = some true
  e_InvalidAmount : ExcC K c_InvalidAmount
  c_InvalidWeights : Addr
  m_InvalidWeights : mg "InvalidWeights" = some (.ref c_InvalidWeights)
  c_InvalidTrade : Addr
  m_InvalidTrade : mg "InvalidTrade" = some (.ref c_InvalidTrade)
  x_InvalidTrade : PySem.W.excIn K c_InvalidTrade [.type "ValueError", .type "Exception", .type "BaseException", .type "object"] "ValueError.__new__" = true
  k_InvalidTrade : PySem.W.keepIn K (.ref c_InvalidTrade) = true
  b_InvalidTrade : PySem.W.subIn K (.ref c_InvalidTrade) (.type "BaseException") = some true
  t_InvalidTrade : PySem.W.typeIn K (.ref c_InvalidTrade) = some (.type "type")
  d_InvalidTrade : PySem.W.hasDictIn K c_InvalidTrade = true
  s_InvalidTrade : PySem.W.subIn K (.ref c_InvalidTrade) (.ref c_InvalidTrade) = some true
  eg_InvalidTrade : PySem.W.findIn K (.ref c_InvalidTrade) "__getattribute__" = some (some (.builtin "BaseException.__getattribute__"))
  ek_InvalidTrade : PySem.W.findIn K (.ref c_InvalidTrade) "__getattr__" = some none
  ea_InvalidTrade : PySem.W.findIn K (.ref c_InvalidTrade) "__class__" = some (some (.builtin "object.__class__"))
  en_InvalidTrade : PySem.W.specialIn K (.builtin "object.__class__") "__get__" = some (some (.builtin "getset_descriptor.__get__"))
  et_InvalidTrade : PySem.W.takesIn K (.builtin "object.__class__") = some true
  em_InvalidTrade : PySem.W.mroIn K c_InvalidTrade (.type "object") = some true
  e_InvalidTrade : ExcC K c_InvalidTrade
  c_Delivery : Addr
  m_Delivery : mg "Delivery" = some (.ref c_Delivery)
  pg_Delivery : PySem.W.plainGet K c_Delivery Str.empty = true
  hd_Delivery : PySem.W.hasDictIn K c_Delivery = true
  po_Delivery : PySem.W.plainOver K c_Delivery = true
  sa_Delivery : PySem.W.findIn K (.ref c_Delivery) "__setattr__" = some (some (.builtin "object.__setattr__"))
  ma_Delivery : PySem.W.makesIn K c_Delivery = true
  kc_Delivery : PySem.W.keepIn K (.ref c_Delivery) = true
  cl_Delivery : Cls K c_Delivery
  na_Delivery_delivered : PySem.W.findIn K (.ref c_Delivery) "delivered" = some none
  na_Delivery_missing : PySem.W.findIn K (.ref c_Delivery) "missing" = some none
  na_Delivery_held : PySem.W.findIn K (.ref c_Delivery) "held" = some none
  na_Delivery_price : PySem.W.findIn K (.ref c_Delivery) "price" = some none
  c_Settlement : Addr
  m_Settlement : mg "Settlement" = some (.ref c_Settlement)
  pg_Settlement : PySem.W.plainGet K c_Settlement Str.empty = true
  hd_Settlement : PySem.W.hasDictIn K c_Settlement = true
  po_Settlement : PySem.W.plainOver K c_Settlement = true
  sa_Settlement : PySem.W.findIn K (.ref c_Settlement) "__setattr__" = some (some (.builtin "object.__setattr__"))
  ma_Settlement : PySem.W.makesIn K c_Settlement = true
  kc_Settlement : PySem.W.keepIn K (.ref c_Settlement) = true
  cl_Settlement : Cls K c_Settlement
  na_Settlement_deliveries : PySem.W.findIn K (.ref c_Settlement) "deliveries" = some none
  na_Settlement_owed : PySem.W.findIn K (.ref c_Settlement) "owed" = some none
  na_Settlement_pay : PySem.W.findIn K (.ref c_Settlement) "pay" = some none
  na_Settlement_paid : PySem.W.findIn K (.ref c_Settlement) "paid" = some none
  na_Settlement_cash : PySem.W.findIn K (.ref c_Settlement) "cash" = some none
  na_Settlement_fallen : PySem.W.findIn K (.ref c_Settlement) "fallen" = some none
  mk_Delivery : Mk K c_Delivery f_Delivery_init
  mk_Settlement : Mk K c_Settlement f_Settlement_init
  kt_InvalidTrade_BourseError : PySem.W.kitOne K (.ref c_InvalidTrade) (.ref c_BourseError) = some true
  kt_InvalidTrade_InvalidAmount : PySem.W.kitOne K (.ref c_InvalidTrade) (.ref c_InvalidAmount) = some false
  kt_InvalidAmount_BourseError : PySem.W.kitOne K (.ref c_InvalidAmount) (.ref c_BourseError) = some true
  su_InvalidAmount_InvalidTrade : PySem.W.subIn K (.ref c_InvalidAmount) (.ref c_InvalidTrade) = some false
  z_abs : mg "abs" = none
  z_all : mg "all" = none
  z_bool : mg "bool" = none
  z_enumerate : mg "enumerate" = none
  z_int : mg "int" = none
  z_isinstance : mg "isinstance" = none
  z_len : mg "len" = none
  z_list : mg "list" = none
  z_max : mg "max" = none
  z_min : mg "min" = none
  z_range : mg "range" = none
  z_sum : mg "sum" = none
  z_zip : mg "zip" = none
  t_MOST_AMOUNT : Tok
  m_MOST_AMOUNT : mg "MOST_AMOUNT" = some (.int 1000000000000000000 t_MOST_AMOUNT)
  t_MOST_WEIGHTS : Tok
  m_MOST_WEIGHTS : mg "MOST_WEIGHTS" = some (.int 40 t_MOST_WEIGHTS)
  t_MOST_WEIGHT : Tok
  m_MOST_WEIGHT : mg "MOST_WEIGHT" = some (.int 1000000000000000 t_MOST_WEIGHT)
  t_MOST_HOUSES : Tok
  m_MOST_HOUSES : mg "MOST_HOUSES" = some (.int 13 t_MOST_HOUSES)
  t_MOST_DEBT : Tok
  m_MOST_DEBT : mg "MOST_DEBT" = some (.int 1000000000000000 t_MOST_DEBT)
  t_MOST_HELD : Tok
  m_MOST_HELD : mg "MOST_HELD" = some (.int 100000000000000000 t_MOST_HELD)
/-! own short words -/
theorem iteD {p A B : Prop} [Decidable p] (h1 : p → A) (h2 : ¬ p → B) : if decide p = true then A else B := by
  by_cases h : p
  · rw [decide_eq_true h, if_pos rfl]; exact h1 h
  · rw [decide_eq_false h, if_neg Bool.false_ne_true]; exact h2 h
theorem iteDN {p A B : Prop} [Decidable p] (h1 : ¬ p → A) (h2 : p → B) : if (!decide p) = true then A else B := by
  by_cases h : p
  · rw [decide_eq_true h]; exact iteF (h2 h)
  · rw [decide_eq_false h]; exact iteT (h1 h)
theorem len_le {n : Nat} (h : Nat.ble n 1000 = true) : n ≤ sizeLine := Nat.le_trans (Nat.le_of_ble_eq_true h) (by decide)
theorem iteB {b : Bool} {A B : Prop} (h1 : b = true → A) (h2 : b = false → B) : if b = true then A else B := by
  cases b with
  | true => exact iteT (h1 rfl)
  | false => exact iteF (h2 rfl)
theorem cmul_l {i j : Int} (h : -(2 ^ 64) < i) (h' : i < 2 ^ 64) : CMul i j := .inl ⟨h, h'⟩
theorem cmul_r {i j : Int} (h : -(2 ^ 64) < j) (h' : j < 2 ^ 64) : CMul i j := .inr ⟨h, h'⟩
theorem dec_t {p : Prop} [Decidable p] (h : decide p = true) : p := of_decide_eq_true h
theorem dec_f {p : Prop} [Decidable p] (h : decide p = false) : ¬ p := of_decide_eq_false h
theorem ndec_t {p : Prop} [Decidable p] (h : (!decide p) = true) : ¬ p := fun q => by rw [decide_eq_true q] at h; cases h
theorem ndec_f {p : Prop} [Decidable p] (h : (!decide p) = false) : p := by
  by_cases q : p
  · exact q
  · rw [decide_eq_false q] at h; cases h
theorem fld_lt {n : Nat} (h : Nat.ble (n + 1) 1000 = true) : n < 1000 := Nat.le_of_ble_eq_true h
def rLen (K : PySem.W.Frag) : List V → Hp → VK → Prop := fun xs H Q => ∃ p ys, xs = [.ref p] ∧ (SqL K H p ys ∨ SqT K H p ys) ∧ Q (.int ys.length) H
def rListOf (K : PySem.W.Frag) : List V → Hp → VK → Prop := fun xs H Q => ∃ p ys, xs = [.ref p] ∧ (SqL K H p ys ∨ SqT K H p ys) ∧ ∀ l, H l = none → Q (.ref l) (upd H l (.lst ys))
def rTupleOf (K : PySem.W.Frag) : List V → Hp → VK → Prop := fun xs H Q => ∃ p ys, xs = [.ref p] ∧ ((SqL K H p ys ∧ ∀ l, H l = none → Q (.ref l) (upd H l (.tup ys))) ∨ (SqT K H p ys ∧ Q (.ref p) H))
theorem len0 : ([] : List V).length ≤ sizeLine := len_le rfl
theorem len1 {a : V} : [a].length ≤ sizeLine := len_le rfl
theorem len2 {a b : V} : [a, b].length ≤ sizeLine := len_le rfl
theorem len3 {a b c : V} : [a, b, c].length ≤ sizeLine := len_le rfl
theorem len4 {a b c d : V} : [a, b, c, d].length ≤ sizeLine := len_le rfl
theorem len5 {a b c d e : V} : [a, b, c, d, e].length ≤ sizeLine := len_le rfl
local macro_rules | `(tactic| walk_at "st") => `(tactic| repeat (first
  | (apply Exists.intro (α := V))
  | (apply Exists.intro (α := Int))
  | (apply Exists.intro (α := Bool))
  | (apply Exists.intro (α := Addr))
  | (apply Exists.intro (α := List V))
  | (apply Exists.intro (α := List Int))
  | (apply Exists.intro (α := List (Str × V)))
  | (apply Exists.intro (α := Str))
  | (apply And.intro; focus (first | omega | (dsimp only; omega) | (simp only [List.length_map, List.length_replicate]; omega) | exact rfl | assumption | exact SqL.of (by assumption) | exact Or.inl (by assumption) | exact Or.inr (by assumption) | exact Or.inr (SqT.of (by assumption)) | exact Or.inl (Or.inl upd_same) | exact Or.inl (Or.inl (Or.inl upd_same)) | (with_reducible exact len0) | (with_reducible exact len1) | (with_reducible exact len2) | (with_reducible exact len3) | (with_reducible exact len4) | (with_reducible exact len5) | exact upd_same | exact ⟨_, Or.inl (Or.inl upd_same)⟩ | exact ⟨_, SqL.of (by assumption)⟩ | exact ⟨_, by assumption⟩ | exact Or.inl ⟨rfl, _, SqL.of (by assumption)⟩ | exact Or.inl ⟨rfl, _, SqL.of upd_same⟩ | exact cmul_l (by omega) (by omega) | exact cmul_r (by omega) (by omega) | exact ⟨by omega, by omega⟩ | (simp only [List.length_map, List.length_replicate]; omega) | exact Or.inl (SqL.of (by assumption)) | exact SqT.of (by assumption) | exact fld_lt rfl | exact Or.inl ⟨_, by assumption, rfl⟩))))
/-- the script's cell at j, 0 where there is none -/
def cellOf (ns : List Int) (j : Nat) : Int := ns.getD j 0
theorem atI_ints {ns : List Int} {j : Nat} (h : j < ns.length) : atI (ns.map V.int) (j : Int) = some (.int (cellOf ns j)) := by
  refine at_of (j := j) rfl ?_
  rw [List.getElem?_map, List.getElem?_eq_getElem h]
  unfold cellOf
  rw [List.getD_eq_getElem?_getD, List.getElem?_eq_getElem h]
  rfl
theorem cellOf_out {ns : List Int} {j : Nat} (h : ¬ j < ns.length) : cellOf ns j = 0 := by
  unfold cellOf
  rw [List.getD_eq_getElem?_getD, List.getElem?_eq_none (by omega)]
  rfl
theorem same_upd {H : Hp} {p : Addr} {o : HO} (h : H p = none) : Same H (upd H p o) := fun b x e => by
  rw [upd_ne (ne_of_none e h)]
  exact e
/-- a slice of a list of ints -/
def cutI (ns : List Int) (lo hi : Option Int) : List Int := (ns.drop (HT.sIx ns.length 0 lo)).take (HT.sIx ns.length ns.length hi - HT.sIx ns.length 0 lo)
theorem cutV_ints (ns : List Int) (lo hi : Option Int) : cutV (ns.map V.int) lo hi = (cutI ns lo hi).map V.int := by
  unfold cutV cutI
  rw [List.length_map, List.map_take, List.map_drop]
theorem cutI_len (ns : List Int) (lo hi : Option Int) : (cutI ns lo hi).length ≤ ns.length := by
  unfold cutI
  rw [List.length_take, List.length_drop]
  omega
theorem ints_at {ns : List Int} {i : Nat} {x : V} (h : (ns.map V.int)[i]? = some x) : ∃ z, ns[i]? = some z ∧ x = V.int z := by
  rw [List.getElem?_map] at h
  cases e : ns[i]? with
  | none => rw [e] at h; cases h
  | some z => rw [e] at h; exact ⟨z, rfl, (Option.some.inj h).symm⟩
theorem take_succ {α : Type} {xs : List α} {i : Nat} {x : α} (h : xs[i]? = some x) : xs.take (i + 1) = xs.take i ++ [x] := by
  rw [List.take_add_one, h]
  rfl
theorem sum_le_mul : ∀ (ws : List Int) (b : Int), (∀ w, w ∈ ws → w ≤ b) → ws.sum ≤ (ws.length : Int) * b
  | [], b, _ => by show (0 : Int) ≤ ((0 : Nat) : Int) * b; omega
  | w :: ws, b, h => by
    rw [List.sum_cons, List.length_cons, Int.natCast_add, Int.add_mul]
    have h1 := h w List.mem_cons_self
    have h2 := sum_le_mul ws b fun x hx => h x (List.mem_cons_of_mem _ hx)
    omega
theorem ixN_nat {n j : Nat} (h : j < n) : ixN n (j : Int) = some j := by
  unfold ixN
  rw [if_pos (by omega), if_pos (by omega), Int.toNat_natCast]
theorem call_int_i {X : Cx} : CallR X (.type "int") (fun xs H Q => ∃ i : Int, xs = [.int i] ∧ Q (.int i) H) := by
  intro pins s σ H xs us Q I r h
  obtain ⟨i, e, q⟩ := h
  exact call_int1 pins s σ H xs us Q I r (.inl ⟨i, e, q⟩)
theorem dpAll_ints {K : PySem.W.Frag} {H : Hp} : ∀ xs : List Int, DpAll K H (xs.map V.int) (xs.map PyData.int)
  | [] => .nil
  | x :: xs => .cons (.int x) (dpAll_ints xs)
theorem eqvAll_ints : ∀ xs ys : List Int, PyData.eqvAll (xs.map PyData.int) (ys.map PyData.int) = decide (xs = ys)
  | [], [] => by simp [PyData.eqvAll]
  | [], _ :: _ => by simp [PyData.eqvAll]
  | _ :: _, [] => by simp [PyData.eqvAll]
  | x :: xs, y :: ys => by
    rw [List.map_cons, List.map_cons]
    simp only [PyData.eqvAll, PyData.eqv]
    rw [eqvAll_ints xs ys]
    by_cases h : x = y <;> by_cases h2 : xs = ys <;> simp [h, h2]
theorem lay_ints : ∀ xs : List Int, PyData.canLayAll0 (xs.map PyData.int) = true
  | [] => rfl
  | x :: xs => by
    rw [List.map_cons]
    simp only [PyData.canLayAll0, PyData.canLay0, Bool.true_and]
    exact lay_ints xs
theorem depth_ints : ∀ xs : List Int, PyData.depthAll (xs.map PyData.int) = 0
  | [] => rfl
  | x :: xs => by
    rw [List.map_cons]
    simp only [PyData.depthAll, PyData.depth, depth_ints xs]
    rfl
theorem shaped_ints (xs : List Int) : SeqAt.shaped (.list (xs.map PyData.int)) = true := by
  unfold SeqAt.shaped
  simp only [PyData.canLay0, PyData.depth, lay_ints, depth_ints]
  rfl
theorem eqD_ints {K : PySem.W.Frag} {H : Hp} {a b : Addr} {xs ys : List Int} {Q : VK} (h1 : SqL K H a (xs.map V.int)) (h2 : SqL K H b (ys.map V.int)) (q : Q (.bl (decide (xs = ys))) H) : rEqD K (.ref a) (.ref b) H Q :=
  ⟨_, _, .lst h1 (dpAll_ints xs), .lst h2 (dpAll_ints ys), shaped_ints xs, shaped_ints ys, by rw [show PyData.eqv (.list (xs.map PyData.int)) (.list (ys.map PyData.int)) = decide (xs = ys) by simp only [PyData.eqv, eqvAll_ints]]; exact q⟩
theorem neD_ints {K : PySem.W.Frag} {H : Hp} {a b : Addr} {xs ys : List Int} {Q : VK} (h1 : SqL K H a (xs.map V.int)) (h2 : SqL K H b (ys.map V.int)) (q : Q (.bl (!decide (xs = ys))) H) : rNeD K (.ref a) (.ref b) H Q :=
  ⟨_, _, .lst h1 (dpAll_ints xs), .lst h2 (dpAll_ints ys), shaped_ints xs, shaped_ints ys, by rw [show PyData.eqv (.list (xs.map PyData.int)) (.list (ys.map PyData.int)) = decide (xs = ys) by simp only [PyData.eqv, eqvAll_ints]]; exact q⟩

theorem pget_list {X : Cx} : PGet X (fun x y H Q => ∃ (p : Addr) (xs : List V) (j : Nat) (z : V), x = .ref p ∧ y = .int (j : Int) ∧ SqL X.K H p xs ∧ xs[j]? = some z ∧ Q z H) := by
  intro pins s σ H x y v u Q I rx ry h
  obtain ⟨p, xs, j, z, rfl, rfl, hq, he, q⟩ := h
  cases rx
  obtain ⟨t, rfl⟩ := ry
  obtain ⟨its, r, pl, hz⟩ := I.list hq
  obtain ⟨w, ew, rw'⟩ := r.get he
  have hl := r.length
  have hn := line63
  have hj := (List.getElem?_eq_some_iff.mp he).1
  exact wpAny_getItem_list pl.isList (by omega) (by omega) (by simpa using ew) ⟨z, H, I, rw', q⟩

/-! the mathematics of split: the greatest quotient, steps, what makes a division the one it is -/
def at0 (ws : List Int) (i : Nat) : Int := ws.getD i 0
theorem at0_lt {ws : List Int} {i : Nat} (h : i < ws.length) : ws[i]? = some (at0 ws i) := by
  unfold at0
  rw [List.getD_eq_getElem?_getD, List.getElem?_eq_getElem h]
  rfl
theorem atI_n {ws : List Int} {j : Nat} (h : j < ws.length) : atI (ws.map V.int) (j : Int) = some (.int (at0 ws j)) := by
  refine at_of (j := j) rfl ?_
  rw [List.getElem?_map, at0_lt h]
  rfl
theorem at0_of {ws : List Int} {i : Nat} {x : Int} (h : ws[i]? = some x) : at0 ws i = x := by
  unfold at0
  rw [List.getD_eq_getElem?_getD, h]
  rfl
theorem at0_out {ws : List Int} {i : Nat} (h : ws.length ≤ i) : at0 ws i = 0 := by
  unfold at0
  rw [List.getD_eq_getElem?_getD, List.getElem?_eq_none h]
  rfl
theorem at0_ext {xs ys : List Int} (hl : xs.length = ys.length) (h : ∀ i, i < xs.length → at0 xs i = at0 ys i) : xs = ys := by
  refine List.ext_getElem? fun i => ?_
  by_cases hi : i < xs.length
  · rw [at0_lt hi, at0_lt (by omega), h i hi]
  · rw [List.getElem?_eq_none (by omega), List.getElem?_eq_none (by omega)]
theorem at0_set {ps : List Int} {k i : Nat} {x : Int} (hk : k < ps.length) : at0 (ps.set k x) i = if i = k then x else at0 ps i := by
  by_cases h : i = k
  · subst h
    rw [if_pos rfl]
    exact at0_of (List.getElem?_set_self hk)
  · rw [if_neg h]
    unfold at0
    rw [List.getD_eq_getElem?_getD, List.getD_eq_getElem?_getD, List.getElem?_set_ne (fun e => h e.symm)]
theorem at0_nonneg {ws : List Int} (h : ∀ w, w ∈ ws → 0 ≤ w) (i : Nat) : 0 ≤ at0 ws i := by
  by_cases hi : i < ws.length
  · exact h _ (List.mem_of_getElem? (at0_lt hi))
  · rw [at0_out (by omega)]; exact Int.le_refl 0

/-- one cent more at k -/
def bump (ps : List Int) (k : Nat) : List Int := ps.set k (at0 ps k + 1)
theorem bump_len (ps : List Int) (k : Nat) : (bump ps k).length = ps.length := List.length_set
theorem at0_bump {ps : List Int} {k i : Nat} (hk : k < ps.length) : at0 (bump ps k) i = if i = k then at0 ps k + 1 else at0 ps i := at0_set hk
theorem sum_set1 : ∀ (ps : List Int) (k : Nat) (x : Int), k < ps.length → (ps.set k x).sum = ps.sum + (x - at0 ps k)
  | [], _, _, h => absurd h (Nat.not_lt_zero _)
  | p :: ps, 0, x, _ => by
    show (x :: ps).sum = (p :: ps).sum + (x - p)
    rw [List.sum_cons, List.sum_cons]
    omega
  | p :: ps, k + 1, x, h => by
    show (p :: ps.set k x).sum = (p :: ps).sum + (x - at0 ps k)
    rw [List.sum_cons, List.sum_cons, sum_set1 ps k x (Nat.lt_of_succ_lt_succ h)]
    omega
theorem bump_sum {ps : List Int} {k : Nat} (h : k < ps.length) : (bump ps k).sum = ps.sum + 1 := by
  unfold bump
  rw [sum_set1 ps k _ h]
  omega
/-- the index with the greatest quotient among the first m -/
def gq (ws ps : List Int) : Nat → Nat
  | 0 => 0
  | m + 1 => if at0 ws (gq ws ps m) * (at0 ps m + 1) < at0 ws m * (at0 ps (gq ws ps m) + 1) then m else gq ws ps m
theorem gq_one (ws ps : List Int) : gq ws ps 1 = 0 := by
  show (if at0 ws 0 * (at0 ps 0 + 1) < at0 ws 0 * (at0 ps 0 + 1) then 0 else 0) = 0
  split <;> rfl
theorem gq_lt (ws ps : List Int) : ∀ m, 0 < m → gq ws ps m < m
  | 0, h => absurd h (Nat.lt_irrefl _)
  | 1, _ => by rw [gq_one]; exact Nat.one_pos
  | m + 2, _ => by
    have ih := gq_lt ws ps (m + 1) (Nat.succ_pos _)
    unfold gq
    split
    · exact Nat.lt_succ_self _
    · exact Nat.lt_succ_of_lt ih
theorem ratio_lt {a A b B c C : Int} (hA : 0 < A) (hB : 0 < B) (hC : 0 < C) (h1 : b * A < a * B) (h2 : c * B ≤ b * C) : c * A < a * C := by
  have e1 : b * A * C < a * B * C := Int.mul_lt_mul_of_pos_right h1 hC
  have e2 : c * B * A ≤ b * C * A := Int.mul_le_mul_of_nonneg_right h2 (by omega)
  have e3 : c * A * B < a * C * B := by grind
  exact Int.lt_of_mul_lt_mul_right e3 (by omega)
theorem ratio_le {a A b B c C : Int} (hA : 0 < A) (hB : 0 < B) (hC : 0 < C) (h1 : b * A ≤ a * B) (h2 : c * B < b * C) : c * A < a * C := by
  have e1 : b * A * C ≤ a * B * C := Int.mul_le_mul_of_nonneg_right h1 (by omega)
  have e2 : c * B * A < b * C * A := Int.mul_lt_mul_of_pos_right h2 hA
  have e3 : c * A * B < a * C * B := by grind
  exact Int.lt_of_mul_lt_mul_right e3 (by omega)
/-- (i, a) goes ahead of (k, b) -/
def Ahead (ws : List Int) (i : Nat) (a : Int) (k : Nat) (b : Int) : Prop := at0 ws k * a < at0 ws i * b ∨ (at0 ws k * a = at0 ws i * b ∧ i ≤ k)
theorem Ahead.le {ws : List Int} {i k : Nat} {a b : Int} (h : Ahead ws i a k b) : at0 ws k * a ≤ at0 ws i * b := by
  rcases h with h | ⟨h, _⟩
  · omega
  · omega
theorem gq_best {ws ps : List Int} (hp : ∀ i, 0 ≤ at0 ps i) : ∀ m k, k < m → Ahead ws (gq ws ps m) (at0 ps (gq ws ps m) + 1) k (at0 ps k + 1)
  | 0, k, h => absurd h (Nat.not_lt_zero _)
  | m + 1, k, h => by
    have hb := hp (gq ws ps m)
    have hm := hp m
    have hk := hp k
    by_cases e : at0 ws (gq ws ps m) * (at0 ps m + 1) < at0 ws m * (at0 ps (gq ws ps m) + 1)
    · have eg : gq ws ps (m + 1) = m := by
        show (if _ then _ else _) = _
        rw [if_pos e]
      rw [eg]
      by_cases hkm : k = m
      · subst hkm
        exact .inr ⟨rfl, Nat.le_refl _⟩
      · have ih := (gq_best (ws := ws) hp m k (by omega)).le
        exact .inl (ratio_lt (by omega) (by omega) (by omega) e ih)
    · have eg : gq ws ps (m + 1) = gq ws ps m := by
        show (if _ then _ else _) = _
        rw [if_neg e]
      rw [eg]
      by_cases hkm : k = m
      · subst hkm
        by_cases e2 : at0 ws k * (at0 ps (gq ws ps k) + 1) = at0 ws (gq ws ps k) * (at0 ps k + 1)
        · refine .inr ⟨e2, ?_⟩
          by_cases h0 : 0 < k
          · exact Nat.le_of_lt (gq_lt ws ps k h0)
          · have : k = 0 := by omega
            subst this
            exact Nat.le_refl _
        · exact .inl (by omega)
      · exact gq_best hp m k (by omega)
/-- n steps -/
def steps (ws : List Int) : Nat → List Int → List Int
  | 0, ps => ps
  | n + 1, ps => bump (steps ws n ps) (gq ws (steps ws n ps) ws.length)
def floors (amount total : Int) (ws : List Int) : List Int := ws.map fun w => amount * w / total
def splitOf (amount : Int) (ws : List Int) : List Int :=
  if ws.sum = 0 then ws.map fun _ => 0 else steps ws (amount - (floors amount ws.sum ws).sum).toNat (floors amount ws.sum ws)
theorem steps_len (ws : List Int) : ∀ n ps, (steps ws n ps).length = ps.length
  | 0, _ => rfl
  | n + 1, ps => by
    show (bump _ _).length = _
    rw [bump_len, steps_len ws n ps]
theorem floors_len (amount total : Int) (ws : List Int) : (floors amount total ws).length = ws.length := List.length_map ..
theorem splitOf_len (amount : Int) (ws : List Int) : (splitOf amount ws).length = ws.length := by
  unfold splitOf
  split
  · exact List.length_map ..
  · rw [steps_len, floors_len]
theorem at0_floors {amount total : Int} {ws : List Int} {i : Nat} (h : i < ws.length) : at0 (floors amount total ws) i = amount * at0 ws i / total := by
  refine at0_of ?_
  unfold floors
  rw [List.getElem?_map, at0_lt h]
  rfl
theorem sum_nonneg : ∀ (ws : List Int), (∀ w, w ∈ ws → 0 ≤ w) → 0 ≤ ws.sum
  | [], _ => Int.le_refl _
  | w :: ws, h => by
    rw [List.sum_cons]
    have h1 := h w List.mem_cons_self
    have h2 := sum_nonneg ws fun x hx => h x (List.mem_cons_of_mem _ hx)
    omega
theorem at0_le_sum : ∀ (ws : List Int) (i : Nat), (∀ w, w ∈ ws → 0 ≤ w) → at0 ws i ≤ ws.sum
  | [], i, _ => by rw [at0_out (Nat.zero_le _)]; exact Int.le_refl _
  | w :: ws, 0, h => by
    show w ≤ (w :: ws).sum
    rw [List.sum_cons]
    have h2 := sum_nonneg ws fun x hx => h x (List.mem_cons_of_mem _ hx)
    omega
  | w :: ws, i + 1, h => by
    show at0 ws i ≤ (w :: ws).sum
    rw [List.sum_cons]
    have h1 := h w List.mem_cons_self
    have h2 := at0_le_sum ws i fun x hx => h x (List.mem_cons_of_mem _ hx)
    omega
theorem floors_mul_le (amount total : Int) (ht : 0 < total) : ∀ ws : List Int, (floors amount total ws).sum * total ≤ amount * ws.sum
  | [] => by show (0 : Int) * total ≤ amount * 0; omega
  | w :: ws => by
    show ((amount * w / total) :: floors amount total ws).sum * total ≤ amount * (w :: ws).sum
    rw [List.sum_cons, List.sum_cons, Int.add_mul, Int.mul_add]
    have h1 := floors_mul_le amount total ht ws
    have h2 := Int.ediv_mul_le (amount * w) (by omega : total ≠ 0)
    omega
theorem floors_le {amount : Int} {ws : List Int} (ht : 0 < ws.sum) : (floors amount ws.sum ws).sum ≤ amount := by
  have h := floors_mul_le amount ws.sum ht ws
  exact Int.le_of_mul_le_mul_right h ht
theorem floors_gt (amount total : Int) (ht : 0 < total) : ∀ ws : List Int, amount * ws.sum ≤ (floors amount total ws).sum * total + (ws.length : Int) * (total - 1)
  | [] => by show amount * 0 ≤ (0 : Int) * total + ((0 : Nat) : Int) * (total - 1); omega
  | w :: ws => by
    show amount * (w :: ws).sum ≤ ((amount * w / total) :: floors amount total ws).sum * total + ((ws.length + 1 : Nat) : Int) * (total - 1)
    rw [List.sum_cons, List.sum_cons, Int.add_mul, Int.mul_add]
    have h1 := floors_gt amount total ht ws
    have h2 := Int.lt_ediv_add_one_mul_self (amount * w) ht
    rw [Int.add_mul, Int.one_mul] at h2
    have h3 : ((ws.length + 1 : Nat) : Int) * (total - 1) = (ws.length : Int) * (total - 1) + (total - 1) := by
      rw [Int.natCast_add, Int.add_mul]
      omega
    omega
/-- fewer steps than weights -/
theorem floors_rest {amount : Int} {ws : List Int} (ht : 0 < ws.sum) : amount - (floors amount ws.sum ws).sum < ws.length := by
  have h := floors_gt amount ws.sum ht ws
  have h2 : (amount - (floors amount ws.sum ws).sum) * ws.sum ≤ (ws.length : Int) * (ws.sum - 1) := by
    rw [Int.sub_mul]
    omega
  by_cases hl : (ws.length : Int) = 0
  · have : ws = [] := by
      cases ws with
      | nil => rfl
      | cons x r => rw [List.length_cons] at hl; omega
    subst this
    exact absurd ht (by decide)
  · refine Int.lt_of_mul_lt_mul_right (Int.lt_of_le_of_lt h2 ?_) (Int.le_of_lt ht)
    rw [Int.mul_sub]
    omega
theorem floors_nonneg {amount total : Int} {ws : List Int} (ha : 0 ≤ amount) (ht : 0 < total) (hw : ∀ w, w ∈ ws → 0 ≤ w) : ∀ p, p ∈ floors amount total ws → 0 ≤ p := by
  intro p hp
  obtain ⟨w, hm, rfl⟩ := List.mem_map.mp hp
  exact Int.ediv_nonneg (Int.mul_nonneg ha (hw w hm)) (by omega)
theorem steps_ge {ws : List Int} (hl : 0 < ws.length) : ∀ n ps, ps.length = ws.length → ∀ i, at0 ps i ≤ at0 (steps ws n ps) i
  | 0, _, _, _ => Int.le_refl _
  | n + 1, ps, h, i => by
    have ih := steps_ge hl n ps h i
    have hk : gq ws (steps ws n ps) ws.length < (steps ws n ps).length := by rw [steps_len, h]; exact gq_lt _ _ _ hl
    show at0 ps i ≤ at0 (bump _ _) i
    rw [at0_bump hk]
    split
    · rename_i e
      rw [← e]
      omega
    · exact ih
theorem steps_sum {ws : List Int} (hl : 0 < ws.length) : ∀ n ps, ps.length = ws.length → (steps ws n ps).sum = ps.sum + n
  | 0, ps, _ => by show ps.sum = ps.sum + ((0 : Nat) : Int); omega
  | n + 1, ps, h => by
    have hk : gq ws (steps ws n ps) ws.length < (steps ws n ps).length := by rw [steps_len, h]; exact gq_lt _ _ _ hl
    show (bump _ _).sum = _
    rw [bump_sum hk, steps_sum hl n ps h]
    omega
theorem len_pos {ws : List Int} (h : 0 < ws.sum) : 0 < ws.length := by
  cases ws with
  | nil => exact absurd h (by decide)
  | cons x r => rw [List.length_cons]; exact Nat.succ_pos _
theorem splitOf_sum {amount : Int} {ws : List Int} (ht : 0 < ws.sum) : (splitOf amount ws).sum = amount := by
  unfold splitOf
  rw [if_neg (by omega), steps_sum (len_pos ht) _ _ (floors_len ..)]
  have := floors_le (amount := amount) ht
  omega
theorem splitOf_ge {amount : Int} {ws : List Int} (ht : 0 < ws.sum) {i : Nat} (hi : i < ws.length) : amount * at0 ws i / ws.sum ≤ at0 (splitOf amount ws) i := by
  unfold splitOf
  rw [if_neg (by omega)]
  have h := steps_ge (len_pos ht) (amount - (floors amount ws.sum ws).sum).toNat (floors amount ws.sum ws) (floors_len ..) i
  rw [at0_floors hi] at h
  exact h
theorem sum_lt_ex : ∀ (ps ws : List Int), ps.length = ws.length → ps.sum < ws.sum → ∃ i, i < ws.length ∧ at0 ps i < at0 ws i
  | [], [], _, h => absurd h (by decide)
  | p :: ps, w :: ws, hl, h => by
    rw [List.sum_cons, List.sum_cons] at h
    by_cases e : p < w
    · exact ⟨0, Nat.succ_pos _, e⟩
    · obtain ⟨i, h1, h2⟩ := sum_lt_ex ps ws (by simpa using hl) (by omega)
      exact ⟨i + 1, Nat.succ_lt_succ h1, h2⟩
  | [], _ :: _, hl, _ => by simp at hl
  | _ :: _, [], hl, _ => by simp at hl
/-- while there are fewer cents than weights in all, nobody gets more than his weight -/
theorem steps_le {ws : List Int} (hw : ∀ w, w ∈ ws → 0 ≤ w) (hl : 0 < ws.length) : ∀ (n : Nat) (ps : List Int), ps.length = ws.length → (∀ i, 0 ≤ at0 ps i) → (∀ i, i < ws.length → at0 ps i ≤ at0 ws i) → ps.sum + (n : Int) ≤ ws.sum → ∀ i, i < ws.length → at0 (steps ws n ps) i ≤ at0 ws i
  | 0, _, _, _, h, _, i, hi => h i hi
  | n + 1, ps, h, h0, h1, h2, i, hi => by
    have ih := steps_le hw hl n ps h h0 h1 (by omega)
    have hn : ∀ i, 0 ≤ at0 (steps ws n ps) i := fun i => Int.le_trans (h0 i) (steps_ge hl n ps h i)
    have hk : gq ws (steps ws n ps) ws.length < (steps ws n ps).length := by rw [steps_len, h]; exact gq_lt _ _ _ hl
    have hs := steps_sum hl n ps h
    obtain ⟨k, hk1, hk2⟩ := sum_lt_ex (steps ws n ps) ws (by rw [steps_len, h]) (by omega)
    have hb := (gq_best (ws := ws) hn ws.length k hk1).le
    show at0 (bump _ _) i ≤ _
    rw [at0_bump hk]
    split
    · rename_i e
      rw [e]
      generalize gq ws (steps ws n ps) ws.length = b at *
      generalize steps ws n ps = qs at *
      have hkn := hn k
      have hbn := hn b
      have h5 : (at0 qs k + 1) * (at0 qs b + 1) ≤ at0 ws k * (at0 qs b + 1) := Int.mul_le_mul_of_nonneg_right (by omega) (by omega)
      have h6 : (at0 qs b + 1) * (at0 qs k + 1) ≤ at0 ws b * (at0 qs k + 1) := by
        rw [Int.mul_comm (at0 qs b + 1)]
        exact Int.le_trans h5 hb
      exact Int.le_of_mul_le_mul_right h6 (by omega)
    · exact ih i hi
theorem splitOf_le {amount : Int} {ws : List Int} (ha : 0 ≤ amount) (hw : ∀ w, w ∈ ws → 0 ≤ w) (ht : 0 < ws.sum) (hle : amount ≤ ws.sum) {i : Nat} (hi : i < ws.length) : at0 (splitOf amount ws) i ≤ at0 ws i := by
  unfold splitOf
  rw [if_neg (by omega)]
  have hf := floors_le (amount := amount) ht
  refine steps_le hw (len_pos ht) _ _ (floors_len ..) (fun i => at0_nonneg (floors_nonneg ha ht hw) i) (fun i hi => ?_) (by omega) i hi
  rw [at0_floors hi]
  have hwi := at0_nonneg hw i
  refine Int.ediv_le_of_le_mul ht ?_
  rw [Int.mul_comm]
  exact Int.mul_le_mul_of_nonneg_left hle hwi

/-! a division is the one it is: each cent given goes ahead of each cent not given -/
structure Good (ws ps : List Int) : Prop where
  len : ps.length = ws.length
  nn : ∀ i, 0 ≤ at0 ps i
  ah : ∀ i k, i < ws.length → k < ws.length → 0 < at0 ps i → Ahead ws i (at0 ps i) k (at0 ps k + 1)
theorem Good.uniq {ws ps qs : List Int} (g : Good ws ps) (g' : Good ws qs) (hs : ps.sum = qs.sum) (hw : ∀ i, 0 ≤ at0 ws i) : ps = qs := by
  have hl := g.len
  have hl' := g'.len
  refine at0_ext (by omega) fun i hi => ?_
  by_cases hne : at0 ps i = at0 qs i
  · exact hne
  -- some index has more, some other less
  have key : ∀ (as bs : List Int), Good ws as → Good ws bs → as.sum = bs.sum → ∀ i, i < ws.length → at0 bs i < at0 as i → False := by
    intro as bs ga gb es i hi hlt
    have hk : ∃ k, k < ws.length ∧ at0 as k < at0 bs k := by
      have e1 : (as.set i (at0 bs i)).sum < bs.sum := by
        rw [sum_set1 as i _ (by rw [ga.len]; exact hi)]
        omega
      obtain ⟨k, h1, h2⟩ := sum_lt_ex (as.set i (at0 bs i)) bs (by rw [List.length_set, ga.len, gb.len]) e1
      rw [at0_set (by rw [ga.len]; exact hi)] at h2
      by_cases e : k = i
      · rw [if_pos e, e] at h2
        omega
      · rw [if_neg e] at h2
        exact ⟨k, by rw [gb.len] at h1; exact h1, h2⟩
    obtain ⟨k, hk, hlt2⟩ := hk
    have n1 := gb.nn i
    have n2 := ga.nn k
    have a1 := ga.ah i k hi hk (by omega)
    have a2 := gb.ah k i hk hi (by omega)
    have wi := hw i
    have wk := hw k
    have m1 : at0 ws k * (at0 bs i + 1) ≤ at0 ws k * at0 as i := Int.mul_le_mul_of_nonneg_left (by omega) wk
    have m2 : at0 ws i * (at0 as k + 1) ≤ at0 ws i * at0 bs k := Int.mul_le_mul_of_nonneg_left (by omega) wi
    rcases a1 with a1 | ⟨a1, c1⟩
    · have := a2.le
      omega
    · rcases a2 with a2 | ⟨a2, c2⟩
      · omega
      · have e : i = k := by omega
        subst e
        omega
  rcases Int.lt_or_gt_of_ne hne with h | h
  · exact (key qs ps g' g hs.symm i (by omega) h).elim
  · exact (key ps qs g g' hs i (by omega) h).elim
theorem Ahead.trans {ws : List Int} {i j k : Nat} {a b c : Int} (ha : 0 < a) (hb : 0 < b) (hc : 0 < c) (h1 : Ahead ws i a j b) (h2 : Ahead ws j b k c) : Ahead ws i a k c := by
  rcases h1 with h1 | ⟨h1, q1⟩
  · exact .inl (ratio_lt ha hb hc h1 h2.le)
  · rcases h2 with h2 | ⟨h2, q2⟩
    · exact .inl (ratio_le ha hb hc (by omega) h2)
    · refine .inr ⟨?_, Nat.le_trans q1 q2⟩
      have e1 : at0 ws k * a * b = at0 ws i * c * b := by
        have e2 : at0 ws k * b * a = at0 ws j * c * a := by rw [h2]
        have e3 : at0 ws j * a * c = at0 ws i * b * c := by rw [h1]
        grind
      exact Int.eq_of_mul_eq_mul_right (by omega) e1
theorem Ahead.more {ws : List Int} {i k : Nat} {a b c : Int} (hw : ∀ i, 0 ≤ at0 ws i) (h : Ahead ws i a k b) (hbc : b ≤ c) : Ahead ws i a k c := by
  have m : at0 ws i * b ≤ at0 ws i * c := Int.mul_le_mul_of_nonneg_left hbc (hw i)
  rcases h with h | ⟨h, q⟩
  · exact .inl (by omega)
  · by_cases e : at0 ws k * a = at0 ws i * c
    · exact .inr ⟨e, q⟩
    · exact .inl (by omega)
/-- one cent to the greatest quotient keeps it so -/
theorem Good.step {ws ps : List Int} (hw : ∀ i, 0 ≤ at0 ws i) (hl : 0 < ws.length) (g : Good ws ps) : Good ws (bump ps (gq ws ps ws.length)) := by
  have hk : gq ws ps ws.length < ps.length := by rw [g.len]; exact gq_lt _ _ _ hl
  have hb := gq_best (ws := ws) g.nn ws.length
  refine ⟨by rw [bump_len, g.len], fun i => ?_, fun i k hi hkl h => ?_⟩
  · rw [at0_bump hk]
    have := g.nn i
    split
    · have := g.nn (gq ws ps ws.length)
      omega
    · exact this
  · rw [at0_bump hk] at h ⊢
    have hge : at0 ps k + 1 ≤ at0 (bump ps (gq ws ps ws.length)) k + 1 := by
      rw [at0_bump hk]
      split
      · rename_i e
        rw [e]
        omega
      · omega
    by_cases e : i = gq ws ps ws.length
    · rw [if_pos e, e]
      exact (hb k hkl).more hw hge
    · rw [if_neg e] at h ⊢
      exact (g.ah i k hi hkl h).more hw hge
/-- from the floors on: what holds between the steps -/
structure Half (ws fs ps : List Int) : Prop where
  len : ps.length = ws.length
  nn : ∀ i, 0 ≤ at0 ps i
  ge : ∀ i, at0 fs i ≤ at0 ps i
  ah : ∀ i k, i < ws.length → k < ws.length → at0 fs i < at0 ps i → Ahead ws i (at0 ps i) k (at0 ps k + 1)
theorem Half.step {ws fs ps : List Int} (hw : ∀ i, 0 ≤ at0 ws i) (hl : 0 < ws.length) (g : Half ws fs ps) : Half ws fs (bump ps (gq ws ps ws.length)) := by
  have hk : gq ws ps ws.length < ps.length := by rw [g.len]; exact gq_lt _ _ _ hl
  have hb := gq_best (ws := ws) g.nn ws.length
  have hge : ∀ k, at0 ps k ≤ at0 (bump ps (gq ws ps ws.length)) k := by
    intro k
    rw [at0_bump hk]
    split
    · rename_i e
      rw [e]
      omega
    · omega
  refine ⟨by rw [bump_len, g.len], fun i => Int.le_trans (g.nn i) (hge i), fun i => Int.le_trans (g.ge i) (hge i), fun i k hi hkl h => ?_⟩
  have hgk := hge k
  rw [at0_bump hk] at h ⊢
  by_cases e : i = gq ws ps ws.length
  · rw [if_pos e, e]
    exact (hb k hkl).more hw (by omega)
  · rw [if_neg e] at h ⊢
    exact (g.ah i k hi hkl h).more hw (by omega)
theorem Half.run {ws fs : List Int} (hw : ∀ i, 0 ≤ at0 ws i) (hl : 0 < ws.length) (g : Half ws fs fs) : ∀ n, Half ws fs (steps ws n fs)
  | 0 => g
  | n + 1 => (Half.run hw hl g n).step hw hl
theorem splitOf_good {amount : Int} {ws : List Int} (ha : 0 ≤ amount) (hw : ∀ w, w ∈ ws → 0 ≤ w) (ht : 0 < ws.sum) : Good ws (splitOf amount ws) := by
  have hw0 := at0_nonneg hw
  have hl := len_pos ht
  have hfn := at0_nonneg (floors_nonneg ha ht hw)
  have h0 : Half ws (floors amount ws.sum ws) (floors amount ws.sum ws) := ⟨floors_len .., hfn, fun _ => Int.le_refl _, fun i k _ _ h => absurd h (by omega)⟩
  have h := h0.run hw0 hl (amount - (floors amount ws.sum ws).sum).toNat
  have e : splitOf amount ws = steps ws (amount - (floors amount ws.sum ws).sum).toNat (floors amount ws.sum ws) := by
    unfold splitOf
    rw [if_neg (by omega)]
  rw [← e] at h
  refine ⟨h.len, h.nn, fun i k hi hk hp => ?_⟩
  by_cases q : at0 (floors amount ws.sum ws) i < at0 (splitOf amount ws) i
  · exact h.ah i k hi hk q
  · have ei : at0 (splitOf amount ws) i = at0 (floors amount ws.sum ws) i := by have := h.ge i; omega
    have gk := h.ge k
    rw [ei] at hp ⊢
    rw [at0_floors hi] at hp ⊢
    rw [at0_floors hk] at gk
    refine .inl ?_
    have wi := hw0 i
    have wk := hw0 k
    have f1 : amount * at0 ws i / ws.sum * ws.sum ≤ amount * at0 ws i := Int.ediv_mul_le _ (by omega)
    have f2 := Int.lt_ediv_add_one_mul_self (amount * at0 ws k) ht
    have wip : 0 < at0 ws i := by
      by_cases z : at0 ws i = 0
      · rw [z, Int.mul_zero, Int.zero_ediv] at hp
        exact absurd hp (by decide)
      · omega
    generalize amount * at0 ws i / ws.sum = fi at *
    generalize amount * at0 ws k / ws.sum = fk at *
    generalize at0 (splitOf amount ws) k = pk at *
    have g1 : at0 ws k * (fi * ws.sum) ≤ at0 ws k * (amount * at0 ws i) := Int.mul_le_mul_of_nonneg_left f1 wk
    have g2 : at0 ws i * (amount * at0 ws k) < at0 ws i * ((fk + 1) * ws.sum) := Int.mul_lt_mul_of_pos_left f2 wip
    have g3 : at0 ws i * ((fk + 1) * ws.sum) ≤ at0 ws i * ((pk + 1) * ws.sum) := Int.mul_le_mul_of_nonneg_left (Int.mul_le_mul_of_nonneg_right (by omega) (by omega)) wi
    have g4 : at0 ws k * fi * ws.sum < at0 ws i * (pk + 1) * ws.sum := by grind
    exact Int.lt_of_mul_lt_mul_right g4 (by omega)
/-- what splitOf gives is the one good division -/
theorem splitOf_uniq {ws ps : List Int} (hw : ∀ w, w ∈ ws → 0 ≤ w) (ht : 0 < ws.sum) (g : Good ws ps) (hs : 0 ≤ ps.sum) : splitOf ps.sum ws = ps :=
  (splitOf_good hs hw ht).uniq g (splitOf_sum ht) (at0_nonneg hw)
/-- one cent more goes to the greatest quotient -/
theorem splitOf_succ {amount : Int} {ws : List Int} (ha : 0 ≤ amount) (hw : ∀ w, w ∈ ws → 0 ≤ w) (ht : 0 < ws.sum) : splitOf (amount + 1) ws = bump (splitOf amount ws) (gq ws (splitOf amount ws) ws.length) := by
  have g := splitOf_good ha hw ht
  have hk : gq ws (splitOf amount ws) ws.length < (splitOf amount ws).length := by rw [g.len]; exact gq_lt _ _ _ (len_pos ht)
  have es : (bump (splitOf amount ws) (gq ws (splitOf amount ws) ws.length)).sum = amount + 1 := by rw [bump_sum hk, splitOf_sum ht]
  have := splitOf_uniq hw ht (g.step (at0_nonneg hw) (len_pos ht)) (by omega)
  rw [es] at this
  exact this

/-- how items of one kind are told as data; equal data are equal items -/
structure LayD {α : Type} [DecidableEq α] (L : α → PyData) (k : Nat) (G : α → Prop) : Prop where
  lay : ∀ x, G x → (L x).canLay0 = true
  dep : ∀ x, (L x).depth ≤ k
  eqv : ∀ x y, PyData.eqv (L x) (L y) = decide (x = y)
theorem LayD.shaped {α : Type} [DecidableEq α] {L : α → PyData} {k : Nat} {G : α → Prop} (h : LayD L k G) (hk : k ≤ 64) {x : α} (g : G x) : SeqAt.shaped (L x) = true := by
  have h1 := h.lay x g
  have h2 := h.dep x
  unfold SeqAt.shaped
  rw [h1, Bool.true_and]
  exact decide_eq_true (by omega)
theorem layD_int : LayD PyData.int 0 (fun _ => True) := ⟨fun _ _ => rfl, fun _ => Nat.le_refl _, fun x y => by simp only [PyData.eqv]; exact (Bool.beq_eq_decide_eq x y)⟩
theorem layD_str : LayD PyData.str 0 (fun x => PyData.strOk x = true) := ⟨fun _ h => by simp only [PyData.canLay0]; exact h, fun _ => Nat.le_refl _, fun x y => by simp only [PyData.eqv]; exact (Bool.beq_eq_decide_eq x y)⟩
theorem decide_and2 {p q r : Prop} [Decidable p] [Decidable q] [Decidable r] (h : r ↔ p ∧ q) : (decide p && decide q) = decide r := by
  by_cases hp : p <;> by_cases hq : q <;> simp [h, hp, hq]
theorem layD_all {α : Type} [DecidableEq α] {L : α → PyData} {k : Nat} {G : α → Prop} (h : LayD L k G) : (∀ xs : List α, (∀ x, x ∈ xs → G x) → PyData.canLayAll0 (xs.map L) = true) ∧ (∀ xs : List α, PyData.depthAll (xs.map L) ≤ k) ∧ ∀ xs ys : List α, PyData.eqvAll (xs.map L) (ys.map L) = decide (xs = ys) := by
  refine ⟨fun xs => ?_, fun xs => ?_, fun xs => ?_⟩
  · induction xs with
    | nil => exact fun _ => rfl
    | cons x xs ih =>
      intro g
      rw [List.map_cons]
      simp only [PyData.canLayAll0, ih fun y hy => g y (List.mem_cons_of_mem _ hy), h.lay x (g x List.mem_cons_self)]
      rfl
  · induction xs with
    | nil => exact Nat.zero_le _
    | cons x xs ih => rw [List.map_cons]; simp only [PyData.depthAll]; exact Nat.max_le.mpr ⟨h.dep x, ih⟩
  · induction xs with
    | nil =>
      intro ys
      cases ys with
      | nil => rfl
      | cons y ys => simp [PyData.eqvAll]
    | cons x xs ih =>
      intro ys
      cases ys with
      | nil => simp [PyData.eqvAll]
      | cons y ys =>
        rw [List.map_cons, List.map_cons]
        simp only [PyData.eqvAll]
        rw [ih ys, h.eqv x y]
        exact decide_and2 (by rw [List.cons.injEq])
theorem LayD.list {α : Type} [DecidableEq α] {L : α → PyData} {k : Nat} {G : α → Prop} (h : LayD L k G) : LayD (fun xs : List α => PyData.list (xs.map L)) (k + 1) (fun xs => ∀ x, x ∈ xs → G x) := by
  obtain ⟨h1, h2, h3⟩ := layD_all h
  refine ⟨fun xs g => ?_, fun xs => ?_, fun xs ys => ?_⟩
  · simp only [PyData.canLay0]; exact h1 xs g
  · simp only [PyData.depth]; exact Nat.succ_le_succ (h2 xs)
  · simp only [PyData.eqv]; exact h3 xs ys
theorem LayD.tup2 {α β : Type} [DecidableEq α] [DecidableEq β] {L : α → PyData} {M : β → PyData} {k : Nat} {G : α → Prop} {G2 : β → Prop} (h : LayD L k G) (g : LayD M k G2) : LayD (fun x : α × β => PyData.tuple [L x.1, M x.2]) (k + 1) (fun x => G x.1 ∧ G2 x.2) := by
  refine ⟨fun x a => ?_, fun x => ?_, fun x y => ?_⟩
  · simp only [PyData.canLay0, PyData.canLayAll0, h.lay _ a.1, g.lay _ a.2, Bool.and_true]
  · simp only [PyData.depth, PyData.depthAll]
    have := h.dep x.1
    have := g.dep x.2
    omega
  · simp only [PyData.eqv, PyData.eqvAll, h.eqv, g.eqv, Bool.and_true]
    exact decide_and2 (by rw [Prod.ext_iff])
theorem LayD.tup3 {α β γ : Type} [DecidableEq α] [DecidableEq β] [DecidableEq γ] {L : α → PyData} {M : β → PyData} {N : γ → PyData} {k : Nat} {G : α → Prop} {G2 : β → Prop} {G3 : γ → Prop} (h : LayD L k G) (g : LayD M k G2) (e : LayD N k G3) : LayD (fun x : α × β × γ => PyData.tuple [L x.1, M x.2.1, N x.2.2]) (k + 1) (fun x => G x.1 ∧ G2 x.2.1 ∧ G3 x.2.2) := by
  refine ⟨fun x a => ?_, fun x => ?_, fun x y => ?_⟩
  · simp only [PyData.canLay0, PyData.canLayAll0, h.lay _ a.1, g.lay _ a.2.1, e.lay _ a.2.2, Bool.and_true]
  · simp only [PyData.depth, PyData.depthAll]
    have := h.dep x.1
    have := g.dep x.2.1
    have := e.dep x.2.2
    omega
  · simp only [PyData.eqv, PyData.eqvAll, h.eqv, g.eqv, e.eqv, Bool.and_true]
    rw [decide_and2 (r := x.2 = y.2) (by rw [Prod.ext_iff])]
    exact decide_and2 (by rw [Prod.ext_iff])
theorem LayD.tup4 {α β γ δ : Type} [DecidableEq α] [DecidableEq β] [DecidableEq γ] [DecidableEq δ] {L : α → PyData} {M : β → PyData} {N : γ → PyData} {O : δ → PyData} {k : Nat} {G : α → Prop} {G2 : β → Prop} {G3 : γ → Prop} {G4 : δ → Prop} (h : LayD L k G) (g : LayD M k G2) (e : LayD N k G3) (d : LayD O k G4) : LayD (fun x : α × β × γ × δ => PyData.tuple [L x.1, M x.2.1, N x.2.2.1, O x.2.2.2]) (k + 1) (fun x => G x.1 ∧ G2 x.2.1 ∧ G3 x.2.2.1 ∧ G4 x.2.2.2) := by
  refine ⟨fun x a => ?_, fun x => ?_, fun x y => ?_⟩
  · simp only [PyData.canLay0, PyData.canLayAll0, h.lay _ a.1, g.lay _ a.2.1, e.lay _ a.2.2.1, d.lay _ a.2.2.2, Bool.and_true]
  · simp only [PyData.depth, PyData.depthAll]
    have := h.dep x.1
    have := g.dep x.2.1
    have := e.dep x.2.2.1
    have := d.dep x.2.2.2
    omega
  · simp only [PyData.eqv, PyData.eqvAll, h.eqv, g.eqv, e.eqv, d.eqv, Bool.and_true]
    rw [decide_and2 (r := x.2.2 = y.2.2) (by rw [Prod.ext_iff]), decide_and2 (r := x.2 = y.2) (by rw [Prod.ext_iff])]
    exact decide_and2 (by rw [Prod.ext_iff])
theorem eqL {α : Type} [DecidableEq α] {L : α → PyData} {k : Nat} {G : α → Prop} (h : LayD L k G) (hk : k ≤ 64) {K : PySem.W.Frag} {H : Hp} {x y : V} {a b : α} {Q : VK} (ga : G a) (gb : G b) (h1 : Dp K H x (L a)) (h2 : Dp K H y (L b)) (q : Q (.bl (decide (a = b))) H) : rEqD K x y H Q :=
  ⟨_, _, h1, h2, h.shaped hk ga, h.shaped hk gb, by rw [h.eqv]; exact q⟩
theorem neL {α : Type} [DecidableEq α] {L : α → PyData} {k : Nat} {G : α → Prop} (h : LayD L k G) (hk : k ≤ 64) {K : PySem.W.Frag} {H : Hp} {x y : V} {a b : α} {Q : VK} (ga : G a) (gb : G b) (h1 : Dp K H x (L a)) (h2 : Dp K H y (L b)) (q : Q (.bl (!decide (a = b))) H) : rNeD K x y H Q :=
  ⟨_, _, h1, h2, h.shaped hk ga, h.shaped hk gb, by rw [h.eqv]; exact q⟩
theorem dpAll_refs {α : Type} {L : α → PyData} {K : PySem.W.Frag} {H : Hp} : ∀ {ps : List Addr} {xs : List α}, ps.length = xs.length → (∀ (i : Nat) (p : Addr) (x : α), ps[i]? = some p → xs[i]? = some x → Dp K H (.ref p) (L x)) → DpAll K H (ps.map V.ref) (xs.map L)
  | [], [], _, _ => .nil
  | [], _ :: _, h, _ => by cases h
  | _ :: _, [], h, _ => by cases h
  | p :: ps, x :: xs, h, e => .cons (e 0 p x rfl rfl) (dpAll_refs (Nat.succ.inj h) fun i p' x' h1 h2 => e (i + 1) p' x' h1 h2)

/-- for i, x in enumerate(xs): each turn a new pair -/
theorem for_enum {K : PySem.W.Frag} {a : Addr} {xs : List V} {g : TG} {tb : TS} {D : Ends} {σ : L2.St} {H : Hp} (Pv : Nat → L2.St → Hp → Prop) (h0 : Pv 0 σ H) (hl : ∀ i σ H, i ≤ xs.length → Pv i σ H → SqL K H a xs)
    (hs : ∀ (i : Nat) (x : V) (σ : L2.St) (H : Hp) (T : Addr), xs[i]? = some x → Pv i σ H → H T = none → g (.ref T) σ (upd H T (.tup [.int (i : Int), x])) fun σ2 H2 => tb { D with nx := Pv (i + 1), ct := Pv (i + 1), bk := D.nx } σ2 H2) (hd : ∀ σ H, Pv xs.length σ H → D.nx σ H) :
    ∃ W : Nat → Nat → L2.St → Hp → Prop, (∃ m, W 0 m σ H) ∧ ∀ i m σ H, W i m σ H →
      ((Ite K a).stop i H ∧ D.nx σ H) ∨ ((Ite K a).go i H ∧ ∃ N : L2.St → Hp → Prop, (∀ σ' H', N σ' H' → ∃ m', m' < m ∧ W (i + 1) m' σ' H') ∧ ∀ x H', (Ite K a).yld i H x H' → g x σ H' fun σ2 H2 => tb { D with nx := N, ct := N, bk := D.nx } σ2 H2) := by
  refine ⟨fun i m σ H => m + i = xs.length ∧ Pv i σ H, ⟨xs.length, rfl, h0⟩, ?_⟩
  rintro i m σ H ⟨em, p⟩
  have q := hl i σ H (by omega) p
  by_cases hlt : i < xs.length
  · refine .inr ⟨⟨xs, xs[i], q, List.getElem?_eq_getElem hlt⟩, Pv (i + 1), fun σ' H' p' => ⟨m - 1, by omega, by omega, p'⟩, fun x H' y => ?_⟩
    obtain ⟨T, z, rfl, nT, rfl, hz⟩ := y
    exact hs i z σ H T (hz xs q) p nT
  · have e : i = xs.length := by omega
    subst e
    exact .inl ⟨⟨xs, q, Nat.le_refl _⟩, hd σ H p⟩
theorem call_int_b {X : Cx} : CallR X (.type "int") (fun xs H Q => ∃ b : Bool, xs = [.bl b] ∧ Q (.int (if b = true then 1 else 0)) H) := by
  intro pins s σ H xs us Q I r h
  obtain ⟨i, e, q⟩ := h
  exact call_int1 pins s σ H xs us Q I r (.inr ⟨i, e, q⟩)

theorem in1_lt {k : Nat} {A : Around} (hr : Room k A) : A.in1.units < cLine := by
  have := hr.un
  simp only [Around.in1_units]
  omega
/-- a comprehension over enumerate(xs) -/
theorem lc_enum {K : PySem.W.Frag} {a : Addr} {xs : List V} {g : TG} {tt : TT} {te : TE} {vs : List Nat} {σ : L2.St} {H1 : Hp} {D : Addr} {Qd : Hp → Prop} (Pv : Nat → Hp → Prop) (h0 : Pv 0 (upd H1 D (.lst []))) (hl : ∀ i H, i ≤ xs.length → Pv i H → SqL K H a xs)
    (hs : ∀ (i : Nat) (x : V) (H : Hp) (T : Addr), xs[i]? = some x → Pv i H → H T = none → g (.ref T) (wipe σ vs) (upd H T (.tup [.int (i : Int), x])) fun σ2 H2 => wipe σ2 vs = wipe σ vs ∧ tt σ2 H2 fun b H3 =>
      if b = true then te σ2 H3 fun y H4 => ∃ acc, H4 D = some (.lst acc) ∧ acc.length < sizeLine ∧ Pv (i + 1) (upd H4 D (.lst (acc ++ [y]))) else Pv (i + 1) H3) (hd : ∀ H, Pv xs.length H → Qd H) :
    ∃ W : Nat → Nat → Hp → Prop, (∃ m, W 0 m (upd H1 D (.lst []))) ∧ ∀ i m H, W i m H →
      ((Ite K a).stop i H ∧ Qd H) ∨ ((Ite K a).go i H ∧ ∃ Nx : Hp → Prop, (∀ H', Nx H' → ∃ m', m' < m ∧ W (i + 1) m' H') ∧ ∀ x H', (Ite K a).yld i H x H' → g x (wipe σ vs) H' fun σ2 H2 => wipe σ2 vs = wipe σ vs ∧ tt σ2 H2 fun b H3 =>
        if b = true then te σ2 H3 fun y H4 => ∃ acc, H4 D = some (.lst acc) ∧ acc.length < sizeLine ∧ Nx (upd H4 D (.lst (acc ++ [y]))) else Nx H3) := by
  refine ⟨fun i m H => m + i = xs.length ∧ Pv i H, ⟨xs.length, rfl, h0⟩, ?_⟩
  rintro i m H ⟨em, p⟩
  have q := hl i H (by omega) p
  by_cases hlt : i < xs.length
  · refine .inr ⟨⟨xs, xs[i], q, List.getElem?_eq_getElem hlt⟩, Pv (i + 1), fun H' p' => ⟨m - 1, by omega, by omega, p'⟩, fun x H' y => ?_⟩
    obtain ⟨T, z, rfl, nT, rfl, hz⟩ := y
    exact hs i z H T (hz xs q) p nT
  · have e : i = xs.length := by omega
    subst e
    exact .inl ⟨⟨xs, q, Nat.le_refl _⟩, hd H p⟩

/-- the first n values of g -/
def rowI (n : Nat) (g : Nat → Int) : List Int := (List.range n).map g
theorem rowI_len (n : Nat) (g : Nat → Int) : (rowI n g).length = n := by
  unfold rowI
  rw [List.length_map, List.length_range]
theorem rowI_at {n : Nat} {g : Nat → Int} {i : Nat} (h : i < n) : (rowI n g)[i]? = some (g i) := by
  unfold rowI
  rw [List.getElem?_map, List.getElem?_range h]
  rfl
theorem atI_row {n : Nat} {g : Nat → Int} {i : Nat} (h : i < n) : atI ((rowI n g).map V.int) (i : Int) = some (.int (g i)) := by
  refine at_of (j := i) rfl ?_
  rw [List.getElem?_map, rowI_at h]
  rfl
theorem rowI_succ (n : Nat) (g : Nat → Int) : rowI (n + 1) g = rowI n g ++ [g n] := by
  unfold rowI
  rw [List.range_succ, List.map_append]
  rfl
theorem rowI_eq {n : Nat} {f g : Nat → Int} : rowI n f = rowI n g ↔ ∀ i, i < n → f i = g i := by
  unfold rowI
  rw [List.map_inj_left]
  exact ⟨fun h i hi => h i (List.mem_range.mpr hi), fun h i hi => h i (List.mem_range.mp hi)⟩
theorem rowI_of (ws : List Int) : rowI ws.length (at0 ws) = ws := by
  refine List.ext_getElem? fun i => ?_
  by_cases h : i < ws.length
  · rw [rowI_at h, at0_lt h]
  · rw [List.getElem?_eq_none (by rw [rowI_len]; omega), List.getElem?_eq_none (by omega)]
theorem rowI_mem {n : Nat} {g : Nat → Int} {x : Int} : x ∈ rowI n g ↔ ∃ i, i < n ∧ g i = x := by
  unfold rowI
  rw [List.mem_map]
  exact ⟨fun ⟨i, h, e⟩ => ⟨i, List.mem_range.mp h, e⟩, fun ⟨i, h, e⟩ => ⟨i, List.mem_range.mpr h, e⟩⟩
/-- the sum of the first n values of g -/
def sumI (n : Nat) (g : Nat → Int) : Int := (rowI n g).sum
theorem sumI_succ (n : Nat) (g : Nat → Int) : sumI (n + 1) g = sumI n g + g n := by
  unfold sumI
  rw [rowI_succ, List.sum_append, List.sum_cons, List.sum_nil]
  omega
theorem sumI_congr {n : Nat} {f g : Nat → Int} (h : ∀ i, i < n → f i = g i) : sumI n f = sumI n g := by
  unfold sumI
  rw [rowI_eq.mpr h]
theorem sumI_sub : ∀ (n : Nat) (f g : Nat → Int), sumI n (fun i => f i - g i) = sumI n f - sumI n g
  | 0, _, _ => rfl
  | n + 1, f, g => by rw [sumI_succ, sumI_succ, sumI_succ, sumI_sub n f g]; omega
theorem sumI_bound {n : Nat} {g : Nat → Int} {m : Int} (h : ∀ i, i < n → 0 ≤ g i ∧ g i ≤ m) : 0 ≤ sumI n g ∧ sumI n g ≤ n * m := by
  induction n with
  | zero => exact ⟨Int.le_refl 0, by show (0 : Int) ≤ ((0 : Nat) : Int) * m; omega⟩
  | succ n ih =>
    have h1 := ih fun i hi => h i (by omega)
    have h2 := h n (by omega)
    rw [sumI_succ]
    have e : ((n + 1 : Nat) : Int) * m = n * m + m := by rw [Int.natCast_add, Int.add_mul]; omega
    omega
/-- a square table of numbers, its rows at ps -/
structure Tab (H : Hp) (t : Addr) (ps : List Addr) (n : Nat) (f : Nat → Nat → Int) : Prop where
  lst : H t = some (.lst (ps.map V.ref))
  len : ps.length = n
  row : ∀ i p, ps[i]? = some p → H p = some (.lst ((rowI n (f i)).map V.int))
  nod : ps.Nodup
  out : t ∉ ps
theorem Tab.same {H H' : Hp} {t : Addr} {ps : List Addr} {n : Nat} {f : Nat → Nat → Int} (h : Tab H t ps n f) (e : Same H H') : Tab H' t ps n f :=
  ⟨e _ _ h.lst, h.len, fun i p hp => e _ _ (h.row i p hp), h.nod, h.out⟩
def tabL (n : Nat) (f : Nat → Nat → Int) : List (List Int) := (List.range n).map fun i => rowI n (f i)
theorem tabL_at {n : Nat} {f : Nat → Nat → Int} {i : Nat} (h : i < n) : (tabL n f)[i]? = some (rowI n (f i)) := by
  unfold tabL
  rw [List.getElem?_map, List.getElem?_range h]
  rfl
theorem tabL_eq {n : Nat} {f g : Nat → Nat → Int} : tabL n f = tabL n g ↔ ∀ i, i < n → ∀ j, j < n → f i j = g i j := by
  unfold tabL
  rw [List.map_inj_left]
  exact ⟨fun h i hi => rowI_eq.mp (h i (List.mem_range.mpr hi)), fun h i hi => rowI_eq.mpr (h i (List.mem_range.mp hi))⟩
theorem layD_tab : LayD (fun xs : List (List Int) => PyData.list (xs.map fun ys => PyData.list (ys.map PyData.int))) 2 (fun xs => ∀ x, x ∈ xs → ∀ y, y ∈ x → True) := layD_int.list.list
theorem Tab.dp {K : PySem.W.Frag} {H : Hp} {t : Addr} {ps : List Addr} {n : Nat} {f : Nat → Nat → Int} (h : Tab H t ps n f) : Dp K H (.ref t) (PyData.list ((tabL n f).map fun ys => PyData.list (ys.map PyData.int))) := by
  refine .lst (SqL.of h.lst) (dpAll_refs ?_ fun i p x h1 h2 => ?_)
  · rw [h.len]
    unfold tabL
    rw [List.length_map, List.length_range]
  · have hi := (List.getElem?_eq_some_iff.mp h1).1
    rw [h.len] at hi
    rw [tabL_at hi] at h2
    cases h2
    exact .lst (SqL.of (h.row i p h1)) (dpAll_ints _)
theorem refs_at {ps : List Addr} {i : Nat} {x : V} (h : (ps.map V.ref)[i]? = some x) : ∃ p, ps[i]? = some p ∧ x = V.ref p := by
  rw [List.getElem?_map] at h
  cases e : ps[i]? with
  | none => rw [e] at h; cases h
  | some z => rw [e] at h; exact ⟨z, rfl, (Option.some.inj h).symm⟩
theorem Tab.at {H : Hp} {t : Addr} {ps : List Addr} {n : Nat} {f : Nat → Nat → Int} (h : Tab H t ps n f) {i : Nat} (hi : i < n) : ∃ p, ps[i]? = some p ∧ atI (ps.map V.ref) (i : Int) = some (.ref p) ∧ H p = some (.lst ((rowI n (f i)).map V.int)) := by
  have hl : i < ps.length := by rw [h.len]; exact hi
  refine ⟨ps[i], List.getElem?_eq_getElem hl, at_of (j := i) rfl ?_, h.row i _ (List.getElem?_eq_getElem hl)⟩
  rw [List.getElem?_map, List.getElem?_eq_getElem hl]
  rfl

/-- a table that grows: m rows of n numbers -/
structure TabR (H : Hp) (t : Addr) (ps : List Addr) (m n : Nat) (f : Nat → Nat → Int) : Prop where
  lst : H t = some (.lst (ps.map V.ref))
  len : ps.length = m
  row : ∀ i p, ps[i]? = some p → H p = some (.lst ((rowI n (f i)).map V.int))
  nod : ps.Nodup
  out : t ∉ ps
theorem TabR.nil {H : Hp} {t : Addr} (n : Nat) (f : Nat → Nat → Int) (h : H t = some (.lst [])) : TabR H t [] 0 n f :=
  ⟨h, rfl, fun _ _ e => (by rw [List.getElem?_nil] at e; cases e), List.nodup_nil, fun h => (by cases h)⟩
theorem TabR.congr {H : Hp} {t : Addr} {ps : List Addr} {m n : Nat} {f g : Nat → Nat → Int} (h : TabR H t ps m n f) (e : ∀ i, i < m → ∀ j, j < n → f i j = g i j) : TabR H t ps m n g :=
  ⟨h.lst, h.len, fun i p hp => by
    have hi := (List.getElem?_eq_some_iff.mp hp).1
    rw [h.row i p hp, rowI_eq.mpr (e i (by rw [← h.len]; exact hi))], h.nod, h.out⟩
theorem TabR.push {H H' : Hp} {t p : Addr} {ps : List Addr} {m n : Nat} {f : Nat → Nat → Int} (h : TabR H t ps m n f) (e : Same H H') (np : H p = none) (hp : H' p = some (.lst ((rowI n (f m)).map V.int))) : TabR (upd H' t (.lst (ps.map V.ref ++ [V.ref p]))) t (ps ++ [p]) (m + 1) n f := by
  have hmem : ∀ q, q ∈ ps → ∃ o, H q = some o := fun q hq => by
    obtain ⟨i, hi⟩ := List.mem_iff_getElem?.mp hq
    exact ⟨_, h.row i q hi⟩
  have hpt : p ≠ t := fun z => by rw [z, h.lst] at np; cases np
  have hnp : p ∉ ps := fun z => by
    obtain ⟨o, ho⟩ := hmem p z
    rw [np] at ho
    cases ho
  refine ⟨?_, ?_, fun i q hq => ?_, ?_, ?_⟩
  · rw [upd_same, List.map_append]
    rfl
  · rw [List.length_append, h.len]
    rfl
  · by_cases hi : i < ps.length
    · rw [List.getElem?_append_left hi] at hq
      have hm := List.mem_of_getElem? hq
      rw [upd_ne (fun z => h.out (by rw [← z]; exact hm))]
      exact e _ _ (h.row i q hq)
    · rw [List.getElem?_append_right (by omega)] at hq
      have hi2 := (List.getElem?_eq_some_iff.mp hq).1
      have : i - ps.length = 0 := by
        rw [List.length_cons, List.length_nil] at hi2
        omega
      rw [this] at hq
      have hqp : p = q := Option.some.inj hq
      subst hqp
      rw [upd_ne hpt, hp]
      have : i = m := by have := h.len; omega
      rw [this]
  · rw [List.nodup_append]
    refine ⟨h.nod, List.nodup_cons.mpr ⟨fun z => (by cases z), List.nodup_nil⟩, fun a ha b hb z => ?_⟩
    rw [List.mem_singleton] at hb
    rw [hb] at z
    rw [z] at ha
    exact hnp ha
  · intro z
    rcases List.mem_append.mp z with z | z
    · exact h.out z
    · rw [List.mem_singleton] at z
      exact hpt z.symm
theorem TabR.tab {H : Hp} {t : Addr} {ps : List Addr} {n : Nat} {f : Nat → Nat → Int} (h : TabR H t ps n n f) : Tab H t ps n f := ⟨h.lst, h.len, h.row, h.nod, h.out⟩
theorem TabR.keep {H H0 : Hp} {t : Addr} {xs : List V} (s : Same H0 H) (nt : H0 t = none) : Same H0 (upd H t (.lst xs)) := fun b o e => by
  rw [upd_ne (ne_of_none e nt)]
  exact s b o e
/-- debts: one to thirteen houses, nobody owes itself -/
structure Debts (n : Nat) (f : Nat → Nat → Int) (m : Int) : Prop where
  n0 : 1 ≤ n
  n1 : n ≤ 13
  b : ∀ i, i < n → ∀ j, j < n → 0 ≤ f i j ∧ f i j ≤ m
  d : ∀ i, i < n → f i i = 0
theorem Debts.mono {n : Nat} {f : Nat → Nat → Int} {m k : Int} (h : Debts n f m) (e : m ≤ k) : Debts n f k := ⟨h.n0, h.n1, fun i hi j hj => ⟨(h.b i hi j hj).1, Int.le_trans (h.b i hi j hj).2 e⟩, h.d⟩

/-- a table of rows of any lengths: m rows -/
structure JagR (H : Hp) (t : Addr) (ps : List Addr) (m : Nat) (f : Nat → List Int) : Prop where
  lst : H t = some (.lst (ps.map V.ref))
  len : ps.length = m
  row : ∀ i p, ps[i]? = some p → H p = some (.lst ((f i).map V.int))
  nod : ps.Nodup
  out : t ∉ ps
theorem JagR.nil {H : Hp} {t : Addr} (f : Nat → List Int) (h : H t = some (.lst [])) : JagR H t [] 0 f :=
  ⟨h, rfl, fun _ _ e => (by rw [List.getElem?_nil] at e; cases e), List.nodup_nil, fun h => (by cases h)⟩
theorem JagR.congr {H : Hp} {t : Addr} {ps : List Addr} {m : Nat} {f g : Nat → List Int} (h : JagR H t ps m f) (e : ∀ i, i < m → f i = g i) : JagR H t ps m g :=
  ⟨h.lst, h.len, fun i p hp => by
    have hi := (List.getElem?_eq_some_iff.mp hp).1
    rw [h.row i p hp, e i (by rw [← h.len]; exact hi)], h.nod, h.out⟩
theorem JagR.push {H H' : Hp} {t p : Addr} {ps : List Addr} {m : Nat} {f : Nat → List Int} (h : JagR H t ps m f) (e : Same H H') (np : H p = none) (hp : H' p = some (.lst ((f m).map V.int))) : JagR (upd H' t (.lst (ps.map V.ref ++ [V.ref p]))) t (ps ++ [p]) (m + 1) f := by
  have hmem : ∀ q, q ∈ ps → ∃ o, H q = some o := fun q hq => by
    obtain ⟨i, hi⟩ := List.mem_iff_getElem?.mp hq
    exact ⟨_, h.row i q hi⟩
  have hpt : p ≠ t := fun z => by rw [z, h.lst] at np; cases np
  have hnp : p ∉ ps := fun z => by
    obtain ⟨o, ho⟩ := hmem p z
    rw [np] at ho
    cases ho
  refine ⟨?_, ?_, fun i q hq => ?_, ?_, ?_⟩
  · rw [upd_same, List.map_append]
    rfl
  · rw [List.length_append, h.len]
    rfl
  · by_cases hi : i < ps.length
    · rw [List.getElem?_append_left hi] at hq
      have hm := List.mem_of_getElem? hq
      rw [upd_ne (fun z => h.out (by rw [← z]; exact hm))]
      exact e _ _ (h.row i q hq)
    · rw [List.getElem?_append_right (by omega)] at hq
      have hi2 := (List.getElem?_eq_some_iff.mp hq).1
      have : i - ps.length = 0 := by
        rw [List.length_cons, List.length_nil] at hi2
        omega
      rw [this] at hq
      have hqp : p = q := Option.some.inj hq
      subst hqp
      rw [upd_ne hpt, hp]
      have : i = m := by have := h.len; omega
      rw [this]
  · rw [List.nodup_append]
    refine ⟨h.nod, List.nodup_cons.mpr ⟨fun z => (by cases z), List.nodup_nil⟩, fun a ha b hb z => ?_⟩
    rw [List.mem_singleton] at hb
    rw [hb] at z
    rw [z] at ha
    exact hnp ha
  · intro z
    rcases List.mem_append.mp z with z | z
    · exact h.out z
    · rw [List.mem_singleton] at z
      exact hpt z.symm
theorem JagR.same {H H' : Hp} {t : Addr} {ps : List Addr} {m : Nat} {f : Nat → List Int} (h : JagR H t ps m f) (e : Same H H') : JagR H' t ps m f :=
  ⟨e _ _ h.lst, h.len, fun i p hp => e _ _ (h.row i p hp), h.nod, h.out⟩
theorem JagR.at {H : Hp} {t : Addr} {ps : List Addr} {m : Nat} {f : Nat → List Int} (h : JagR H t ps m f) {i : Nat} (hi : i < m) : ∃ p, ps[i]? = some p ∧ atI (ps.map V.ref) (i : Int) = some (.ref p) ∧ H p = some (.lst ((f i).map V.int)) := by
  have hl : i < ps.length := by rw [h.len]; exact hi
  refine ⟨ps[i], List.getElem?_eq_getElem hl, at_of (j := i) rfl ?_, h.row i _ (List.getElem?_eq_getElem hl)⟩
  rw [List.getElem?_map, List.getElem?_eq_getElem hl]
  rfl
def jagL (m : Nat) (f : Nat → List Int) : List (List Int) := (List.range m).map f
theorem jagL_at {m : Nat} {f : Nat → List Int} {i : Nat} (h : i < m) : (jagL m f)[i]? = some (f i) := by
  unfold jagL
  rw [List.getElem?_map, List.getElem?_range h]
  rfl
theorem jagL_eq {m : Nat} {f g : Nat → List Int} (h : ∀ i, i < m → f i = g i) : jagL m f = jagL m g := by
  unfold jagL
  rw [List.map_inj_left]
  exact fun i hi => h i (List.mem_range.mp hi)
theorem JagR.dp {K : PySem.W.Frag} {H : Hp} {t : Addr} {ps : List Addr} {m : Nat} {f : Nat → List Int} (h : JagR H t ps m f) : Dp K H (.ref t) (PyData.list ((jagL m f).map fun ys => PyData.list (ys.map PyData.int))) := by
  refine .lst (SqL.of h.lst) (dpAll_refs ?_ fun i p x h1 h2 => ?_)
  · rw [h.len]
    unfold jagL
    rw [List.length_map, List.length_range]
  · have hi := (List.getElem?_eq_some_iff.mp h1).1
    rw [h.len] at hi
    rw [jagL_at hi] at h2
    cases h2
    exact .lst (SqL.of (h.row i p h1)) (dpAll_ints _)
/-- [list(row) for row in t]: copied -/
theorem lc_copyJ {K : PySem.W.Frag} {t : Addr} {ps : List Addr} {m : Nat} {f : Nat → List Int} {σ : L2.St} {H1 : Hp} {D : Addr} {j : Nat} {Qd : Hp → Prop} (ht : JagR H1 t ps m f) (hm : m ≤ 900) (nD : H1 D = none) (hj : Nat.ble (j + 1) σ.length = true)
    (q : ∀ H' qs, Same H1 H' → JagR H' D qs m f → (∀ q, q ∈ qs → H1 q = none) → Qd H') :
    ∃ W : Nat → Nat → Hp → Prop, (∃ m, W 0 m (upd H1 D (.lst []))) ∧ ∀ i m H, W i m H →
      ((Itl K t).stop i H ∧ Qd H) ∨ ((Itl K t).go i H ∧ ∃ Nx : Hp → Prop, (∀ H', Nx H' → ∃ m', m' < m ∧ W (i + 1) m' H') ∧ ∀ x H', (Itl K t).yld i H x H' → gName j x (wipe σ [j]) H' fun σ2 H2 => wipe σ2 [j] = wipe σ [j] ∧ tYes σ2 H2 fun b H3 =>
        if b = true then tCB (rListOf K) (tCons (tVar j) tNil) σ2 H3 fun y H4 => ∃ acc, H4 D = some (.lst acc) ∧ acc.length < sizeLine ∧ Nx (upd H4 D (.lst (acc ++ [y]))) else Nx H3) := by
  have hs : SqL K H1 t (ps.map V.ref) := SqL.of ht.lst
  have hj' : j < (wipe σ [j]).length := by rw [wipe_length]; exact Nat.le_of_ble_eq_true hj
  refine lc_list (K := K) (a := t) (xs := ps.map V.ref) (fun i H' => ∃ qs, JagR H' D qs i f ∧ Same H1 H' ∧ ∀ q, q ∈ qs → H1 q = none) ⟨[], .nil f upd_same, same_upd nD, fun _ h => by cases h⟩ (fun i H' _ ⟨_, _, e, _⟩ => e.seq hs) ?_ ?_
  · rintro i x H' hx ⟨qs, hT, e, hfree⟩
    obtain ⟨p, hp, rfl⟩ := refs_at hx
    have hi := (List.getElem?_eq_some_iff.mp hp).1
    rw [ht.len] at hi
    refine ⟨?_, ?_⟩
    · show ((wipe σ [j]).set j (some (V.ref p))).set j none = σ.set j none
      show ((σ.set j none).set j (some (V.ref p))).set j none = σ.set j none
      rw [List.set_set, List.set_set]
    · refine ⟨_, List.getElem?_set_self hj', p, (f i).map V.int, rfl, .inl (e.seq (SqL.of (ht.row i p hp))), fun l nl => ?_⟩
      have sl := same_upd (o := .lst ((f i).map V.int)) nl
      refine ⟨_, sl _ _ hT.lst, ?_, qs ++ [l], hT.push sl nl upd_same, TabR.keep (e.trans sl) nD, fun q hq => ?_⟩
      · refine small1000 ?_
        rw [List.length_map, hT.len]
        omega
      · rcases List.mem_append.mp hq with hq | hq
        · exact hfree q hq
        · rw [List.mem_singleton.mp hq]
          exact e.free nl
  · rintro H' ⟨qs, hT, e, hfree⟩
    rw [List.length_map, ht.len] at hT
    exact q H' qs e hT hfree
/-- [sum(row) for row in t] -/
theorem lc_sumJ {K : PySem.W.Frag} {t : Addr} {ps : List Addr} {m : Nat} {f : Nat → List Int} {σ : L2.St} {H1 : Hp} {D : Addr} {j : Nat} {Qd : Hp → Prop} (ht : JagR H1 t ps m f) (hm : m ≤ 900) (nD : H1 D = none) (hj : Nat.ble (j + 1) σ.length = true)
    (q : Qd (upd H1 D (.lst ((rowI m fun a => (f a).sum).map V.int)))) :
    ∃ W : Nat → Nat → Hp → Prop, (∃ m, W 0 m (upd H1 D (.lst []))) ∧ ∀ i m H, W i m H →
      ((Itl K t).stop i H ∧ Qd H) ∨ ((Itl K t).go i H ∧ ∃ Nx : Hp → Prop, (∀ H', Nx H' → ∃ m', m' < m ∧ W (i + 1) m' H') ∧ ∀ x H', (Itl K t).yld i H x H' → gName j x (wipe σ [j]) H' fun σ2 H2 => wipe σ2 [j] = wipe σ [j] ∧ tYes σ2 H2 fun b H3 =>
        if b = true then tCB (rSum K) (tCons (tVar j) tNil) σ2 H3 fun y H4 => ∃ acc, H4 D = some (.lst acc) ∧ acc.length < sizeLine ∧ Nx (upd H4 D (.lst (acc ++ [y]))) else Nx H3) := by
  have hs : SqL K H1 t (ps.map V.ref) := SqL.of ht.lst
  have hj' : j < (wipe σ [j]).length := by rw [wipe_length]; exact Nat.le_of_ble_eq_true hj
  refine lc_list (K := K) (a := t) (xs := ps.map V.ref) (fun i H' => H' = upd H1 D (.lst ((rowI i fun a => (f a).sum).map V.int))) rfl (fun i H' _ e => by rw [e]; exact (same_upd nD).seq hs) ?_ ?_
  · rintro i x H' hx rfl
    obtain ⟨p, hp, rfl⟩ := refs_at hx
    have hi := (List.getElem?_eq_some_iff.mp hp).1
    rw [ht.len] at hi
    refine ⟨?_, ?_⟩
    · show ((wipe σ [j]).set j (some (V.ref p))).set j none = σ.set j none
      show ((σ.set j none).set j (some (V.ref p))).set j none = σ.set j none
      rw [List.set_set, List.set_set]
    · refine ⟨_, List.getElem?_set_self hj', p, f i, rfl, (same_upd nD).seq (SqL.of (ht.row i p hp)), ?_⟩
      refine ⟨_, upd_same, ?_, ?_⟩
      · refine small1000 ?_
        rw [List.length_map, rowI_len]
        omega
      · rw [upd_upd, rowI_succ, List.map_append]
        rfl
  · rintro H' rfl
    rw [List.length_map, ht.len]
    exact q

/-- [row[h] for row in t]: a column of a table -/
theorem lc_col {K : PySem.W.Frag} {t : Addr} {ps : List Addr} {n : Nat} {f : Nat → Nat → Int} {σ : L2.St} {H1 : Hp} {D : Addr} {j l h : Nat} {Qd : Hp → Prop} (ht : Tab H1 t ps n f) (hn : n ≤ 1000) (hh : h < n) (nD : H1 D = none) (hj : Nat.ble (j + 1) σ.length = true) (hlj : l ≠ j) (hl : σ[l]? = some (some (.int (h : Int))))
    (q : Qd (upd H1 D (.lst ((rowI n fun a => f a h).map V.int)))) :
    ∃ W : Nat → Nat → Hp → Prop, (∃ m, W 0 m (upd H1 D (.lst []))) ∧ ∀ i m H, W i m H →
      ((Itl K t).stop i H ∧ Qd H) ∨ ((Itl K t).go i H ∧ ∃ Nx : Hp → Prop, (∀ H', Nx H' → ∃ m', m' < m ∧ W (i + 1) m' H') ∧ ∀ x H', (Itl K t).yld i H x H' → gName j x (wipe σ [j]) H' fun σ2 H2 => wipe σ2 [j] = wipe σ [j] ∧ tYes σ2 H2 fun b H3 =>
        if b = true then tOp (rIxL K) (tVar j) (tVar l) σ2 H3 fun y H4 => ∃ acc, H4 D = some (.lst acc) ∧ acc.length < sizeLine ∧ Nx (upd H4 D (.lst (acc ++ [y]))) else Nx H3) := by
  have hs : SqL K H1 t (ps.map V.ref) := SqL.of ht.lst
  have hj' : j < (wipe σ [j]).length := by rw [wipe_length]; exact Nat.le_of_ble_eq_true hj
  refine lc_list (K := K) (a := t) (xs := ps.map V.ref) (fun i H' => H' = upd H1 D (.lst ((rowI i fun a => f a h).map V.int))) rfl (fun i H' _ e => by rw [e]; exact (same_upd nD).seq hs) ?_ ?_
  · rintro i x H' hx rfl
    obtain ⟨p, hp, rfl⟩ := refs_at hx
    have hi := (List.getElem?_eq_some_iff.mp hp).1
    rw [ht.len] at hi
    refine ⟨?_, ?_⟩
    · show ((wipe σ [j]).set j (some (V.ref p))).set j none = σ.set j none
      show ((σ.set j none).set j (some (V.ref p))).set j none = σ.set j none
      rw [List.set_set, List.set_set]
    · refine ⟨_, List.getElem?_set_self hj', _, ?_, p, (rowI n (f i)).map V.int, (h : Int), _, rfl, rfl, (same_upd nD).seq (SqL.of (ht.row i p hp)), atI_row hh, ?_⟩
      · show ((wipe σ [j]).set j (some (V.ref p)))[l]? = some (some (V.int (h : Int)))
        rw [List.getElem?_set_ne (fun e => hlj e.symm)]
        show (σ.set j none)[l]? = _
        rw [List.getElem?_set_ne (fun e => hlj e.symm)]
        exact hl
      · refine ⟨_, upd_same, ?_, ?_⟩
        · refine small1000 ?_
          rw [List.length_map, rowI_len]
          omega
        · rw [upd_upd, rowI_succ, List.map_append]
          rfl
  · rintro H' rfl
    rw [List.length_map, ht.len]
    exact q
/-- [t[b][h] for b in range(n)]: the same column -/
theorem lc_colR {K : PySem.W.Frag} {t : Addr} {ps : List Addr} {n : Nat} {f : Nat → Nat → Int} {σ : L2.St} {H1 : Hp} {D : Addr} {j l u h m : Nat} {Qd : Hp → Prop} (ht : Tab H1 t ps n f) (hn : n ≤ 1000) (hh : h < n) (nD : H1 D = none) (hm : m = n) (hj : Nat.ble (j + 1) σ.length = true) (hlj : l ≠ j) (huj : u ≠ j) (hl : σ[l]? = some (some (.int (h : Int)))) (hu : σ[u]? = some (some (.ref t)))
    (q : Qd (upd H1 D (.lst ((rowI n fun a => f a h).map V.int)))) :
    ∃ W : Nat → Nat → Hp → Prop, (∃ m, W 0 m (upd H1 D (.lst []))) ∧ ∀ i k H, W i k H →
      ((Itr 0 m).stop i H ∧ Qd H) ∨ ((Itr 0 m).go i H ∧ ∃ Nx : Hp → Prop, (∀ H', Nx H' → ∃ m', m' < k ∧ W (i + 1) m' H') ∧ ∀ x H', (Itr 0 m).yld i H x H' → gName j x (wipe σ [j]) H' fun σ2 H2 => wipe σ2 [j] = wipe σ [j] ∧ tYes σ2 H2 fun b H3 =>
        if b = true then tOp (rIxL K) (tOp (rIxL K) (tVar u) (tVar j)) (tVar l) σ2 H3 fun y H4 => ∃ acc, H4 D = some (.lst acc) ∧ acc.length < sizeLine ∧ Nx (upd H4 D (.lst (acc ++ [y]))) else Nx H3) := by
  subst hm
  have hj' : j < (wipe σ [j]).length := by rw [wipe_length]; exact Nat.le_of_ble_eq_true hj
  have keep : ∀ (y : V) (i : Nat) (x : Option V), i ≠ j → σ[i]? = some x → ((wipe σ [j]).set j (some y))[i]? = some x := fun y i x e z => by
    rw [List.getElem?_set_ne fun w => e w.symm]
    show (σ.set j none)[i]? = _
    rw [List.getElem?_set_ne fun w => e w.symm]
    exact z
  refine lc_range (lo := 0) (n := m) (fun i H' => H' = upd H1 D (.lst ((rowI i fun a => f a h).map V.int))) rfl ?_ ?_
  · rintro i H' hi rfl
    rw [show (0 : Int) + i = ((i : Nat) : Int) by omega]
    have s1 : Same H1 (upd H1 D (.lst ((rowI i fun a => f a h).map V.int))) := same_upd nD
    obtain ⟨p, hp, ha, hr⟩ := (ht.same s1).at hi
    refine ⟨?_, ?_⟩
    · show ((wipe σ [j]).set j (some (V.int (i : Int)))).set j none = σ.set j none
      show ((σ.set j none).set j (some (V.int (i : Int)))).set j none = σ.set j none
      rw [List.set_set, List.set_set]
    · refine ⟨_, keep _ _ _ huj hu, _, List.getElem?_set_self hj', t, ps.map V.ref, (i : Int), _, rfl, rfl, SqL.of (ht.same s1).lst, ha, _, keep _ _ _ hlj hl, p, (rowI m (f i)).map V.int, (h : Int), _, rfl, rfl, SqL.of hr, atI_row hh, ?_⟩
      refine ⟨_, upd_same, ?_, ?_⟩
      · refine small1000 ?_
        rw [List.length_map, rowI_len]
        omega
      · rw [upd_upd, rowI_succ, List.map_append]
        rfl
  · rintro H' rfl
    exact q
/-- [list(row) for row in t]: a table copied -/
theorem lc_copy {K : PySem.W.Frag} {t : Addr} {ps : List Addr} {n : Nat} {f : Nat → Nat → Int} {σ : L2.St} {H1 : Hp} {D : Addr} {j : Nat} {Qd : Hp → Prop} (ht : Tab H1 t ps n f) (hn : n ≤ 1000) (nD : H1 D = none) (hj : Nat.ble (j + 1) σ.length = true)
    (q : ∀ H' qs, Same H1 H' → Tab H' D qs n f → (∀ q, q ∈ qs → H1 q = none) → Qd H') :
    ∃ W : Nat → Nat → Hp → Prop, (∃ m, W 0 m (upd H1 D (.lst []))) ∧ ∀ i m H, W i m H →
      ((Itl K t).stop i H ∧ Qd H) ∨ ((Itl K t).go i H ∧ ∃ Nx : Hp → Prop, (∀ H', Nx H' → ∃ m', m' < m ∧ W (i + 1) m' H') ∧ ∀ x H', (Itl K t).yld i H x H' → gName j x (wipe σ [j]) H' fun σ2 H2 => wipe σ2 [j] = wipe σ [j] ∧ tYes σ2 H2 fun b H3 =>
        if b = true then tCB (rListOf K) (tCons (tVar j) tNil) σ2 H3 fun y H4 => ∃ acc, H4 D = some (.lst acc) ∧ acc.length < sizeLine ∧ Nx (upd H4 D (.lst (acc ++ [y]))) else Nx H3) := by
  have hs : SqL K H1 t (ps.map V.ref) := SqL.of ht.lst
  have hj' : j < (wipe σ [j]).length := by rw [wipe_length]; exact Nat.le_of_ble_eq_true hj
  refine lc_list (K := K) (a := t) (xs := ps.map V.ref) (fun i H' => ∃ qs, TabR H' D qs i n f ∧ Same H1 H' ∧ ∀ q, q ∈ qs → H1 q = none) ⟨[], .nil n f upd_same, same_upd nD, fun _ h => by cases h⟩ (fun i H' _ ⟨_, _, e, _⟩ => e.seq hs) ?_ ?_
  · rintro i x H' hx ⟨qs, hT, e, hfree⟩
    obtain ⟨p, hp, rfl⟩ := refs_at hx
    have hi := (List.getElem?_eq_some_iff.mp hp).1
    rw [ht.len] at hi
    refine ⟨?_, ?_⟩
    · show ((wipe σ [j]).set j (some (V.ref p))).set j none = σ.set j none
      show ((σ.set j none).set j (some (V.ref p))).set j none = σ.set j none
      rw [List.set_set, List.set_set]
    · refine ⟨_, List.getElem?_set_self hj', p, (rowI n (f i)).map V.int, rfl, .inl (e.seq (SqL.of (ht.row i p hp))), fun l nl => ?_⟩
      have sl := same_upd (o := .lst ((rowI n (f i)).map V.int)) nl
      refine ⟨_, sl _ _ hT.lst, ?_, qs ++ [l], hT.push sl nl upd_same, TabR.keep (e.trans sl) nD, fun q hq => ?_⟩
      · refine small1000 ?_
        rw [List.length_map, hT.len]
        omega
      · rcases List.mem_append.mp hq with hq | hq
        · exact hfree q hq
        · rw [List.mem_singleton.mp hq]
          exact e.free nl
  · rintro H' ⟨qs, hT, e, hfree⟩
    rw [List.length_map, ht.len] at hT
    exact q H' qs e hT.tab hfree
/-- [sum(row) for row in t] -/
theorem lc_sums {K : PySem.W.Frag} {t : Addr} {ps : List Addr} {n : Nat} {f : Nat → Nat → Int} {σ : L2.St} {H1 : Hp} {D : Addr} {j : Nat} {Qd : Hp → Prop} (ht : Tab H1 t ps n f) (hn : n ≤ 1000) (nD : H1 D = none) (hj : Nat.ble (j + 1) σ.length = true)
    (q : Qd (upd H1 D (.lst ((rowI n fun a => sumI n (f a)).map V.int)))) :
    ∃ W : Nat → Nat → Hp → Prop, (∃ m, W 0 m (upd H1 D (.lst []))) ∧ ∀ i m H, W i m H →
      ((Itl K t).stop i H ∧ Qd H) ∨ ((Itl K t).go i H ∧ ∃ Nx : Hp → Prop, (∀ H', Nx H' → ∃ m', m' < m ∧ W (i + 1) m' H') ∧ ∀ x H', (Itl K t).yld i H x H' → gName j x (wipe σ [j]) H' fun σ2 H2 => wipe σ2 [j] = wipe σ [j] ∧ tYes σ2 H2 fun b H3 =>
        if b = true then tCB (rSum K) (tCons (tVar j) tNil) σ2 H3 fun y H4 => ∃ acc, H4 D = some (.lst acc) ∧ acc.length < sizeLine ∧ Nx (upd H4 D (.lst (acc ++ [y]))) else Nx H3) := by
  have hs : SqL K H1 t (ps.map V.ref) := SqL.of ht.lst
  have hj' : j < (wipe σ [j]).length := by rw [wipe_length]; exact Nat.le_of_ble_eq_true hj
  refine lc_list (K := K) (a := t) (xs := ps.map V.ref) (fun i H' => H' = upd H1 D (.lst ((rowI i fun a => sumI n (f a)).map V.int))) rfl (fun i H' _ e => by rw [e]; exact (same_upd nD).seq hs) ?_ ?_
  · rintro i x H' hx rfl
    obtain ⟨p, hp, rfl⟩ := refs_at hx
    have hi := (List.getElem?_eq_some_iff.mp hp).1
    rw [ht.len] at hi
    refine ⟨?_, ?_⟩
    · show ((wipe σ [j]).set j (some (V.ref p))).set j none = σ.set j none
      show ((σ.set j none).set j (some (V.ref p))).set j none = σ.set j none
      rw [List.set_set, List.set_set]
    · refine ⟨_, List.getElem?_set_self hj', p, rowI n (f i), rfl, (same_upd nD).seq (SqL.of (ht.row i p hp)), ?_⟩
      refine ⟨_, upd_same, ?_, ?_⟩
      · refine small1000 ?_
        rw [List.length_map, rowI_len]
        omega
      · rw [upd_upd, rowI_succ, List.map_append]
        rfl
  · rintro H' rfl
    rw [List.length_map, ht.len]
    exact q

def sizesOk (s : List Int) : Prop := s.length ≤ 40 ∧ ∀ x, x ∈ s → 0 ≤ x ∧ x ≤ 1000000000000000
theorem sizesOk.nn {s : List Int} (h : sizesOk s) : 0 ≤ s.sum := sum_nonneg s fun x hx => (h.2 x hx).1

/-- a comprehension over zip of two lists of one length: each turn a new pair -/
theorem lc_zip {K : PySem.W.Frag} {a b : Addr} {xs ys : List V} {g : TG} {tt : TT} {te : TE} {vs : List Nat} {σ : L2.St} {H1 : Hp} {D : Addr} {Qd : Hp → Prop} (el : xs.length = ys.length) (Pv : Nat → Hp → Prop) (h0 : Pv 0 (upd H1 D (.lst []))) (hl : ∀ i H, i ≤ xs.length → Pv i H → SqL K H a xs ∧ SqL K H b ys)
    (hs : ∀ (i : Nat) (x y : V) (H : Hp) (T : Addr), xs[i]? = some x → ys[i]? = some y → Pv i H → H T = none → g (.ref T) (wipe σ vs) (upd H T (.tup [x, y])) fun σ2 H2 => wipe σ2 vs = wipe σ vs ∧ tt σ2 H2 fun b H3 =>
      if b = true then te σ2 H3 fun y H4 => ∃ acc, H4 D = some (.lst acc) ∧ acc.length < sizeLine ∧ Pv (i + 1) (upd H4 D (.lst (acc ++ [y]))) else Pv (i + 1) H3) (hd : ∀ H, Pv xs.length H → Qd H) :
    ∃ W : Nat → Nat → Hp → Prop, (∃ m, W 0 m (upd H1 D (.lst []))) ∧ ∀ i m H, W i m H →
      ((Itz K a b).stop i H ∧ Qd H) ∨ ((Itz K a b).go i H ∧ ∃ Nx : Hp → Prop, (∀ H', Nx H' → ∃ m', m' < m ∧ W (i + 1) m' H') ∧ ∀ x H', (Itz K a b).yld i H x H' → g x (wipe σ vs) H' fun σ2 H2 => wipe σ2 vs = wipe σ vs ∧ tt σ2 H2 fun b H3 =>
        if b = true then te σ2 H3 fun y H4 => ∃ acc, H4 D = some (.lst acc) ∧ acc.length < sizeLine ∧ Nx (upd H4 D (.lst (acc ++ [y]))) else Nx H3) := by
  refine ⟨fun i m H => m + i = xs.length ∧ Pv i H, ⟨xs.length, rfl, h0⟩, ?_⟩
  rintro i m H ⟨em, p⟩
  obtain ⟨q1, q2⟩ := hl i H (by omega) p
  by_cases hlt : i < xs.length
  · refine .inr ⟨⟨xs, ys, xs[i], ys[i]'(by omega), q1, q2, List.getElem?_eq_getElem hlt, List.getElem?_eq_getElem (by omega)⟩, Pv (i + 1), fun H' p' => ⟨m - 1, by omega, by omega, p'⟩, fun x H' y => ?_⟩
    obtain ⟨T, z1, z2, rfl, nT, rfl, f1, f2⟩ := y
    exact hs i z1 z2 H T (f1 xs q1) (f2 ys q2) p nT
  · have e : i = xs.length := by omega
    subst e
    exact .inl ⟨⟨xs, ys, q1, q2, .inl (Nat.le_refl _)⟩, hd H p⟩

/-! zip of three lists of one length (an own rule over the library's GoesN.zip3) -/
def Itz3 (K : PySem.W.Frag) (a b c : Addr) : It :=
  ⟨fun i H => ∃ (xs ys zs : List V) (x y z : V), SqL K H a xs ∧ SqL K H b ys ∧ SqL K H c zs ∧ xs[i]? = some x ∧ ys[i]? = some y ∧ zs[i]? = some z,
    fun i H v H' => ∃ T x y z, v = .ref T ∧ H T = none ∧ H' = upd H T (.tup [x, y, z]) ∧ (∀ xs, SqL K H a xs → xs[i]? = some x) ∧ (∀ ys, SqL K H b ys → ys[i]? = some y) ∧ ∀ zs, SqL K H c zs → zs[i]? = some z,
    fun i H => ∃ xs ys zs : List V, SqL K H a xs ∧ SqL K H b ys ∧ SqL K H c zs ∧ xs.length = i ∧ ys.length = i ∧ zs.length = i⟩
theorem turn_zip3 {P : Program} {w : World} {K : PySem.W.Frag} {elts : List Expr} {kk : Nat} {tpos : Pos} {a b c z TI TO i1 i2 i3 : Addr} (S : ZipSep3 z TI TO i1 i2 i3 [i1, a] [i2, b] [i3, c]) (na : a ≠ i1) (nb : b ≠ i2) (nc : c ≠ i3) :
    Turn P w K (.Tuple elts kk tpos) (Itz3 K a b c) [z, TI, TO, i1, i2, i3] z (fun i h => IsZip h z TI TO .none ∧ IsTupOf3 h TI (.ref i1) (.ref i2) (.ref i3) ∧ (∃ x y u, IsTupOf3 h TO x y u) ∧ h.IsListIter i1 a i ∧ h.IsListIter i2 b i ∧ h.IsListIter i3 c i) where
  mem := by simp
  obj := fun i h st m hm => by
    obtain ⟨hz, hTI, ⟨x, y, u, hTO⟩, ⟨o1, e1, _, d1⟩, ⟨o2, e2, _, d2⟩, ⟨o3, e3, _, d3⟩⟩ := st
    have e' : m = z ∨ m = TI ∨ m = TO ∨ m = i1 ∨ m = i2 ∨ m = i3 := by simpa using hm
    rcases e' with q | q | q | q | q | q
    · rw [q]; exact ⟨_, hz, fun v q => nomatch q⟩
    · rw [q]; exact ⟨_, hTI, fun v q => nomatch q⟩
    · rw [q]; exact ⟨_, hTO, fun v q => nomatch q⟩
    · rw [q]; exact ⟨o1, e1, fun v q => by rw [d1] at q; cases q⟩
    · rw [q]; exact ⟨o2, e2, fun v q => by rw [d2] at q; cases q⟩
    · rw [q]; exact ⟨o3, e3, fun v q => by rw [d3] at q; cases q⟩
  keep := fun i h h' st k => by
    obtain ⟨hz, hTI, ⟨x, y, u, hTO⟩, h1, h2, h3⟩ := st
    exact ⟨k z (by simp) _ hz, k TI (by simp) _ hTI, ⟨x, y, u, k TO (by simp) _ hTO⟩, h1.at fun o q => k i1 (by simp) o q, h2.at fun o q => k i2 (by simp) o q, h3.at fun o q => k i3 (by simp) o q⟩
  item := by
    intro X hP hw hK hc i pins s σ H E I hf st hg
    subst hP hw hK
    obtain ⟨hz, hTI, hTO, h1, h2, h3⟩ := st
    obtain ⟨xs, ys, zs, x, y, u, hqx, hqy, hqz, hx, hy, hu⟩ := hg
    obtain ⟨its, rv, p, _⟩ := I.list hqx
    obtain ⟨its2, rv2, p2, _⟩ := I.list hqy
    obtain ⟨its3, rv3, p3, _⟩ := I.list hqz
    obtain ⟨vx, hvx, rx⟩ := rv.get hx
    obtain ⟨vy, hvy, ry⟩ := rv2.get hy
    obtain ⟨vu, hvu, ru⟩ := rv3.get hu
    have hd : X.A.in1.handled = none := I.ok.hd hc
    have hl1 := (List.getElem?_eq_some_iff.mp hvx).1
    have hl2 := (List.getElem?_eq_some_iff.mp hvy).1
    have hl3 := (List.getElem?_eq_some_iff.mp hvu).1
    refine (GoesN.zip3 S (Draws.list hd i1 a na its.toArray) (Draws.list hd i2 b nb its2.toArray) (Draws.list hd i3 c nc its3.toArray)).goes i s _ E (by simp; omega) ⟨hz, hTI, hTO, ⟨h1, p.isList⟩, ⟨h2, p2.isList⟩, ⟨h3, p3.isList⟩⟩ fun v h' tk hY st' hk htk => ?_
    obtain ⟨T, wx, wy, wu, rfl, hT, q1, q2, q3, hTup⟩ := hY
    obtain ⟨z', TI', TO', ⟨l1', _⟩, ⟨l2', _⟩, ⟨l3', _⟩⟩ := st'
    obtain rfl : wx = vx := by
      have : its[i]? = some wx := by simpa using q1
      rw [hvx] at this
      exact (Option.some.inj this).symm
    obtain rfl : wy = vy := by
      have : its2[i]? = some wy := by simpa using q2
      rw [hvy] at this
      exact (Option.some.inj this).symm
    obtain rfl : wu = vu := by
      have : its3[i]? = some wu := by simpa using q3
      rw [hvu] at this
      exact (Option.some.inj this).symm
    have new : ObjOk X.prog X.w (upd H T (.tup [x, y, u])) h' T (.tup [x, y, u]) :=
      ⟨by show 3 ≤ sizeLine; decide, [wx, wy, wu], .cons rx (.cons ry (.cons ru .nil)), hTup⟩
    have I1 : Inv X pins σ (upd H T (.tup [x, y, u])) { s with heap := h', toks := tk } :=
      I.turnedNew (ch := [z, TI, TO, i1, i2, i3]) (fun c o hb q => hk c o (fun q' => hb (by
        simp only [List.mem_cons, List.not_mem_nil, or_false] at q' ⊢
        rcases q' with e | e | e | e | e
        · exact .inl e
        · exact .inr (.inr (.inl e))
        · exact .inr (.inr (.inr (.inl e)))
        · exact .inr (.inr (.inr (.inr (.inl e))))
        · exact .inr (.inr (.inr (.inr (.inr e)))))) q) hf hT new
    refine ⟨.ref T, _, I1, rfl, ⟨_, x, y, u, rfl, I.hok.fresh hT, rfl, fun l hl => by rw [I.list_inj hl hqx]; exact hx, fun l hl => by rw [I.list_inj hl hqy]; exact hy, fun l hl => by rw [I.list_inj hl hqz]; exact hu⟩, ⟨z', TI', TO', l1', l2', l3'⟩, fun m hm => ?_⟩
    have hlt : m < s.heap.objs.size := by
      have e' : m = z ∨ m = TI ∨ m = TO ∨ m = i1 ∨ m = i2 ∨ m = i3 := by simpa using hm
      rcases e' with q | q | q | q | q | q
      · rw [q]; exact Heap.lt_size hz
      · rw [q]; exact Heap.lt_size hTI
      · rw [q]; obtain ⟨_, _, _, e⟩ := hTO; exact Heap.lt_size e
      · rw [q]; obtain ⟨_, e1, _⟩ := h1; exact Heap.lt_size e1
      · rw [q]; obtain ⟨_, e1, _⟩ := h2; exact Heap.lt_size e1
      · rw [q]; obtain ⟨_, e1, _⟩ := h3; exact Heap.lt_size e1
    rw [upd_ne (Nat.ne_of_lt (Nat.lt_of_lt_of_le hlt hT))]
    exact (hf m hm).1
  done := by
    intro X hP hw hK hc i pins s σ H E I hf st hg
    subst hP hw hK
    obtain ⟨hz, hTI, hTO, h1, h2, h3⟩ := st
    obtain ⟨xs, ys, zs, hqx, hqy, hqz, lx, ly, lz⟩ := hg
    obtain ⟨its, rv, p, _⟩ := I.list hqx
    obtain ⟨its2, rv2, p2, _⟩ := I.list hqy
    obtain ⟨its3, rv3, p3, _⟩ := I.list hqz
    have r1 := rv.length
    have r2 := rv2.length
    have r3 := rv3.length
    have hd : X.A.in1.handled = none := I.ok.hd hc
    have W := GoesN.zip3 (elts := elts) (x1 := kk) (pos := tpos) (prog := X.prog) (w := X.w) S (Draws.list hd i1 a na its.toArray) (Draws.list hd i2 b nb its2.toArray) (Draws.list hd i3 c nc its3.toArray)
    have en : min (min its.toArray.size its2.toArray.size) its3.toArray.size = i := by simp; omega
    rw [en] at W
    refine W.stops s _ E ⟨hz, hTI, hTO, ⟨h1, p.isList⟩, ⟨h2, p2.isList⟩, ⟨h3, p3.isList⟩⟩ fun h' tk hk htk => ?_
    exact I.turnedL (t' := tk) (ch := [z, TI, TO, i1, i2, i3]) (fun m o hb q => hk m o (fun q' => hb (by
      simp only [List.mem_cons, List.not_mem_nil, or_false] at q' ⊢
      rcases q' with e | e | e | e | e
      · exact .inl e
      · exact .inr (.inr (.inl e))
      · exact .inr (.inr (.inr (.inl e)))
      · exact .inr (.inr (.inr (.inr (.inl e))))
      · exact .inr (.inr (.inr (.inr (.inr e)))))) q) hf
  self := fun A i s Q E st h => wpAny_pyIter_zip st.1 h
def iZip3 (K : PySem.W.Frag) (ta : TA) : TI := fun σ H R => ta σ H fun vs H1 => ∃ a b c xs ys zs, vs = [.ref a, .ref b, .ref c] ∧ SqL K H1 a xs ∧ SqL K H1 b ys ∧ SqL K H1 c zs ∧ R (Itz3 K a b c) H1
theorem pi_zip3 {X : Cx} {e e2 e3 : Expr} {ta : TA} {p pos tpos : Pos} {elts : List Expr} {kk : Nat} (hg : Gl X "zip") (hm : X.mg "zip" = none) (ha : PA X [e, e2, e3] ta)
    (hs : starEach [e, e2, e3] X.env = (false, eval e X.env) :: starEach [e2, e3] X.env := by rfl) (hpl : (backTo pos (starEach [e2, e3] X.env)).any (·.1) = false := by rfl) :
    PI X (.Tuple elts kk tpos) (.Call (.Name "zip" p) [e, e2, e3] [] pos) (iZip3 X.K ta) := by
  refine ⟨fun pins s σ H R I h => ?_⟩
  refine Call_ (ld_blt I hg hm PyProof.Rows.boot_zip (PyProof.Rows.callWith_type1 (thn (ha.run pos pins s σ H _ I h) fun us s1 ⟨vs, H1, I1, r1, q1⟩ => ?_) hs hpl))
  obtain ⟨a, b, c, xs, ys, zs, ex, hqx, hqy, hqz, q⟩ := q1
  subst ex
  cases r1 with
  | cons r rr =>
    cases rr with
    | cons r' rr =>
      cases rr with
      | cons r'' rr =>
        cases rr
        cases r
        cases r'
        cases r''
        obtain ⟨its, rv, p1, _⟩ := I1.list hqx
        obtain ⟨its2, rv2, p2, _⟩ := I1.list hqy
        obtain ⟨its3, rv3, p3, _⟩ := I1.list hqz
        have la : a < s1.heap.objs.size := p1.lt
        have lb : b < s1.heap.objs.size := p2.lt
        have lc : c < s1.heap.objs.size := p3.lt
        refine zip_begins3 (begins_list a its.toArray) (begins_list b its2.toArray) (begins_list c its3.toArray) p1.isList p2.isList p3.isList fun h' hz hTI hTO g1 g2 g3 hsz hk => wpAny_pyIter_zip hz ?_
        have I2 : Inv X pins σ H1 { s1 with heap := h' } := I1.kept (t' := s1.toks) hk
        have S := zip_sep3 (N := s1.heap.objs.size) (fp1 := [a]) (fp2 := [b]) (fp3 := [c]) (fun m hm => by rw [List.mem_singleton.mp hm]; exact la) (fun m hm => by rw [List.mem_singleton.mp hm]; exact lb) (fun m hm => by rw [List.mem_singleton.mp hm]; exact lc)
        refine ⟨s1.heap.objs.size + 5, [s1.heap.objs.size + 5, s1.heap.objs.size + 3, s1.heap.objs.size + 4, s1.heap.objs.size, s1.heap.objs.size + 1, s1.heap.objs.size + 2], _, _, H1, rfl, I2, turn_zip3 S (Nat.ne_of_lt la) (Nat.ne_of_lt (Nat.lt_succ_of_lt lb)) (Nat.ne_of_lt (Nat.lt_succ_of_lt (Nat.lt_succ_of_lt lc))), ⟨hz, hTI, ⟨_, _, _, hTO⟩, ⟨_, g1, rfl, rfl⟩, ⟨_, g2, rfl, rfl⟩, ⟨_, g3, rfl, rfl⟩⟩, fun m hm => ?_, q⟩
        have hle : s1.heap.objs.size ≤ m := by
          have e' : m = s1.heap.objs.size + 5 ∨ m = s1.heap.objs.size + 3 ∨ m = s1.heap.objs.size + 4 ∨ m = s1.heap.objs.size ∨ m = s1.heap.objs.size + 1 ∨ m = s1.heap.objs.size + 2 := by simpa using hm
          rcases e' with z | z | z | z | z | z
          · rw [z]; exact Nat.le_add_right _ _
          · rw [z]; exact Nat.le_add_right _ _
          · rw [z]; exact Nat.le_add_right _ _
          · rw [z]; exact Nat.le_refl _
          · rw [z]; exact Nat.le_add_right _ _
          · rw [z]; exact Nat.le_add_right _ _
        exact I1.fpOk hle (I1.hok.fresh hle)
/-- a comprehension over zip of three lists of one length -/
theorem lc_zip3 {K : PySem.W.Frag} {a b c : Addr} {xs ys zs : List V} {g : TG} {tt : TT} {te : TE} {vs : List Nat} {σ : L2.St} {H1 : Hp} {D : Addr} {Qd : Hp → Prop} (el : xs.length = ys.length) (el2 : xs.length = zs.length) (Pv : Nat → Hp → Prop) (h0 : Pv 0 (upd H1 D (.lst []))) (hl : ∀ i H, i ≤ xs.length → Pv i H → SqL K H a xs ∧ SqL K H b ys ∧ SqL K H c zs)
    (hs : ∀ (i : Nat) (x y z : V) (H : Hp) (T : Addr), xs[i]? = some x → ys[i]? = some y → zs[i]? = some z → Pv i H → H T = none → g (.ref T) (wipe σ vs) (upd H T (.tup [x, y, z])) fun σ2 H2 => wipe σ2 vs = wipe σ vs ∧ tt σ2 H2 fun b H3 =>
      if b = true then te σ2 H3 fun y H4 => ∃ acc, H4 D = some (.lst acc) ∧ acc.length < sizeLine ∧ Pv (i + 1) (upd H4 D (.lst (acc ++ [y]))) else Pv (i + 1) H3) (hd : ∀ H, Pv xs.length H → Qd H) :
    ∃ W : Nat → Nat → Hp → Prop, (∃ m, W 0 m (upd H1 D (.lst []))) ∧ ∀ i m H, W i m H →
      ((Itz3 K a b c).stop i H ∧ Qd H) ∨ ((Itz3 K a b c).go i H ∧ ∃ Nx : Hp → Prop, (∀ H', Nx H' → ∃ m', m' < m ∧ W (i + 1) m' H') ∧ ∀ x H', (Itz3 K a b c).yld i H x H' → g x (wipe σ vs) H' fun σ2 H2 => wipe σ2 vs = wipe σ vs ∧ tt σ2 H2 fun b H3 =>
        if b = true then te σ2 H3 fun y H4 => ∃ acc, H4 D = some (.lst acc) ∧ acc.length < sizeLine ∧ Nx (upd H4 D (.lst (acc ++ [y]))) else Nx H3) := by
  refine ⟨fun i m H => m + i = xs.length ∧ Pv i H, ⟨xs.length, rfl, h0⟩, ?_⟩
  rintro i m H ⟨em, p⟩
  obtain ⟨q1, q2, q3⟩ := hl i H (by omega) p
  by_cases hlt : i < xs.length
  · refine .inr ⟨⟨xs, ys, zs, xs[i], ys[i]'(by omega), zs[i]'(by omega), q1, q2, q3, List.getElem?_eq_getElem hlt, List.getElem?_eq_getElem (by omega), List.getElem?_eq_getElem (by omega)⟩, Pv (i + 1), fun H' p' => ⟨m - 1, by omega, by omega, p'⟩, fun x H' y => ?_⟩
    obtain ⟨T, z1, z2, z3, rfl, nT, rfl, f1, f2, f3⟩ := y
    exact hs i z1 z2 z3 H T (f1 xs q1) (f2 ys q2) (f3 zs q3) p nT
  · have e : i = xs.length := by omega
    subst e
    exact .inl ⟨⟨xs, ys, zs, q1, q2, q3, rfl, el.symm, el2.symm⟩, hd H p⟩

/-- the places below n that P picks -/
def filI (n : Nat) (P : Nat → Bool) : List Int := ((List.range n).filter P).map fun (a : Nat) => (a : Int)
theorem filI_succ (n : Nat) (P : Nat → Bool) : filI (n + 1) P = filI n P ++ (if P n = true then [(n : Int)] else []) := by
  unfold filI
  rw [List.range_succ, List.filter_append, List.map_append]
  congr 1
  by_cases h : P n = true
  · rw [List.filter_cons_of_pos h, if_pos h]; rfl
  · rw [List.filter_cons_of_neg h, if_neg h]; rfl
theorem filI_len (n : Nat) (P : Nat → Bool) : (filI n P).length ≤ n := by
  unfold filI
  rw [List.length_map]
  have := List.length_filter_le P (List.range n)
  rw [List.length_range] at this
  exact this
theorem filI_head : ∀ {n : Nat} {P : Nat → Bool} {p : Nat}, p < n → P p = true → (∀ a, a < p → P a = false) → ∃ xs, filI n P = (p : Int) :: xs
  | 0, _, _, h, _, _ => by omega
  | n + 1, P, p, h, hp, hn => by
    rw [filI_succ]
    by_cases z : p < n
    · obtain ⟨xs, e⟩ := filI_head z hp hn
      exact ⟨xs ++ (if P n = true then [(n : Int)] else []), by rw [e]; rfl⟩
    · have e : p = n := by omega
      subst e
      rw [if_pos hp]
      have : filI p P = [] := by
        unfold filI
        rw [List.filter_eq_nil_iff.mpr fun a ha => by rw [hn a (List.mem_range.mp ha)]; exact Bool.false_ne_true]
        rfl
      exact ⟨[], by rw [this]; rfl⟩
theorem filI_none {n : Nat} {P : Nat → Bool} (h : ∀ a, a < n → P a = false) : filI n P = [] := by
  unfold filI
  rw [List.filter_eq_nil_iff.mpr fun a ha => by rw [h a (List.mem_range.mp ha)]; exact Bool.false_ne_true]
  rfl

theorem TabR.same {H H' : Hp} {t : Addr} {ps : List Addr} {m n : Nat} {f : Nat → Nat → Int} (h : TabR H t ps m n f) (e : Same H H') : TabR H' t ps m n f :=
  ⟨e _ _ h.lst, h.len, fun i p hp => e _ _ (h.row i p hp), h.nod, h.out⟩
theorem TabR.at {H : Hp} {t : Addr} {ps : List Addr} {m n : Nat} {f : Nat → Nat → Int} (h : TabR H t ps m n f) {i : Nat} (hi : i < m) : ∃ p, ps[i]? = some p ∧ atI (ps.map V.ref) (i : Int) = some (.ref p) ∧ H p = some (.lst ((rowI n (f i)).map V.int)) := by
  have hl : i < ps.length := by rw [h.len]; exact hi
  refine ⟨ps[i], List.getElem?_eq_getElem hl, at_of (j := i) rfl ?_, h.row i _ (List.getElem?_eq_getElem hl)⟩
  rw [List.getElem?_map, List.getElem?_eq_getElem hl]
  rfl

/-! d.get(y) where y may be None (own rule over the library's noneKind) -/
theorem d_get1None {X : Cx} {pins : List (Addr × Obj)} {σ : L2.St} {H : Hp} {s : Shared} {a : Addr} {kvs : List (Key × V)} {A : Around} {E : Value → Shared → Prop} {Q : Value → Shared → Prop} (I : Inv X pins σ H s) (e : Rd H a (.dK kvs)) (h : ∀ s', Inv X pins σ H s' → Q .none s') :
    wpAny (model X.prog X.w) A (call (.builtin "dict.get") [.ref a, .none]) Q E s := by
  obtain ⟨_, hd, vs, _, dd⟩ := dk_rd I.hok e
  obtain ⟨f, hm, hf⟩ := none_map dd
  refine call_meetsIn PySem.F.slot_dict_get dd.typeIs PySem.F.entry_dict_get (PySem.F.args_dict_get_2 _ _) (meets_dict_get (noneKind X.prog X.w) a (show (noneKind X.prog X.w).is none .none = true from rfl) hd) ⟨_, hm, ?_⟩
  rw [hf]
  exact h _ (I.tok _)
def tDGet1N (td ty : TE) : TE := fun σ H Q => td σ H fun x H1 => ∃ a, x = .ref a ∧ IsD H1 a ∧ ty σ H1 fun y H2 => (∃ o, DGet H2 a y o ∧ Q (o.getD .non) H2) ∨ (y = .non ∧ ∃ kvs, Rd H2 a (.dK kvs) ∧ Q .non H2)
theorem pe_dget1N {X : Cx} {o e : Expr} {apos cpos : Pos} {td ty : TE} (hu : X.A.units + 1 < cLine) (ho : PE X o td) (he : PE X e ty) (m : M1 X o "get" apos e cpos) : PE X (.Call (.Attribute o "get" apos) [e] [] cpos) (tDGet1N td ty) := by
  refine ⟨fun pins s σ H Q I h => ?_⟩
  refine wpAny_Call_method m.base m.few m.line PySem.F.plainAttrs_dict PySem.F.slot_dict_get PySem.F.type_dict_get (thn (ho.run pins s σ H _ I h) fun u s1 ⟨x, H1, I1, rx, a, ex, d, q1⟩ => ?_)
  subst ex
  obtain rfl : u = Value.ref a := rx
  obtain ⟨t1, t2, _⟩ := isD_at I1 d
  refine ⟨t1, t2, ?_⟩
  rw [m.trees]
  refine Calls.callWith_builtin rfl (Calls.evalArgs_plain (Calls.spliced_cons (thn (he.run pins s1 σ H1 _ I1 q1) fun iv s2 ⟨y, H2, I2, ry, q2⟩ => Calls.spliced_nil ?_)))
  rcases q2 with ⟨ov, g, q2⟩ | ⟨rfl, kvs, g, q2⟩
  · exact d_get1 hu I2 g ry fun w' s3 I3 rw' => ⟨_, H2, I3, rw', q2⟩
  · obtain rfl : iv = Value.none := ry
    exact d_get1None I2 g fun s3 I3 => ⟨.non, H2, I3, rfl, q2⟩

/-! a dict that holds what a partial function of places gives, in the order of the places -/
def folD (F : Nat → Option Nat) : Nat → List (Key × V)
  | 0 => []
  | i + 1 => folD F i ++ (match F i with | none => [] | some c => [((Sum.inl (i : Int) : Key), V.int (c : Int))])
theorem folD_none {F : Nat → Option Nat} {i : Nat} (h : F i = none) : folD F (i + 1) = folD F i := by
  show folD F i ++ _ = _
  rw [h]
  exact List.append_nil _
theorem folD_some {F : Nat → Option Nat} {i c : Nat} (h : F i = some c) : folD F (i + 1) = folD F i ++ [((Sum.inl (i : Int) : Key), V.int (c : Int))] := by
  show folD F i ++ _ = _
  rw [h]
theorem folD_len (F : Nat → Option Nat) : ∀ i, (folD F i).length ≤ i
  | 0 => Nat.le_refl _
  | i + 1 => by
    have ih := folD_len F i
    cases h : F i with
    | none => rw [folD_none h]; omega
    | some c => rw [folD_some h, List.length_append]; exact Nat.succ_le_succ ih
theorem folD_key {F : Nat → Option Nat} : ∀ {i : Nat} {x : Key × V}, x ∈ folD F i → ∃ j c, j < i ∧ F j = some c ∧ x = ((Sum.inl (j : Int) : Key), V.int (c : Int))
  | 0, _, h => by cases h
  | i + 1, x, h => by
    cases e : F i with
    | none =>
      rw [folD_none e] at h
      obtain ⟨j, c, h1, h2, h3⟩ := folD_key h
      exact ⟨j, c, by omega, h2, h3⟩
    | some c =>
      rw [folD_some e] at h
      rcases List.mem_append.mp h with h | h
      · obtain ⟨j, c, h1, h2, h3⟩ := folD_key h
        exact ⟨j, c, by omega, h2, h3⟩
      · exact ⟨i, c, by omega, e, List.mem_singleton.mp h⟩
theorem folD_mem {F : Nat → Option Nat} {j c : Nat} (h : F j = some c) : ∀ {i : Nat}, j < i → ((Sum.inl (j : Int) : Key), V.int (c : Int)) ∈ folD F i
  | 0, z => by omega
  | i + 1, z => by
    by_cases e : j = i
    · rw [← e, folD_some h]
      exact List.mem_append.mpr (.inr (List.mem_singleton.mpr rfl))
    · have := folD_mem h (i := i) (by omega)
      show _ ∈ folD F i ++ _
      exact List.mem_append.mpr (.inl this)
theorem folD_put (F : Nat → Option Nat) (i : Nat) (v : V) : putK (folD F i) (Sum.inl (i : Int)) v = folD F i ++ [((Sum.inl (i : Int) : Key), v)] := by
  unfold putK
  rw [if_neg]
  intro h
  obtain ⟨x, hx, e⟩ := List.any_eq_true.mp h
  obtain ⟨j, c, h1, _, rfl⟩ := folD_key hx
  have : (j : Int) = (i : Int) := Sum.inl.inj (of_decide_eq_true e)
  omega
theorem valV_cat (k : Key) (b : List (Key × V)) : ∀ a : List (Key × V), valV (a ++ b) k = (valV a k).or (valV b k)
  | [] => by
    show valV b k = (valV [] k).or (valV b k)
    rfl
  | x :: a => by
    by_cases h : x.1 = k
    · rw [List.cons_append, valV_pos h, valV_pos h]
      rfl
    · rw [List.cons_append, valV_neg h, valV_neg h]
      exact valV_cat k b a
theorem folD_val (F : Nat → Option Nat) (j : Nat) : ∀ i, valV (folD F i) (Sum.inl (j : Int)) = if j < i then (F j).map (fun (c : Nat) => V.int (c : Int)) else none
  | 0 => by
    rw [if_neg (by omega)]
    rfl
  | i + 1 => by
    have ih := folD_val F j i
    cases e : F i with
    | none =>
      rw [folD_none e, ih]
      by_cases z : j < i
      · rw [if_pos z, if_pos (by omega)]
      · by_cases y : j = i
        · rw [if_neg z, if_pos (by omega), y, e]
          rfl
        · rw [if_neg z, if_neg (by omega)]
    | some c =>
      rw [folD_some e, valV_cat, ih]
      by_cases z : j < i
      · rw [if_pos z, if_pos (by omega), valV_neg (show ((Sum.inl (i : Int) : Key), V.int (c : Int)).1 ≠ Sum.inl (j : Int) from fun z => by have := Sum.inl.inj z; omega)]
        show (Option.map _ (F j)).or none = _
        cases F j <;> rfl
      · by_cases y : j = i
        · rw [if_neg z, if_pos (by omega), y, e, valV_pos rfl]
          rfl
        · rw [if_neg z, if_neg (by omega), valV_neg (show ((Sum.inl (i : Int) : Key), V.int (c : Int)).1 ≠ Sum.inl (j : Int) from fun z => by have := Sum.inl.inj z; omega)]
          rfl
def optN : Option Nat → V
  | none => .non
  | some c => .int (c : Int)

/-! two named except clauses behind one try (the library has one named clause, or several without names) -/
section
variable {X : Cx} {x y n : Str} {c e : Value} {i : Nat} {body su1 su2 : List Stmt} {f1 f2 : Stmt} {p1 p2 p3 p4 pos : Pos} {tb : WX → TS} {t1 t2 : Addr → Value → Option Addr → TS} {Wout : WX}
theorem ps_try_as2 (hst : X.stack = X.env :: X.outer) (hfr : X.env.frame = some X.env.locals) (nd : X.N.Nodup) (at_i : X.N[i]? = some n) (loc_n : X.env.kindOf n = some .local) (nm1 : Names X x c) (nm2 : Names X y e) (tk : Takes X Wout)
    (hbody : ∀ (W : WX) (pn : List (Addr × Obj)) (xe : Value → Shared → Prop), Takes (X.tr pn xe) W → PassesOwn (model X.prog X.w) X.A X.env xe → PSs (X.tr pn xe) body (tb W))
    (hs1 : ∀ (a : Addr) (o : Obj) (cls : Value) (d : Option Addr) (pn : List (Addr × Obj)), Zc cls d o → (∃ vs, o.data = .fields vs) → PSs (X.suite a ((a, o) :: pn)) (f1 :: su1) (t1 a cls d))
    (hs2 : ∀ (a : Addr) (o : Obj) (cls : Value) (d : Option Addr) (pn : List (Addr × Obj)), Zc cls d o → (∃ vs, o.data = .fields vs) → PSs (X.suite a ((a, o) :: pn)) (f2 :: su2) (t2 a cls d)) :
    PS X (.Try body [.ExceptHandler (some (.Name x p1)) (some n) (f1 :: su1) p2, .ExceptHandler (some (.Name y p3)) (some n) (f2 :: su2) p4] [] [] pos) (fun D σ H => tb (wAs X.K c i t1 (wAs X.K e i t2 Wout D) D) D σ H) := by
  refine ⟨fun pins sh st Hh D inv hyp => ?_⟩
  have okX := inv.ok
  have frs0 : X.A.frames = some (X.env :: X.outer) := okX.frames.trans (congrArg some hst)
  refine wpAny_Try_except ?_
  refine wpAny_mono ((hbody (wAs X.K c i t1 (wAs X.K e i t2 Wout D) D) (X.pn ++ pins) (fun ev q₁ => wpAny (model X.prog X.w) X.A (noteFrame ev X.env) (fun _ q₂ => wpAny (model X.prog X.w) X.A (setFlight ev none) (fun _ q₃ =>
    wpAny (model X.prog X.w) X.A (handleBy ev X.env [.ExceptHandler (some (.Name x p1)) (some n) (f1 :: su1) p2, .ExceptHandler (some (.Name y p3)) (some n) (f2 :: su2) p4]) (SP X pins D) X.xe q₃) X.xe q₂) X.xe q₁) (fun u z xx => ?_) PassesOwn.looking).run [] sh st Hh D (inv.toTry _) hyp) (fun fl z1 left => ?_) (fun _ _ same => same)
  · obtain ⟨a, B, zI, pins2, st2, Hh2, cls, d, rfl, JT, nb, up, sky, na, os, ag, wish⟩ := xx
    have J : Inv X pins st2 Hh2 zI := JT.ofTry okX
    have skyX : Sky B (X.env :: X.outer) a (Zc cls d) X.env.locals z.heap := hst ▸ sky
    show wpAny (model X.prog X.w) X.A (noteFrame (Value.ref a) X.env) _ _ _
    refine Sky.land Zc.steady frs0 hfr skyX fun hp flz upz => ?_
    have J3 : Inv X pins st2 Hh2 { z with heap := hp } := J.landed nb flz.1 (up.trans upz) os ag
    obtain ⟨oA, vsA, atA, zA, dA⟩ := flz.there
    have apart : a ∉ frs (X.env :: X.outer) := fun hm => by
      obtain ⟨_, o', e', hnf⟩ := flz.2.2.1.mem hm
      rw [atA] at e'
      cases e'
      exact hnf _ dA
    have n1 : a ≠ X.env.locals := fun w => apart (List.mem_filterMap.mpr ⟨X.env, List.mem_cons_self, hfr.trans (congrArg some w.symm)⟩)
    have n2 : a ∉ X.fs := fun hm => by
      obtain ⟨ee, he, q⟩ := List.mem_filterMap.mp hm
      exact apart (List.mem_filterMap.mpr ⟨ee, List.mem_cons_of_mem _ he, q⟩)
    have S3 := J3.suite atA dA na n1 n2
    -- one clause
    have one : ∀ {x' : Str} {c' : Value} {np pp : Pos} {ff : Stmt} {ss : List Stmt} {tt : Addr → Value → Option Addr → TS} {Wn : WX} {more : List ExceptHandler}, Names X x' c' →
        (∀ (a : Addr) (o : Obj) (cls : Value) (d : Option Addr) (pn : List (Addr × Obj)), Zc cls d o → (∃ vs, o.data = .fields vs) → PSs (X.suite a ((a, o) :: pn)) (ff :: ss) (tt a cls d)) →
        wAs X.K c' i tt Wn D cls d st2 Hh2 → (Wn cls d st2 Hh2 → wpAny (model X.prog X.w) X.A (handleBy (.ref a) X.env more) (SP X pins D) X.xe { z with heap := hp }) →
        wpAny (model X.prog X.w) X.A (handleBy (.ref a) X.env (.ExceptHandler (some (.Name x' np)) (some n) (ff :: ss) pp :: more)) (SP X pins D) X.xe { z with heap := hp } := by
      intro x' c' np pp ff ss tt Wn more nm hsu ⟨b, isb, yes, no⟩ next
      refine wpAny_handleBy_cons (codeAny_handlers_test ?_) (fun q => by cases q)
      have looks : PySem.W.Looks (model X.prog X.w) hp (typeOf (.ref a)) cls := fun A Q E s k q => wpAny_typeOf_ref (k _ _ atA) (by rw [zA.1]; exact q)
      have test : ∀ {Q E : Value → Shared → Prop}, Q c' { z with heap := hp } → wpAny (model X.prog X.w) (X.A.mark (some (.ref a))) (eval (.Name x' np) X.env) Q E { z with heap := hp } := fun {Q E} q => by
        rcases nm with ⟨gl, nodb, known | ⟨unk, boot, nn⟩⟩
        · exact ld_glob (X := X.suite a ((a, oA) :: (X.pn ++ pins))) S3 gl known q nodb
        · exact ld_blt (X := X.suite a ((a, oA) :: (X.pn ++ pins))) S3 gl unk boot q nn nodb
      refine test ((PySem.W.exm_one (M := model X.prog X.w) J3.kIn looks isb).here ?_)
      cases b with
      | false => exact next (no rfl)
      | true =>
        refine (codeAny_handlers_suite_as ?_)
        refine HandSPX.lands_againZ flz fun hq flq upq => ?_
        have J4 : Inv X pins st2 Hh2 { z with heap := hq } := J.landed nb flq.1 ((up.trans upz).trans upq) os ag
        obtain ⟨oB, vsB, atB, zB, dB⟩ := flq.there
        have S4 := J4.suite atB dB na n1 n2
        refine store_ok (X := X.suite a ((a, oB) :: (X.pn ++ pins))) (v := .ref a) S4 nd at_i (.inl loc_n) rfl (fun r5 S5 => ?_) (.inr loc_n)
        refine wpAny_mono ((hsu a oB cls d (X.pn ++ pins) zB ⟨_, dB⟩).run [] r5 _ Hh2 _ S5 (yes rfl a na)) (fun fl r6 got => ?_) (fun _ _ w => False.elim w)
        have close : ∀ {σ6 : L2.St} {H6 : Hp} {Q : Shared → Prop}, Inv (X.suite a ((a, oB) :: (X.pn ++ pins))) [] σ6 H6 r6 → (∀ r7, Inv X pins (σ6.set i none) H6 r7 → Q r7) →
            wpAny (model X.prog X.w) X.A (do bindName X.env n .none; unbindBehindTheSuite X.env n pp) (fun _ r7 => Q r7) X.xe r6 := fun {σ6 H6 Q} S6 hq => gone_ok (S6.unsuite okX) nd at_i loc_n hq
        cases fl with
        | next =>
          obtain ⟨σ6, H6, S6, w⟩ := got
          exact close S6 fun r7 J7 => ⟨_, _, J7, w⟩
        | brk =>
          obtain ⟨σ6, H6, S6, w⟩ := got
          exact close S6 fun r7 J7 => ⟨_, _, J7, w⟩
        | cont =>
          obtain ⟨σ6, H6, S6, w⟩ := got
          exact close S6 fun r7 J7 => ⟨_, _, J7, w⟩
        | ret u =>
          obtain ⟨v6, σ6, H6, S6, r6', w⟩ := got
          exact close S6 fun r7 J7 => ⟨_, _, _, J7, r6', w⟩
    refine one nm1 hs1 wish fun wish2 => one nm2 hs2 wish2 fun out => ?_
    refine wpAny_handleBy_nil ?_
    obtain ⟨j1, j2, j3, oC, vC, T, oT, tC, atC, zC, dC, fC, rC⟩ := id flz
    unfold PySem.passOn
    refine wpAny_bind (wpAny_field atC dC fC ?_)
    rw [if_neg (show ¬ ((Value.ref T == Value.none) = true) by simp)]
    have fin : wpAny (model X.prog X.w) X.A (setFlight (.ref a) X.env.frame) (fun _ q4 => wpAny (model X.prog X.w) X.A (throw (.ref a) : Sem Flow) (SP X pins D) X.xe q4) X.xe { z with heap := hp } := by
      rw [hfr]
      refine HandSPX.setFlight_upZ flz fun hq fq uq => wpAny_throw (tk _ _ ?_)
      exact ⟨a, B, zI, pins, st2, Hh2, cls, d, rfl, J, nb, (up.trans upz).trans uq, .inr (.inr (hst.symm ▸ fq)), na, os, ag, out⟩
    first | (exact wpAny_bind (wpAny_pure (wpAny_bind fin))) | (exact wpAny_bind fin)
  · cases fl with
    | next =>
      obtain ⟨σ', H', J', q⟩ := left
      exact wpAny_execs_nil ⟨σ', H', J'.ofTry okX, q⟩
    | brk =>
      obtain ⟨σ', H', J', q⟩ := left
      exact ⟨σ', H', J'.ofTry okX, q⟩
    | cont =>
      obtain ⟨σ', H', J', q⟩ := left
      exact ⟨σ', H', J'.ofTry okX, q⟩
    | ret u =>
      obtain ⟨v, σ', H', J', r, q⟩ := left
      exact ⟨v, σ', H', J'.ofTry okX, r, q⟩
end

section
variable {X : Cx}
/-- isinstance(e, C), e the error that the suite holds, of the class D -/
def rIsE' (K : PySem.W.Frag) (D a : Addr) (cls : Value) (d : Option Addr) : List V → Hp → VK → Prop := fun xs H Q => cls = .ref D ∧ d = none ∧ rIsE K D a xs H Q
theorem call_isE' {a D : Addr} {cls : Value} {d : Option Addr} {oe : Obj} {pn : List (Addr × Obj)} (C : ExcC X.K D) (hz : Zc cls d oe) (hf : ∃ vs, oe.data = .fields vs) : CallR (X.suite a ((a, oe) :: pn)) (.builtin "isinstance") (rIsE' X.K D a cls d) := by
  intro pins s σ H xs us Q I r h
  obtain ⟨rfl, rfl, h⟩ := h
  exact call_isE C hz hf pins s σ H xs us Q I r h
end

/-! an object made by an __init__ that may raise -/
def tMakeX (C : Addr) (sp : Sp) (dvs : List V) (E : L2.St → XK) (t : TA) : TE := fun σ H Q => t σ H fun vs H1 => ∀ (x dx : Addr), H1 x = none → H1 dx = none → dx ≠ x → sp (.ref x :: (vs ++ dvs)) (upd (upd H1 dx (.own x)) x (.ins C dx [])) (fun v H2 => v = .non ∧ Q (.ref x) H2) (E σ)
section
variable {X : Cx} {CX : CXT} {k : Nat} {f C : Addr} {fd : FuncData} {ps : List Str} {sp : Sp} {dvs : List V} {ds : List Value} {E : L2.St → XK} {x : Str} {p pos : Pos} {e : Expr} {es : List Expr} {t : TA}
theorem run_mkX {pn : List (Addr × Obj)} {sh : L2.St} {Hh : Hp} {st : Shared} {Q : VK} {us : List Value} {vs : List V} (made : Mk X.K C f) (prom : FnOk X.prog X.w X.K X.mg X.base CX k f fd ps sp) (room : Room (k + 1) X.A) (bnd : Binds X.K fd ps ds) (dfl : Vals dvs ds)
    (way : PassesAt CX X sh (E sh)) (inv : Inv X pn sh Hh st) (rel : Vals vs us)
    (hyp : ∀ x dx, Hh x = none → Hh dx = none → dx ≠ x → sp (.ref x :: (vs ++ dvs)) (upd (upd Hh dx (.own x)) x (.ins C dx [])) (fun v H2 => v = .non ∧ Q (.ref x) H2) (E sh)) :
    wpAny (model X.prog X.w) X.A (call (.ref C) us) (EP X pn sh Q) X.xe st := by
  have here := hyp (st.heap.objs.size + 1) st.heap.objs.size (inv.hok.fresh (Nat.le_succ _)) (inv.hok.fresh (Nat.le_refl _)) (Nat.ne_of_lt (Nat.lt_succ_self _))
  have inv2 := Inv.made (C := C) inv
  have rel2 : Vals (V.ref (st.heap.objs.size + 1) :: (vs ++ dvs)) (Value.ref (st.heap.objs.size + 1) :: (us ++ ds)) := .cons rfl (rel.append dfl)
  have long : (Value.ref (st.heap.objs.size + 1) :: us ++ ds).length = ps.length := by
    have e1 := rel2.length
    rw [prom.len _ _ _ _ here] at e1
    exact e1.symm
  refine wpAny_call (make_map (f := f) inv.kIn made.makes made.init (beq_iff_eq.mp made.fn) (codeAny_mono (prom.run _ X.stack _ _ ⟨Value.ref (st.heap.objs.size + 1) :: us, []⟩ (Value.ref (st.heap.objs.size + 1) :: (us ++ ds)) _ _ (E sh) (room.make C us [])
    (inv2.env0.make C us []) (bnd _ (Value.ref (st.heap.objs.size + 1) :: us) inv2.kIn long) rel2 here) fun out st' got => ?_))
  cases out with
  | error ev => exact way pn _ _ ev st' inv2 got
  | ok fl =>
    cases fl with
    | ret u =>
      obtain ⟨v, H', inv3, rv, ev, q3⟩ := inv2.after got
      subst ev
      exact ⟨rv, ⟨V.ref (st.heap.objs.size + 1), H', inv3, rfl, q3⟩⟩
    | next => exact (False.elim got)
    | brk => exact (False.elim got)
    | cont => exact (False.elim got)
theorem pe_makeX (made : Mk X.K C f) (prom : FnOk X.prog X.w X.K X.mg X.base CX k f fd ps sp) (room : Room (k + 1) X.A) (gl : Gl X x) (mgx : X.mg x = some (.ref C)) (bnd : Binds X.K fd ps ds) (dfl : Vals dvs ds) (way : ∀ σ, PassesAt CX X σ (E σ))
    (args : PA X (e :: es) t) (ndb : (x == ("__debug__" : Str)) = false := by decide) (st1 : starEach (e :: es) X.env = (false, eval e X.env) :: starEach es X.env := by rfl) (st2 : (backTo pos (starEach es X.env)).any (·.1) = false := by rfl) :
    PE X (.Call (.Name x p) (e :: es) [] pos) (tMakeX C sp dvs E t) := by
  refine ⟨fun pn sh st Hh Q inv hyp => ?_⟩
  refine wpAny_Call_Name_kw (ld_glob inv gl mgx ?_ ndb)
  refine PySem.W.callWith_K (h₀ := X.base) inv.ok.mod.kin made.kp (thn (args.run pos pn sh st Hh _ inv hyp) fun us s1 ⟨vs, H1, I1, rels, more⟩ => ⟨I1.kIn, ?_⟩) st1 st2
  exact run_mkX made prom room bnd dfl (way st) I1 rels more
end

def setJ (f : Nat → List Int) (i : Nat) (xs : List Int) (k : Nat) : List Int := if k = i then xs else f k
theorem setJ_at {f : Nat → List Int} {i : Nat} {xs : List Int} : setJ f i xs i = xs := if_pos rfl
theorem setJ_ne {f : Nat → List Int} {i k : Nat} {xs : List Int} (h : k ≠ i) : setJ f i xs k = f k := if_neg h
/-! ### a table of rows of any lengths, changed -/
theorem JagR.there {H : Hp} {t : Addr} {ps : List Addr} {m : Nat} {f : Nat → List Int} (h : JagR H t ps m f) {q : Addr} (hq : H q = none) : q ∉ ps ∧ q ≠ t := by
  refine ⟨fun z => ?_, fun z => by rw [z, h.lst] at hq; cases hq⟩
  obtain ⟨i, hi⟩ := List.mem_iff_getElem?.mp z
  rw [h.row i q hi] at hq
  cases hq
theorem JagR.setRow {H : Hp} {t q : Addr} {ps : List Addr} {m i : Nat} {f : Nat → List Int} {xs : List Int} (h : JagR H t ps m f) (hi : i < m) (hq : H q = some (.lst (xs.map V.int))) (n1 : q ∉ ps) (n2 : q ≠ t) :
    JagR (upd H t (.lst ((ps.map V.ref).set i (.ref q)))) t (ps.set i q) m (setJ f i xs) := by
  have hil : i < ps.length := by rw [h.len]; exact hi
  refine ⟨?_, by rw [List.length_set]; exact h.len, fun k p hk => ?_, ?_, ?_⟩
  · rw [upd_same, List.map_set]
  · rw [List.getElem?_set] at hk
    by_cases hki : i = k
    · rw [if_pos hki, if_pos hil] at hk
      obtain rfl := Option.some.inj hk
      rw [upd_ne n2, ← hki, setJ_at]
      exact hq
    · rw [if_neg hki] at hk
      rw [upd_ne fun z => h.out (by rw [← z]; exact List.mem_of_getElem? hk), setJ_ne fun z => hki z.symm]
      exact h.row k p hk
  · refine List.pairwise_iff_getElem.mpr fun a b ha hb hab => ?_
    rw [List.length_set] at ha hb
    rw [List.getElem_set, List.getElem_set]
    split
    · rw [if_neg (by omega)]
      exact fun z => n1 (by rw [z]; exact List.getElem_mem hb)
    · split
      · exact fun z => n1 (by rw [← z]; exact List.getElem_mem ha)
      · exact List.pairwise_iff_getElem.mp h.nod a b ha hb hab
  · intro z
    rcases List.mem_or_eq_of_mem_set z with z | z
    · exact h.out z
    · exact n2 z.symm
theorem JagR.setCell {H : Hp} {t p : Addr} {ps : List Addr} {m i : Nat} {f : Nat → List Int} {xs : List Int} (h : JagR H t ps m f) (hp : ps[i]? = some p) :
    JagR (upd H p (.lst (xs.map V.int))) t ps m (setJ f i xs) := by
  have hm := List.mem_of_getElem? hp
  have hil := (List.getElem?_eq_some_iff.mp hp).1
  refine ⟨?_, h.len, fun k r hk => ?_, h.nod, h.out⟩
  · rw [upd_ne fun z => h.out (by rw [z]; exact hm)]
    exact h.lst
  · have hkl := (List.getElem?_eq_some_iff.mp hk).1
    by_cases hki : k = i
    · rw [hki] at hk ⊢
      rw [hp] at hk
      obtain rfl := Option.some.inj hk
      rw [upd_same, setJ_at]
    · rw [setJ_ne hki, upd_ne]
      · exact h.row k r hk
      · intro z
        rw [z] at hk
        exact hki ((List.getElem?_inj hkl h.nod).mp (hk.trans hp.symm))

/-- a field of an instance, set and read -/
theorem setF {K : PySem.W.Frag} {C x dx : Addr} {fs : List (Str × V)} {f : Str} {y : V} {H : Hp} {W : Hp → Prop} (hx : H x = some (.ins C dx fs)) (c : Cls K C) (na : NoAttr K C f) (hl : Nat.ble (fs.length + 1) 1000 = true)
    (h : W (upd H x (.ins C dx (putF f y fs)))) : ∃ (a C : Addr) (dx : Addr) (fs : List (Str × V)), V.ref x = V.ref a ∧ H a = some (.ins C dx fs) ∧ Cls K C ∧ NoAttr K C f ∧ fs.length < 1000 ∧ W (upd H a (.ins C dx (putF f y fs))) :=
  ⟨x, C, dx, fs, rfl, hx, c, na, Nat.le_of_ble_eq_true hl, h⟩
theorem getF {K : PySem.W.Frag} {C x dx : Addr} {fs : List (Str × V)} {f : Str} {v : V} {H : Hp} {σ : L2.St} {Q : VK} (hx : H x = some (.ins C dx fs)) (c : Cls K C) (na : NoAttr K C f) (hl : fs.lookup f = some v) (h : Q v H) :
    tFld K (tC (.ref x)) f σ H Q := ⟨x, C, dx, fs, v, rfl, hx, c, na, hl, h⟩

section
variable {P : Program} {w : World} {K : PySem.W.Frag} {mg : Str → Option Value} {base : Heap}
def sp_check_amount (K : PySem.W.Frag) : Sp := fun vs H Q _ => ∃ a m : Int, vs = [.int a, .int m] ∧ 0 ≤ a ∧ a ≤ m ∧ Q .non H
set_option maxHeartbeats 0 in
theorem ok_check_amount (T : Txt K mg) : FnOk P w K mg base CX0 1 T.f_check_amount T.d_check_amount ["amount", "most"] (sp_check_amount K) := by
  refine T.F_check_amount.ok sc_check_amount (fun vs H Q E h => ?_) (fun cdv A outer s H vs Q E hr h => ?_)
  · obtain ⟨a, m, rfl, _⟩ := h
    rfl
  · obtain ⟨a, m, rfl, h1, h2, q⟩ := h
    refine ⟨_, (pss_one (ps_if (pt_not (pt_chain op_le op_le pe_int (pv 0) (pv 1)))
      (pss_one ps_never)
      pss_nil)), ?_⟩
    walk_at "st"
    refine iteB (fun _ => ?_) (fun h => absurd h1 (dec_f h))
    walk_at "st"
    exact iteB (fun h => absurd h2 (ndec_t h)) (fun _ => q)

/-- good weights -/
structure Wts (ws : List Int) : Prop where
  l0 : 0 < ws.length
  l1 : ws.length ≤ 40
  b0 : ∀ w, w ∈ ws → 0 ≤ w
  b1 : ∀ w, w ∈ ws → w ≤ 1000000000000000
def sp_check_weights (K : PySem.W.Frag) : Sp := fun vs H Q _ => ∃ (a : Addr) (ws : List Int) (amount : Int), vs = [.ref a, .int amount] ∧ SqL K H a (ws.map V.int) ∧ Wts ws ∧ (0 < amount → ws.sum ≠ 0) ∧ ∀ H', Same H H' → Q .non H'
set_option maxHeartbeats 0 in
theorem ok_check_weights (T : Txt K mg) : FnOk P w K mg base CX0 1 T.f_check_weights T.d_check_weights ["weights", "amount"] (sp_check_weights K) := by
  refine T.F_check_weights.ok sc_check_weights (fun vs H Q E h => ?_) (fun cdv A outer s H vs Q E hr h => ?_)
  · obtain ⟨a, ws, amount, rfl, _⟩ := h
    rfl
  · obtain ⟨a, ws, amount, rfl, hs, hw, hz, q⟩ := h
    refine ⟨_, (pss_cons (ps_if (pt_not (pt_chain op_le op_le pe_int (pe_callB call_len_seq (by rfl) T.z_len PySem.boot_len (pa_cons (pv 0) pa_nil)) (pe_glob (v := .int 40) rfl T.m_MOST_WEIGHTS ⟨_, rfl⟩)))
      (pss_one ps_never)
      pss_nil)
    (pss_cons (ps_if (pt_not (pt_val (pe_callB (cr_all rfl) (by rfl) T.z_all (by decide +kernel) (pa_cons (pe_lc (own := [("weight", 2)]) (g := gName 2) (tt := tYes) rfl sc_check_weights.nd (pi_list (pv 0)) (blkOk_by (own := [("weight", 2)]) (N := N_check_weights) (sc := defScope s_check_weights) (by decide +kernel)) (fun _ _ _ _ _ => (pg_name (i := 2) sc_check_weights.nd rfl (Or.inl rfl))) (fun _ _ _ _ _ => pts_nil) (fun _ _ _ _ _ => (pe_chain op_le op_le pe_int (pv 2) (pe_glob (v := .int 1000000000000000) rfl T.m_MOST_WEIGHT ⟨_, rfl⟩)))) pa_nil))))
      (pss_one ps_never)
      pss_nil)
    (pss_one (ps_if (PW.pt (pw_and (pt_cmpR op_gt (pv 1) pe_int (nomark _)) (pw_and1 (pt_cmpR op_eq (pe_callB (cr_sum rfl) (by rfl) T.z_sum (by decide +kernel) (pa_cons (pv 0) pa_nil)) pe_int (nomark _)))))
      (pss_one ps_never)
      pss_nil)))), ?_⟩
    have l0 := hw.l0
    have l1 := hw.l1
    walk_at "st"
    refine iteB (fun _ => ?_) (fun h => absurd (dec_f h) (by rw [List.length_map]; omega))
    walk_at "st"
    refine iteB (fun h => absurd (ndec_t h) (by rw [List.length_map]; omega)) (fun _ => ?_)
    walk_at "st"
    intro D nD
    refine lc_list (K := K) (a := a) (xs := ws.map V.int) (fun i H' => H' = upd H D (.lst ((List.replicate i true).map V.bl))) rfl (fun i H' _ e => by rw [e]; exact (same_upd nD).seq hs) ?_ ?_
    · rintro i x H' hx rfl
      obtain ⟨z, hz', rfl⟩ := ints_at hx
      have hm := List.mem_of_getElem? hz'
      have hi := (List.getElem?_eq_some_iff.mp hz').1
      have z0 := hw.b0 z hm
      have z1 := hw.b1 z hm
      refine ⟨rfl, ?_⟩
      walk_at "st"
      refine iteB (fun _ => ?_) (fun h => absurd z0 (dec_f h))
      walk_at "st"
      refine ⟨?_, ?_⟩
      · refine small1000 ?_
        rw [List.length_map, List.length_replicate]
        omega
      · show upd (upd H D _) D (.lst (_ ++ [V.bl (decide (z ≤ 1000000000000000))])) = _
        rw [upd_upd, decide_eq_true z1, List.replicate_succ', List.map_append]
        rfl
    · rintro H' rfl
      have sD := same_upd (o := .lst ((List.replicate (ws.map V.int).length true).map V.bl)) nD
      have hs' := sD.seq hs
      walk_at "st"
      refine ⟨List.replicate (ws.map V.int).length true, rfl, .inl (.inl upd_same), ?_⟩
      have ea : (List.replicate (ws.map V.int).length true).all id = true := by
        rw [List.all_eq_true]
        intro b hb
        exact List.eq_of_mem_replicate hb
      rw [ea]
      walk_at "st"
      refine iteB (fun h => ?_) (fun h => ?_)
      · walk_at "st"
        refine iteB (fun h2 => ?_) (fun _ => q _ sD)
        exact (hz (dec_t h) (V.int.inj (dec_t h2))).elim
      · exact q _ sD

def sp_greatest_quotient (K : PySem.W.Frag) : Sp := fun vs H Q _ => ∃ (a b : Addr) (ws ps : List Int), vs = [.ref a, .ref b] ∧ SqL K H a (ws.map V.int) ∧ SqL K H b (ps.map V.int) ∧ Wts ws ∧ ps.length = ws.length ∧ Q (.int (gq ws ps ws.length)) H
set_option maxHeartbeats 0 in
theorem ok_greatest_quotient (T : Txt K mg) : FnOk P w K mg base CX0 1 T.f_greatest_quotient T.d_greatest_quotient ["weights", "parts"] (sp_greatest_quotient K) := by
  refine T.F_greatest_quotient.ok sc_greatest_quotient (fun vs H Q E h => ?_) (fun cdv A outer s H vs Q E hr h => ?_)
  · obtain ⟨a, b, ws, ps, rfl, _⟩ := h
    rfl
  · obtain ⟨a, b, ws, ps, rfl, hs, ht, hw, hl, q⟩ := h
    refine ⟨_, (pss_cons (ps_set (i := 2) sc_greatest_quotient.nd rfl (Or.inl rfl) pe_int)
    (pss_cons (ps_for PassesOwn.never rfl (pi_range2 (by rfl) T.z_range (pa_cons pe_int (pa_cons (pe_callB call_len_seq (by rfl) T.z_len PySem.boot_len (pa_cons (pv 0) pa_nil)) pa_nil))) (pg_name (i := 3) sc_greatest_quotient.nd rfl (Or.inl rfl))
      (pss_one (ps_if (pt_cmpR op_gt (pe_op op_mul (pe_ix ix_list (pv 0) (pv 3) (fun _ _ => rfl)) (pe_op op_add (pe_ix ix_list (pv 1) (pv 2) (fun _ _ => rfl)) pe_int)) (pe_op op_mul (pe_ix ix_list (pv 0) (pv 2) (fun _ _ => rfl)) (pe_op op_add (pe_ix ix_list (pv 1) (pv 3) (fun _ _ => rfl)) pe_int)) (nomark _))
        (pss_one (ps_set (i := 2) sc_greatest_quotient.nd rfl (Or.inl rfl) (pv 3)))
        pss_nil)))
    (pss_one (ps_ret (pv 2))))), ?_⟩
    have l0 := hw.l0
    have l1 := hw.l1
    walk_at "st"
    refine for_range (lo := 1) (n := (((ws.map V.int).length : Int) - 1).toNat) (fun i σ H' => H' = H ∧ ∃ v, σ = [some (.ref a), some (.ref b), some (.int ((gq ws ps (i + 1) : Nat) : Int)), v]) ⟨rfl, none, ?_⟩ ?_ ?_
    · rw [gq_one]
      rfl
    · rintro i σ H' hi ⟨rfl, v, rfl⟩
      rw [List.length_map] at hi
      have hi2 : i + 1 < ws.length := by omega
      have hg := gq_lt ws ps (i + 1) (Nat.succ_pos _)
      have hg2 : gq ws ps (i + 1) < ws.length := by omega
      rw [show (1 : Int) + i = ((i + 1 : Nat) : Int) by omega]
      have a1 := atI_n hi2
      have a2 := atI_n hg2
      have a3 := atI_n (ws := ps) (j := i + 1) (by omega)
      have a4 := atI_n (ws := ps) (j := gq ws ps (i + 1)) (by omega)
      have b1 := at0_nonneg hw.b0 (i + 1)
      have b2 := at0_nonneg hw.b0 (gq ws ps (i + 1))
      have b3 := hw.b1 _ (List.mem_of_getElem? (at0_lt hi2))
      have b4 := hw.b1 _ (List.mem_of_getElem? (at0_lt hg2))
      walk_at "st"
      refine iteB (fun h => ?_) (fun h => ?_)
      · have e : gq ws ps (i + 1 + 1) = i + 1 := if_pos (dec_t h)
        rw [e]
        exact ⟨_, rfl, rfl, _, rfl⟩
      · have e : gq ws ps (i + 1 + 1) = gq ws ps (i + 1) := if_neg (dec_f h)
        rw [e]
        exact ⟨rfl, _, rfl⟩
    · rintro σ H' ⟨rfl, v, rfl⟩
      rw [List.length_map, show (((ws.length : Int) - 1).toNat + 1) = ws.length by omega]
      walk_at "st"
      exact q
def sp_split (K : PySem.W.Frag) : Sp := fun vs H Q _ => ∃ (a : Addr) (ws : List Int) (amount : Int), vs = [.int amount, .ref a] ∧ SqL K H a (ws.map V.int) ∧ Wts ws ∧ (0 < amount → ws.sum ≠ 0) ∧ 0 ≤ amount ∧ amount ≤ 1000000000000000000 ∧
  ∀ p H', Same H H' → H p = none → H' p = some (.lst ((splitOf amount ws).map V.int)) → Q (.ref p) H'
set_option maxHeartbeats 0 in
theorem ok_split (T : Txt K mg) : FnOk P w K mg base CX0 2 T.f_split T.d_split ["amount", "weights"] (sp_split K) := by
  refine T.F_split.ok sc_split (fun vs H Q E h => ?_) (fun cdv A outer s H vs Q E hr h => ?_)
  · obtain ⟨a, ws, amount, rfl, _⟩ := h
    rfl
  · obtain ⟨a, ws, amount, rfl, hs, hw, hz, ha0, ha1, q⟩ := h
    have G_check_amount : FnOk P w K mg base CX0 1 T.f_check_amount T.d_check_amount ["amount", "most"] (sp_check_amount K) := ok_check_amount T
    have G_check_weights : FnOk P w K mg base CX0 1 T.f_check_weights T.d_check_weights ["weights", "amount"] (sp_check_weights K) := ok_check_weights T
    have G_greatest_quotient : FnOk P w K mg base CX0 1 T.f_greatest_quotient T.d_greatest_quotient ["weights", "parts"] (sp_greatest_quotient K) := ok_greatest_quotient T
    refine ⟨_, (pss_cons (ps_expr (pe_call G_check_amount hr (by rfl) T.m_check_amount T.F_check_amount.kp T.b_check_amount .nil pass0 (pa_cons (pv 0) (pa_cons (pe_glob (v := .int 1000000000000000000) rfl T.m_MOST_AMOUNT ⟨_, rfl⟩) pa_nil))))
    (pss_cons (ps_expr (pe_call G_check_weights hr (by rfl) T.m_check_weights T.F_check_weights.kp T.b_check_weights .nil pass0 (pa_cons (pv 1) (pa_cons (pv 0) pa_nil))))
    (pss_cons (ps_set (i := 2) sc_split.nd rfl (Or.inr rfl) (pe_callB (cr_sum rfl) (by rfl) T.z_sum (by decide +kernel) (pa_cons (pv 1) pa_nil)))
    (pss_cons (ps_if (pt_cmpR op_eq (pv 2) pe_int (nomark _))
      (pss_one (ps_ret (pe_op op_rep (pe_lst (pa_cons pe_int pa_nil)) (pe_callB call_len_seq (by rfl) T.z_len PySem.boot_len (pa_cons (pv 1) pa_nil)))))
      pss_nil)
    (pss_cons (ps_setLc (i := 3) (own := [("weight", 4)]) (g := gName 4) (tt := tYes) rfl sc_split.nd rfl rfl (sw_true rfl rfl rfl (by decide +kernel)) (pi_list (pv 1)) (blkOk_by (own := [("weight", 4)]) (N := N_split) (sc := defScope s_split) (by decide +kernel)) (fun _ _ _ _ _ => (pg_name (i := 4) sc_split.nd rfl (Or.inl rfl))) (fun _ _ _ _ _ => pts_nil) (fun _ _ _ _ _ => (pe_op op_fdivW (pe_op op_mul (pv 0) (pv 4)) (pv 2))))
    (pss_cons (ps_for PassesOwn.never rfl (pi_range1 (by rfl) T.z_range (pa_cons (pe_op op_sub (pv 0) (pe_callB (cr_sum rfl) (by rfl) T.z_sum (by decide +kernel) (pa_cons (pv 3) pa_nil))) pa_nil)) (pg_name (i := 5) sc_split.nd rfl (Or.inl rfl))
      (pss_one (ps_augS (pv 3) (pe_call G_greatest_quotient hr (by rfl) T.m_greatest_quotient T.F_greatest_quotient.kp T.b_greatest_quotient .nil pass0 (pa_cons (pv 1) (pa_cons (pv 3) pa_nil))) pget_list pe_int ip_add set_list)))
    (pss_one (ps_ret (pv 3))))))))), ?_⟩
    have l0 := hw.l0
    have l1 := hw.l1
    walk_at "st"
    intro H1 e1
    have hs1 := e1.seq hs
    walk_at "st"
    have hs0 := sum_nonneg ws hw.b0
    refine iteB (fun h => ?_) (fun h => ?_)
    · have hz0 : ws.sum = 0 := V.int.inj (dec_t h)
      walk_at "st"
      intro p np
      have e2 := e1.trans (same_upd (o := .lst [.int 0]) np)
      have hs2 := e2.seq hs
      refine ⟨_, rfl, _, _, rfl, .inl hs2, ?_⟩
      rw [List.length_map]
      refine ⟨p, _, [.int 0], rfl, rfl, upd_same, by omega, by omega, ?_, fun p2 np2 => ?_⟩
      · refine Nat.le_of_lt (small1000 ?_)
        show 1 * (ws.length : Int).toNat ≤ 1000
        omega
      refine q p2 _ (e2.trans (same_upd np2)) (e2.free np2) ?_
      rw [upd_same]
      refine congrArg (fun z => some (HO.lst z)) ?_
      unfold splitOf
      rw [if_pos hz0, List.map_map, Int.toNat_natCast]
      have : ∀ (l : List Int), (List.replicate l.length [V.int 0]).flatten = l.map (V.int ∘ fun _ => 0) := by
        intro l
        induction l with
        | nil => rfl
        | cons x r ih =>
          rw [List.length_cons, List.replicate_succ, List.flatten_cons, ih]
          rfl
      exact this ws
    · have hz0 : ws.sum ≠ 0 := fun z => dec_f h (congrArg V.int z)
      have ht : 0 < ws.sum := by omega
      have hsl := sum_le_mul ws _ hw.b1
      walk_at "st"
      intro D nD
      refine lc_list (K := K) (a := a) (xs := ws.map V.int) (fun i H' => H' = upd H1 D (.lst ((floors amount ws.sum (ws.take i)).map V.int))) rfl (fun i H' _ e => by rw [e]; exact (same_upd nD).seq hs1) ?_ ?_
      · rintro i x H' hx rfl
        obtain ⟨z, hz', rfl⟩ := ints_at hx
        have hm := List.mem_of_getElem? hz'
        have hi := (List.getElem?_eq_some_iff.mp hz').1
        refine ⟨rfl, ?_⟩
        walk_at "st"
        refine ⟨wide_div (b := 64) ht (by omega) (by decide) (by decide), ?_⟩
        walk_at "st"
        refine ⟨?_, ?_⟩
        · refine small1000 ?_
          rw [List.length_map, floors_len, List.length_take]
          omega
        · rw [upd_upd, take_succ hz']
          unfold floors
          rw [List.map_append, List.map_append]
          rfl
      · rintro H' rfl
        rw [List.take_of_length_le (by rw [List.length_map]; exact Nat.le_refl _)]
        have hD : (upd H1 D (.lst ((floors amount ws.sum ws).map V.int))) D = some (.lst ((floors amount ws.sum ws).map V.int)) := upd_same
        have e2 := e1.trans (same_upd (o := .lst ((floors amount ws.sum ws).map V.int)) nD)
        have nD0 := e1.free nD
        generalize upd H1 D (.lst ((floors amount ws.sum ws).map V.int)) = H2 at hD e2
        have f1 := floors_le (amount := amount) ht
        have f2 := floors_rest (amount := amount) ht
        have f3 := sum_nonneg _ (floors_nonneg ha0 ht hw.b0)
        walk_at "st"
        have hs2 := e2.seq hs
        refine for_range (lo := 0) (n := (amount - (floors amount ws.sum ws).sum).toNat) (fun i σ H' => (∃ v5, σ = [some (.int amount), some (.ref a), some (.int ws.sum), some (.ref D), none, v5]) ∧ Same H H' ∧ H' D = some (.lst ((steps ws i (floors amount ws.sum ws)).map V.int))) ⟨⟨none, rfl⟩, e2, hD⟩ ?_ ?_
        · rintro i σ H' hi ⟨⟨v5, rfl⟩, e3, hD3⟩
          have hs3 := e3.seq hs
          have hlen3 : (steps ws i (floors amount ws.sum ws)).length = ws.length := by rw [steps_len, floors_len]
          have hg := gq_lt ws (steps ws i (floors amount ws.sum ws)) ws.length l0
          have hat : ((steps ws i (floors amount ws.sum ws)).map V.int)[gq ws (steps ws i (floors amount ws.sum ws)) ws.length]? = some (.int (at0 (steps ws i (floors amount ws.sum ws)) (gq ws (steps ws i (floors amount ws.sum ws)) ws.length))) := by
            rw [List.getElem?_map, at0_lt (by omega)]
            rfl
          walk_at "st"
          refine ⟨ixN_nat (by rw [List.length_map]; omega), ⟨some (.int (0 + (i : Int))), rfl⟩, fun b o e => ?_, ?_⟩
          · rw [upd_ne (ne_of_none e nD0)]
            exact e3 b o e
          · rw [upd_same]
            refine congrArg (fun z => some (HO.lst z)) ?_
            rw [← List.map_set]
            rfl
        · rintro σ H' ⟨⟨v5, rfl⟩, e3, hD3⟩
          walk_at "st"
          refine q D H' e3 nD0 ?_
          rw [hD3]
          unfold splitOf
          rw [if_neg hz0]

/-- what b receives from a, if a pays so much in all -/
def recF (n : Nat) (f : Nat → Nat → Int) (pay : Nat → Int) (a b : Nat) : Int := at0 (splitOf (pay a) (rowI n (f a))) b
def incF (n : Nat) (f : Nat → Nat → Int) (pay : Nat → Int) (b : Nat) : Int := sumI n fun a => recF n f pay a b
structure PayOk (n : Nat) (f : Nat → Nat → Int) (pay : Nat → Int) : Prop where
  b : ∀ i, i < n → 0 ≤ pay i ∧ pay i ≤ sumI n (f i)
theorem debts_nn {n : Nat} {f : Nat → Nat → Int} {m : Int} (hd : Debts n f m) {a : Nat} (ha : a < n) : ∀ w, w ∈ rowI n (f a) → 0 ≤ w := fun w hw => by
  obtain ⟨j, hj, rfl⟩ := rowI_mem.mp hw
  exact (hd.b a ha j hj).1
theorem debts_wts {n : Nat} {f : Nat → Nat → Int} (hd : Debts n f 1000000000000000) {a : Nat} (ha : a < n) : Wts (rowI n (f a)) := by
  have := hd.n0
  have := hd.n1
  exact ⟨by rw [rowI_len]; omega, by rw [rowI_len]; omega, debts_nn hd ha, fun w hw => by
    obtain ⟨j, hj, rfl⟩ := rowI_mem.mp hw
    exact (hd.b a ha j hj).2⟩
theorem debts_sum {n : Nat} {f : Nat → Nat → Int} {m : Int} (hd : Debts n f m) {a : Nat} (ha : a < n) : 0 ≤ sumI n (f a) ∧ sumI n (f a) ≤ (n : Int) * m := sumI_bound fun j hj => hd.b a ha j hj
theorem recF_row {n : Nat} {f : Nat → Nat → Int} {pay : Nat → Int} {a : Nat} : rowI n (recF n f pay a) = splitOf (pay a) (rowI n (f a)) := by
  have h : (splitOf (pay a) (rowI n (f a))).length = n := by rw [splitOf_len, rowI_len]
  show rowI n (at0 (splitOf (pay a) (rowI n (f a)))) = _
  have := rowI_of (splitOf (pay a) (rowI n (f a)))
  rw [h] at this
  exact this
theorem split_zero {amount : Int} {ws : List Int} (h : ws.sum = 0) (i : Nat) : at0 (splitOf amount ws) i = 0 := by
  unfold splitOf
  rw [if_pos h]
  by_cases hi : i < ws.length
  · exact at0_of (by rw [List.getElem?_map, at0_lt hi]; rfl)
  · exact at0_out (by rw [List.length_map]; omega)
theorem recF_sum {n : Nat} {f : Nat → Nat → Int} {m : Int} {pay : Nat → Int} (hd : Debts n f m) (hp : PayOk n f pay) {a : Nat} (ha : a < n) : sumI n (recF n f pay a) = pay a := by
  unfold sumI
  rw [recF_row]
  have hs := (debts_sum hd ha).1
  by_cases z : 0 < (rowI n (f a)).sum
  · exact splitOf_sum z
  · have hpa := hp.b a ha
    unfold sumI at hs hpa
    have z0 : (rowI n (f a)).sum = 0 := by omega
    unfold splitOf
    rw [if_pos z0]
    have : ∀ l : List Int, (l.map fun _ => (0 : Int)).sum = 0 := by
      intro l
      induction l with
      | nil => rfl
      | cons x l ih => rw [List.map_cons, List.sum_cons, ih]; rfl
    rw [this]
    omega
theorem recF_b {n : Nat} {f : Nat → Nat → Int} {m : Int} {pay : Nat → Int} (hd : Debts n f m) (hp : PayOk n f pay) {a b : Nat} (ha : a < n) (hb : b < n) : 0 ≤ recF n f pay a b ∧ recF n f pay a b ≤ f a b := by
  have hpa := hp.b a ha
  have hf := hd.b a ha b hb
  have hnn := debts_nn hd ha
  have hat : at0 (rowI n (f a)) b = f a b := at0_of (rowI_at hb)
  have hbl : b < (rowI n (f a)).length := by rw [rowI_len]; exact hb
  unfold recF
  by_cases z : 0 < (rowI n (f a)).sum
  · have h1 := splitOf_ge (amount := pay a) z hbl
    have h2 := splitOf_le (amount := pay a) hpa.1 hnn z hpa.2 hbl
    rw [hat] at h1 h2
    have h3 := Int.ediv_nonneg (Int.mul_nonneg hpa.1 hf.1) (Int.le_of_lt z)
    omega
  · have hs := (debts_sum hd ha).1
    unfold sumI at hs
    rw [split_zero (by omega)]
    exact ⟨Int.le_refl 0, hf.1⟩
theorem split_mono_nat {ws : List Int} (hw : ∀ w, w ∈ ws → 0 ≤ w) (ht : 0 < ws.sum) {a : Int} (ha : 0 ≤ a) : ∀ (k : Nat) (i : Nat), at0 (splitOf a ws) i ≤ at0 (splitOf (a + k) ws) i
  | 0, i => by rw [show a + ((0 : Nat) : Int) = a by omega]; exact Int.le_refl _
  | k + 1, i => by
    have h1 := split_mono_nat hw ht ha k i
    rw [show a + ((k + 1 : Nat) : Int) = a + (k : Int) + 1 by omega, splitOf_succ (by omega) hw ht]
    have hg := gq_lt ws (splitOf (a + k) ws) ws.length (len_pos ht)
    rw [at0_bump (by rw [splitOf_len]; exact hg)]
    split
    · rename_i e
      rw [← e]
      omega
    · exact h1
theorem split_mono {ws : List Int} (hw : ∀ w, w ∈ ws → 0 ≤ w) {a b : Int} (ha : 0 ≤ a) (hab : a ≤ b) (i : Nat) : at0 (splitOf a ws) i ≤ at0 (splitOf b ws) i := by
  by_cases ht : 0 < ws.sum
  · have := split_mono_nat hw ht ha (b - a).toNat i
    rw [show a + (((b - a).toNat : Nat) : Int) = b by omega] at this
    exact this
  · have := sum_nonneg ws hw
    rw [split_zero (by omega), split_zero (by omega)]
    exact Int.le_refl 0
theorem recF_mono {n : Nat} {f : Nat → Nat → Int} {m : Int} {p q : Nat → Int} (hd : Debts n f m) {a : Nat} (ha : a < n) (h0 : 0 ≤ p a) (h : p a ≤ q a) (b : Nat) : recF n f p a b ≤ recF n f q a b := split_mono (debts_nn hd ha) h0 h b
theorem sumI_le {n : Nat} {f g : Nat → Int} (h : ∀ i, i < n → f i ≤ g i) : sumI n f ≤ sumI n g := by
  induction n with
  | zero => exact Int.le_refl _
  | succ n ih =>
    have h1 := ih fun i hi => h i (by omega)
    have h2 := h n (by omega)
    rw [sumI_succ, sumI_succ]
    omega
theorem incF_mono {n : Nat} {f : Nat → Nat → Int} {m : Int} {p q : Nat → Int} (hd : Debts n f m) (h : ∀ a, a < n → 0 ≤ p a ∧ p a ≤ q a) (b : Nat) : incF n f p b ≤ incF n f q b := sumI_le fun a ha => recF_mono hd ha (h a ha).1 (h a ha).2 b
theorem sumI_swap (n m : Nat) (g : Nat → Nat → Int) : sumI n (fun a => sumI m (g a)) = sumI m fun b => sumI n fun a => g a b := by
  induction n with
  | zero =>
    show (0 : Int) = sumI m fun _ => (0 : Int)
    have : ∀ m : Nat, sumI m (fun _ => (0 : Int)) = 0 := by
      intro m
      induction m with
      | zero => rfl
      | succ m ih => rw [sumI_succ, ih]; rfl
    rw [this]
  | succ n ih =>
    rw [sumI_succ, ih]
    have : ∀ k : Nat, (sumI k fun b => sumI n fun a => g a b) + sumI k (g n) = sumI k fun b => sumI (n + 1) fun a => g a b := by
      intro k
      induction k with
      | zero => rfl
      | succ k ih => rw [sumI_succ, sumI_succ, sumI_succ, sumI_succ, ← ih]; omega
    exact this m
theorem rowI_set {n p : Nat} {g : Nat → Int} {x : Int} (h : p < n) : (rowI n g).set p x = rowI n fun a => if a = p then x else g a := by
  refine List.ext_getElem? fun i => ?_
  by_cases hi : i < n
  · rw [rowI_at hi]
    by_cases z : i = p
    · rw [z, List.getElem?_set_self (by rw [rowI_len]; exact h), if_pos rfl]
    · rw [List.getElem?_set_ne (fun e => z e.symm), rowI_at hi, if_neg z]
  · rw [List.getElem?_eq_none (by rw [List.length_set, rowI_len]; omega), List.getElem?_eq_none (by rw [rowI_len]; omega)]

def sp_receipts (K : PySem.W.Frag) : Sp := fun vs H Q _ => ∃ (f : Nat → Nat → Int) (pay : Nat → Int) (t pa : Addr) (ps : List Addr) (n : Nat), vs = [.ref t, .ref pa] ∧ Tab H t ps n f ∧ Debts n f 1000000000000000 ∧ SqL K H pa ((rowI n pay).map V.int) ∧ PayOk n f pay ∧
  ∀ r rs H', Same H H' → H r = none → TabR H' r rs n n (recF n f pay) → Q (.ref r) H'
set_option maxHeartbeats 0 in
theorem ok_receipts (T : Txt K mg) : FnOk P w K mg base CX0 3 T.f_receipts T.d_receipts ["owed", "pay"] (sp_receipts K) := by
  refine T.F_receipts.ok sc_receipts (fun vs H Q E h => ?_) (fun cdv A outer s H vs Q E hr h => ?_)
  · obtain ⟨f, pay, t, pa, ps, n, rfl, _⟩ := h
    rfl
  · obtain ⟨f', pay, t, pa, ps, n, rfl, ht, hd, hp, hpo, q⟩ := h
    have G_split : FnOk P w K mg base CX0 2 T.f_split T.d_split ["amount", "weights"] (sp_split K) := ok_split T
    have hts := SqL.of (K := K) ht.lst
    have hn1 := hd.n1
    refine ⟨_, (pss_one (ps_ret (pe_lc (own := [("amount", 2), ("debts", 3)]) (tt := tYes) rfl sc_receipts.nd (pi_zip (by rfl) T.z_zip (pa_cons (pv 1) (pa_cons (pv 0) pa_nil))) (blkOk_by (own := [("amount", 2), ("debts", 3)]) (N := N_receipts) (sc := defScope s_receipts) (by decide +kernel)) (fun _ _ _ _ _ => (show PG _ _ (gTup K 2 (gCons (gName 2) (gCons (gName 3) gNil))) from (pg_tup rfl (pgs_cons (pg_name (i := 2) sc_receipts.nd rfl (Or.inl rfl)) (pgs_cons (pg_name (i := 3) sc_receipts.nd rfl (Or.inl rfl)) pgs_nil))))) (fun _ _ _ _ _ => pts_nil) (fun _ _ _ _ _ => (pe_call G_split hr (by rfl) T.m_split T.F_split.kp T.b_split .nil pass0 (pa_cons (pv 2) (pa_cons (pv 3) pa_nil))))))), ?_⟩
    walk_at "st"
    intro D nD
    refine lc_zip (K := K) (a := pa) (b := t) (xs := (rowI n pay).map V.int) (ys := ps.map V.ref) (by rw [List.length_map, List.length_map, rowI_len, ht.len]) (fun i H' => ∃ qs, TabR H' D qs i n (recF n f' pay) ∧ Same H H') ⟨[], .nil n _ upd_same, same_upd nD⟩ (fun i H' _ ⟨_, _, e⟩ => ⟨e.seq hp, e.seq hts⟩) ?_ ?_
    · rintro i x y H' T1 hx hy ⟨qs, hT, e⟩ nT
      obtain ⟨z, hz, rfl⟩ := ints_at hx
      obtain ⟨p, hp', rfl⟩ := refs_at hy
      have hi := (List.getElem?_eq_some_iff.mp hz).1
      rw [rowI_len] at hi
      rw [rowI_at hi] at hz
      cases hz
      have s2 : Same H' (upd H' T1 (.tup [.int (pay i), .ref p])) := same_upd nT
      have t2 : SqT K (upd H' T1 (.tup [.int (pay i), .ref p])) T1 [.int (pay i), .ref p] := SqT.of upd_same
      have hT2 := hT
      have e2 := e.trans s2
      have hrow : SqL K (upd H' T1 (.tup [.int (pay i), .ref p])) p ((rowI n (f' i)).map V.int) := e2.seq (SqL.of (ht.row i p hp'))
      have hTs : TabR (upd H' T1 (.tup [.int (pay i), .ref p])) D qs i n (recF n f' pay) := ⟨s2 _ _ hT.lst, hT.len, fun j p hp => s2 _ _ (hT.row j p hp), hT.nod, hT.out⟩
      generalize upd H' T1 (.tup [.int (pay i), .ref p]) = H2 at *
      have hw := debts_wts hd hi
      have hpa := hpo.b i hi
      have hsm := (debts_sum hd hi).2
      have hz0 : 0 < pay i → (rowI n (f' i)).sum ≠ 0 := fun z => by
        unfold sumI at hpa
        omega
      have hn0 : (n : Int) * 1000000000000000 ≤ 13 * 1000000000000000 := by omega
      walk_at "st"
      intro p3 H3 e3 np3 hp3
      refine ⟨_, e3 _ _ hTs.lst, small1000 (by rw [List.length_map, hTs.len]; omega), qs ++ [p3], hTs.push e3 np3 (by rw [hp3, recF_row]), TabR.keep (e2.trans e3) nD⟩
    · rintro H' ⟨qs, hT, e⟩
      rw [List.length_map, rowI_len] at hT
      exact q D qs H' e nD hT
def sp_received (K : PySem.W.Frag) : Sp := fun vs H Q _ => ∃ (f : Nat → Nat → Int) (pay : Nat → Int) (t pa : Addr) (ps : List Addr) (n : Nat), vs = [.ref t, .ref pa] ∧ Tab H t ps n f ∧ Debts n f 1000000000000000 ∧ SqL K H pa ((rowI n pay).map V.int) ∧ PayOk n f pay ∧
  ∀ r H', Same H H' → H r = none → H' r = some (.lst ((rowI n (incF n f pay)).map V.int)) → Q (.ref r) H'
set_option maxHeartbeats 0 in
theorem ok_received (T : Txt K mg) : FnOk P w K mg base CX0 4 T.f_received T.d_received ["owed", "pay"] (sp_received K) := by
  refine T.F_received.ok sc_received (fun vs H Q E h => ?_) (fun cdv A outer s H vs Q E hr h => ?_)
  · obtain ⟨f, pay, t, pa, ps, n, rfl, _⟩ := h
    rfl
  · obtain ⟨f', pay, t, pa, ps, n, rfl, ht, hd, hp, hpo, q⟩ := h
    have G_receipts : FnOk P w K mg base CX0 3 T.f_receipts T.d_receipts ["owed", "pay"] (sp_receipts K) := ok_receipts T
    have hn1 := hd.n1
    refine ⟨_, (pss_cons (ps_set (i := 2) sc_received.nd rfl (Or.inr rfl) (pe_call G_receipts hr (by rfl) T.m_receipts T.F_receipts.kp T.b_receipts .nil pass0 (pa_cons (pv 0) (pa_cons (pv 1) pa_nil))))
    (pss_one (ps_ret (pe_lc (own := [("house", 4)]) (g := gName 4) (tt := tYes) rfl sc_received.nd (pi_range1 (by rfl) T.z_range (pa_cons (pe_callB call_len_seq (by rfl) T.z_len PySem.boot_len (pa_cons (pv 0) pa_nil)) pa_nil)) (blkOk_by (own := [("house", 4)]) (N := N_received) (sc := defScope s_received) (by decide +kernel)) (fun _ _ _ _ _ => (pg_name (i := 4) sc_received.nd rfl (Or.inr rfl))) (fun _ _ _ _ _ => pts_nil) (fun _ _ _ _ _ => (pe_callB (show CallR _ (.builtin "sum") (rSum K) from (cr_sum rfl)) (by rfl) T.z_sum (by decide +kernel) (pa_cons (pe_lc (own := [("row", 3)]) (g := gName 3) (tt := tYes) rfl sc_received.nd (show PI _ _ _ (iList K _) from pi_list (pv 2)) (blkOk_by (own := [("row", 3)]) (N := N_received) (by show blkC _ (relS _ (defScope s_received)) _ _ = true; decide +kernel)) (fun _ _ _ _ _ => (pg_name (i := 3) sc_received.nd rfl (Or.inl rfl))) (fun _ _ _ _ _ => pts_nil) (fun _ _ _ _ _ => (pe_ix (show IxR _ (rIxL K) from ix_list) (pv 3) (pv 4) (fun _ _ => rfl)))) pa_nil))))))), ?_⟩
    walk_at "st"
    refine ⟨f', pay, t, pa, ps, n, rfl, ht, hd, hp, hpo, fun r rs H1 e1 nr hT => ?_⟩
    have ht1 := ht.same e1
    have hts1 := SqL.of (K := K) ht1.lst
    have hlt : (ps.map V.ref).length = n := by rw [List.length_map, ht.len]
    walk_at "st"
    intro D nD
    refine lc_range (lo := 0) (n := (((ps.map V.ref).length : Nat) : Int).toNat) (fun i H' => H' D = some (.lst ((rowI i (incF n f' pay)).map V.int)) ∧ Same H1 H') ⟨upd_same, same_upd nD⟩ ?_ ?_
    · rintro i H2 hi ⟨hD, e2⟩
      rw [hlt, Int.toNat_natCast] at hi
      rw [show (0 : Int) + i = ((i : Nat) : Int) by omega]
      have hT2 := hT.tab.same e2
      have hTs2 := SqL.of (K := K) hT2.lst
      refine ⟨rfl, ?_⟩
      walk_at "st"
      intro C nC
      refine lc_col hT2 (by omega) hi nC rfl (by decide) rfl ?_
      have eC := same_upd (o := .lst ((rowI n fun a => recF n f' pay a i).map V.int)) nC
      have hC : SqL K (upd H2 C (.lst ((rowI n fun a => recF n f' pay a i).map V.int))) C ((rowI n fun a => recF n f' pay a i).map V.int) := SqL.of upd_same
      have hD3 := eC _ _ hD
      generalize upd H2 C _ = H3 at *
      walk_at "st"
      refine ⟨small1000 (by rw [List.length_map, rowI_len]; omega), ?_, TabR.keep (e2.trans eC) nD⟩
      rw [upd_same, rowI_succ, List.map_append]
      rfl
    · rintro H2 ⟨hD, e2⟩
      rw [hlt, Int.toNat_natCast] at hD
      exact q D H2 (e1.trans e2) (e1.free nD) hD

def rndF (n : Nat) (f : Nat → Nat → Int) (cash pay : Nat → Int) (i : Nat) : Int := if cash i + incF n f pay i < sumI n (f i) then cash i + incF n f pay i else sumI n (f i)
theorem rndF_mono {n : Nat} {f : Nat → Nat → Int} {m : Int} {cash p q : Nat → Int} (hd : Debts n f m) (h : ∀ a, a < n → 0 ≤ p a ∧ p a ≤ q a) (i : Nat) : rndF n f cash p i ≤ rndF n f cash q i := by
  have := incF_mono hd h i
  unfold rndF
  split <;> split <;> omega
def sp_round_of (K : PySem.W.Frag) : Sp := fun vs H Q _ => ∃ (f : Nat → Nat → Int) (cash pay : Nat → Int) (t ca pa : Addr) (ps : List Addr) (n : Nat), vs = [.ref t, .ref ca, .ref pa] ∧ Tab H t ps n f ∧ Debts n f 1000000000000000 ∧ SqL K H ca ((rowI n cash).map V.int) ∧ SqL K H pa ((rowI n pay).map V.int) ∧ PayOk n f pay ∧
  ∀ r H', Same H H' → H r = none → H' r = some (.lst ((rowI n (rndF n f cash pay)).map V.int)) → Q (.ref r) H'
set_option maxHeartbeats 0 in
theorem ok_round_of (T : Txt K mg) : FnOk P w K mg base CX0 5 T.f_round_of T.d_round_of ["owed", "cash", "pay"] (sp_round_of K) := by
  refine T.F_round_of.ok sc_round_of (fun vs H Q E h => ?_) (fun cdv A outer s H vs Q E hr h => ?_)
  · obtain ⟨f, cash, pay, t, ca, pa, ps, n, rfl, _⟩ := h
    rfl
  · obtain ⟨f', cash, pay, t, ca, pa, ps, n, rfl, ht, hd, hc, hp, hpo, q⟩ := h
    have G_received : FnOk P w K mg base CX0 4 T.f_received T.d_received ["owed", "pay"] (sp_received K) := ok_received T
    have hn1 := hd.n1
    refine ⟨_, (pss_cons (ps_set (i := 3) sc_round_of.nd rfl (Or.inl rfl) (pe_call G_received hr (by rfl) T.m_received T.F_received.kp T.b_received .nil pass0 (pa_cons (pv 0) (pa_cons (pv 2) pa_nil))))
    (pss_one (ps_ret (pe_lc (own := [("debts", 4), ("held", 5), ("got", 6)]) (tt := tYes) rfl sc_round_of.nd (pi_zip3 (by rfl) T.z_zip (pa_cons (pv 0) (pa_cons (pv 1) (pa_cons (pv 3) pa_nil)))) (blkOk_by (own := [("debts", 4), ("held", 5), ("got", 6)]) (N := N_round_of) (sc := defScope s_round_of) (by decide +kernel)) (fun _ _ _ _ _ => (show PG _ _ (gTup K 3 (gCons (gName 4) (gCons (gName 5) (gCons (gName 6) gNil)))) from (pg_tup rfl (pgs_cons (pg_name (i := 4) sc_round_of.nd rfl (Or.inl rfl)) (pgs_cons (pg_name (i := 5) sc_round_of.nd rfl (Or.inl rfl)) (pgs_cons (pg_name (i := 6) sc_round_of.nd rfl (Or.inl rfl)) pgs_nil)))))) (fun _ _ _ _ _ => pts_nil) (fun _ _ _ _ _ => (pe_callB (call_min2 rfl) (by rfl) T.z_min (by decide +kernel) (pa_cons (pe_callB (show CallR _ (.builtin "sum") (rSum K) from (cr_sum rfl)) (by rfl) T.z_sum (by decide +kernel) (pa_cons (pv 4) pa_nil)) (pa_cons (pe_op op_add (pv 5) (pv 6)) pa_nil)))))))), ?_⟩
    walk_at "st"
    refine ⟨f', pay, t, pa, ps, n, rfl, ht, hd, hp, hpo, fun inc H1 e1 ninc hinc => ?_⟩
    have ht1 := ht.same e1
    have hts1 := SqL.of (K := K) ht1.lst
    have hc1 := e1.seq hc
    have hincs := SqL.of (K := K) hinc
    walk_at "st"
    intro D nD
    refine lc_zip3 (K := K) (a := t) (b := ca) (c := inc) (xs := ps.map V.ref) (ys := (rowI n cash).map V.int) (zs := (rowI n (incF n f' pay)).map V.int) (by rw [List.length_map, List.length_map, rowI_len, ht.len]) (by rw [List.length_map, List.length_map, rowI_len, ht.len]) (fun i H' => H' D = some (.lst ((rowI i (rndF n f' cash pay)).map V.int)) ∧ Same H1 H') ⟨upd_same, same_upd nD⟩ (fun i H' _ ⟨_, e⟩ => ⟨e.seq hts1, e.seq hc1, e.seq hincs⟩) ?_ ?_
    · rintro i x y z H' T1 hx hy hz ⟨hD, e⟩ nT
      obtain ⟨p, hp', rfl⟩ := refs_at hx
      obtain ⟨u, hu, rfl⟩ := ints_at hy
      obtain ⟨v, hv, rfl⟩ := ints_at hz
      have hi := (List.getElem?_eq_some_iff.mp hp').1
      rw [ht.len] at hi
      rw [rowI_at hi] at hu hv
      cases hu
      cases hv
      have s2 : Same H' (upd H' T1 (.tup [.ref p, .int (cash i), .int (incF n f' pay i)])) := same_upd nT
      have t2 : SqT K (upd H' T1 (.tup [.ref p, .int (cash i), .int (incF n f' pay i)])) T1 [.ref p, .int (cash i), .int (incF n f' pay i)] := SqT.of upd_same
      have e2 := e.trans s2
      have hrow : SqL K (upd H' T1 (.tup [.ref p, .int (cash i), .int (incF n f' pay i)])) p ((rowI n (f' i)).map V.int) := e2.seq (SqL.of (ht1.row i p hp'))
      have hD2 := s2 _ _ hD
      generalize upd H' T1 _ = H2 at *
      walk_at "st"
      refine ⟨small1000 (by rw [List.length_map, rowI_len]; omega), ?_, TabR.keep e2 nD⟩
      rw [upd_same, rowI_succ, List.map_append]
      rfl
    · rintro H' ⟨hD, e⟩
      rw [List.length_map, ht.len] at hD
      exact q D H' (e1.trans e) (e1.free nD) hD

/-- payments that nobody cannot pay -/
structure CanPay (n : Nat) (f : Nat → Nat → Int) (cash q : Nat → Int) : Prop where
  ok : PayOk n f q
  le : ∀ i, i < n → q i ≤ rndF n f cash q i
/-- nothing that can be paid is anywhere greater -/
def Above (n : Nat) (f : Nat → Nat → Int) (cash x : Nat → Int) : Prop := ∀ q, CanPay n f cash q → ∀ i, i < n → q i ≤ x i
theorem sum_point {n : Nat} {d e : Nat → Int} (h : ∀ b, b < n → d b ≤ e b) (hs : sumI n d = sumI n e) : ∀ b, b < n → d b = e b := by
  induction n with
  | zero => exact fun b hb => by omega
  | succ n ih =>
    rw [sumI_succ, sumI_succ] at hs
    have h1 := sumI_le (n := n) fun i hi => h i (by omega)
    have h2 := h n (by omega)
    intro b hb
    by_cases e : b = n
    · rw [e]; omega
    · exact ih (fun i hi => h i (by omega)) (by omega) b (by omega)
theorem sum_term {n : Nat} {g h : Nat → Int} (hm : ∀ a, a < n → g a ≤ h a) {i : Nat} (hi : i < n) : h i - g i ≤ sumI n h - sumI n g := by
  induction n with
  | zero => omega
  | succ n ih =>
    rw [sumI_succ, sumI_succ]
    have h1 := sumI_le (n := n) fun i hi => hm i (by omega)
    have h2 := hm n (by omega)
    by_cases e : i = n
    · rw [e]; omega
    · have := ih (fun i hi => hm i (by omega)) (by omega)
      omega
theorem inc_sum {n : Nat} {f : Nat → Nat → Int} {m : Int} {p : Nat → Int} (hd : Debts n f m) (hp : PayOk n f p) : sumI n (incF n f p) = sumI n p := by
  show (sumI n fun b => sumI n fun a => recF n f p a b) = sumI n p
  rw [← sumI_swap n n (recF n f p)]
  exact sumI_congr fun i hi => recF_sum hd hp hi
/-- who gets the next cent of a house -/
def nextC (n : Nat) (f : Nat → Nat → Int) (x : Nat → Int) (i : Nat) : Nat := gq (rowI n (f i)) (splitOf (x i) (rowI n (f i))) (rowI n (f i)).length
theorem nextC_lt {n : Nat} {f : Nat → Nat → Int} {x : Nat → Int} {i : Nat} (hn : 0 < n) : nextC n f x i < n := by
  have := gq_lt (rowI n (f i)) (splitOf (x i) (rowI n (f i))) (rowI n (f i)).length (by rw [rowI_len]; exact hn)
  rw [rowI_len] at this
  unfold nextC
  rw [rowI_len]
  exact this
theorem nextC_gt {n : Nat} {f : Nat → Nat → Int} {m : Int} {x : Nat → Int} {i : Nat} (hd : Debts n f m) (hi : i < n) (h0 : 0 ≤ x i) (h1 : x i < sumI n (f i)) {b : Int} (hb : x i < b) : recF n f x i (nextC n f x i) < at0 (splitOf b (rowI n (f i))) (nextC n f x i) := by
  have hw := debts_nn hd hi
  have ht : 0 < (rowI n (f i)).sum := by
    have : (rowI n (f i)).sum = sumI n (f i) := rfl
    omega
  have h2 := split_mono hw (show 0 ≤ x i + 1 by omega) (show x i + 1 ≤ b by omega) (nextC n f x i)
  have h3 : at0 (splitOf (x i + 1) (rowI n (f i))) (nextC n f x i) = at0 (splitOf (x i) (rowI n (f i))) (nextC n f x i) + 1 := by
    rw [splitOf_succ h0 hw ht]
    have hl : gq (rowI n (f i)) (splitOf (x i) (rowI n (f i))) (rowI n (f i)).length < (splitOf (x i) (rowI n (f i))).length := by
      rw [splitOf_len]
      exact gq_lt _ _ _ (len_pos ht)
    rw [at0_bump hl]
    unfold nextC
    rw [if_pos rfl]
  unfold recF
  omega
theorem rise_step {n : Nat} {f : Nat → Nat → Int} {m : Int} {cash x q : Nat → Int} (hd : Debts n f m) (hx : PayOk n f x) (hF : ∀ i, i < n → rndF n f cash x i ≤ x i) (hq : CanPay n f cash q) {i : Nat} (hi : i < n) (hlt : x i < q i) :
    rndF n f cash x i = x i ∧ x i < sumI n (f i) ∧ x (nextC n f x i) < q (nextC n f x i) := by
  obtain ⟨y, ey⟩ : ∃ y : Nat → Int, (fun a => max (q a) (x a)) = y := ⟨_, rfl⟩
  have hy : PayOk n f y := ⟨fun a ha => by
    have h1 := hx.b a ha
    have h2 := hq.ok.b a ha
    rw [← ey]
    dsimp only
    omega⟩
  have yx : ∀ a, a < n → 0 ≤ x a ∧ x a ≤ y a := fun a ha => by
    have h1 := hx.b a ha
    rw [← ey]
    dsimp only
    omega
  have yq : ∀ a, a < n → 0 ≤ q a ∧ q a ≤ y a := fun a ha => by
    have h1 := hq.ok.b a ha
    rw [← ey]
    dsimp only
    omega
  have hde : ∀ b, b < n → y b - x b ≤ incF n f y b - incF n f x b := fun b hb => by
    have h1 := incF_mono hd yx b
    have h2 := hF b hb
    have h3 := hq.le b hb
    have h4 := rndF_mono (cash := cash) hd yq b
    by_cases z : x b < q b
    · have e : y b = q b := by
        rw [← ey]
        dsimp only
        omega
      generalize rndF n f cash q b = rq at h3 h4
      unfold rndF at h2 h4
      rw [e]
      split at h2 <;> split at h4 <;> omega
    · have e : y b = x b := by
        rw [← ey]
        dsimp only
        omega
      rw [e]
      omega
  have hsum : (sumI n fun b => y b - x b) = sumI n fun b => incF n f y b - incF n f x b := by
    rw [sumI_sub, sumI_sub, inc_sum hd hy, inc_sum hd hx]
  have hpt := sum_point hde hsum
  have hyi : y i = q i := by
    rw [← ey]
    dsimp only
    omega
  have hxs := hx.b i hi
  have hqs := hq.ok.b i hi
  refine ⟨?_, by omega, ?_⟩
  · have h1 := hpt i hi
    have h2 := hF i hi
    have h3 := hq.le i hi
    have h4 := rndF_mono (cash := cash) hd yq i
    have h5 := incF_mono hd yx i
    generalize rndF n f cash q i = rq at h3 h4
    unfold rndF at h2 h4 ⊢
    split at h2 <;> split at h4 <;> (try split) <;> omega
  · have hc := nextC_lt (f := f) (x := x) (i := i) (show 0 < n by omega)
    have h1 := hpt _ hc
    have h2 := nextC_gt hd hi hxs.1 (by omega) (show x i < y i by omega)
    have h3 := sum_term (n := n) (g := fun a => recF n f x a (nextC n f x i)) (h := fun a => recF n f y a (nextC n f x i)) (fun a ha => recF_mono hd ha (yx a ha).1 (yx a ha).2 _) hi
    have h4 : y (nextC n f x i) = max (q (nextC n f x i)) (x (nextC n f x i)) := by rw [← ey]
    have h5 : recF n f y i (nextC n f x i) = at0 (splitOf (y i) (rowI n (f i))) (nextC n f x i) := rfl
    have h6 : incF n f y (nextC n f x i) - incF n f x (nextC n f x i) = sumI n (fun a => recF n f y a (nextC n f x i)) - sumI n (fun a => recF n f x a (nextC n f x i)) := rfl
    omega
/-- whom a house leads to -/
def folC (n : Nat) (f : Nat → Nat → Int) (cash x : Nat → Int) (i : Nat) : Option Nat := if x i = rndF n f cash x i ∧ x i < sumI n (f i) then some (nextC n f x i) else none
def walkC (g : Nat → Option Nat) : Nat → Option Nat → Option Nat
  | 0, h => h
  | k + 1, h => walkC g k (h.bind g)
theorem rise_walk {n : Nat} {f : Nat → Nat → Int} {m : Int} {cash x q : Nat → Int} (hd : Debts n f m) (hx : PayOk n f x) (hF : ∀ i, i < n → rndF n f cash x i ≤ x i) (hq : CanPay n f cash q) : ∀ (k i : Nat), i < n → x i < q i → walkC (folC n f cash x) k (some i) ≠ none
  | 0, i, _, _ => fun z => by cases z
  | k + 1, i, hi, hlt => by
    obtain ⟨h1, h2, h3⟩ := rise_step hd hx hF hq hi hlt
    have e : folC n f cash x i = some (nextC n f x i) := if_pos ⟨h1.symm, h2⟩
    show walkC (folC n f cash x) k (folC n f cash x i) ≠ none
    rw [e]
    exact rise_walk hd hx hF hq k _ (nextC_lt (by omega)) h3
/-- where no house leads round, nothing greater can be paid -/
theorem above_of {n : Nat} {f : Nat → Nat → Int} {m : Int} {cash x : Nat → Int} (hd : Debts n f m) (hx : PayOk n f x) (hF : ∀ i, i < n → rndF n f cash x i ≤ x i) (hw : ∀ i, i < n → folC n f cash x i ≠ none → walkC (folC n f cash x) n (some i) = none) : Above n f cash x := by
  intro q hq i hi
  by_cases h : x i < q i
  · obtain ⟨h1, h2, h3⟩ := rise_step hd hx hF hq hi h
    have e : folC n f cash x i = some (nextC n f x i) := if_pos ⟨h1.symm, h2⟩
    exact absurd (hw i hi (by rw [e]; exact fun z => by cases z)) (rise_walk hd hx hF hq n i hi h)
  · omega
/-- a round keeps what it must -/
theorem rnd_ok {n : Nat} {f : Nat → Nat → Int} {m : Int} {cash x : Nat → Int} (hd : Debts n f m) (hc : ∀ i, 0 ≤ cash i) (hx : PayOk n f x) : PayOk n f (rndF n f cash x) := ⟨fun i hi => by
  have h1 := (debts_sum hd hi).1
  have h2 : 0 ≤ incF n f x i := by
    unfold incF
    have : sumI n (fun _ => (0 : Int)) ≤ sumI n fun a => recF n f x a i := sumI_le fun a ha => (recF_b hd hx ha hi).1
    have z : ∀ k : Nat, sumI k (fun _ => (0 : Int)) = 0 := by
      intro k
      induction k with
      | zero => rfl
      | succ k ih => rw [sumI_succ, ih]; rfl
    rw [z] at this
    exact this
  have h3 := hc i
  unfold rndF
  split <;> omega⟩
theorem rnd_above {n : Nat} {f : Nat → Nat → Int} {m : Int} {cash x : Nat → Int} (hd : Debts n f m) (hA : Above n f cash x) : Above n f cash (rndF n f cash x) := by
  intro q hq i hi
  have h1 := hq.le i hi
  have h2 := rndF_mono (cash := cash) (p := q) (q := x) hd (fun a ha => ⟨(hq.ok.b a ha).1, hA q hq a ha⟩) i
  omega
def rndN (n : Nat) (f : Nat → Nat → Int) (cash : Nat → Int) : Nat → (Nat → Int) → Nat → Int
  | 0, x => x
  | k + 1, x => rndN n f cash k (rndF n f cash x)

def sp_is_integral (K : PySem.W.Frag) : Sp := fun vs H Q _ => ∃ x : Int, vs = [.int x] ∧ Q (.bl true) H
set_option maxHeartbeats 0 in
theorem ok_is_integral (T : Txt K mg) : FnOk P w K mg base CX0 1 T.f_is_integral T.d_is_integral ["value"] (sp_is_integral K) := by
  refine T.F_is_integral.ok sc_is_integral (fun vs H Q E h => ?_) (fun cdv A outer s H vs Q E hr h => ?_)
  · obtain ⟨x, rfl, _⟩ := h
    rfl
  · obtain ⟨x, rfl, q⟩ := h
    refine ⟨_, (pss_one (ps_ret (pe_and (pe_callB call_isi (by rfl) T.z_isinstance (by decide +kernel) (pa_cons (pv 0) (pa_cons (pe_bltn (v := .ty "int") (u := .type "int") (by rfl) T.z_int (by decide +kernel) rfl) pa_nil))) (pe_one (pe_not (pe_callB call_isi (by rfl) T.z_isinstance (by decide +kernel) (pa_cons (pv 0) (pa_cons (pe_bltn (v := .ty "bool") (u := .type "bool") (by rfl) T.z_bool (by decide +kernel) rfl) pa_nil)))))))), ?_⟩
    refine ⟨_, rfl, ?_⟩
    refine ⟨_, _, _, _, true, rfl, .ty _, .base (.int _), kit_ty (by decide +kernel), ?_⟩
    refine ⟨true, rfl, iteT ?_⟩
    refine ⟨_, rfl, ?_⟩
    refine ⟨_, _, _, _, false, rfl, .ty _, .base (.int _), kit_ty (by decide +kernel), ?_⟩
    refine ⟨false, rfl, ?_⟩
    exact q
def sp_is_within (K : PySem.W.Frag) : Sp := fun vs H Q _ => ∃ a b x : Int, vs = [.int a, .int b, .int x] ∧ Q (.bl (decide (a ≤ x ∧ x ≤ b))) H
set_option maxHeartbeats 0 in
theorem ok_is_within (T : Txt K mg) : FnOk P w K mg base CX0 2 T.f_is_within T.d_is_within ["least", "most", "value"] (sp_is_within K) := by
  refine T.F_is_within.ok sc_is_within (fun vs H Q E h => ?_) (fun cdv A outer s H vs Q E hr h => ?_)
  · obtain ⟨a, b, x, rfl, _⟩ := h
    rfl
  · obtain ⟨a, b, x, rfl, q⟩ := h
    have G_is_integral : FnOk P w K mg base CX0 1 T.f_is_integral T.d_is_integral ["value"] (sp_is_integral K) := ok_is_integral T
    refine ⟨_, (pss_one (ps_ret (pe_and (pe_call G_is_integral hr (by rfl) T.m_is_integral T.F_is_integral.kp T.b_is_integral .nil pass0 (pa_cons (pv 2) pa_nil)) (pe_one (pe_chain op_le op_le (pv 0) (pv 2) (pv 1)))))), ?_⟩
    walk_at "st"
    refine iteB (fun h => ?_) (fun h => ?_)
    · walk_at "st"
      rw [show (decide (a ≤ x ∧ x ≤ b)) = decide (x ≤ b) from decide_eq_decide.mpr ⟨fun z => z.2, fun z => ⟨dec_t h, z⟩⟩] at q
      exact q
    · rw [decide_eq_false (fun z => dec_f h z.1)] at q
      exact q
/-- debts in range, told row by row -/
structure DebtsJ (m : Nat) (f : Nat → List Int) : Prop where
  n0 : 1 ≤ m
  n1 : m ≤ 13
  len : ∀ i, i < m → (f i).length = m
  b : ∀ i, i < m → ∀ x, x ∈ f i → 0 ≤ x ∧ x ≤ 1000000000000000
  d : ∀ i, i < m → at0 (f i) i = 0
def cellJ (f : Nat → List Int) (i j : Nat) : Int := at0 (f i) j
theorem JagR.tab {H : Hp} {t : Addr} {ps : List Addr} {m : Nat} {f : Nat → List Int} (h : JagR H t ps m f) (hl : ∀ i, i < m → (f i).length = m) : Tab H t ps m (cellJ f) :=
  ⟨h.lst, h.len, fun i p hp => by
    have hi := (List.getElem?_eq_some_iff.mp hp).1
    rw [h.len] at hi
    rw [h.row i p hp]
    have e : rowI m (cellJ f i) = f i := by
      have := rowI_of (f i)
      rw [hl i hi] at this
      exact this
    rw [e], h.nod, h.out⟩
theorem DebtsJ.debts {m : Nat} {f : Nat → List Int} (h : DebtsJ m f) : Debts m (cellJ f) 1000000000000000 :=
  ⟨h.n0, h.n1, fun i hi j hj => h.b i hi _ (List.mem_of_getElem? (at0_lt (by rw [h.len i hi]; exact hj))), h.d⟩
def inD (w : Int) : Bool := decide (0 ≤ w ∧ w ≤ 1000000000000000)
def sp_check_debts (K : PySem.W.Frag) (C : Addr) : Sp := fun vs H Q E => ∃ (t : Addr) (ps : List Addr) (m : Nat) (f : Nat → List Int), vs = [.ref t] ∧ JagR H t ps m f ∧ m ≤ 900 ∧ (∀ i, i < m → (f i).length ≤ 900) ∧ (DebtsJ m f → ∀ H', Same H H' → Q .non H') ∧ (¬ DebtsJ m f → ∀ H', Same H H' → E (.ref C) none H')
set_option maxHeartbeats 0 in
theorem ok_check_debts (T : Txt K mg) : FnOk P w K mg base (L2.CX P w) 3 T.f_check_debts T.d_check_debts ["owed"] (sp_check_debts K T.c_InvalidTrade) := by
  refine T.F_check_debts.okX sc_check_debts (fun vs H Q E h => ?_) (fun cdv A outer s H vs Q E hr h => ?_)
  · obtain ⟨t, ps, m, f, rfl, _⟩ := h
    rfl
  · obtain ⟨t, ps, m, f, rfl, ht, hm9, hl9, q, qe⟩ := h
    have G_is_within : FnOk P w K mg base CX0 2 T.f_is_within T.d_is_within ["least", "most", "value"] (sp_is_within K) := ok_is_within T
    have hl := ht.len
    have hs : SqL K H t (ps.map V.ref) := SqL.of ht.lst
    refine ⟨_, (pss_cons (ps_if (pt_not (pt_chain op_le op_le pe_int (pe_callB call_len_seq (by rfl) T.z_len PySem.boot_len (pa_cons (pv 0) pa_nil)) (pe_glob (v := .int 13) rfl T.m_MOST_HOUSES ⟨_, rfl⟩)))
      (pss_one (ps_raise rfl (takes_of rfl rfl rfl rfl) (pmk_own PySem.F.excBase_ValueError T.x_InvalidTrade T.m_InvalidTrade T.k_InvalidTrade (raises_own T.b_InvalidTrade T.t_InvalidTrade) (by rfl))))
      pss_nil)
    (pss_one (ps_for (passes_of rfl) rfl (pi_enum (by rfl) T.z_enumerate (pa_cons (pv 0) pa_nil)) (pg_tup rfl (pgs_cons (pg_name (i := 1) sc_check_debts.nd rfl (Or.inl rfl)) (pgs_cons (pg_name (i := 2) sc_check_debts.nd rfl (Or.inl rfl)) pgs_nil)))
      (pss_cons (ps_if (pt_cmpR op_ne (pe_callB call_len_seq (by rfl) T.z_len PySem.boot_len (pa_cons (pv 2) pa_nil)) (pe_callB call_len_seq (by rfl) T.z_len PySem.boot_len (pa_cons (pv 0) pa_nil)) (nomark _))
        (pss_one (ps_raise rfl (takes_of rfl rfl rfl rfl) (pmk_own PySem.F.excBase_ValueError T.x_InvalidTrade T.m_InvalidTrade T.k_InvalidTrade (raises_own T.b_InvalidTrade T.t_InvalidTrade) (by rfl))))
        pss_nil)
      (pss_cons (ps_if (pt_not (pt_val (pe_callB (cr_all rfl) (by rfl) T.z_all (by decide +kernel) (pa_cons (pe_lc (own := [("debt", 3)]) (g := gName 3) (tt := tYes) rfl sc_check_debts.nd (pi_list (pv 2)) (blkOk_by (own := [("debt", 3)]) (N := N_check_debts) (sc := defScope s_check_debts) (by decide +kernel)) (fun _ _ _ _ _ => (pg_name (i := 3) sc_check_debts.nd rfl (Or.inl rfl))) (fun _ _ _ _ _ => pts_nil) (fun _ _ _ _ _ => (pe_call G_is_within hr (by rfl) T.m_is_within T.F_is_within.kp T.b_is_within .nil pass0 (pa_cons pe_int (pa_cons (pe_glob (v := .int 1000000000000000) rfl T.m_MOST_DEBT ⟨_, rfl⟩) (pa_cons (pv 3) pa_nil)))))) pa_nil))))
        (pss_one (ps_raise rfl (takes_of rfl rfl rfl rfl) (pmk_own PySem.F.excBase_ValueError T.x_InvalidTrade T.m_InvalidTrade T.k_InvalidTrade (raises_own T.b_InvalidTrade T.t_InvalidTrade) (by rfl))))
        pss_nil)
      (pss_one (ps_if (pt_cmpR op_ne (pe_ix ix_list (pv 2) (pv 1) (fun _ _ => rfl)) pe_int (nomark _))
        (pss_one (ps_raise rfl (takes_of rfl rfl rfl rfl) (pmk_own PySem.F.excBase_ValueError T.x_InvalidTrade T.m_InvalidTrade T.k_InvalidTrade (raises_own T.b_InvalidTrade T.t_InvalidTrade) (by rfl))))
        pss_nil))))))), ?_⟩
    walk_at "st"
    refine iteB (fun h => ?_) (fun h => ?_)
    · have h1 := dec_t h
      rw [List.length_map, hl] at h1
      walk_at "st"
      refine iteB (fun h => ?_) (fun h => ?_)
      · have h2 := ndec_t h
        rw [List.length_map, hl] at h2
        exact qe (fun z => h2 (by have := z.n1; omega)) H (Same.refl H)
      have h2 := ndec_f h
      rw [List.length_map, hl] at h2
      walk_at "st"
      refine for_enum (K := K) (a := t) (xs := ps.map V.ref) (fun i σ H' => ∃ v1 v2 : Option V, σ = [some (.ref t), v1, v2, none] ∧ Same H H' ∧ ∀ k, k < i → (f k).length = m ∧ (∀ x, x ∈ f k → 0 ≤ x ∧ x ≤ 1000000000000000) ∧ at0 (f k) k = 0) ⟨none, none, rfl, Same.refl H, fun k hk => by omega⟩ (fun i σ H' _ ⟨_, _, _, e, _⟩ => e.seq hs) ?_ ?_
      · rintro i x σ H' T hx ⟨v1, v2, rfl, e, hok⟩ nT
        obtain ⟨p, hp, rfl⟩ := refs_at hx
        have hi := (List.getElem?_eq_some_iff.mp hp).1
        rw [hl] at hi
        have eT := e.trans (same_upd (o := .tup [.int (i : Int), .ref p]) nT)
        have hrow : SqL K (upd H' T (.tup [.int (i : Int), .ref p])) p ((f i).map V.int) := eT.seq (SqL.of (ht.row i p hp))
        have hst := eT.seq hs
        have hT : upd H' T (.tup [.int (i : Int), .ref p]) T = some (.tup [.int (i : Int), .ref p]) := upd_same
        have hT2 : SqT K (upd H' T (.tup [.int (i : Int), .ref p])) T [.int (i : Int), .ref p] := SqT.of hT
        generalize upd H' T (.tup [.int (i : Int), .ref p]) = H2 at *
        walk_at "st"
        refine iteB (fun h => ?_) (fun h => ?_)
        · have h3 := ndec_t h
          rw [List.length_map, List.length_map, hl] at h3
          exact qe (fun z => h3 (congrArg V.int (by rw [z.len i hi]))) H2 eT
        have h3 := V.int.inj (ndec_f h)
        rw [List.length_map, List.length_map, hl] at h3
        have h3 : (f i).length = m := by omega
        walk_at "st"
        intro D nD
        refine lc_list (K := K) (a := p) (xs := (f i).map V.int) (fun j H' => H' = upd H2 D (.lst ((((f i).take j).map inD).map V.bl))) rfl (fun j H' _ e => by rw [e]; exact (same_upd nD).seq hrow) ?_ ?_
        · rintro j x H' hx rfl
          obtain ⟨z, hz', rfl⟩ := ints_at hx
          refine ⟨rfl, ?_⟩
          walk_at "st"
          refine ⟨small1000 ?_, ?_⟩
          · rw [List.length_map, List.length_map, List.length_take]
            omega
          · rw [upd_upd, take_succ hz', List.map_append, List.map_append]
            rfl
        · rintro H' rfl
          rw [show (f i).take ((f i).map V.int).length = f i by rw [List.length_map, List.take_length]]
          have sD := same_upd (o := .lst (((f i).map inD).map V.bl)) nD
          have hs' := sD.seq hrow
          have e3 := eT.trans sD
          have hat : atI ((f i).map V.int) (i : Int) = some (.int (at0 (f i) i)) := atI_n (by omega)
          have hall : ((f i).map inD).all id = true ↔ ∀ w, w ∈ f i → 0 ≤ w ∧ w ≤ 1000000000000000 := by
            rw [List.all_eq_true]
            constructor
            · intro g w hw
              exact of_decide_eq_true (g _ (List.mem_map.mpr ⟨w, hw, rfl⟩))
            · intro g b hb
              obtain ⟨w, hw, e⟩ := List.mem_map.mp hb
              rw [← e]
              exact decide_eq_true (g w hw)
          walk_at "st"
          refine ⟨(f i).map inD, rfl, .inl (.inl upd_same), ?_⟩
          walk_at "st"
          refine iteB (fun g => ?_) (fun g => ?_)
          · refine qe (fun z => ?_) _ e3
            rw [hall.mpr (z.b i hi)] at g
            cases g
          have h4 := hall.mp (by cases e : ((f i).map inD).all id with | true => rfl | false => rw [e] at g; cases g)
          walk_at "st"
          refine iteB (fun g => ?_) (fun g => ?_)
          · exact qe (fun z => ndec_t g (congrArg V.int (z.d i hi))) _ e3
          · have h5 := V.int.inj (ndec_f g)
            refine ⟨_, _, rfl, e3, fun k hk => ?_⟩
            by_cases hki : k = i
            · rw [hki]
              exact ⟨h3, h4, h5⟩
            · exact hok k (by omega)
      · rintro σ H' ⟨v1, v2, rfl, e, hok⟩
        rw [List.length_map, hl] at hok
        exact q ⟨by omega, by omega, fun i hi => (hok i hi).1, fun i hi => (hok i hi).2.1, fun i hi => (hok i hi).2.2⟩ _ e
    · have h1 := dec_f h
      rw [List.length_map, hl] at h1
      walk_at "st"
      exact qe (fun z => h1 (by have := z.n0; omega)) H (Same.refl H)

/-- amounts that can be held, one for each house -/
def HeldJ (xs : List Int) (m : Nat) : Prop := xs.length = m ∧ ∀ x, x ∈ xs → 0 ≤ x ∧ x ≤ 100000000000000000
def inH (w : Int) : Bool := decide (0 ≤ w ∧ w ≤ 100000000000000000)
def sp_check_held (K : PySem.W.Frag) (C : Addr) : Sp := fun vs H Q E => ∃ (_ : Unit) (a : Addr) (xs : List Int) (m : Nat), vs = [.ref a, .int (m : Int)] ∧ SqL K H a (xs.map V.int) ∧ xs.length ≤ 900 ∧ (HeldJ xs m → ∀ H', Same H H' → Q .non H') ∧ (¬ HeldJ xs m → ∀ H', Same H H' → E (.ref C) none H')
set_option maxHeartbeats 0 in
theorem ok_check_held (T : Txt K mg) : FnOk P w K mg base (L2.CX P w) 3 T.f_check_held T.d_check_held ["amounts", "houses"] (sp_check_held K T.c_InvalidAmount) := by
  refine T.F_check_held.okX sc_check_held (fun vs H Q E h => ?_) (fun cdv A outer s H vs Q E hr h => ?_)
  · obtain ⟨_, a, xs, m, rfl, _⟩ := h
    rfl
  · obtain ⟨_, a, xs, m, rfl, ha, hx9, q, qe⟩ := h
    have G_is_within : FnOk P w K mg base CX0 2 T.f_is_within T.d_is_within ["least", "most", "value"] (sp_is_within K) := ok_is_within T
    refine ⟨_, (pss_cons (ps_if (pt_cmpR op_ne (pe_callB call_len_seq (by rfl) T.z_len PySem.boot_len (pa_cons (pv 0) pa_nil)) (pv 1) (nomark _))
      (pss_one (ps_raise rfl (takes_of rfl rfl rfl rfl) (pmk_own PySem.F.excBase_ValueError T.x_InvalidAmount T.m_InvalidAmount T.k_InvalidAmount (raises_own T.b_InvalidAmount T.t_InvalidAmount) (by rfl))))
      pss_nil)
    (pss_one (ps_if (pt_not (pt_val (pe_callB (cr_all rfl) (by rfl) T.z_all (by decide +kernel) (pa_cons (pe_lc (own := [("amount", 2)]) (g := gName 2) (tt := tYes) rfl sc_check_held.nd (pi_list (pv 0)) (blkOk_by (own := [("amount", 2)]) (N := N_check_held) (sc := defScope s_check_held) (by decide +kernel)) (fun _ _ _ _ _ => (pg_name (i := 2) sc_check_held.nd rfl (Or.inl rfl))) (fun _ _ _ _ _ => pts_nil) (fun _ _ _ _ _ => (pe_call G_is_within hr (by rfl) T.m_is_within T.F_is_within.kp T.b_is_within .nil pass0 (pa_cons pe_int (pa_cons (pe_glob (v := .int 100000000000000000) rfl T.m_MOST_HELD ⟨_, rfl⟩) (pa_cons (pv 2) pa_nil)))))) pa_nil))))
      (pss_one (ps_raise rfl (takes_of rfl rfl rfl rfl) (pmk_own PySem.F.excBase_ValueError T.x_InvalidAmount T.m_InvalidAmount T.k_InvalidAmount (raises_own T.b_InvalidAmount T.t_InvalidAmount) (by rfl))))
      pss_nil))), ?_⟩
    walk_at "st"
    refine iteB (fun h => ?_) (fun h => ?_)
    · have h1 := ndec_t h
      rw [List.length_map] at h1
      exact qe (fun z => h1 (congrArg (fun z : Nat => V.int (z : Int)) z.1)) H (Same.refl H)
    have h1 := V.int.inj (ndec_f h)
    rw [List.length_map] at h1
    walk_at "st"
    intro D nD
    refine lc_list (K := K) (a := a) (xs := xs.map V.int) (fun j H' => H' = upd H D (.lst (((xs.take j).map inH).map V.bl))) rfl (fun j H' _ e => by rw [e]; exact (same_upd nD).seq ha) ?_ ?_
    · rintro j x H' hx rfl
      obtain ⟨z, hz', rfl⟩ := ints_at hx
      refine ⟨rfl, ?_⟩
      walk_at "st"
      refine ⟨small1000 ?_, ?_⟩
      · rw [List.length_map, List.length_map, List.length_take]
        omega
      · rw [upd_upd, take_succ hz', List.map_append, List.map_append]
        rfl
    · rintro H' rfl
      rw [show xs.take (xs.map V.int).length = xs by rw [List.length_map, List.take_length]]
      have sD := same_upd (o := .lst ((xs.map inH).map V.bl)) nD
      have hall : (xs.map inH).all id = true ↔ ∀ w, w ∈ xs → 0 ≤ w ∧ w ≤ 100000000000000000 := by
        rw [List.all_eq_true]
        constructor
        · intro g w hw
          exact of_decide_eq_true (g _ (List.mem_map.mpr ⟨w, hw, rfl⟩))
        · intro g b hb
          obtain ⟨w, hw, e⟩ := List.mem_map.mp hb
          rw [← e]
          exact decide_eq_true (g w hw)
      walk_at "st"
      refine ⟨xs.map inH, rfl, .inl (.inl upd_same), ?_⟩
      walk_at "st"
      refine iteB (fun g => ?_) (fun g => ?_)
      · refine qe (fun z => ?_) _ sD
        rw [hall.mpr z.2] at g
        cases g
      · exact q ⟨by omega, hall.mp (by cases e : (xs.map inH).all id with | true => rfl | false => rw [e] at g; cases g)⟩ _ sD
def sp_after_rounds (K : PySem.W.Frag) : Sp := fun vs H Q _ => ∃ (f : Nat → Nat → Int) (cash pay : Nat → Int) (t ca pa : Addr) (ps : List Addr) (n : Nat), vs = [.ref t, .ref ca, .ref pa] ∧ Tab H t ps n f ∧ Debts n f 1000000000000000 ∧ SqL K H ca ((rowI n cash).map V.int) ∧ (∀ i, 0 ≤ cash i) ∧ H pa = some (.lst ((rowI n pay).map V.int)) ∧ PayOk n f pay ∧ 0 < n ∧
  ∀ r H', Same H H' → (r = pa ∨ H r = none) → H' r = some (.lst ((rowI n (rndN n f cash (2 * n) pay)).map V.int)) → Q (.ref r) H'
theorem rndN_succ {n : Nat} {f : Nat → Nat → Int} {cash : Nat → Int} (k : Nat) (x : Nat → Int) : rndN n f cash (k + 1) x = rndF n f cash (rndN n f cash k x) := by
  induction k generalizing x with
  | zero => rfl
  | succ k ih => exact ih (rndF n f cash x)
theorem rndN_ok {n : Nat} {f : Nat → Nat → Int} {m : Int} {cash x : Nat → Int} (hd : Debts n f m) (hc : ∀ i, 0 ≤ cash i) (hx : PayOk n f x) (k : Nat) : PayOk n f (rndN n f cash k x) := by
  induction k generalizing x with
  | zero => exact hx
  | succ k ih => exact ih (rnd_ok hd hc hx)
theorem rndN_above {n : Nat} {f : Nat → Nat → Int} {m : Int} {cash x : Nat → Int} (hd : Debts n f m) (hA : Above n f cash x) (k : Nat) : Above n f cash (rndN n f cash k x) := by
  induction k generalizing x with
  | zero => exact hA
  | succ k ih => exact ih (rnd_above hd hA)
set_option maxHeartbeats 0 in
theorem ok_after_rounds (T : Txt K mg) : FnOk P w K mg base CX0 6 T.f_after_rounds T.d_after_rounds ["owed", "cash", "pay"] (sp_after_rounds K) := by
  refine T.F_after_rounds.ok sc_after_rounds (fun vs H Q E h => ?_) (fun cdv A outer s H vs Q E hr h => ?_)
  · obtain ⟨f, cash, pay, t, ca, pa, ps, n, rfl, _⟩ := h
    rfl
  · obtain ⟨f', cash, pay, t, ca, pa, ps, n, rfl, ht, hd, hc, hc0, hp, hpo, hn, q⟩ := h
    have G_round_of : FnOk P w K mg base CX0 5 T.f_round_of T.d_round_of ["owed", "cash", "pay"] (sp_round_of K) := ok_round_of T
    have hn1 := hd.n1
    have hlt := ht.len
    have hts := SqL.of (K := K) ht.lst
    refine ⟨_, (pss_cons (ps_for PassesOwn.never rfl (pi_range1 (by rfl) T.z_range (pa_cons (pe_op op_mul pe_int (pe_callB call_len_seq (by rfl) T.z_len PySem.boot_len (pa_cons (pv 0) pa_nil))) pa_nil)) (pg_name (i := 3) sc_after_rounds.nd rfl (Or.inl rfl))
      (pss_one (ps_set (i := 2) sc_after_rounds.nd rfl (Or.inl rfl) (pe_call G_round_of hr (by rfl) T.m_round_of T.F_round_of.kp T.b_round_of .nil pass0 (pa_cons (pv 0) (pa_cons (pv 1) (pa_cons (pv 2) pa_nil)))))))
    (pss_one (ps_ret (pv 2)))), ?_⟩
    walk_at "st"
    refine for_range (lo := 0) (n := (2 * (((ps.map V.ref).length : Nat) : Int)).toNat) (fun i σ H' => (∃ (v3 : Option V) (r : Addr), σ = [some (.ref t), some (.ref ca), some (.ref r), v3] ∧ H' r = some (.lst ((rowI n (rndN n f' cash i pay)).map V.int)) ∧ (r = pa ∨ H r = none)) ∧ Same H H') ⟨⟨none, pa, rfl, hp, .inl rfl⟩, Same.refl H⟩ ?_ ?_
    · rintro i σ H' hi ⟨⟨v3, r, rfl, hr, hfr⟩, e⟩
      have ht2 := ht.same e
      have hc2 := e.seq hc
      have hr2 : SqL K H' r _ := SqL.of hr
      have hok := rndN_ok (cash := cash) hd hc0 hpo i
      walk_at "st"
      refine ⟨f', cash, _, t, ca, r, ps, n, rfl, ht2, hd, hc2, hr2, hok, fun r' H2 e2 nr hr' => ?_⟩
      walk_at "st"
      exact ⟨⟨_, r', rfl, by rw [rndN_succ]; exact hr', .inr (e.free nr)⟩, e.trans e2⟩
    · rintro σ H' ⟨⟨v3, r, rfl, hr, hfr⟩, e⟩
      have e2 : (2 * (((ps.map V.ref).length : Nat) : Int)).toNat = 2 * n := by rw [List.length_map, hlt]; omega
      rw [e2] at hr
      walk_at "st"
      exact q r H' e hfr hr

theorem next_more {n : Nat} {g : Nat → Int} {x : Int} (hw : Wts (rowI n g)) (h0 : 0 ≤ x) (h1 : x < sumI n g) (j : Nat) : at0 (splitOf (x + 1) (rowI n g)) j = if j = gq (rowI n g) (splitOf x (rowI n g)) n then at0 (splitOf x (rowI n g)) j + 1 else at0 (splitOf x (rowI n g)) j := by
  have ht : 0 < (rowI n g).sum := by
    have : (rowI n g).sum = sumI n g := rfl
    omega
  have hl : gq (rowI n g) (splitOf x (rowI n g)) (rowI n g).length < (splitOf x (rowI n g)).length := by
    rw [splitOf_len]
    exact gq_lt _ _ _ (len_pos ht)
  rw [splitOf_succ h0 hw.b0 ht, at0_bump hl, rowI_len]
  by_cases e : j = gq (rowI n g) (splitOf x (rowI n g)) n
  · rw [if_pos e, if_pos e, e]
  · rw [if_neg e, if_neg e]
def sp_next_creditor (K : PySem.W.Frag) : Sp := fun vs H Q _ => ∃ (g : Nat → Int) (a : Addr) (n : Nat) (x : Int), vs = [.ref a, .int x] ∧ SqL K H a ((rowI n g).map V.int) ∧ Wts (rowI n g) ∧ 0 ≤ x ∧ x < sumI n g ∧ x ≤ 100000000000000000 ∧ ∀ H', Same H H' → Q (.int ((gq (rowI n g) (splitOf x (rowI n g)) n : Nat) : Int)) H'
set_option maxHeartbeats 0 in
theorem ok_next_creditor (T : Txt K mg) : FnOk P w K mg base CX0 3 T.f_next_creditor T.d_next_creditor ["debts", "amount"] (sp_next_creditor K) := by
  refine T.F_next_creditor.ok sc_next_creditor (fun vs H Q E h => ?_) (fun cdv A outer s H vs Q E hr h => ?_)
  · obtain ⟨g, a, n, x, rfl, _⟩ := h
    rfl
  · obtain ⟨g, a, n, x, rfl, ha, hw, h0, h1, h2, q⟩ := h
    have G_split : FnOk P w K mg base CX0 2 T.f_split T.d_split ["amount", "weights"] (sp_split K) := ok_split T
    have hsum : (rowI n g).sum = sumI n g := rfl
    have hz : ∀ y : Int, 0 < y → (rowI n g).sum ≠ 0 := fun _ _ => by omega
    have hl : ((rowI n g).map V.int).length = n := by rw [List.length_map, rowI_len]
    have hn1 := hw.l1
    rw [rowI_len] at hn1
    have hn0 := hw.l0
    rw [rowI_len] at hn0
    have l0 : (splitOf x (rowI n g)).length = n := by rw [splitOf_len, rowI_len]
    have l1 : (splitOf (x + 1) (rowI n g)).length = n := by rw [splitOf_len, rowI_len]
    have hm := next_more hw h0 h1
    have hgq : gq (rowI n g) (splitOf x (rowI n g)) n < n := gq_lt _ _ _ hn0
    refine ⟨_, (pss_cons (ps_set (i := 2) sc_next_creditor.nd rfl (Or.inr rfl) (pe_call G_split hr (by rfl) T.m_split T.F_split.kp T.b_split .nil pass0 (pa_cons (pv 1) (pa_cons (pv 0) pa_nil))))
    (pss_cons (ps_set (i := 3) sc_next_creditor.nd rfl (Or.inr rfl) (pe_call G_split hr (by rfl) T.m_split T.F_split.kp T.b_split .nil pass0 (pa_cons (pe_op op_add (pv 1) pe_int) (pa_cons (pv 0) pa_nil))))
    (pss_one (ps_ret (pe_ix ix_list (pe_lc (own := [("creditor", 4)]) (g := gName 4) rfl sc_next_creditor.nd (pi_range1 (by rfl) T.z_range (pa_cons (pe_callB call_len_seq (by rfl) T.z_len PySem.boot_len (pa_cons (pv 0) pa_nil)) pa_nil)) (blkOk_by (own := [("creditor", 4)]) (N := N_next_creditor) (sc := defScope s_next_creditor) (by decide +kernel)) (fun _ _ _ _ _ => (pg_name (i := 4) sc_next_creditor.nd rfl (Or.inl rfl))) (fun _ _ _ _ _ => pts_one (pt_cmpR op_gt (pe_ix (show IxR _ (rIxL K) from ix_list) (pv 3) (pv 4) (fun _ _ => rfl)) (pe_ix (show IxR _ (rIxL K) from ix_list) (pv 2) (pv 4) (fun _ _ => rfl)) (nomark _))) (fun _ _ _ _ _ => (pv 4))) pe_int (fun _ _ => rfl)))))), ?_⟩
    walk_at "st"
    intro p H1 e1 np hp
    have ha1 := e1.seq ha
    walk_at "st"
    intro p2 H2 e2 np2 hp2
    have ha2 := e2.seq ha1
    have hps := e2.seq (SqL.of (K := K) hp)
    have hps2 := SqL.of (K := K) hp2
    have e12 := e1.trans e2
    generalize splitOf x (rowI n g) = sA at *
    generalize splitOf (x + 1) (rowI n g) = sB at *
    walk_at "st"
    intro D nD
    refine lc_range (lo := 0) (n := ((((rowI n g).map V.int).length : Nat) : Int).toNat) (fun i H' => H' = upd H2 D (.lst ((filI i fun j => decide (at0 sB j > at0 sA j)).map V.int))) rfl ?_ ?_
    · rintro i H' hi rfl
      have hi : i < n := by omega
      rw [show (0 : Int) + i = ((i : Nat) : Int) by omega]
      have aA : atI (sA.map V.int) ((i : Nat) : Int) = some (.int (at0 sA i)) := at_of (j := i) rfl (by rw [List.getElem?_map, at0_lt (by omega)]; rfl)
      have aB : atI (sB.map V.int) ((i : Nat) : Int) = some (.int (at0 sB i)) := at_of (j := i) rfl (by rw [List.getElem?_map, at0_lt (by omega)]; rfl)
      have sD := same_upd (o := .lst ((filI i fun j => decide (at0 sB j > at0 sA j)).map V.int)) nD
      have hA := sD.seq hps
      have hB := sD.seq hps2
      refine ⟨rfl, ?_⟩
      walk_at "st"
      refine iteB (fun h => ?_) (fun h => ?_)
      · refine ⟨_, rfl, _, upd_same, small1000 ?_, ?_⟩
        · have := filI_len i fun j => decide (at0 sB j > at0 sA j)
          rw [List.length_map]
          omega
        · rw [upd_upd, filI_succ, if_pos h, List.map_append]
          rfl
      · show upd _ _ _ = upd _ _ _
        rw [filI_succ, if_neg (by rw [h]; exact Bool.false_ne_true), List.append_nil]
    · rintro H' rfl
      have el : ((((rowI n g).map V.int).length : Nat) : Int).toNat = n := by omega
      rw [el]
      obtain ⟨xs, exs⟩ := filI_head (P := fun j => decide (at0 sB j > at0 sA j)) hgq (decide_eq_true (by rw [hm, if_pos rfl]; omega)) fun a ha => decide_eq_false (by rw [hm, if_neg (by omega)]; omega)
      have s4 := same_upd (o := .lst ((filI n fun j => decide (at0 sB j > at0 sA j)).map V.int)) nD
      have e4 := e12.trans s4
      have hD : SqL K (upd H2 D (.lst ((filI n fun j => decide (at0 sB j > at0 sA j)).map V.int))) D ((filI n fun j => decide (at0 sB j > at0 sA j)).map V.int) := SqL.of upd_same
      generalize upd H2 D _ = H4 at *
      rw [exs] at hD
      have aD : atI (((gq (rowI n g) sA n : Nat) : Int) :: xs |>.map V.int) 0 = some (.int ((gq (rowI n g) sA n : Nat) : Int)) := at_of (j := 0) rfl (by rw [List.map_cons]; rfl)
      walk_at "st"
      exact q _ e4

/-- what `_may_rise` tells -/
def riseB (n : Nat) (f : Nat → Nat → Int) (cash x : Nat → Int) : Bool := (List.range n).any fun i => (folC n f cash x i).isSome && (walkC (folC n f cash x) n (some i)).isSome
theorem riseB_above {n : Nat} {f : Nat → Nat → Int} {m : Int} {cash x : Nat → Int} (hd : Debts n f m) (hx : PayOk n f x) (hF : ∀ i, i < n → rndF n f cash x i ≤ x i) (h : riseB n f cash x = false) : Above n f cash x := by
  refine above_of hd hx hF fun i hi hne => ?_
  unfold riseB at h
  rw [List.any_eq_false] at h
  have h2 := h i (List.mem_range.mpr hi)
  cases hw : walkC (folC n f cash x) n (some i) with
  | none => rfl
  | some z =>
    exfalso
    apply h2
    rw [hw]
    cases hf : folC n f cash x i with
    | none => exact absurd hf hne
    | some y => rfl
def sp_may_rise (K : PySem.W.Frag) : Sp := fun vs H Q _ => ∃ (f : Nat → Nat → Int) (cash x able : Nat → Int) (t a b : Addr) (ps : List Addr) (n : Nat), vs = [.ref t, .ref a, .ref b] ∧ Tab H t ps n f ∧ Debts n f 1000000000000000 ∧ SqL K H a ((rowI n x).map V.int) ∧ SqL K H b ((rowI n able).map V.int) ∧ PayOk n f x ∧ (∀ i, i < n → able i = rndF n f cash x i) ∧
  ∀ H', Same H H' → Q (.bl (riseB n f cash x)) H'

theorem walkC_succ (g : Nat → Option Nat) : ∀ (k : Nat) (h : Option Nat), walkC g (k + 1) h = (walkC g k h).bind g
  | 0, _ => rfl
  | k + 1, h => walkC_succ g k (h.bind g)
theorem walkC_lt {g : Nat → Option Nat} {n : Nat} (hg : ∀ i c, g i = some c → c < n) : ∀ (k : Nat) {i c : Nat}, i < n → walkC g k (some i) = some c → c < n
  | 0, i, c, hi, h => by cases h; exact hi
  | k + 1, i, c, hi, h => by
    rw [walkC_succ] at h
    cases e : walkC g k (some i) with
    | none => rw [e] at h; cases h
    | some z => rw [e] at h; exact hg z c h
theorem keepO {H H0 : Hp} {t : Addr} {o : HO} (s : Same H0 H) (nt : H0 t = none) : Same H0 (upd H t o) := fun b o e => by
  rw [upd_ne (fun z => by rw [z, nt] at e; cases e)]
  exact s b o e
theorem dgetN_or {H : Hp} {a : Addr} {n : Nat} {F : Nat → Option Nat} {h : Option Nat} (e : Rd H a (.dK (folD F n))) (hh : ∀ c, h = some c → c < n) : (∃ o : Option V, DGet H a (optN h) o ∧ o.getD .non = optN (h.bind F)) ∨ (optN h = .non ∧ optN (h.bind F) = .non) := by
  cases h with
  | none => exact .inr ⟨rfl, rfl⟩
  | some c =>
    refine .inl ⟨_, .inl ⟨_, Sum.inl (c : Int), e, rfl, rfl⟩, ?_⟩
    rw [folD_val, if_pos (hh c rfl)]
    show _ = optN (F c)
    cases z : F c <;> rfl
theorem folC_lt {n : Nat} {f : Nat → Nat → Int} {cash x : Nat → Int} (hn : 0 < n) (i c : Nat) (h : folC n f cash x i = some c) : c < n := by
  unfold folC at h
  split at h
  · cases h
    exact nextC_lt hn
  · cases h
set_option maxHeartbeats 0 in
theorem ok_may_rise (T : Txt K mg) : FnOk P w K mg base CX0 4 T.f_may_rise T.d_may_rise ["owed", "pay", "able"] (sp_may_rise K) := by
  refine T.F_may_rise.ok sc_may_rise (fun vs H Q E h => ?_) (fun cdv A outer s H vs Q E hr h => ?_)
  · obtain ⟨f, cash, x, able, t, a, b, ps, n, rfl, _⟩ := h
    rfl
  · obtain ⟨f', cash, x, able, t, a, b, ps, n, rfl, ht, hd, ha, hb, hx, hab, q⟩ := h
    have G_next_creditor : FnOk P w K mg base CX0 3 T.f_next_creditor T.d_next_creditor ["debts", "amount"] (sp_next_creditor K) := ok_next_creditor T
    have hts := SqL.of (K := K) ht.lst
    have hn0 := hd.n0
    have hn1 := hd.n1
    have hlt : (ps.map V.ref).length = n := by rw [List.length_map, ht.len]
    refine ⟨_, (pss_cons (ps_set (i := 3) sc_may_rise.nd rfl (Or.inl rfl) pe_dnewK)
    (pss_cons (ps_for PassesOwn.never rfl (pi_enum (by rfl) T.z_enumerate (pa_cons (pv 0) pa_nil)) (pg_tup rfl (pgs_cons (pg_name (i := 4) sc_may_rise.nd rfl (Or.inl rfl)) (pgs_cons (pg_name (i := 5) sc_may_rise.nd rfl (Or.inl rfl)) pgs_nil)))
      (pss_one (ps_if (PW.pt (pw_and (pt_cmpR op_eq (pe_ix ix_list (pv 1) (pv 4) (fun _ _ => rfl)) (pe_ix ix_list (pv 2) (pv 4) (fun _ _ => rfl)) (nomark _)) (pw_and1 (pt_cmpR op_lt (pe_ix ix_list (pv 1) (pv 4) (fun _ _ => rfl)) (pe_callB (cr_sum rfl) (by rfl) T.z_sum (by decide +kernel) (pa_cons (pv 5) pa_nil)) (nomark _)))))
        (pss_one (ps_dput (hu_of hr) (pv 3) (pv 4) (pe_call G_next_creditor hr (by rfl) T.m_next_creditor T.F_next_creditor.kp T.b_next_creditor .nil pass0 (pa_cons (pv 5) (pa_cons (pe_ix ix_list (pv 1) (pv 4) (fun _ _ => rfl)) pa_nil))) rfl))
        pss_nil)))
    (pss_cons (ps_lock (ps_for PassesOwn.never rfl (pi_keys (pv 3)) (pg_name (i := 6) sc_may_rise.nd rfl (Or.inl rfl))
      (pss_cons (ps_set (i := 4) sc_may_rise.nd rfl (Or.inl rfl) (pv 6))
      (pss_cons (ps_for PassesOwn.never rfl (pi_list (pv 0)) (pg_name (i := 7) sc_may_rise.nd rfl (Or.inl rfl))
        (pss_one (ps_set (i := 4) sc_may_rise.nd rfl (Or.inl rfl) (pe_dget1N (hu_of hr) (pv 3) (pv 4) ⟨rfl, rfl, rfl, rfl⟩))))
      (pss_one (ps_if (pt_cmpR op_notN (pv 4) pe_non (nomark _))
        (pss_one (ps_ret pe_bl))
        pss_nil))))))
    (pss_one (ps_ret pe_bl))))), ?_⟩
    obtain ⟨F, eF⟩ : ∃ F, folC n f' cash x = F := ⟨_, rfl⟩
    have hFlt : ∀ i c, F i = some c → c < n := fun i c h => folC_lt (by omega) i c (by rw [eF]; exact h)
    walk_at "st"
    intro D nD
    have sD := same_upd (o := .dK []) nD
    have hts1 := sD.seq hts
    walk_at "st"
    refine for_enum (K := K) (a := t) (xs := ps.map V.ref) (fun i σ H' => (∃ (v4 v5 : Option V), σ = [some (.ref t), some (.ref a), some (.ref b), some (.ref D), v4, v5, none, none]) ∧ H' D = some (.dK (folD F i)) ∧ Same H H') ⟨⟨none, none, rfl⟩, upd_same, sD⟩ (fun i σ H' _ ⟨_, _, e⟩ => e.seq hts) ?_ ?_
    · rintro i v σ H1 T hi0 ⟨⟨v4, v5, rfl⟩, hD, e⟩ nT
      obtain ⟨p, hp, rfl⟩ := refs_at hi0
      have hi := (List.getElem?_eq_some_iff.mp hp).1
      rw [ht.len] at hi
      have hp0 := ht.row i p hp
      have s2 : Same H1 (upd H1 T (.tup [.int (i : Int), .ref p])) := same_upd nT
      have t2 : SqT K (upd H1 T (.tup [.int (i : Int), .ref p])) T [.int (i : Int), .ref p] := SqT.of upd_same
      have e2 := e.trans s2
      have hD2 := s2 _ _ hD
      have ha2 := e2.seq ha
      have hb2 := e2.seq hb
      have hrow := e2.seq (SqL.of (K := K) hp0)
      have ca := atI_row (g := x) hi
      have cb := atI_row (g := able) hi
      have hxi := hx.b i hi
      have hwi := debts_wts hd hi
      have hsm := debts_sum hd hi
      have hsr : (rowI n (f' i)).sum = sumI n (f' i) := rfl
      generalize upd H1 T _ = H2 at *
      have hF : F i = if x i = able i ∧ x i < sumI n (f' i) then some (nextC n f' x i) else none := by
        rw [← eF]
        unfold folC
        rw [hab i hi]
      walk_at "st"
      dsimp only
      refine iteB (fun h1 => ?_) (fun h1 => ?_)
      · walk_at "st"
        refine iteB (fun h2 => ?_) (fun h2 => ?_)
        · have h1 := V.int.inj (dec_t h1)
          have h2 := dec_t h2
          rw [hsr] at h2
          rw [if_pos ⟨h1, h2⟩] at hF
          walk_at "st"
          refine ⟨f' i, p, n, x i, rfl, hrow, hwi, hxi.1, h2, by omega, fun H3 e3 => ?_⟩
          have hD3 := e3 _ _ hD2
          walk_at "st"
          refine ⟨_, rfl, .inl ⟨_, Sum.inl (i : Int), hD3, rfl, small1000 (by have := folD_len F i; omega), rfl⟩, ⟨_, _, rfl⟩, ?_, keepO (e2.trans e3) nD⟩
          rw [upd_same, folD_put, folD_some hF]
          unfold nextC
          rw [rowI_len]
        · rw [if_neg (fun z => of_decide_eq_false h2 z.2)] at hF
          refine ⟨⟨_, _, rfl⟩, ?_, e2⟩
          rw [folD_none hF]
          exact hD2
      · rw [if_neg (fun z => of_decide_eq_false h1 (congrArg V.int z.1))] at hF
        refine ⟨⟨_, _, rfl⟩, ?_, e2⟩
        rw [folD_none hF]
        exact hD2
    · rintro σ H1 ⟨⟨v4, v5, rfl⟩, hD, e⟩
      rw [hlt] at hD
      walk_at "st"
      refine ⟨_, hD, trivial, fun od => ?_⟩
      walk_at "st"
      refine ⟨_, rfl, .inl ⟨_, upd_same, ?_⟩⟩
      refine for_it (walk_keys (d := D) (o := od) (kvs := folD F n)) (fun k σ H' => (∃ (v4 v5 v6 v7 : Option V), σ = [some (.ref t), some (.ref a), some (.ref b), some (.ref D), v4, v5, v6, v7]) ∧ H' = upd H1 D (.frz od (.dK (folD F n))) ∧ ∀ (k2 j c : Nat), k2 < k → (folD F n)[k2]? = some ((Sum.inl (j : Int) : Key), V.int (c : Int)) → walkC F n (some j) = none) ⟨⟨_, _, _, _, rfl⟩, rfl, fun _ _ _ h => by omega⟩ (fun i σ H' _ ⟨_, e, _⟩ => by rw [e]; exact upd_same) ?_ ?_
      · rintro k v σ H2 H3 hk ⟨⟨v4, v5, v6, v7, rfl⟩, rfl, hw⟩ ⟨rfl, key, u, hku, rfl⟩
        obtain ⟨j, c, hj, hFj, ex⟩ := folD_key (List.mem_of_getElem? hku)
        cases ex
        have eW := keepO (o := .frz od (.dK (folD F n))) e nD
        have htsF := eW.seq hts
        walk_at "st"
        refine for_it (walk_list (K := K) (a := t) (xs := ps.map V.ref)) (fun i σ H' => (∃ v7 : Option V, σ = [some (.ref t), some (.ref a), some (.ref b), some (.ref D), some (optN (walkC F i (some j))), v5, some (.int (j : Int)), v7]) ∧ H' = upd H1 D (.frz od (.dK (folD F n)))) ⟨⟨_, rfl⟩, rfl⟩ (fun i σ H' _ ⟨_, e⟩ => by rw [e]; exact htsF) ?_ ?_
        · rintro i v σ H2 H3 hi ⟨⟨v7, rfl⟩, rfl⟩ y
          obtain ⟨rfl, hv⟩ := y
          have hrd : Rd (upd H1 D (.frz od (.dK (folD F n)))) D (.dK (folD F n)) := .inr ⟨od, upd_same⟩
          walk_at "st"
          refine ⟨.inl ⟨_, hrd⟩, ?_⟩
          walk_at "st"
          rcases dgetN_or hrd (fun c h => walkC_lt hFlt i (by omega) h) with ⟨o, hd2, eo⟩ | ⟨hn2, eo⟩
          · refine .inl ⟨o, hd2, ?_⟩
            rw [eo, ← walkC_succ]
            exact ⟨⟨some v, rfl⟩, rfl⟩
          · refine .inr ⟨hn2, _, hrd, ⟨some v, ?_⟩, rfl⟩
            rw [walkC_succ, eo]
            rfl
        · rintro σ H2 ⟨⟨v7, rfl⟩, rfl⟩
          rw [hlt]
          walk_at "st"
          dsimp only
          refine iteB (fun h => ?_) (fun h => ?_)
          · have hB : riseB n f' cash x = true := by
              unfold riseB
              rw [List.any_eq_true, eF]
              refine ⟨j, List.mem_range.mpr hj, ?_⟩
              rw [hFj]
              cases hz : walkC F n (some j) with
              | none => rw [hz] at h; exact absurd h (by decide)
              | some z => rfl
            rw [hB] at q
            walk_at "st"
            exact q _ (keepO (keepO e nD) nD)
          · refine ⟨⟨_, _, _, _, rfl⟩, rfl, fun k2 j2 c2 h2 h3 => ?_⟩
            by_cases z : k2 < k
            · exact hw k2 j2 c2 z h3
            · obtain rfl : k2 = k := by omega
              rw [hku] at h3
              have e5 : (j : Int) = (j2 : Int) := Sum.inl.inj (congrArg Prod.fst (Option.some.inj h3))
              obtain rfl : j = j2 := by omega
              cases hz : walkC F n (some j) with
              | none => rfl
              | some z => rw [hz, decide_eq_false (show ¬ optN (some z) = V.non from fun z => by cases z)] at h; cases h
      · rintro σ H2 ⟨⟨v4, v5, v6, v7, rfl⟩, rfl, hw⟩
        refine ⟨upd_same, ?_⟩
        have hB : riseB n f' cash x = false := by
          unfold riseB
          rw [List.any_eq_false, eF]
          intro j hj
          cases hFj : F j with
          | none => exact Bool.false_ne_true
          | some c =>
            have hm := folD_mem hFj (List.mem_range.mp hj)
            obtain ⟨k2, hk2, hk3⟩ := List.getElem_of_mem hm
            rw [hw k2 j c hk2 (by rw [List.getElem?_eq_getElem hk2, hk3])]
            exact Bool.false_ne_true
        rw [hB] at q
        walk_at "st"
        exact q _ (keepO (keepO e nD) nD)

def topF (x y : Nat → Int) (i : Nat) : Int := if y i > x i then y i else x i
def fitsB (n : Nat) (x y : Nat → Int) : Bool := (List.range n).all fun i => decide (x i ≥ y i)
/-- what `_raised` finds -/
def raisedF (n : Nat) (f : Nat → Nat → Int) (cash : Nat → Int) : Nat → (Nat → Int) → Option (Nat → Int)
  | 0, _ => none
  | k + 1, x => if fitsB n x (rndF n f cash x) = true then (if riseB n f cash x = true then none else some x) else raisedF n f cash k (topF x (rndF n f cash x))
theorem raisedF_succ {n : Nat} {f : Nat → Nat → Int} {cash : Nat → Int} {k : Nat} {x : Nat → Int} : raisedF n f cash (k + 1) x = if fitsB n x (rndF n f cash x) = true then (if riseB n f cash x = true then none else some x) else raisedF n f cash k (topF x (rndF n f cash x)) := rfl
theorem top_ok {n : Nat} {f : Nat → Nat → Int} {x y : Nat → Int} (hx : PayOk n f x) (hy : PayOk n f y) : PayOk n f (topF x y) := ⟨fun i hi => by
  have h1 := hx.b i hi
  have h2 := hy.b i hi
  unfold topF
  split <;> omega⟩
theorem raisedF_ok {n : Nat} {f : Nat → Nat → Int} {m : Int} {cash : Nat → Int} (hd : Debts n f m) (hc : ∀ i, 0 ≤ cash i) : ∀ (k : Nat) (x y : Nat → Int), PayOk n f x → raisedF n f cash k x = some y → PayOk n f y ∧ (∀ i, i < n → rndF n f cash y i ≤ y i) ∧ Above n f cash y
  | 0, _, _, _, h => by cases h
  | k + 1, x, y, hx, h => by
    unfold raisedF at h
    split at h
    · next h1 =>
      split at h
      · cases h
      · next h2 =>
        cases h
        have hF : ∀ i, i < n → rndF n f cash x i ≤ x i := fun i hi => by
          unfold fitsB at h1
          rw [List.all_eq_true] at h1
          exact of_decide_eq_true (h1 i (List.mem_range.mpr hi))
        exact ⟨hx, hF, riseB_above hd hx hF (by cases hr : riseB n f cash x with | true => exact absurd hr h2 | false => rfl)⟩
    · exact raisedF_ok hd hc k _ y (top_ok hx (rnd_ok hd hc hx)) h
def sp_raised (K : PySem.W.Frag) : Sp := fun vs H Q _ => ∃ (f : Nat → Nat → Int) (cash pay : Nat → Int) (t ca pa : Addr) (ps : List Addr) (n : Nat), vs = [.ref t, .ref ca, .ref pa] ∧ Tab H t ps n f ∧ Debts n f 1000000000000000 ∧ SqL K H ca ((rowI n cash).map V.int) ∧ (∀ i, 0 ≤ cash i) ∧ H pa = some (.lst ((rowI n pay).map V.int)) ∧ PayOk n f pay ∧
  (∀ H', Same H H' → raisedF n f cash (4 * n) pay = none → Q .non H') ∧ (∀ r y H', Same H H' → (r = pa ∨ H r = none) → raisedF n f cash (4 * n) pay = some y → H' r = some (.lst ((rowI n y).map V.int)) → Q (.ref r) H')
set_option maxHeartbeats 0 in
theorem ok_raised (T : Txt K mg) : FnOk P w K mg base CX0 6 T.f_raised T.d_raised ["owed", "cash", "pay"] (sp_raised K) := by
  refine T.F_raised.ok sc_raised (fun vs H Q E h => ?_) (fun cdv A outer s H vs Q E hr h => ?_)
  · obtain ⟨f, cash, pay, t, ca, pa, ps, n, rfl, _⟩ := h
    rfl
  · obtain ⟨f', cash, pay, t, ca, pa, ps, n, rfl, ht, hd, hc, hc0, hp, hpo, qn, qs⟩ := h
    have G_round_of : FnOk P w K mg base CX0 5 T.f_round_of T.d_round_of ["owed", "cash", "pay"] (sp_round_of K) := ok_round_of T
    have G_may_rise : FnOk P w K mg base CX0 4 T.f_may_rise T.d_may_rise ["owed", "pay", "able"] (sp_may_rise K) := ok_may_rise T
    have hn1 := hd.n1
    have hlt := ht.len
    have hts := SqL.of (K := K) ht.lst
    refine ⟨_, (pss_cons (ps_for PassesOwn.never rfl (pi_range1 (by rfl) T.z_range (pa_cons (pe_op op_mul pe_int (pe_callB call_len_seq (by rfl) T.z_len PySem.boot_len (pa_cons (pv 0) pa_nil))) pa_nil)) (pg_name (i := 3) sc_raised.nd rfl (Or.inl rfl))
      (pss_cons (ps_set (i := 4) sc_raised.nd rfl (Or.inl rfl) (pe_call G_round_of hr (by rfl) T.m_round_of T.F_round_of.kp T.b_round_of .nil pass0 (pa_cons (pv 0) (pa_cons (pv 1) (pa_cons (pv 2) pa_nil)))))
      (pss_cons (ps_if (pt_val (pe_callB (cr_all rfl) (by rfl) T.z_all (by decide +kernel) (pa_cons (pe_lc (own := [("amount", 5), ("most", 6)]) (tt := tYes) rfl sc_raised.nd (pi_zip (by rfl) T.z_zip (pa_cons (pv 2) (pa_cons (pv 4) pa_nil))) (blkOk_by (own := [("amount", 5), ("most", 6)]) (N := N_raised) (sc := defScope s_raised) (by decide +kernel)) (fun _ _ _ _ _ => (show PG _ _ (gTup K 2 (gCons (gName 5) (gCons (gName 6) gNil))) from (pg_tup rfl (pgs_cons (pg_name (i := 5) sc_raised.nd rfl (Or.inl rfl)) (pgs_cons (pg_name (i := 6) sc_raised.nd rfl (Or.inl rfl)) pgs_nil))))) (fun _ _ _ _ _ => pts_nil) (fun _ _ _ _ _ => (pe_cmpR op_ge (pv 5) (pv 6) (nomark _)))) pa_nil)))
        (pss_one (ps_ret (pe_ifExp (pt_val (pe_call G_may_rise (hr.mono (by decide)) (by rfl) T.m_may_rise T.F_may_rise.kp T.b_may_rise .nil pass0 (pa_cons (pv 0) (pa_cons (pv 2) (pa_cons (pv 4) pa_nil))))) pe_non (pv 2))))
        pss_nil)
      (pss_one (ps_setLc (i := 2) (own := [("amount", 5), ("most", 6)]) (tt := tYes) rfl sc_raised.nd rfl rfl (sw_true rfl rfl rfl (by decide +kernel)) (pi_zip (by rfl) T.z_zip (pa_cons (pv 2) (pa_cons (pv 4) pa_nil))) (blkOk_by (own := [("amount", 5), ("most", 6)]) (N := N_raised) (sc := defScope s_raised) (by decide +kernel)) (fun _ _ _ _ _ => (show PG _ _ (gTup K 2 (gCons (gName 5) (gCons (gName 6) gNil))) from (pg_tup rfl (pgs_cons (pg_name (i := 5) sc_raised.nd rfl (Or.inl rfl)) (pgs_cons (pg_name (i := 6) sc_raised.nd rfl (Or.inl rfl)) pgs_nil))))) (fun _ _ _ _ _ => pts_nil) (fun _ _ _ _ _ => (pe_callB (call_max2 rfl) (by rfl) T.z_max (by decide +kernel) (pa_cons (pv 5) (pa_cons (pv 6) pa_nil)))))))))
    (pss_one (ps_ret pe_non))), ?_⟩
    walk_at "st"
    refine for_range (lo := 0) (n := (4 * (((ps.map V.ref).length : Nat) : Int)).toNat) (fun i σ H' => (∃ (v3 v4 : Option V) (x : Nat → Int) (r : Addr), σ = [some (.ref t), some (.ref ca), some (.ref r), v3, v4, none, none] ∧ H' r = some (.lst ((rowI n x).map V.int)) ∧ PayOk n f' x ∧ raisedF n f' cash (4 * n) pay = raisedF n f' cash (4 * n - i) x ∧ (r = pa ∨ H r = none)) ∧ Same H H') ?_ ?_ ?_
    · exact ⟨⟨none, none, pay, pa, rfl, hp, hpo, rfl, .inl rfl⟩, Same.refl H⟩
    · rintro i σ H' hi ⟨⟨v3, v4, x, r, rfl, hr, hok, hrc, hfr⟩, e⟩
      have ht2 := ht.same e
      have hts2 := SqL.of (K := K) ht2.lst
      have hc2 := e.seq hc
      have hr2 : SqL K H' r _ := SqL.of hr
      walk_at "st"
      refine ⟨f', cash, x, t, ca, r, ps, n, rfl, ht2, hd, hc2, hr2, hok, fun r' H2 e2 nr hr' => ?_⟩
      have e3 := e.trans e2
      have hx2 : SqL K H2 r ((rowI n x).map V.int) := e2.seq hr2
      have hy2 : SqL K H2 r' ((rowI n (rndF n f' cash x)).map V.int) := SqL.of hr'
      have ht3 := ht2.same e2
      obtain ⟨y, ey⟩ : ∃ y : Nat → Int, rndF n f' cash x = y := ⟨_, rfl⟩
      rw [ey] at hy2
      walk_at "st"
      intro D nD
      refine lc_zip (K := K) (a := r) (b := r') (xs := (rowI n x).map V.int) (ys := (rowI n y).map V.int) (by rw [List.length_map, List.length_map, rowI_len, rowI_len]) (fun i H' => H' D = some (.lst (((List.range i).map fun j => decide (x j ≥ y j)).map V.bl)) ∧ Same H2 H') ⟨upd_same, same_upd nD⟩ (fun i H' _ ⟨_, e⟩ => ⟨e.seq hx2, e.seq hy2⟩) ?_ ?_
      · rintro j u v H3 T1 hu0 hv0 ⟨hD, e4⟩ nT
        obtain ⟨u', hu, rfl⟩ := ints_at hu0
        obtain ⟨v', hv, rfl⟩ := ints_at hv0
        have hj := (List.getElem?_eq_some_iff.mp hu).1
        rw [rowI_len] at hj
        rw [rowI_at hj] at hu hv
        cases hu
        cases hv
        have s5 : Same H3 (upd H3 T1 (.tup [.int (x j), .int (y j)])) := same_upd nT
        have t5 : SqT K (upd H3 T1 (.tup [.int (x j), .int (y j)])) T1 [.int (x j), .int (y j)] := SqT.of upd_same
        have e5 := e4.trans s5
        have hD5 := s5 _ _ hD
        generalize upd H3 T1 _ = H5 at *
        walk_at "st"
        refine ⟨small1000 (by rw [List.length_map, List.length_map, List.length_range]; omega), ?_, TabR.keep e5 nD⟩
        rw [upd_same, List.range_succ, List.map_append, List.map_append]
        rfl
      · rintro H3 ⟨hD, e4⟩
        rw [List.length_map, rowI_len] at hD
        have e5 := e3.trans e4
        have ht4 := ht3.same e4
        have hx4 := e4.seq hx2
        have hy4 := e4.seq hy2
        have hDs : SqL K H3 D _ := SqL.of hD
        have eb : ((List.range n).map fun j => decide (x j ≥ y j)).all id = fitsB n x y := by
          unfold fitsB
          rw [List.all_map]
          rfl
        have hil : i < 4 * n := by rw [List.length_map, hlt] at hi; omega
        have hk : 4 * n - i = (4 * n - (i + 1)) + 1 := by omega
        rw [hk, raisedF_succ, ey] at hrc
        walk_at "st"
        refine ⟨_, rfl, hDs, ?_⟩
        rw [eb]
        refine ⟨_, rfl, ?_⟩
        refine iteB (fun h => ?_) (fun h => ?_)
        · rw [if_pos h] at hrc
          walk_at "st"
          refine ⟨f', cash, x, y, t, r, r', ps, n, rfl, ht4, hd, hx4, hy4, hok, fun i _ => by rw [ey], fun H6 e6 => ?_⟩
          refine ⟨_, rfl, ?_⟩
          refine iteB (fun h2 => ?_) (fun h2 => ?_)
          · rw [if_pos h2] at hrc
            walk_at "st"
            exact qn _ (e5.trans e6) hrc
          · rw [if_neg (by rw [h2]; exact Bool.false_ne_true)] at hrc
            walk_at "st"
            exact qs r x _ (e5.trans e6) hfr hrc (e6 _ _ (e4 _ _ (e2 _ _ hr)))
        · rw [if_neg (by rw [h]; exact Bool.false_ne_true)] at hrc
          walk_at "st"
          intro D2 nD2
          refine lc_zip (K := K) (a := r) (b := r') (xs := (rowI n x).map V.int) (ys := (rowI n y).map V.int) (by rw [List.length_map, List.length_map, rowI_len, rowI_len]) (fun i H' => H' D2 = some (.lst ((rowI i (topF x y)).map V.int)) ∧ Same H3 H') ⟨upd_same, same_upd nD2⟩ (fun i H' _ ⟨_, e⟩ => ⟨e.seq hx4, e.seq hy4⟩) ?_ ?_
          · rintro j u v H5 T1 hu0 hv0 ⟨hD5, e6⟩ nT
            obtain ⟨u', hu, rfl⟩ := ints_at hu0
            obtain ⟨v', hv, rfl⟩ := ints_at hv0
            have hj := (List.getElem?_eq_some_iff.mp hu).1
            rw [rowI_len] at hj
            rw [rowI_at hj] at hu hv
            cases hu
            cases hv
            have s7 : Same H5 (upd H5 T1 (.tup [.int (x j), .int (y j)])) := same_upd nT
            have t7 : SqT K (upd H5 T1 (.tup [.int (x j), .int (y j)])) T1 [.int (x j), .int (y j)] := SqT.of upd_same
            have e7 := e6.trans s7
            have hD7 := s7 _ _ hD5
            generalize upd H5 T1 _ = H7 at *
            walk_at "st"
            refine ⟨small1000 (by rw [List.length_map, rowI_len]; omega), ?_, TabR.keep e7 nD2⟩
            rw [upd_same, rowI_succ, List.map_append]
            rfl
          · rintro H5 ⟨hD5, e6⟩
            rw [List.length_map, rowI_len] at hD5
            exact ⟨⟨_, _, topF x y, D2, rfl, hD5, top_ok hok (by rw [← ey]; exact rnd_ok hd hc0 hok), hrc, .inr (e5.free nD2)⟩, e5.trans e6⟩
    · rintro σ H' ⟨⟨v3, v4, x, r, rfl, hr, hok, hrc, hfr⟩, e⟩
      have e2 : 4 * n - (4 * (((ps.map V.ref).length : Nat) : Int)).toNat = 0 := by rw [List.length_map, hlt]; omega
      rw [e2] at hrc
      walk_at "st"
      exact qn H' e hrc

theorem top_le {n : Nat} {x y u : Nat → Int} (hx : ∀ i, i < n → x i ≤ u i) (hy : ∀ i, i < n → y i ≤ u i) : ∀ i, i < n → topF x y i ≤ u i := fun i hi => by
  have h1 := hx i hi
  have h2 := hy i hi
  unfold topF
  split <;> omega
/-- what is raised from below stays below -/
theorem raisedF_le {n : Nat} {f : Nat → Nat → Int} {m : Int} {cash u : Nat → Int} (hd : Debts n f m) (hc : ∀ i, 0 ≤ cash i) (hu : ∀ i, i < n → rndF n f cash u i ≤ u i) : ∀ (k : Nat) (x y : Nat → Int), PayOk n f x → (∀ i, i < n → x i ≤ u i) → raisedF n f cash k x = some y → ∀ i, i < n → y i ≤ u i
  | 0, _, _, _, _, h => by cases h
  | k + 1, x, y, hx, hl, h => by
    rw [raisedF_succ] at h
    split at h
    · split at h
      · cases h
      · cases h
        exact hl
    · refine raisedF_le hd hc hu k _ y (top_ok hx (rnd_ok hd hc hx)) (top_le hl fun i hi => ?_) h
      exact Int.le_trans (rndF_mono (cash := cash) hd (fun a ha => ⟨(hx.b a ha).1, hl a ha⟩) i) (hu i hi)
/-- rounds go down from where one goes down -/
theorem rnd_down {n : Nat} {f : Nat → Nat → Int} {m : Int} {cash x : Nat → Int} (hd : Debts n f m) (hc : ∀ i, 0 ≤ cash i) (hx : PayOk n f x) (h : ∀ i, i < n → rndF n f cash x i ≤ x i) : ∀ i, i < n → rndF n f cash (rndF n f cash x) i ≤ rndF n f cash x i := fun i _ =>
  rndF_mono (cash := cash) hd (fun a ha => ⟨((rnd_ok hd hc hx).b a ha).1, h a ha⟩) i
theorem rndN_down {n : Nat} {f : Nat → Nat → Int} {m : Int} {cash : Nat → Int} (hd : Debts n f m) (hc : ∀ i, 0 ≤ cash i) : ∀ (k : Nat) {x : Nat → Int}, PayOk n f x → (∀ i, i < n → rndF n f cash x i ≤ x i) → (∀ i, i < n → rndN n f cash k x i ≤ x i) ∧ ∀ i, i < n → rndF n f cash (rndN n f cash k x) i ≤ rndN n f cash k x i
  | 0, x, _, h => ⟨fun i _ => Int.le_refl _, h⟩
  | k + 1, x, hx, h => by
    obtain ⟨h1, h2⟩ := rndN_down hd hc k (rnd_ok hd hc hx) (rnd_down hd hc hx h)
    exact ⟨fun i hi => Int.le_trans (h1 i hi) (h i hi), h2⟩
/-- where many rounds change nothing, one changes nothing -/
theorem rndN_fix {n : Nat} {f : Nat → Nat → Int} {m : Int} {cash x : Nat → Int} (hd : Debts n f m) (hc : ∀ i, 0 ≤ cash i) {k : Nat} (hx : PayOk n f x) (h : ∀ i, i < n → rndF n f cash x i ≤ x i) (e : ∀ i, i < n → rndN n f cash (k + 1) x i = x i) : ∀ i, i < n → rndF n f cash x i = x i := fun i hi => by
  have h1 := (rndN_down hd hc k (rnd_ok hd hc hx) (rnd_down hd hc hx h)).1 i hi
  have h2 := e i hi
  have h3 : rndN n f cash (k + 1) x i = rndN n f cash k (rndF n f cash x) i := rfl
  have h4 := h i hi
  omega
/-- payments that nothing lowers and that nothing that can be paid passes -/
structure GoodP (n : Nat) (f : Nat → Nat → Int) (cash x : Nat → Int) : Prop where
  ok : PayOk n f x
  dn : ∀ i, i < n → rndF n f cash x i ≤ x i
  ab : Above n f cash x
theorem good_rnds {n : Nat} {f : Nat → Nat → Int} {m : Int} {cash x : Nat → Int} (hd : Debts n f m) (hc : ∀ i, 0 ≤ cash i) (h : GoodP n f cash x) (k : Nat) : GoodP n f cash (rndN n f cash k x) := ⟨rndN_ok hd hc h.ok k, (rndN_down hd hc k h.ok h.dn).2, rndN_above hd h.ab k⟩
theorem good_raised {n : Nat} {f : Nat → Nat → Int} {m : Int} {cash x y : Nat → Int} (hd : Debts n f m) (hc : ∀ i, 0 ≤ cash i) {k : Nat} (hx : PayOk n f x) (h : raisedF n f cash k x = some y) : GoodP n f cash y := by
  obtain ⟨h1, h2, h3⟩ := raisedF_ok hd hc k x y hx h
  exact ⟨h1, h2, h3⟩
theorem good_top {n : Nat} {f : Nat → Nat → Int} {m : Int} {cash : Nat → Int} (hd : Debts n f m) : GoodP n f cash (fun i => sumI n (f i)) := ⟨⟨fun i hi => ⟨(debts_sum hd hi).1, Int.le_refl _⟩⟩, fun i _ => by
  unfold rndF
  split <;> omega, fun q hq i hi => (hq.ok.b i hi).2⟩
/-- the greatest payments -/
structure BestP (n : Nat) (f : Nat → Nat → Int) (cash x : Nat → Int) : Prop where
  ok : PayOk n f x
  fx : ∀ i, i < n → rndF n f cash x i = x i
  ab : Above n f cash x
theorem BestP.can {n : Nat} {f : Nat → Nat → Int} {cash x : Nat → Int} (h : BestP n f cash x) : CanPay n f cash x := ⟨h.ok, fun i hi => by rw [h.fx i hi]; exact Int.le_refl _⟩
theorem BestP.one {n : Nat} {f : Nat → Nat → Int} {cash x y : Nat → Int} (h : BestP n f cash x) (g : BestP n f cash y) : ∀ i, i < n → x i = y i := fun i hi => by
  have h1 := h.ab y g.can i hi
  have h2 := g.ab x h.can i hi
  omega
/-- where a leap begins -/
def leapF (n : Nat) (x d : Nat → Int) (T : Int) (i : Nat) : Int := if i < n then (if x i - T * d i > 0 then x i - T * d i else 0) else 0
theorem leap_ok {n : Nat} {f : Nat → Nat → Int} {x d : Nat → Int} {T : Int} (hx : PayOk n f x) (hd : ∀ i, i < n → 0 ≤ d i) (hT : 0 ≤ T) : PayOk n f (leapF n x d T) ∧ ∀ i, i < n → leapF n x d T i ≤ x i := by
  have key : ∀ i, i < n → 0 ≤ leapF n x d T i ∧ leapF n x d T i ≤ x i := fun i hi => by
    have h1 := hx.b i hi
    have h2 := Int.mul_nonneg hT (hd i hi)
    unfold leapF
    rw [if_pos hi]
    split <;> omega
  exact ⟨⟨fun i hi => by have h1 := key i hi; have h2 := hx.b i hi; omega⟩, fun i hi => (key i hi).2⟩
theorem leap_far {n : Nat} {x d : Nat → Int} {T : Int} (hx : ∀ i, i < n → x i ≤ 100000000000000000) (hd : ∀ i, i < n → 0 ≤ d i) (hT : 100000000000000000 ≤ T) : leapF n x d T = leapF n x d 100000000000000000 := by
  funext i
  unfold leapF
  by_cases hi : i < n
  · rw [if_pos hi, if_pos hi]
    have h1 := hx i hi
    have h2 := hd i hi
    by_cases z : d i = 0
    · rw [z, Int.mul_zero, Int.mul_zero]
    · have h3 : T * 1 ≤ T * d i := Int.mul_le_mul_of_nonneg_left (by omega) (by omega)
      rw [if_neg (by omega), if_neg (by omega)]
  · rw [if_neg hi, if_neg hi]

def sp_leap (K : PySem.W.Frag) : Sp := fun vs H Q _ => ∃ (f : Nat → Nat → Int) (cash pay drop : Nat → Int) (t ca pa da : Addr) (ps : List Addr) (n : Nat), vs = [.ref t, .ref ca, .ref pa, .ref da] ∧ Tab H t ps n f ∧ Debts n f 1000000000000000 ∧ SqL K H ca ((rowI n cash).map V.int) ∧ (∀ i, 0 ≤ cash i) ∧ H pa = some (.lst ((rowI n pay).map V.int)) ∧ SqL K H da ((rowI n drop).map V.int) ∧ (∀ i, i < n → 0 ≤ drop i) ∧ GoodP n f cash pay ∧
  ∀ r y H', Same H H' → (r = pa ∨ H r = none) → H' r = some (.lst ((rowI n y).map V.int)) → GoodP n f cash y → (∀ i, i < n → y i ≤ pay i) → Q (.ref r) H'
set_option maxHeartbeats 0 in
theorem ok_leap (T : Txt K mg) : FnOk P w K mg base CX0 7 T.f_leap T.d_leap ["owed", "cash", "pay", "drop"] (sp_leap K) := by
  refine T.F_leap.ok sc_leap (fun vs H Q E h => ?_) (fun cdv A outer s H vs Q E hr h => ?_)
  · obtain ⟨f, cash, pay, drop, t, ca, pa, da, ps, n, rfl, _⟩ := h
    rfl
  · obtain ⟨f', cash, pay, drop, t, ca, pa, da, ps, n, rfl, ht, hd, hc, hc0, hp, hda, hdr, hg, q⟩ := h
    have G_raised : FnOk P w K mg base CX0 6 T.f_raised T.d_raised ["owed", "cash", "pay"] (sp_raised K) := ok_raised T
    have hn1 := hd.n1
    have hps := SqL.of (K := K) hp
    have hbig : ∀ i, i < n → pay i ≤ 100000000000000000 := fun i hi => by
      have h1 := (hg.ok.b i hi).2
      have h2 := (debts_sum hd hi).2
      omega
    refine ⟨_, (pss_cons (ps_set (i := 4) sc_leap.nd rfl (Or.inl rfl) (pv 2))
    (pss_cons (ps_set (i := 5) sc_leap.nd rfl (Or.inr rfl) pe_int)
    (pss_one (ps_while PassesOwn.never (pt_val pe_bl)
      (pss_cons (ps_set (i := 6) sc_leap.nd rfl (Or.inl rfl) (pe_call G_raised hr (by rfl) T.m_raised T.F_raised.kp T.b_raised .nil pass0 (pa_cons (pv 0) (pa_cons (pv 1) (pa_cons (pe_lc (own := [("amount", 7), ("fall", 8)]) (tt := tYes) rfl sc_leap.nd (pi_zip (by rfl) T.z_zip (pa_cons (pv 2) (pa_cons (pv 3) pa_nil))) (blkOk_by (own := [("amount", 7), ("fall", 8)]) (N := N_leap) (sc := defScope s_leap) (by decide +kernel)) (fun _ _ _ _ _ => (show PG _ _ (gTup K 2 (gCons (gName 7) (gCons (gName 8) gNil))) from (pg_tup rfl (pgs_cons (pg_name (i := 7) sc_leap.nd rfl (Or.inl rfl)) (pgs_cons (pg_name (i := 8) sc_leap.nd rfl (Or.inl rfl)) pgs_nil))))) (fun _ _ _ _ _ => pts_nil) (fun _ _ _ _ _ => (pe_callB (call_max2 rfl) (by rfl) T.z_max (by decide +kernel) (pa_cons pe_int (pa_cons (pe_op op_sub (pv 7) (pe_op op_mul (pv 5) (pv 8))) pa_nil))))) pa_nil)))))
      (pss_cons (ps_if (PW.pt (pw_or (pt_cmpR op_isN (pv 6) pe_non (nomark _)) (pw_or1 (pt_cmpR (op_eqD hr.units) (pv 6) (pv 4) (nomark _)))))
        (pss_one (ps_ret (pv 4)))
        pss_nil)
      (pss_cons (ps_set (i := 4) sc_leap.nd rfl (Or.inl rfl) (pv 6))
      (pss_one (ps_aug (i := 5) sc_leap.nd rfl (Or.inr rfl) pe_int iop_mul))))))))), ?_⟩
    walk_at "st"
    refine while_by (fun σ H' => ∃ (v6 : Option V) (y : Nat → Int) (T : Int) (r : Addr), σ = [some (.ref t), some (.ref ca), some (.ref pa), some (.ref da), some (.ref r), some (.int T), v6, none, none] ∧ Same H H' ∧ H' r = some (.lst ((rowI n y).map V.int)) ∧ (r = pa ∨ H r = none) ∧ (1 ≤ T ∧ T < 400000000000000000) ∧ GoodP n f' cash y ∧ (∀ i, i < n → y i ≤ pay i) ∧ (200000000000000000 ≤ T → raisedF n f' cash (4 * n) (leapF n pay drop 100000000000000000) = some y))
      (fun σ _ => match σ with | [_, _, _, _, _, some (.int T), _, _, _] => (200000000000000000 - T).toNat | _ => 0)
      ⟨none, pay, 1, pa, rfl, Same.refl H, hp, .inl rfl, ⟨by omega, by omega⟩, hg, fun i _ => Int.le_refl _, fun h => by omega⟩ ?_ ?_
    · rintro σ H1 ⟨v6, y, T, r, rfl, e1, hr, hfr, hT, hy, hle, hfar⟩
      have ht1 := ht.same e1
      have hc1 := e1.seq hc
      have hp1 := e1.seq hps
      have hda1 := e1.seq hda
      walk_at "st"
      dsimp only
      intro D nD
      refine lc_zip (K := K) (a := pa) (b := da) (xs := (rowI n pay).map V.int) (ys := (rowI n drop).map V.int) (by rw [List.length_map, List.length_map, rowI_len, rowI_len]) (fun i H' => H' D = some (.lst ((rowI i fun j => if pay j - T * drop j > 0 then pay j - T * drop j else 0).map V.int)) ∧ Same H1 H') ⟨upd_same, same_upd nD⟩ (fun i H' _ ⟨_, e⟩ => ⟨e.seq hp1, e.seq hda1⟩) ?_ ?_
      · rintro j u v H2 T1 hu0 hv0 ⟨hD, e2⟩ nT
        obtain ⟨u', hu, rfl⟩ := ints_at hu0
        obtain ⟨v', hv, rfl⟩ := ints_at hv0
        have hj := (List.getElem?_eq_some_iff.mp hu).1
        rw [rowI_len] at hj
        rw [rowI_at hj] at hu hv
        cases hu
        cases hv
        have s3 : Same H2 (upd H2 T1 (.tup [.int (pay j), .int (drop j)])) := same_upd nT
        have t3 : SqT K (upd H2 T1 (.tup [.int (pay j), .int (drop j)])) T1 [.int (pay j), .int (drop j)] := SqT.of upd_same
        have e3 := e2.trans s3
        have hD3 := s3 _ _ hD
        generalize upd H2 T1 _ = H3 at *
        walk_at "st"
        refine ⟨small1000 (by rw [List.length_map, rowI_len]; omega), ?_, TabR.keep e3 nD⟩
        rw [upd_same, rowI_succ, List.map_append]
        rfl
      · rintro H2 ⟨hD, e2⟩
        rw [List.length_map, rowI_len] at hD
        have e12 := e1.trans e2
        have ht2 := ht.same e12
        have hc2 := e12.seq hc
        have hlp := leap_ok (d := drop) (T := T) hg.ok hdr (by omega)
        have hD2 : H2 D = some (.lst ((rowI n (leapF n pay drop T)).map V.int)) := by
          rw [hD]
          congr 3
          refine rowI_eq.mpr fun i hi => ?_
          unfold leapF
          rw [if_pos hi]
        have hfar2 : 100000000000000000 ≤ T → leapF n pay drop T = leapF n pay drop 100000000000000000 := fun z => leap_far hbig hdr z
        walk_at "st"
        refine ⟨f', cash, leapF n pay drop T, t, ca, D, ps, n, rfl, ht2, hd, hc2, hc0, hD2, hlp.1, fun H3 e3 hn => ?_, fun r2 y2 H3 e3 hf2 hn hr2 => ?_⟩
        · walk_at "st"
          exact q r y H3 (e12.trans e3) hfr (e3 _ _ (e2 _ _ hr)) hy hle
        · have hr3 := SqL.of (K := K) hr2
          have hr4 : SqL K H3 r ((rowI n y).map V.int) := SqL.of (e3 _ _ (e2 _ _ hr))
          walk_at "st"
          refine eqD_ints hr3 hr4 ?_
          refine ⟨_, rfl, ?_⟩
          refine iteB (fun h => ?_) (fun h => ?_)
          · walk_at "st"
            exact q r y H3 (e12.trans e3) hfr (e3 _ _ (e2 _ _ hr)) hy hle
          · have hT2 : T < 200000000000000000 := by
              rcases Int.lt_or_le T 200000000000000000 with z | z
              · exact z
              · have h1 := hfar z
                rw [← hfar2 (by omega), hn] at h1
                cases h1
                exact absurd rfl (of_decide_eq_false h)
            walk_at "st"
            refine ⟨⟨_, y2, T * 2, r2, rfl, e12.trans e3, hr2, hf2.elim (fun z => .inr (by rw [z]; exact e1.free nD)) (fun z => .inr (e12.free z)), ⟨by omega, by omega⟩, good_raised hd hc0 hlp.1 hn, raisedF_le hd hc0 hg.dn _ _ _ hlp.1 hlp.2 hn, fun z => ?_⟩, ?_⟩
            · rw [← hfar2 (by omega)]
              exact hn
            · show (200000000000000000 - T * 2).toNat < (200000000000000000 - T).toNat
              omega
    · rintro σ H Q Q' h ⟨b, e, q⟩
      exact ⟨b, e, h _ _ q⟩

def sp_clearing (K : PySem.W.Frag) (CT CA : Addr) : Sp := fun vs H Q E => ∃ (_ : Unit) (t ca : Addr) (ps : List Addr) (n : Nat) (fj : Nat → List Int) (xs : List Int), vs = [.ref t, .ref ca] ∧ JagR H t ps n fj ∧ n ≤ 900 ∧ (∀ i, i < n → (fj i).length ≤ 900) ∧ SqL K H ca (xs.map V.int) ∧ xs.length ≤ 900 ∧ (¬ DebtsJ n fj → ∀ H', Same H H' → E (.ref CT) none H') ∧ (DebtsJ n fj → ¬ HeldJ xs n → ∀ H', Same H H' → E (.ref CA) none H') ∧
  (DebtsJ n fj → HeldJ xs n → ∀ r y H', Same H H' → H r = none → H' r = some (.lst ((rowI n y).map V.int)) → BestP n (cellJ fj) (at0 xs) y → Q (.ref r) H')
theorem HeldJ.row {xs : List Int} {m : Nat} (h : HeldJ xs m) : rowI m (at0 xs) = xs := by
  rw [← h.1]
  exact rowI_of xs
theorem HeldJ.lo {xs : List Int} {m : Nat} (h : HeldJ xs m) (i : Nat) : 0 ≤ at0 xs i ∧ at0 xs i ≤ 100000000000000000 := by
  by_cases hi : i < xs.length
  · exact h.2 _ (List.mem_of_getElem? (at0_lt hi))
  · have e := at0_out (ws := xs) (i := i) (by omega)
    omega
theorem sumI_lt {n : Nat} {g h : Nat → Int} (hm : ∀ i, i < n → g i ≤ h i) {i : Nat} (hi : i < n) (hl : g i < h i) : sumI n g < sumI n h := by
  have := sum_term hm hi
  omega
theorem row_ne {n : Nat} {x y : Nat → Int} (h : ¬ rowI n x = rowI n y) : ∃ i, i < n ∧ x i ≠ y i := by
  by_cases z : ∃ i, i < n ∧ x i ≠ y i
  · exact z
  · refine absurd (rowI_eq.mpr fun i hi => ?_) h
    by_cases e : x i = y i
    · exact e
    · exact absurd ⟨i, hi, e⟩ z
def sumV : List V → Int
  | [] => 0
  | .int x :: r => x + sumV r
  | _ :: r => sumV r
theorem sumV_ints : ∀ xs : List Int, sumV (xs.map V.int) = xs.sum
  | [] => rfl
  | x :: xs => by
    rw [List.map_cons, List.sum_cons, ← sumV_ints xs]
    rfl
set_option maxHeartbeats 0 in
theorem ok_clearing (T : Txt K mg) : FnOk P w K mg base (L2.CX P w) 8 T.f_clearing T.d_clearing ["owed", "cash"] (sp_clearing K T.c_InvalidTrade T.c_InvalidAmount) := by
  refine T.F_clearing.okX sc_clearing (fun vs H Q E h => ?_) (fun cdv A outer s H vs Q E hr h => ?_)
  · obtain ⟨_, t, ca, ps, n, fj, xs, rfl, _⟩ := h
    rfl
  · obtain ⟨_, t, ca, ps, n, fj, xs, rfl, htj, hm9, hl9, hcj, hx9, qt, qa, q⟩ := h
    have G_check_debts : FnOk P w K mg base (L2.CX P w) 3 T.f_check_debts T.d_check_debts ["owed"] (sp_check_debts K T.c_InvalidTrade) := ok_check_debts T
    have G_check_held : FnOk P w K mg base (L2.CX P w) 3 T.f_check_held T.d_check_held ["amounts", "houses"] (sp_check_held K T.c_InvalidAmount) := ok_check_held T
    have G_after_rounds : FnOk P w K mg base CX0 6 T.f_after_rounds T.d_after_rounds ["owed", "cash", "pay"] (sp_after_rounds K) := ok_after_rounds T
    have G_leap : FnOk P w K mg base CX0 7 T.f_leap T.d_leap ["owed", "cash", "pay", "drop"] (sp_leap K) := ok_leap T
    have hlt : (ps.map V.ref).length = n := by rw [List.length_map, htj.len]
    have hts := SqL.of (K := K) htj.lst
    refine ⟨_, (pss_cons (ps_expr (pe_callS G_check_debts (hr.mono (by decide)) (by rfl) T.m_check_debts T.F_check_debts.kp T.b_check_debts (fun σ => passAt (takes_of rfl rfl rfl rfl) σ) (pa_cons (pv 0) pa_nil)))
    (pss_cons (ps_expr (pe_callS G_check_held (hr.mono (by decide)) (by rfl) T.m_check_held T.F_check_held.kp T.b_check_held (fun σ => passAt (takes_of rfl rfl rfl rfl) σ) (pa_cons (pv 1) (pa_cons (pe_callB call_len_seq (by rfl) T.z_len PySem.boot_len (pa_cons (pv 0) pa_nil)) pa_nil))))
    (pss_cons (ps_setLc (i := 2) (own := [("debts", 3)]) (g := gName 3) (tt := tYes) rfl sc_clearing.nd rfl rfl (sw_true rfl rfl rfl (by decide +kernel)) (pi_list (pv 0)) (blkOk_by (own := [("debts", 3)]) (N := N_clearing) (sc := defScope s_clearing) (by decide +kernel)) (fun _ _ _ _ _ => (pg_name (i := 3) sc_clearing.nd rfl (Or.inl rfl))) (fun _ _ _ _ _ => pts_nil) (fun _ _ _ _ _ => (pe_callB (show CallR _ (.builtin "sum") (rSum K) from (cr_sum rfl)) (by rfl) T.z_sum (by decide +kernel) (pa_cons (pv 3) pa_nil))))
    (pss_cons (ps_set (i := 4) sc_clearing.nd rfl (Or.inl rfl) (pe_call G_after_rounds (hr.mono (by decide)) (by rfl) T.m_after_rounds T.F_after_rounds.kp T.b_after_rounds .nil pass0 (pa_cons (pv 0) (pa_cons (pv 1) (pa_cons (pv 2) pa_nil)))))
    (pss_cons (ps_while (passes_of rfl) (pt_cmpR (op_neD hr.units) (pv 4) (pv 2) (nomark _))
      (pss_cons (ps_set (i := 2) sc_clearing.nd rfl (Or.inl rfl) (pe_call G_leap hr (by rfl) T.m_leap T.F_leap.kp T.b_leap .nil pass0 (pa_cons (pv 0) (pa_cons (pv 1) (pa_cons (pv 4) (pa_cons (pe_lc (own := [("old", 5), ("new", 6)]) (tt := tYes) rfl sc_clearing.nd (pi_zip (by rfl) T.z_zip (pa_cons (pv 2) (pa_cons (pv 4) pa_nil))) (blkOk_by (own := [("old", 5), ("new", 6)]) (N := N_clearing) (sc := defScope s_clearing) (by decide +kernel)) (fun _ _ _ _ _ => (show PG _ _ (gTup K 2 (gCons (gName 5) (gCons (gName 6) gNil))) from (pg_tup rfl (pgs_cons (pg_name (i := 5) sc_clearing.nd rfl (Or.inl rfl)) (pgs_cons (pg_name (i := 6) sc_clearing.nd rfl (Or.inl rfl)) pgs_nil))))) (fun _ _ _ _ _ => pts_nil) (fun _ _ _ _ _ => (pe_op op_sub (pv 5) (pv 6)))) pa_nil))))))
      (pss_one (ps_set (i := 4) sc_clearing.nd rfl (Or.inl rfl) (pe_call G_after_rounds (hr.mono (by decide)) (by rfl) T.m_after_rounds T.F_after_rounds.kp T.b_after_rounds .nil pass0 (pa_cons (pv 0) (pa_cons (pv 1) (pa_cons (pv 2) pa_nil))))))))
    (pss_one (ps_ret (pv 2)))))))), ?_⟩
    walk_at "st"
    refine ⟨ps, n, fj, rfl, htj, hm9, hl9, fun hv H1 e1 => ?_, fun hv H1 e1 => qt hv H1 e1⟩
    have ht := htj.tab hv.len
    have hd := hv.debts
    have hn0 := hd.n0
    have hn1 := hd.n1
    replace q := q hv
    replace qa := qa hv
    generalize cellJ fj = f' at *
    have ht1 := ht.same e1
    have hts1 := SqL.of (K := K) ht1.lst
    have hc2 := e1.seq hcj
    walk_at "st"
    refine ⟨(), ca, xs, n, by rw [hlt], hc2, hx9, fun hh H2 e2 => ?_, fun hh H2 e2 => qa hh H2 (e1.trans e2)⟩
    replace q := q hh
    have hc : SqL K H ca ((rowI n (at0 xs)).map V.int) := by rw [hh.row]; exact hcj
    have hc0 : ∀ i, 0 ≤ at0 xs i := fun i => (hh.lo i).1
    have hc1 : ∀ i, i < n → at0 xs i ≤ 100000000000000000 := fun i _ => (hh.lo i).2
    generalize at0 xs = cash at *
    have e12 := e1.trans e2
    have ht2 := ht.same e12
    have hts2 := SqL.of (K := K) ht2.lst
    have hc3 := e12.seq hc
    walk_at "st"
    intro D nD
    refine lc_sums ht2 (by omega) nD rfl ?_
    have sD := same_upd (o := .lst ((rowI n fun a => sumI n (f' a)).map V.int)) nD
    have hD : upd H2 D (.lst ((rowI n fun a => sumI n (f' a)).map V.int)) D = some (.lst ((rowI n fun a => sumI n (f' a)).map V.int)) := upd_same
    have e13 := e12.trans sD
    generalize upd H2 D _ = H3 at *
    have ht3 := ht.same e13
    have hc4 := e13.seq hc
    have hgt := good_top (cash := cash) hd
    walk_at "st"
    refine ⟨f', cash, fun i => sumI n (f' i), t, ca, D, ps, n, rfl, ht3, hd, hc4, hc0, hD, hgt.ok, by omega, fun L H4 e4 hfL hL => ?_⟩
    have nD0 : H D = none := e12.free nD
    refine while_by (fun σ H' => ∃ (_ : Unit) (x : Nat → Int) (p l : Addr), σ = [some (.ref t), some (.ref ca), some (.ref p), none, some (.ref l), none, none] ∧ Same H H' ∧ H' p = some (.lst ((rowI n x).map V.int)) ∧ H p = none ∧ GoodP n f' cash x ∧ H' l = some (.lst ((rowI n (rndN n f' cash (2 * n) x)).map V.int)) ∧ H l = none)
      (fun σ H' => match σ with | [_, _, some (.ref p), _, _, _, _] => (match H' p with | some (.lst xs) => (sumV xs).toNat | _ => 0) | _ => 0)
      ⟨(), _, D, L, rfl, e13.trans e4, e4 _ _ hD, nD0, hgt, hL, hfL.elim (fun z => by rw [z]; exact nD0) (fun z => e13.free z)⟩ ?_ ?_
    · rintro σ H5 ⟨_, x, p, l, rfl, e5, hp, np, hgx, hl, nl⟩
      have hps := SqL.of (K := K) hp
      have hls := SqL.of (K := K) hl
      have hgl := good_rnds hd hc0 hgx (2 * n)
      have hdn := (rndN_down hd hc0 (2 * n) hgx.ok hgx.dn).1
      have hdr : ∀ i, i < n → 0 ≤ x i - rndN n f' cash (2 * n) x i := fun i hi => by have := hdn i hi; omega
      have hfix : (∀ i, i < n → rndN n f' cash (2 * n) x i = x i) → BestP n f' cash x := fun z => ⟨hgx.ok, rndN_fix (k := 2 * n - 1) hd hc0 hgx.ok hgx.dn (by rw [show 2 * n - 1 + 1 = 2 * n by omega]; exact z), hgx.ab⟩
      generalize rndN n f' cash (2 * n) x = low at *
      have ht5 := ht.same e5
      have hc5 := e5.seq hc
      walk_at "st"
      refine neD_ints hls hps ?_
      refine ⟨_, rfl, ?_⟩
      refine iteB (fun h => ?_) (fun h => ?_)
      · obtain ⟨i0, hi0, hne⟩ := row_ne (x := low) (y := x) (fun z => ndec_t h z)
        walk_at "st"
        dsimp only
        intro E nE
        refine lc_zip (K := K) (a := p) (b := l) (xs := (rowI n x).map V.int) (ys := (rowI n low).map V.int) (by rw [List.length_map, List.length_map, rowI_len, rowI_len]) (fun i H' => H' E = some (.lst ((rowI i fun j => x j - low j).map V.int)) ∧ Same H5 H') ⟨upd_same, same_upd nE⟩ (fun i H' _ ⟨_, e⟩ => ⟨e.seq hps, e.seq hls⟩) ?_ ?_
        · rintro j u v H6 T1 hu0 hv0 ⟨hE, e6⟩ nT
          obtain ⟨u', hu, rfl⟩ := ints_at hu0
          obtain ⟨v', hv, rfl⟩ := ints_at hv0
          have hj := (List.getElem?_eq_some_iff.mp hu).1
          rw [rowI_len] at hj
          rw [rowI_at hj] at hu hv
          cases hu
          cases hv
          have s7 : Same H6 (upd H6 T1 (.tup [.int (x j), .int (low j)])) := same_upd nT
          have t7 : SqT K (upd H6 T1 (.tup [.int (x j), .int (low j)])) T1 [.int (x j), .int (low j)] := SqT.of upd_same
          have e7 := e6.trans s7
          have hE7 := s7 _ _ hE
          generalize upd H6 T1 _ = H7 at *
          walk_at "st"
          refine ⟨small1000 (by rw [List.length_map, rowI_len]; omega), ?_, TabR.keep e7 nE⟩
          rw [upd_same, rowI_succ, List.map_append]
          rfl
        · rintro H6 ⟨hE, e6⟩
          rw [List.length_map, rowI_len] at hE
          have e56 := e5.trans e6
          have ht6 := ht.same e56
          have hc6 := e56.seq hc
          have hEs := SqL.of (K := K) hE
          walk_at "st"
          refine ⟨f', cash, low, fun j => x j - low j, t, ca, l, E, ps, n, rfl, ht6, hd, hc6, hc0, e6 _ _ hl, hEs, hdr, hgl, fun r y H7 e7 hfr hr hgy hyl => ?_⟩
          have nr : H r = none := hfr.elim (fun z => by rw [z]; exact nl) (fun z => e56.free z)
          have e57 := e56.trans e7
          have ht7 := ht.same e57
          have hc7 := e57.seq hc
          walk_at "st"
          refine ⟨f', cash, y, t, ca, r, ps, n, rfl, ht7, hd, hc7, hc0, hr, hgy.ok, by omega, fun L2 H8 e8 hfL2 hL2 => ?_⟩
          refine ⟨⟨(), y, r, L2, rfl, e57.trans e8, e8 _ _ hr, nr, hgy, hL2, hfL2.elim (fun z => by rw [z]; exact nr) (fun z => e57.free z)⟩, ?_⟩
          show (match H8 r with | some (.lst xs) => (sumV xs).toNat | _ => 0) < (match H5 p with | some (.lst xs) => (sumV xs).toNat | _ => 0)
          rw [e8 _ _ hr, hp]
          show (sumV _).toNat < (sumV _).toNat
          rw [sumV_ints, sumV_ints]
          have z1 : sumI n y ≤ sumI n low := sumI_le hyl
          have z2 : sumI n low < sumI n x := sumI_lt hdn hi0 (by have := hdn i0 hi0; omega)
          have z3 : 0 ≤ sumI n y := (sumI_bound (m := 100000000000000000) fun i hi => by
            have h1 := hgy.ok.b i hi
            have h2 := (debts_sum hd hi).2
            omega).1
          have z4 : (rowI n y).sum = sumI n y := rfl
          have z5 : (rowI n x).sum = sumI n x := rfl
          omega
      · have hb := hfix (rowI_eq.mp (by
          cases z : decide (rowI n low = rowI n x) with
          | true => exact of_decide_eq_true z
          | false => rw [z] at h; cases h))
        walk_at "st"
        exact q p x H5 e5 np hp hb
    · rintro σ H Q Q' h ⟨v1, e1, v2, e2, d1, d2, h1, h2, h3, h4, k, h5, q⟩
      exact ⟨v1, e1, v2, e2, d1, d2, h1, h2, h3, h4, k, h5, h _ _ q⟩

def sp_cash_after (K : PySem.W.Frag) : Sp := fun vs H Q _ => ∃ (f : Nat → Nat → Int) (cash pay : Nat → Int) (t ca pa : Addr) (ps : List Addr) (n : Nat), vs = [.ref t, .ref ca, .ref pa] ∧ Tab H t ps n f ∧ Debts n f 1000000000000000 ∧ SqL K H ca ((rowI n cash).map V.int) ∧ SqL K H pa ((rowI n pay).map V.int) ∧ PayOk n f pay ∧
  ∀ r H', Same H H' → H r = none → H' r = some (.lst ((rowI n fun i => cash i + incF n f pay i - pay i).map V.int)) → Q (.ref r) H'
set_option maxHeartbeats 0 in
theorem ok_cash_after (T : Txt K mg) : FnOk P w K mg base CX0 5 T.f_cash_after T.d_cash_after ["owed", "cash", "pay"] (sp_cash_after K) := by
  refine T.F_cash_after.ok sc_cash_after (fun vs H Q E h => ?_) (fun cdv A outer s H vs Q E hr h => ?_)
  · obtain ⟨f, cash, pay, t, ca, pa, ps, n, rfl, _⟩ := h
    rfl
  · obtain ⟨f', cash, pay, t, ca, pa, ps, n, rfl, ht, hd, hc, hp, hpo, q⟩ := h
    have G_received : FnOk P w K mg base CX0 4 T.f_received T.d_received ["owed", "pay"] (sp_received K) := ok_received T
    have hn1 := hd.n1
    refine ⟨_, (pss_cons (ps_set (i := 3) sc_cash_after.nd rfl (Or.inl rfl) (pe_call G_received hr (by rfl) T.m_received T.F_received.kp T.b_received .nil pass0 (pa_cons (pv 0) (pa_cons (pv 2) pa_nil))))
    (pss_one (ps_ret (pe_lc (own := [("held", 4), ("got", 5), ("paid", 6)]) (tt := tYes) rfl sc_cash_after.nd (pi_zip3 (by rfl) T.z_zip (pa_cons (pv 1) (pa_cons (pv 3) (pa_cons (pv 2) pa_nil)))) (blkOk_by (own := [("held", 4), ("got", 5), ("paid", 6)]) (N := N_cash_after) (sc := defScope s_cash_after) (by decide +kernel)) (fun _ _ _ _ _ => (show PG _ _ (gTup K 3 (gCons (gName 4) (gCons (gName 5) (gCons (gName 6) gNil)))) from (pg_tup rfl (pgs_cons (pg_name (i := 4) sc_cash_after.nd rfl (Or.inl rfl)) (pgs_cons (pg_name (i := 5) sc_cash_after.nd rfl (Or.inl rfl)) (pgs_cons (pg_name (i := 6) sc_cash_after.nd rfl (Or.inl rfl)) pgs_nil)))))) (fun _ _ _ _ _ => pts_nil) (fun _ _ _ _ _ => (pe_op op_sub (pe_op op_add (pv 4) (pv 5)) (pv 6))))))), ?_⟩
    walk_at "st"
    refine ⟨f', pay, t, pa, ps, n, rfl, ht, hd, hp, hpo, fun inc H1 e1 ninc hinc => ?_⟩
    have hc1 := e1.seq hc
    have hp1 := e1.seq hp
    have hincs := SqL.of (K := K) hinc
    walk_at "st"
    intro D nD
    refine lc_zip3 (K := K) (a := ca) (b := inc) (c := pa) (xs := (rowI n cash).map V.int) (ys := (rowI n (incF n f' pay)).map V.int) (zs := (rowI n pay).map V.int) (by rw [List.length_map, List.length_map, rowI_len, rowI_len]) (by rw [List.length_map, List.length_map, rowI_len, rowI_len]) (fun i H' => H' D = some (.lst ((rowI i fun i => cash i + incF n f' pay i - pay i).map V.int)) ∧ Same H1 H') ⟨upd_same, same_upd nD⟩ (fun i H' _ ⟨_, e⟩ => ⟨e.seq hc1, e.seq hincs, e.seq hp1⟩) ?_ ?_
    · rintro i x y z H' T1 hx hy hz ⟨hD, e⟩ nT
      obtain ⟨u1, h1, rfl⟩ := ints_at hx
      obtain ⟨u2, h2, rfl⟩ := ints_at hy
      obtain ⟨u3, h3, rfl⟩ := ints_at hz
      have hi := (List.getElem?_eq_some_iff.mp h1).1
      rw [rowI_len] at hi
      rw [rowI_at hi] at h1 h2 h3
      cases h1
      cases h2
      cases h3
      have s2 : Same H' (upd H' T1 (.tup [.int (cash i), .int (incF n f' pay i), .int (pay i)])) := same_upd nT
      have t2 : SqT K (upd H' T1 (.tup [.int (cash i), .int (incF n f' pay i), .int (pay i)])) T1 [.int (cash i), .int (incF n f' pay i), .int (pay i)] := SqT.of upd_same
      have e2 := e.trans s2
      have hD2 := s2 _ _ hD
      generalize upd H' T1 _ = H2 at *
      walk_at "st"
      refine ⟨small1000 (by rw [List.length_map, rowI_len]; omega), ?_, TabR.keep e2 nD⟩
      rw [upd_same, rowI_succ, List.map_append]
      rfl
    · rintro H' ⟨hD, e⟩
      rw [List.length_map, rowI_len] at hD
      exact q D H' (e1.trans e) (e1.free nD) hD

def sp_fallen (K : PySem.W.Frag) : Sp := fun vs H Q _ => ∃ (f : Nat → Nat → Int) (pay : Nat → Int) (t pa : Addr) (ps : List Addr) (n : Nat), vs = [.ref t, .ref pa] ∧ Tab H t ps n f ∧ n ≤ 900 ∧ SqL K H pa ((rowI n pay).map V.int) ∧
  ∀ r H', Same H H' → H r = none → H' r = some (.lst ((filI n fun i => decide (pay i < sumI n (f i))).map V.int)) → Q (.ref r) H'
set_option maxHeartbeats 0 in
theorem ok_fallen (T : Txt K mg) : FnOk P w K mg base CX0 1 T.f_fallen T.d_fallen ["owed", "pay"] (sp_fallen K) := by
  refine T.F_fallen.ok sc_fallen (fun vs H Q E h => ?_) (fun cdv A outer s H vs Q E hr h => ?_)
  · obtain ⟨f, pay, t, pa, ps, n, rfl, _⟩ := h
    rfl
  · obtain ⟨f', pay, t, pa, ps, n, rfl, ht, hn1, hp, q⟩ := h
    
    have hts := SqL.of (K := K) ht.lst
    have hlt : (ps.map V.ref).length = n := by rw [List.length_map, ht.len]
    refine ⟨_, (pss_one (ps_ret (pe_lc (own := [("house", 2), ("debts", 3)]) rfl sc_fallen.nd (pi_enum (by rfl) T.z_enumerate (pa_cons (pv 0) pa_nil)) (blkOk_by (own := [("house", 2), ("debts", 3)]) (N := N_fallen) (sc := defScope s_fallen) (by decide +kernel)) (fun _ _ _ _ _ => (show PG _ _ (gTup K 2 (gCons (gName 2) (gCons (gName 3) gNil))) from (pg_tup rfl (pgs_cons (pg_name (i := 2) sc_fallen.nd rfl (Or.inl rfl)) (pgs_cons (pg_name (i := 3) sc_fallen.nd rfl (Or.inl rfl)) pgs_nil))))) (fun _ _ _ _ _ => pts_one (pt_cmpR op_lt (pe_ix (show IxR _ (rIxL K) from ix_list) (pv 1) (pv 2) (fun _ _ => rfl)) (pe_callB (show CallR _ (.builtin "sum") (rSum K) from (cr_sum rfl)) (by rfl) T.z_sum (by decide +kernel) (pa_cons (pv 3) pa_nil)) (nomark _))) (fun _ _ _ _ _ => (pv 2))))), ?_⟩
    walk_at "st"
    intro D nD
    refine lc_enum (K := K) (a := t) (xs := ps.map V.ref) (fun i H' => H' D = some (.lst ((filI i fun i => decide (pay i < sumI n (f' i))).map V.int)) ∧ Same H H') ⟨upd_same, same_upd nD⟩ (fun i H' _ ⟨_, e⟩ => e.seq hts) ?_ ?_
    · rintro i x H' T hx ⟨hD, e⟩ nT
      obtain ⟨p, hp0, rfl⟩ := refs_at hx
      have hi := (List.getElem?_eq_some_iff.mp hp0).1
      rw [ht.len] at hi
      have s2 : Same H' (upd H' T (.tup [.int (i : Int), .ref p])) := same_upd nT
      have t2 : SqT K (upd H' T (.tup [.int (i : Int), .ref p])) T [.int (i : Int), .ref p] := SqT.of upd_same
      have e2 := e.trans s2
      have hD2 := s2 _ _ hD
      have hrow : SqL K (upd H' T (.tup [.int (i : Int), .ref p])) p ((rowI n (f' i)).map V.int) := e2.seq (SqL.of (ht.row i p hp0))
      have hp2 := e2.seq hp
      have ca := atI_row (g := pay) hi
      have hsr : (rowI n (f' i)).sum = sumI n (f' i) := rfl
      generalize upd H' T _ = H2 at *
      walk_at "st"
      dsimp only
      have hfl := filI_len i fun j => decide (pay j < sumI n (f' j))
      rw [hsr]
      refine iteB (fun h => ?_) (fun h => ?_)
      · walk_at "st"
        refine ⟨small1000 (by rw [List.length_map]; omega), ?_, TabR.keep e2 nD⟩
        rw [upd_same, filI_succ, if_pos h, List.map_append]
        rfl
      · rw [filI_succ, if_neg (by rw [h]; exact Bool.false_ne_true), List.append_nil]
        exact ⟨hD2, e2⟩
    · rintro H' ⟨hD, e⟩
      rw [hlt] at hD
      exact q D H' e nD hD

def sp_missing (K : PySem.W.Frag) : Sp := fun vs H Q _ => ∃ (f g : Nat → Nat → Int) (t d : Addr) (ps qs : List Addr) (n : Nat), vs = [.ref t, .ref d] ∧ Tab H t ps n f ∧ Tab H d qs n g ∧ n ≤ 900 ∧
  ∀ r rs H', Same H H' → H r = none → TabR H' r rs n n (fun a b => f a b - g a b) → Q (.ref r) H'
set_option maxHeartbeats 0 in
theorem ok_missing (T : Txt K mg) : FnOk P w K mg base CX0 1 T.f_missing T.d_missing ["owed", "delivered"] (sp_missing K) := by
  refine T.F_missing.ok sc_missing (fun vs H Q E h => ?_) (fun cdv A outer s H vs Q E hr h => ?_)
  · obtain ⟨f, g, t, d, ps, qs, n, rfl, _⟩ := h
    rfl
  · obtain ⟨f', g, t, d, ps, qs, n, rfl, ht, hd, hn, q⟩ := h
    
    have hts := SqL.of (K := K) ht.lst
    have hds := SqL.of (K := K) hd.lst
    refine ⟨_, (pss_one (ps_ret (pe_lc (own := [("debts", 4), ("parts", 5)]) (tt := tYes) rfl sc_missing.nd (pi_zip (by rfl) T.z_zip (pa_cons (pv 0) (pa_cons (pv 1) pa_nil))) (blkOk_by (own := [("debts", 4), ("parts", 5)]) (N := N_missing) (sc := defScope s_missing) (by decide +kernel)) (fun _ _ _ _ _ => (show PG _ _ (gTup K 2 (gCons (gName 4) (gCons (gName 5) gNil))) from (pg_tup rfl (pgs_cons (pg_name (i := 4) sc_missing.nd rfl (Or.inl rfl)) (pgs_cons (pg_name (i := 5) sc_missing.nd rfl (Or.inl rfl)) pgs_nil))))) (fun _ _ _ _ _ => pts_nil) (fun _ _ _ _ _ => (pe_lc (own := [("debt", 2), ("got", 3)]) (tt := tYes) rfl sc_missing.nd (show PI _ _ _ (iZip K _) from pi_zip (by rfl) T.z_zip (pa_cons (pv 4) (pa_cons (pv 5) pa_nil))) (blkOk_by (own := [("debt", 2), ("got", 3)]) (N := N_missing) (by show blkC _ (relS _ (defScope s_missing)) _ _ = true; decide +kernel)) (fun _ _ _ _ _ => (show PG _ _ (gTup K 2 (gCons (gName 2) (gCons (gName 3) gNil))) from (pg_tup rfl (pgs_cons (pg_name (i := 2) sc_missing.nd rfl (Or.inl rfl)) (pgs_cons (pg_name (i := 3) sc_missing.nd rfl (Or.inl rfl)) pgs_nil))))) (fun _ _ _ _ _ => pts_nil) (fun _ _ _ _ _ => (pe_op op_sub (pv 2) (pv 3)))))))), ?_⟩
    walk_at "st"
    intro D nD
    refine lc_zip (K := K) (a := t) (b := d) (xs := ps.map V.ref) (ys := qs.map V.ref) (by rw [List.length_map, List.length_map, ht.len, hd.len]) (fun i H' => ∃ rs, TabR H' D rs i n (fun a b => f' a b - g a b) ∧ Same H H') ⟨[], .nil n _ upd_same, same_upd nD⟩ (fun i H' _ ⟨_, _, e⟩ => ⟨e.seq hts, e.seq hds⟩) ?_ ?_
    · rintro i x y H' T1 hx hy ⟨rs, hT, e⟩ nT
      obtain ⟨p, hp, rfl⟩ := refs_at hx
      obtain ⟨p2, hp2, rfl⟩ := refs_at hy
      have hi := (List.getElem?_eq_some_iff.mp hp).1
      rw [ht.len] at hi
      have s2 : Same H' (upd H' T1 (.tup [.ref p, .ref p2])) := same_upd nT
      have t2 : SqT K (upd H' T1 (.tup [.ref p, .ref p2])) T1 [.ref p, .ref p2] := SqT.of upd_same
      have e2 := e.trans s2
      have hTs : TabR (upd H' T1 (.tup [.ref p, .ref p2])) D rs i n (fun a b => f' a b - g a b) := hT.same s2
      have r1 := e2.seq (SqL.of (K := K) (ht.row i p hp))
      have r2 := e2.seq (SqL.of (K := K) (hd.row i p2 hp2))
      generalize upd H' T1 _ = H2 at *
      walk_at "st"
      intro E nE
      refine lc_zip (K := K) (a := p) (b := p2) (xs := (rowI n (f' i)).map V.int) (ys := (rowI n (g i)).map V.int) (by rw [List.length_map, List.length_map, rowI_len, rowI_len]) (fun j H' => H' E = some (.lst ((rowI j fun b => f' i b - g i b).map V.int)) ∧ Same H2 H') ⟨upd_same, same_upd nE⟩ (fun j H' _ ⟨_, e⟩ => ⟨e.seq r1, e.seq r2⟩) ?_ ?_
      · rintro j u v H3 T3 hu0 hv0 ⟨hE, e3⟩ nT3
        obtain ⟨u', hu, rfl⟩ := ints_at hu0
        obtain ⟨v', hv, rfl⟩ := ints_at hv0
        have hj := (List.getElem?_eq_some_iff.mp hu).1
        rw [rowI_len] at hj
        rw [rowI_at hj] at hu hv
        cases hu
        cases hv
        have s4 : Same H3 (upd H3 T3 (.tup [.int (f' i j), .int (g i j)])) := same_upd nT3
        have t4 : SqT K (upd H3 T3 (.tup [.int (f' i j), .int (g i j)])) T3 [.int (f' i j), .int (g i j)] := SqT.of upd_same
        have e4 := e3.trans s4
        have hE4 := s4 _ _ hE
        generalize upd H3 T3 _ = H4 at *
        walk_at "st"
        refine ⟨small1000 (by rw [List.length_map, rowI_len]; omega), ?_, TabR.keep e4 nE⟩
        rw [upd_same, rowI_succ, List.map_append]
        rfl
      · rintro H3 ⟨hE, e3⟩
        rw [List.length_map, rowI_len] at hE
        refine ⟨_, e3 _ _ hTs.lst, small1000 (by rw [List.length_map, hTs.len]; omega), rs ++ [E], hTs.push e3 nE hE, TabR.keep (e2.trans e3) nD⟩
    · rintro H' ⟨rs, hT, e⟩
      rw [List.length_map, ht.len] at hT
      exact q D rs H' e nD hT

/-- all but one object stay -/
def KeepX (x : Addr) (H H' : Hp) : Prop := ∀ z o, z ≠ x → H z = some o → H' z = some o
theorem KeepX.then {x : Addr} {H H1 H2 : Hp} (h : KeepX x H H1) (e : Same H1 H2) : KeepX x H H2 := fun z o nz hz => e z o (h z o nz hz)
theorem KeepX.set {x : Addr} {H H1 : Hp} {o : HO} (h : KeepX x H H1) : KeepX x H (upd H1 x o) := fun z o nz hz => by
  rw [upd_ne nz]
  exact h z o nz hz
theorem keepX_of {x : Addr} {H H' : Hp} (e : Same H H') : KeepX x H H' := fun z o _ hz => e z o hz
theorem KeepX.lst {x : Addr} {H H' : Hp} (k : KeepX x H H') {c d : Addr} {l : List (Str × V)} (hx : H x = some (.ins c d l)) {a : Addr} {xs : List V} (h : H a = some (.lst xs)) : H' a = some (.lst xs) := k a _ (fun z => by rw [z, hx] at h; cases h) h
theorem KeepX.tab {x : Addr} {H H' : Hp} (k : KeepX x H H') {c d : Addr} {l : List (Str × V)} (hx : H x = some (.ins c d l)) {t : Addr} {ps : List Addr} {n : Nat} {f : Nat → Nat → Int} (h : Tab H t ps n f) : Tab H' t ps n f :=
  ⟨k.lst hx h.lst, h.len, fun i p hp => k.lst hx (h.row i p hp), h.nod, h.out⟩
theorem KeepX.tabR {x : Addr} {H H' : Hp} (k : KeepX x H H') {c d : Addr} {l : List (Str × V)} (hx : H x = some (.ins c d l)) {t : Addr} {ps : List Addr} {m n : Nat} {f : Nat → Nat → Int} (h : TabR H t ps m n f) : TabR H' t ps m n f :=
  ⟨k.lst hx h.lst, h.len, fun i p hp => k.lst hx (h.row i p hp), h.nod, h.out⟩
def cashF (n : Nat) (f : Nat → Nat → Int) (cash y : Nat → Int) (i : Nat) : Int := cash i + incF n f y i - y i
def missF (n : Nat) (f : Nat → Nat → Int) (y : Nat → Int) (a b : Nat) : Int := f a b - recF n f y a b
def delO (C dx d m h : Addr) (price : Int) : HO := .ins C dx [("delivered", .ref d), ("missing", .ref m), ("held", .ref h), ("price", .int price)]
def sp_Delivery_init (K : PySem.W.Frag) (CT CA C : Addr) : Sp := fun vs H Q E => ∃ (_ : Unit) (price : Int) (x dx t ca : Addr) (ps : List Addr) (n : Nat) (fj : Nat → List Int) (xs : List Int), vs = [.ref x, .ref t, .ref ca, .int price] ∧ H x = some (.ins C dx []) ∧ JagR H t ps n fj ∧ n ≤ 900 ∧ (∀ i, i < n → (fj i).length ≤ 900) ∧ H ca = some (.lst (xs.map V.int)) ∧ xs.length ≤ 900 ∧ (¬ (0 ≤ price ∧ DebtsJ n fj) → ∀ H', Same H H' → E (.ref CT) none H') ∧ (0 ≤ price → DebtsJ n fj → ¬ HeldJ xs n → ∀ H', Same H H' → E (.ref CA) none H') ∧
  (0 ≤ price → DebtsJ n fj → HeldJ xs n → ∀ (_ : Unit) y d m h ds ms H', KeepX x H H' → BestP n (cellJ fj) (at0 xs) y → TabR H' d ds n n (recF n (cellJ fj) y) → TabR H' m ms n n (missF n (cellJ fj) y) → H' h = some (.lst ((rowI n (cashF n (cellJ fj) (at0 xs) y)).map V.int)) → H' x = some (delO C dx d m h price) → Q .non H')
set_option maxHeartbeats 0 in
theorem ok_Delivery_init (T : Txt K mg) : FnOk P w K mg base (L2.CX P w) 9 T.f_Delivery_init T.d_Delivery_init ["self", "owed", "held", "price"] (sp_Delivery_init K T.c_InvalidTrade T.c_InvalidAmount T.c_Delivery) := by
  refine T.F_Delivery_init.okX sc_Delivery_init (fun vs H Q E h => ?_) (fun cdv A outer s H vs Q E hr h => ?_)
  · obtain ⟨_, price, x, dx, t, ca, ps, n, fj, xs, rfl, _⟩ := h
    rfl
  · obtain ⟨_, price, x, dx, t, ca, ps, n, fj, xs, rfl, hx, htj, hm9, hl9, hca, hx9, qt, qa, q⟩ := h
    have G_clearing : FnOk P w K mg base (L2.CX P w) 8 T.f_clearing T.d_clearing ["owed", "cash"] (sp_clearing K T.c_InvalidTrade T.c_InvalidAmount) := ok_clearing T
    have G_receipts : FnOk P w K mg base CX0 3 T.f_receipts T.d_receipts ["owed", "pay"] (sp_receipts K) := ok_receipts T
    have G_missing : FnOk P w K mg base CX0 1 T.f_missing T.d_missing ["owed", "delivered"] (sp_missing K) := ok_missing T
    have G_cash_after : FnOk P w K mg base CX0 5 T.f_cash_after T.d_cash_after ["owed", "cash", "pay"] (sp_cash_after K) := ok_cash_after T
    have fact_Delivery_0 := T.cl_Delivery; have fact_Delivery_1 := T.na_Delivery_delivered; have fact_Delivery_2 := T.na_Delivery_missing; have fact_Delivery_3 := T.na_Delivery_held; have fact_Delivery_4 := T.na_Delivery_price
    have hcas := SqL.of (K := K) hca
    refine ⟨_, (pss_cons (ps_if (pt_cmpR op_lt (pv 3) pe_int (nomark _))
      (pss_one (ps_raise rfl (takes_of rfl rfl rfl rfl) (pmk_own PySem.F.excBase_ValueError T.x_InvalidTrade T.m_InvalidTrade T.k_InvalidTrade (raises_own T.b_InvalidTrade T.t_InvalidTrade) (by rfl))))
      pss_nil)
    (pss_cons (ps_set (i := 4) sc_Delivery_init.nd rfl (Or.inl rfl) (pe_callS G_clearing hr (by rfl) T.m_clearing T.F_clearing.kp T.b_clearing (fun σ => passAt (takes_of rfl rfl rfl rfl) σ) (pa_cons (pv 1) (pa_cons (pv 2) pa_nil))))
    (pss_cons (ps_fld (pv 0) (pe_call G_receipts (hr.mono (by decide)) (by rfl) T.m_receipts T.F_receipts.kp T.b_receipts .nil pass0 (pa_cons (pv 1) (pa_cons (pv 4) pa_nil))) rfl)
    (pss_cons (ps_fld (pv 0) (pe_call G_missing (hr.mono (by decide)) (by rfl) T.m_missing T.F_missing.kp T.b_missing .nil pass0 (pa_cons (pv 1) (pa_cons (pe_fld (pv 0) rfl) pa_nil))) rfl)
    (pss_cons (ps_fld (pv 0) (pe_call G_cash_after (hr.mono (by decide)) (by rfl) T.m_cash_after T.F_cash_after.kp T.b_cash_after .nil pass0 (pa_cons (pv 1) (pa_cons (pv 2) (pa_cons (pv 4) pa_nil)))) rfl)
    (pss_one (ps_fld (pv 0) (pv 3) rfl))))))), ?_⟩
    walk_at "st"
    refine iteB (fun h => ?_) (fun h => ?_)
    · have h1 := dec_t h
      exact qt (fun z => by omega) H (Same.refl H)
    have hpr : 0 ≤ price := by have := dec_f h; omega
    replace q := q hpr
    replace qa := qa hpr
    walk_at "st"
    refine ⟨(), t, ca, ps, n, fj, xs, rfl, htj, hm9, hl9, hcas, hx9, fun hv => qt fun z => hv z.2, qa, fun hv hh p y H1 e1 np hp hb => ?_⟩
    replace q := q hv hh
    have ht := htj.tab hv.len
    have hd := hv.debts
    have hn1 := hd.n1
    have hcr : H ca = some (.lst ((rowI n (at0 xs)).map V.int)) := by rw [hh.row]; exact hca
    replace hca := hcr
    have hc0 : ∀ i, 0 ≤ at0 xs i := fun i => (hh.lo i).1
    have hc1 : ∀ i, i < n → at0 xs i ≤ 100000000000000000 := fun i _ => (hh.lo i).2
    generalize at0 xs = cash at *
    generalize cellJ fj = f' at *
    have hx1 := e1 _ _ hx
    have npx : p ≠ x := fun z => by rw [z, hx] at np; cases np
    have ht1 := ht.same e1
    have hps1 := SqL.of (K := K) hp
    walk_at "st"
    refine ⟨f', y, t, p, ps, n, rfl, ht1, hd, hps1, hb.ok, fun r rs H2 e2 nr hr => ?_⟩
    have hx2 := e2 _ _ hx1
    refine ⟨_, rfl, setF hx2 T.cl_Delivery T.na_Delivery_delivered rfl ?_⟩
    have k3 : KeepX x H (upd H2 x (.ins T.c_Delivery dx (putF "delivered" (.ref r) []))) := (keepX_of (e1.trans e2)).set
    have hx3 : upd H2 x (.ins T.c_Delivery dx (putF "delivered" (.ref r) [])) x = some (.ins T.c_Delivery dx [("delivered", .ref r)]) := upd_same
    have k23 : KeepX x H2 (upd H2 x (.ins T.c_Delivery dx (putF "delivered" (.ref r) []))) := (keepX_of (Same.refl H2)).set
    have hr3 := k23.tabR hx2 hr
    generalize upd H2 x _ = H3 at *
    have ht3 := k3.tab hx ht
    walk_at "st"
    refine ⟨f', recF n f' y, t, r, ps, rs, n, rfl, ht3, hr3.tab, by omega, fun m ms H4 e4 nm hm => ?_⟩
    have hx4 := e4 _ _ hx3
    refine ⟨_, rfl, setF hx4 T.cl_Delivery T.na_Delivery_missing rfl ?_⟩
    have k5 : KeepX x H (upd H4 x (.ins T.c_Delivery dx (putF "missing" (.ref m) [("delivered", .ref r)]))) := (k3.then e4).set
    have hx5 : upd H4 x (.ins T.c_Delivery dx (putF "missing" (.ref m) [("delivered", .ref r)])) x = some (.ins T.c_Delivery dx [("delivered", .ref r), ("missing", .ref m)]) := upd_same
    have k45 : KeepX x H4 (upd H4 x (.ins T.c_Delivery dx (putF "missing" (.ref m) [("delivered", .ref r)]))) := (keepX_of (Same.refl H4)).set
    have hm5 := k45.tabR hx4 hm
    have hr5 := k45.tabR hx4 (hr3.same e4)
    have hp5 := k45.lst hx4 (e4 _ _ (k23.lst hx2 (e2 _ _ hp)))
    generalize upd H4 x _ = H5 at *
    have ht5 := k5.tab hx ht
    have hca5 := SqL.of (K := K) (k5.lst hx hca)
    have hps5 := SqL.of (K := K) hp5
    walk_at "st"
    refine ⟨f', cash, y, t, ca, p, ps, n, rfl, ht5, hd, hca5, hps5, hb.ok, fun h H6 e6 nh hh => ?_⟩
    have hx6 := e6 _ _ hx5
    refine ⟨_, rfl, setF hx6 T.cl_Delivery T.na_Delivery_held rfl ?_⟩
    have k7 : KeepX x H (upd H6 x (.ins T.c_Delivery dx (putF "held" (.ref h) [("delivered", .ref r), ("missing", .ref m)]))) := (k5.then e6).set
    have hx7 : upd H6 x (.ins T.c_Delivery dx (putF "held" (.ref h) [("delivered", .ref r), ("missing", .ref m)])) x = some (.ins T.c_Delivery dx [("delivered", .ref r), ("missing", .ref m), ("held", .ref h)]) := upd_same
    have k67 : KeepX x H6 (upd H6 x (.ins T.c_Delivery dx (putF "held" (.ref h) [("delivered", .ref r), ("missing", .ref m)]))) := (keepX_of (Same.refl H6)).set
    have hh7 := k67.lst hx6 hh
    have hr7 := k67.tabR hx6 (hr5.same e6)
    have hm7 := k67.tabR hx6 (hm5.same e6)
    generalize upd H6 x _ = H7 at *
    walk_at "st"
    have k78 : KeepX x H7 (upd H7 x (.ins T.c_Delivery dx (putF "price" (.int price) [("delivered", .ref r), ("missing", .ref m), ("held", .ref h)]))) := (keepX_of (Same.refl H7)).set
    exact q () y r m h rs ms _ k7.set hb (k78.tabR hx7 hr7) (k78.tabR hx7 hm7) (k78.lst hx7 hh7) upd_same

/-! ### a day: instruments, deliveries, the settlement -/
structure InsD where
  t : Addr
  ps : List Addr
  h : Addr
  f : Nat → Nat → Int
  g : Nat → Int
  p : Int
structure InsAt (H : Hp) (n : Nat) (a : Addr) (x : InsD) : Prop where
  tup : H a = some (.tup [.ref x.t, .ref x.h, .int x.p])
  tab : Tab H x.t x.ps n x.f
  held : H x.h = some (.lst ((rowI n x.g).map V.int))
theorem InsAt.same {H H' : Hp} {n : Nat} {a : Addr} {x : InsD} (h : InsAt H n a x) (e : Same H H') : InsAt H' n a x := ⟨e _ _ h.tup, h.tab.same e, e _ _ h.held⟩
structure InsOk (n : Nat) (x : InsD) : Prop where
  d : Debts n x.f 9
  c : ∀ i, 0 ≤ x.g i ∧ x.g i ≤ 100000
  p : 0 ≤ x.p ∧ x.p ≤ 99
structure InsL (H : Hp) (n : Nat) (l : Addr) (as : List Addr) (xs : List InsD) : Prop where
  lst : H l = some (.lst (as.map V.ref))
  len : as.length = xs.length
  row : ∀ (i : Nat) (a : Addr) (x : InsD), as[i]? = some a → xs[i]? = some x → InsAt H n a x
theorem InsL.same {H H' : Hp} {n : Nat} {l : Addr} {as : List Addr} {xs : List InsD} (h : InsL H n l as xs) (e : Same H H') : InsL H' n l as xs := ⟨e _ _ h.lst, h.len, fun i a x h1 h2 => (h.row i a x h1 h2).same e⟩
theorem InsL.item {H : Hp} {n : Nat} {l : Addr} {as : List Addr} {xs : List InsD} (h : InsL H n l as xs) {i : Nat} {v : V} (e : (as.map V.ref)[i]? = some v) : ∃ a x, as[i]? = some a ∧ xs[i]? = some x ∧ v = .ref a ∧ InsAt H n a x := by
  obtain ⟨a, ha, rfl⟩ := refs_at e
  have hi := (List.getElem?_eq_some_iff.mp ha).1
  rw [h.len] at hi
  exact ⟨a, xs[i], ha, List.getElem?_eq_getElem hi, rfl, h.row i a _ ha (List.getElem?_eq_getElem hi)⟩
/-- a delivery: where its parts stand, what was delivered -/
structure DelD where
  d : Addr
  ds : List Addr
  m : Addr
  ms : List Addr
  h : Addr
  y : Nat → Int
structure DelAt (C : Addr) (H : Hp) (n : Nat) (a : Addr) (x : InsD) (z : DelD) : Prop where
  obj : ∃ dx, H a = some (delO C dx z.d z.m z.h x.p)
  best : BestP n x.f x.g z.y
  del : TabR H z.d z.ds n n (recF n x.f z.y)
  mis : TabR H z.m z.ms n n (missF n x.f z.y)
theorem DelAt.same {C : Addr} {H H' : Hp} {n : Nat} {a : Addr} {x : InsD} {z : DelD} (h : DelAt C H n a x z) (e : Same H H') : DelAt C H' n a x z :=
  ⟨let ⟨dx, o⟩ := h.obj; ⟨dx, e _ _ o⟩, h.best, h.del.same e, h.mis.same e⟩
/-- the deliveries of the first instruments -/
structure DelL (C : Addr) (H : Hp) (n : Nat) (l : Addr) (as : List Addr) (xs : List InsD) (zs : List DelD) : Prop where
  lst : H l = some (.lst (as.map V.ref))
  len : as.length = zs.length
  row : ∀ (i : Nat) (a : Addr) (x : InsD) (z : DelD), as[i]? = some a → xs[i]? = some x → zs[i]? = some z → DelAt C H n a x z
theorem DelL.same {C : Addr} {H H' : Hp} {n : Nat} {l : Addr} {as : List Addr} {xs : List InsD} {zs : List DelD} (h : DelL C H n l as xs zs) (e : Same H H') : DelL C H' n l as xs zs :=
  ⟨e _ _ h.lst, h.len, fun i a x z h1 h2 h3 => (h.row i a x z h1 h2 h3).same e⟩
/-- the debts with what is missing of an instrument -/
def addM (n : Nat) (f : Nat → Nat → Int) (x : InsD) (y : Nat → Int) (a b : Nat) : Int := f a b + missF n x.f y a b * x.p
def addAll (n : Nat) (f : Nat → Nat → Int) : List (InsD × (Nat → Int)) → Nat → Nat → Int
  | [] => f
  | q :: r => addAll n (addM n f q.1 q.2) r
theorem addAll_snoc (n : Nat) : ∀ (r : List (InsD × (Nat → Int))) (f : Nat → Nat → Int) (q : InsD × (Nat → Int)), addAll n f (r ++ [q]) = addM n (addAll n f r) q.1 q.2
  | [], _, _ => rfl
  | p :: r, f, q => addAll_snoc n r (addM n f p.1 p.2) q
/-- the pairs of the first i instruments with their deliveries -/
def pairsD (xs : List InsD) (zs : List DelD) : List (InsD × (Nat → Int)) := xs.zip (zs.map (·.y))
theorem missF_b {n : Nat} {f : Nat → Nat → Int} {m : Int} {y : Nat → Int} (hd : Debts n f m) (hm : m ≤ 1000000000000000) (hy : PayOk n f y) {a b : Nat} (ha : a < n) (hb : b < n) : 0 ≤ missF n f y a b ∧ missF n f y a b ≤ m := by
  have h1 := recF_b hd hy ha hb
  have h2 := hd.b a ha b hb
  unfold missF
  omega
theorem addM_debts {n : Nat} {f : Nat → Nat → Int} {x : InsD} {y : Nat → Int} {m : Int} (hf : Debts n f m) (hx : InsOk n x) (hy : PayOk n x.f y) : Debts n (addM n f x y) (m + 891) := by
  refine ⟨hf.n0, hf.n1, fun i hi j hj => ?_, fun i hi => ?_⟩
  · have h1 := hf.b i hi j hj
    have h2 := missF_b hx.d (by decide) hy hi hj
    have h3 := hx.p
    have h4 : 0 ≤ missF n x.f y i j * x.p := Int.mul_nonneg h2.1 h3.1
    have h5 : missF n x.f y i j * x.p ≤ 9 * 99 := Int.mul_le_mul h2.2 h3.2 h3.1 (by decide)
    unfold addM
    omega
  · have h1 := hf.d i hi
    have h2 := recF_b hx.d hy hi hi
    have h3 := hx.d.d i hi
    have h4 : missF n x.f y i i = 0 := by
      unfold missF
      omega
    unfold addM
    rw [h4, h1]
    omega
theorem addAll_debts {n : Nat} {m : Int} : ∀ {r : List (InsD × (Nat → Int))} {f : Nat → Nat → Int}, Debts n f m → (∀ q, q ∈ r → InsOk n q.1 ∧ PayOk n q.1.f q.2) → Debts n (addAll n f r) (m + 891 * r.length)
  | [], _, h, _ => by
    show Debts n _ (m + 891 * ((0 : Nat) : Int))
    rw [show m + 891 * ((0 : Nat) : Int) = m by omega]
    exact h
  | q :: r, f, h, hq => by
    obtain ⟨h1, h2⟩ := hq q List.mem_cons_self
    have := addAll_debts (r := r) (addM_debts h h1 h2) fun z hz => hq z (List.mem_cons_of_mem _ hz)
    show Debts n (addAll n (addM n f q.1 q.2) r) _
    rw [show m + 891 * (((q :: r).length : Nat) : Int) = m + 891 + 891 * ((r.length : Nat) : Int) by rw [List.length_cons]; omega]
    exact this
def setO (C dx ds ow py pd cs fl : Addr) : HO := .ins C dx [("deliveries", .ref ds), ("owed", .ref ow), ("pay", .ref py), ("paid", .ref pd), ("cash", .ref cs), ("fallen", .ref fl)]
/-- what a settlement of these debts with this cash is -/
structure SetAt (C : Addr) (H : Hp) (n : Nat) (x : Addr) (f : Nat → Nat → Int) (cash : Nat → Int) (vs : List V) (dx ds ow py pd cs fl : Addr) (ows pds : List Addr) (y : Nat → Int) : Prop where
  obj : H x = some (setO C dx ds ow py pd cs fl)
  best : BestP n f cash y
  ds : H ds = some (.lst vs)
  ow : Tab H ow ows n f
  py : H py = some (.lst ((rowI n y).map V.int))
  pd : TabR H pd pds n n (recF n f y)
  cs : H cs = some (.lst ((rowI n (cashF n f cash y)).map V.int))
  fl : H fl = some (.lst ((filI n fun i => decide (y i < sumI n (f i))).map V.int))
theorem SetAt.same {C : Addr} {H H' : Hp} {n : Nat} {x : Addr} {f : Nat → Nat → Int} {cash : Nat → Int} {vs : List V} {dx ds ow py pd cs fl : Addr} {ows pds : List Addr} {y : Nat → Int} (h : SetAt C H n x f cash vs dx ds ow py pd cs fl ows pds y) (e : Same H H') : SetAt C H' n x f cash vs dx ds ow py pd cs fl ows pds y :=
  ⟨e _ _ h.obj, h.best, e _ _ h.ds, h.ow.same e, e _ _ h.py, h.pd.same e, e _ _ h.cs, e _ _ h.fl⟩
def sp_Settlement_init (K : PySem.W.Frag) (CT CA C : Addr) : Sp := fun vs H Q E => ∃ (_ : Unit) (ws : List V) (x dx dl t ca : Addr) (ps : List Addr) (n : Nat) (fj : Nat → List Int) (xs : List Int), vs = [.ref x, .ref dl, .ref t, .ref ca] ∧ H x = some (.ins C dx []) ∧ H dl = some (.lst ws) ∧ JagR H t ps n fj ∧ n ≤ 900 ∧ (∀ i, i < n → (fj i).length ≤ 900) ∧ H ca = some (.lst (xs.map V.int)) ∧ xs.length ≤ 900 ∧ (¬ DebtsJ n fj → ∀ H', KeepX x H H' → E (.ref CT) none H') ∧ (DebtsJ n fj → ¬ HeldJ xs n → ∀ H', KeepX x H H' → E (.ref CA) none H') ∧
  (DebtsJ n fj → HeldJ xs n → ∀ (_ : Unit) H' ds ow py pd cs fl ows pds y, KeepX x H H' → SetAt C H' n x (cellJ fj) (at0 xs) ws dx ds ow py pd cs fl ows pds y → Q .non H')
theorem KeepX.jag {x : Addr} {H H' : Hp} (k : KeepX x H H') {c d : Addr} {l : List (Str × V)} (hx : H x = some (.ins c d l)) {t : Addr} {ps : List Addr} {n : Nat} {f : Nat → List Int} (h : JagR H t ps n f) : JagR H' t ps n f :=
  ⟨k.lst hx h.lst, h.len, fun i p hp => k.lst hx (h.row i p hp), h.nod, h.out⟩
set_option maxHeartbeats 0 in
theorem ok_Settlement_init (T : Txt K mg) : FnOk P w K mg base (L2.CX P w) 9 T.f_Settlement_init T.d_Settlement_init ["self", "deliveries", "owed", "cash"] (sp_Settlement_init K T.c_InvalidTrade T.c_InvalidAmount T.c_Settlement) := by
  refine T.F_Settlement_init.okX sc_Settlement_init (fun vs H Q E h => ?_) (fun cdv A outer s H vs Q E hr h => ?_)
  · obtain ⟨_, ws, x, dx, dl, t, ca, ps, n, fj, xs, rfl, _⟩ := h
    rfl
  · obtain ⟨_, ws, x, dx, dl, t, ca, ps, n, fj, xs, rfl, hx, hdl, htj, hm9, hl9, hca, hx9, qt, qa, q⟩ := h
    have G_clearing : FnOk P w K mg base (L2.CX P w) 8 T.f_clearing T.d_clearing ["owed", "cash"] (sp_clearing K T.c_InvalidTrade T.c_InvalidAmount) := ok_clearing T
    have G_receipts : FnOk P w K mg base CX0 3 T.f_receipts T.d_receipts ["owed", "pay"] (sp_receipts K) := ok_receipts T
    have G_cash_after : FnOk P w K mg base CX0 5 T.f_cash_after T.d_cash_after ["owed", "cash", "pay"] (sp_cash_after K) := ok_cash_after T
    have G_fallen : FnOk P w K mg base CX0 1 T.f_fallen T.d_fallen ["owed", "pay"] (sp_fallen K) := ok_fallen T
    have fact_Settlement_0 := T.cl_Settlement; have fact_Settlement_1 := T.na_Settlement_deliveries; have fact_Settlement_2 := T.na_Settlement_owed; have fact_Settlement_3 := T.na_Settlement_pay; have fact_Settlement_4 := T.na_Settlement_paid; have fact_Settlement_5 := T.na_Settlement_cash; have fact_Settlement_6 := T.na_Settlement_fallen
    have hdls := SqL.of (K := K) hdl
    refine ⟨_, (pss_cons (ps_fld (pv 0) (pe_callTy call_list_of (by rfl) T.z_list (by decide +kernel) (pa_cons (pv 1) pa_nil)) rfl)
    (pss_cons (ps_fld (pv 0) (pe_lc (own := [("debts", 4)]) (g := gName 4) (tt := tYes) rfl sc_Settlement_init.nd (pi_list (pv 2)) (blkOk_by (own := [("debts", 4)]) (N := N_Settlement_init) (sc := defScope s_Settlement_init) (by decide +kernel)) (fun _ _ _ _ _ => (pg_name (i := 4) sc_Settlement_init.nd rfl (Or.inl rfl))) (fun _ _ _ _ _ => pts_nil) (fun _ _ _ _ _ => (pe_callTy (show CallR _ (.type "list") (rListOf K) from call_list_of) (by rfl) T.z_list (by decide +kernel) (pa_cons (pv 4) pa_nil)))) rfl)
    (pss_cons (ps_fld (pv 0) (pe_callS G_clearing hr (by rfl) T.m_clearing T.F_clearing.kp T.b_clearing (fun σ => passAt (takes_of rfl rfl rfl rfl) σ) (pa_cons (pv 2) (pa_cons (pv 3) pa_nil))) rfl)
    (pss_cons (ps_fld (pv 0) (pe_call G_receipts (hr.mono (by decide)) (by rfl) T.m_receipts T.F_receipts.kp T.b_receipts .nil pass0 (pa_cons (pv 2) (pa_cons (pe_fld (pv 0) rfl) pa_nil))) rfl)
    (pss_cons (ps_fld (pv 0) (pe_call G_cash_after (hr.mono (by decide)) (by rfl) T.m_cash_after T.F_cash_after.kp T.b_cash_after .nil pass0 (pa_cons (pv 2) (pa_cons (pv 3) (pa_cons (pe_fld (pv 0) rfl) pa_nil)))) rfl)
    (pss_one (ps_fld (pv 0) (pe_call G_fallen (hr.mono (by decide)) (by rfl) T.m_fallen T.F_fallen.kp T.b_fallen .nil pass0 (pa_cons (pv 2) (pa_cons (pe_fld (pv 0) rfl) pa_nil))) rfl))))))), ?_⟩
    walk_at "st"
    intro a1 n1
    have s1 := same_upd (o := .lst ws) n1
    have h1 := upd_same (H := H) (a := a1) (o := .lst ws)
    generalize upd H a1 (.lst ws) = H1 at *
    have hx1 := s1 _ _ hx
    refine ⟨_, rfl, setF hx1 T.cl_Settlement T.na_Settlement_deliveries rfl ?_⟩
    have kH2 : KeepX x H (upd H1 x (.ins T.c_Settlement dx (putF "deliveries" (.ref a1) []))) := (keepX_of s1).set
    have hxH2 : upd H1 x (.ins T.c_Settlement dx (putF "deliveries" (.ref a1) [])) x = some (.ins T.c_Settlement dx [("deliveries", .ref a1)]) := upd_same
    have kkH2 : KeepX x H1 (upd H1 x (.ins T.c_Settlement dx (putF "deliveries" (.ref a1) []))) := (keepX_of (Same.refl H1)).set
    have b1 := kkH2.lst hx1 h1
    generalize upd H1 x (.ins T.c_Settlement dx (putF "deliveries" (.ref a1) [])) = H2 at *
    have ht2 := kH2.jag hx htj
    have hts2 := SqL.of (K := K) ht2.lst
    walk_at "st"
    intro a2 n2
    refine lc_copyJ ht2 hm9 n2 rfl fun H3 qs e3 hT3 _ => ?_
    have hx3 := e3 _ _ hxH2
    refine ⟨_, rfl, setF hx3 T.cl_Settlement T.na_Settlement_owed rfl ?_⟩
    have kH4 : KeepX x H (upd H3 x (.ins T.c_Settlement dx (putF "owed" (.ref a2) [("deliveries", .ref a1)]))) := (kH2.then e3).set
    have hxH4 : upd H3 x (.ins T.c_Settlement dx (putF "owed" (.ref a2) [("deliveries", .ref a1)])) x = some (.ins T.c_Settlement dx [("deliveries", .ref a1), ("owed", .ref a2)]) := upd_same
    have kkH4 : KeepX x H3 (upd H3 x (.ins T.c_Settlement dx (putF "owed" (.ref a2) [("deliveries", .ref a1)]))) := (keepX_of (Same.refl H3)).set
    have c1 := kkH4.lst hx3 (e3 _ _ b1)
    have c2 := kkH4.jag hx3 hT3
    generalize upd H3 x (.ins T.c_Settlement dx (putF "owed" (.ref a2) [("deliveries", .ref a1)])) = H4 at *
    have ht4 := kH4.jag hx htj
    have hca4 := SqL.of (K := K) (kH4.lst hx hca)
    walk_at "st"
    refine ⟨(), t, ca, ps, n, fj, xs, rfl, ht4, hm9, hl9, hca4, hx9, fun hv H5 e5 => qt hv H5 (kH4.then e5), fun hv hh H5 e5 => qa hv hh H5 (kH4.then e5), fun hv hh a3 y H5 e5 n3 hp hb => ?_⟩
    replace q := q hv hh
    have ht := htj.tab hv.len
    have hd := hv.debts
    have hn1 := hd.n1
    have hcr : H ca = some (.lst ((rowI n (at0 xs)).map V.int)) := by rw [hh.row]; exact hca
    replace hca := hcr
    have c2' := c2.tab hv.len
    clear c2
    have c2 := c2'
    generalize at0 xs = cash at *
    generalize cellJ fj = f' at *
    have hx5 := e5 _ _ hxH4
    refine ⟨_, rfl, setF hx5 T.cl_Settlement T.na_Settlement_pay rfl ?_⟩
    have kH6 : KeepX x H (upd H5 x (.ins T.c_Settlement dx (putF "pay" (.ref a3) [("deliveries", .ref a1), ("owed", .ref a2)]))) := (kH4.then e5).set
    have hxH6 : upd H5 x (.ins T.c_Settlement dx (putF "pay" (.ref a3) [("deliveries", .ref a1), ("owed", .ref a2)])) x = some (.ins T.c_Settlement dx [("deliveries", .ref a1), ("owed", .ref a2), ("pay", .ref a3)]) := upd_same
    have kkH6 : KeepX x H5 (upd H5 x (.ins T.c_Settlement dx (putF "pay" (.ref a3) [("deliveries", .ref a1), ("owed", .ref a2)]))) := (keepX_of (Same.refl H5)).set
    have d1 := kkH6.lst hx5 (e5 _ _ c1)
    have d2 := kkH6.tab hx5 (c2.same e5)
    have d3 := kkH6.lst hx5 hp
    generalize upd H5 x (.ins T.c_Settlement dx (putF "pay" (.ref a3) [("deliveries", .ref a1), ("owed", .ref a2)])) = H6 at *
    have ht6 := kH6.tab hx ht
    have hca6 := SqL.of (K := K) (kH6.lst hx hca)
    have d3s := SqL.of (K := K) d3
    walk_at "st"
    refine ⟨f', y, t, a3, ps, n, rfl, ht6, hd, d3s, hb.ok, fun a4 rs H7 e7 n4 hr => ?_⟩
    have hx7 := e7 _ _ hxH6
    refine ⟨_, rfl, setF hx7 T.cl_Settlement T.na_Settlement_paid rfl ?_⟩
    have kH8 : KeepX x H (upd H7 x (.ins T.c_Settlement dx (putF "paid" (.ref a4) [("deliveries", .ref a1), ("owed", .ref a2), ("pay", .ref a3)]))) := (kH6.then e7).set
    have hxH8 : upd H7 x (.ins T.c_Settlement dx (putF "paid" (.ref a4) [("deliveries", .ref a1), ("owed", .ref a2), ("pay", .ref a3)])) x = some (.ins T.c_Settlement dx [("deliveries", .ref a1), ("owed", .ref a2), ("pay", .ref a3), ("paid", .ref a4)]) := upd_same
    have kkH8 : KeepX x H7 (upd H7 x (.ins T.c_Settlement dx (putF "paid" (.ref a4) [("deliveries", .ref a1), ("owed", .ref a2), ("pay", .ref a3)]))) := (keepX_of (Same.refl H7)).set
    have g1 := kkH8.lst hx7 (e7 _ _ d1)
    have g2 := kkH8.tab hx7 (d2.same e7)
    have g3 := kkH8.lst hx7 (e7 _ _ d3)
    have g4 := kkH8.tabR hx7 hr
    generalize upd H7 x (.ins T.c_Settlement dx (putF "paid" (.ref a4) [("deliveries", .ref a1), ("owed", .ref a2), ("pay", .ref a3)])) = H8 at *
    have ht8 := kH8.tab hx ht
    have hca8 := SqL.of (K := K) (kH8.lst hx hca)
    have g3s := SqL.of (K := K) g3
    walk_at "st"
    refine ⟨f', cash, y, t, ca, a3, ps, n, rfl, ht8, hd, hca8, g3s, hb.ok, fun a5 H9 e9 n5 hh => ?_⟩
    have hx9 := e9 _ _ hxH8
    refine ⟨_, rfl, setF hx9 T.cl_Settlement T.na_Settlement_cash rfl ?_⟩
    have kH10 : KeepX x H (upd H9 x (.ins T.c_Settlement dx (putF "cash" (.ref a5) [("deliveries", .ref a1), ("owed", .ref a2), ("pay", .ref a3), ("paid", .ref a4)]))) := (kH8.then e9).set
    have hxH10 : upd H9 x (.ins T.c_Settlement dx (putF "cash" (.ref a5) [("deliveries", .ref a1), ("owed", .ref a2), ("pay", .ref a3), ("paid", .ref a4)])) x = some (.ins T.c_Settlement dx [("deliveries", .ref a1), ("owed", .ref a2), ("pay", .ref a3), ("paid", .ref a4), ("cash", .ref a5)]) := upd_same
    have kkH10 : KeepX x H9 (upd H9 x (.ins T.c_Settlement dx (putF "cash" (.ref a5) [("deliveries", .ref a1), ("owed", .ref a2), ("pay", .ref a3), ("paid", .ref a4)]))) := (keepX_of (Same.refl H9)).set
    have i1 := kkH10.lst hx9 (e9 _ _ g1)
    have i2 := kkH10.tab hx9 (g2.same e9)
    have i3 := kkH10.lst hx9 (e9 _ _ g3)
    have i4 := kkH10.tabR hx9 (g4.same e9)
    have i5 := kkH10.lst hx9 hh
    generalize upd H9 x (.ins T.c_Settlement dx (putF "cash" (.ref a5) [("deliveries", .ref a1), ("owed", .ref a2), ("pay", .ref a3), ("paid", .ref a4)])) = H10 at *
    have ht10 := kH10.tab hx ht
    have i3s := SqL.of (K := K) i3
    walk_at "st"
    refine ⟨f', y, t, a3, ps, n, rfl, ht10, by omega, i3s, fun a6 H11 e11 n6 hf => ?_⟩
    have hx11 := e11 _ _ hxH10
    refine ⟨_, rfl, setF hx11 T.cl_Settlement T.na_Settlement_fallen rfl ?_⟩
    have kH12 : KeepX x H (upd H11 x (.ins T.c_Settlement dx (putF "fallen" (.ref a6) [("deliveries", .ref a1), ("owed", .ref a2), ("pay", .ref a3), ("paid", .ref a4), ("cash", .ref a5)]))) := (kH10.then e11).set
    have hxH12 : upd H11 x (.ins T.c_Settlement dx (putF "fallen" (.ref a6) [("deliveries", .ref a1), ("owed", .ref a2), ("pay", .ref a3), ("paid", .ref a4), ("cash", .ref a5)])) x = some (.ins T.c_Settlement dx [("deliveries", .ref a1), ("owed", .ref a2), ("pay", .ref a3), ("paid", .ref a4), ("cash", .ref a5), ("fallen", .ref a6)]) := upd_same
    have kkH12 : KeepX x H11 (upd H11 x (.ins T.c_Settlement dx (putF "fallen" (.ref a6) [("deliveries", .ref a1), ("owed", .ref a2), ("pay", .ref a3), ("paid", .ref a4), ("cash", .ref a5)]))) := (keepX_of (Same.refl H11)).set
    have j1 := kkH12.lst hx11 (e11 _ _ i1)
    have j2 := kkH12.tab hx11 (i2.same e11)
    have j3 := kkH12.lst hx11 (e11 _ _ i3)
    have j4 := kkH12.tabR hx11 (i4.same e11)
    have j5 := kkH12.lst hx11 (e11 _ _ i5)
    have j6 := kkH12.lst hx11 hf
    generalize upd H11 x (.ins T.c_Settlement dx (putF "fallen" (.ref a6) [("deliveries", .ref a1), ("owed", .ref a2), ("pay", .ref a3), ("paid", .ref a4), ("cash", .ref a5)])) = H12 at *
    exact q () H12 a1 a2 a3 a4 a5 a6 qs rs y kH12 ⟨hxH12, hb, j1, j2, j3, j4, j5, j6⟩

def sp_with_missing (K : PySem.W.Frag) (C : Addr) : Sp := fun vs H Q _ => ∃ (f g : Nat → Nat → Int) (pr : Int) (t x dx d m h : Addr) (ps ms : List Addr) (n : Nat), vs = [.ref t, .ref x] ∧ Tab H t ps n f ∧ H x = some (delO C dx d m h pr) ∧ Tab H m ms n g ∧ n ≤ 900 ∧ (∀ a, a < n → ∀ b, b < n → -(2 ^ 60) ≤ g a b ∧ g a b ≤ 2 ^ 60) ∧
  ∀ r rs H', Same H H' → H r = none → Tab H' r rs n (fun a b => f a b + g a b * pr) → Q (.ref r) H'
set_option maxHeartbeats 0 in
theorem ok_with_missing (T : Txt K mg) : FnOk P w K mg base CX0 1 T.f_with_missing T.d_with_missing ["owed", "delivery"] (sp_with_missing K T.c_Delivery) := by
  refine T.F_with_missing.ok sc_with_missing (fun vs H Q E h => ?_) (fun cdv A outer s H vs Q E hr h => ?_)
  · obtain ⟨f, g, pr, t, x, dx, d, m, h, ps, ms, n, rfl, _⟩ := h
    rfl
  · obtain ⟨f', g, pr, t, x, dx, d, m, h, ps, ms, n, rfl, ht, hx, hm, hn, hgb, q⟩ := h
    
    have fact_Delivery_0 := T.cl_Delivery; have fact_Delivery_1 := T.na_Delivery_delivered; have fact_Delivery_2 := T.na_Delivery_missing; have fact_Delivery_3 := T.na_Delivery_held; have fact_Delivery_4 := T.na_Delivery_price
    have hts := SqL.of (K := K) ht.lst
    have hms := SqL.of (K := K) hm.lst
    have hx2 : H x = some (.ins T.c_Delivery dx [("delivered", .ref d), ("missing", .ref m), ("held", .ref h), ("price", .int pr)]) := hx
    refine ⟨_, (pss_cons (ps_setLc (i := 2) (own := [("row", 4)]) (g := gName 4) (tt := tYes) rfl sc_with_missing.nd rfl rfl (sw_true rfl rfl rfl (by decide +kernel)) (pi_list (pe_fld (pv 1) rfl)) (blkOk_by (own := [("row", 4)]) (N := N_with_missing) (sc := defScope s_with_missing) (by decide +kernel)) (fun _ _ _ _ _ => (pg_name (i := 4) sc_with_missing.nd rfl (Or.inl rfl))) (fun _ _ _ _ _ => pts_nil) (fun _ _ _ _ _ => (pe_lc (own := [("units", 3)]) (g := gName 3) (tt := tYes) rfl sc_with_missing.nd (show PI _ _ _ (iList K _) from pi_list (pv 4)) (blkOk_by (own := [("units", 3)]) (N := N_with_missing) (by show blkC _ (relS _ (defScope s_with_missing)) _ _ = true; decide +kernel)) (fun _ _ _ _ _ => (pg_name (i := 3) sc_with_missing.nd rfl (Or.inl rfl))) (fun _ _ _ _ _ => pts_nil) (fun _ _ _ _ _ => (pe_op op_mul (pv 3) (show PE _ (Expr.Attribute _ "price" _) (tFld K _ "price") from pe_fld (pv 1) rfl))))))
    (pss_one (ps_ret (pe_lc (own := [("debts", 7), ("row", 4)]) (tt := tYes) rfl sc_with_missing.nd (pi_zip (by rfl) T.z_zip (pa_cons (pv 0) (pa_cons (pv 2) pa_nil))) (blkOk_by (own := [("debts", 7), ("row", 4)]) (N := N_with_missing) (sc := defScope s_with_missing) (by decide +kernel)) (fun _ _ _ _ _ => (show PG _ _ (gTup K 2 (gCons (gName 7) (gCons (gName 4) gNil))) from (pg_tup rfl (pgs_cons (pg_name (i := 7) sc_with_missing.nd rfl (Or.inl rfl)) (pgs_cons (pg_name (i := 4) sc_with_missing.nd rfl (Or.inl rfl)) pgs_nil))))) (fun _ _ _ _ _ => pts_nil) (fun _ _ _ _ _ => (pe_lc (own := [("debt", 5), ("cents", 6)]) (tt := tYes) rfl sc_with_missing.nd (show PI _ _ _ (iZip K _) from pi_zip (by rfl) T.z_zip (pa_cons (pv 7) (pa_cons (pv 4) pa_nil))) (blkOk_by (own := [("debt", 5), ("cents", 6)]) (N := N_with_missing) (by show blkC _ (relS _ (defScope s_with_missing)) _ _ = true; decide +kernel)) (fun _ _ _ _ _ => (show PG _ _ (gTup K 2 (gCons (gName 5) (gCons (gName 6) gNil))) from (pg_tup rfl (pgs_cons (pg_name (i := 5) sc_with_missing.nd rfl (Or.inl rfl)) (pgs_cons (pg_name (i := 6) sc_with_missing.nd rfl (Or.inl rfl)) pgs_nil))))) (fun _ _ _ _ _ => pts_nil) (fun _ _ _ _ _ => (pe_op op_add (pv 5) (pv 6))))))))), ?_⟩
    walk_at "st"
    intro D nD
    refine lc_list (K := K) (a := m) (xs := ms.map V.ref) (fun i H' => ∃ rs, TabR H' D rs i n (fun a b => g a b * pr) ∧ Same H H') ⟨[], .nil n _ upd_same, same_upd nD⟩ (fun i H' _ ⟨_, _, e⟩ => e.seq hms) ?_ ?_
    · rintro i v H2 hv ⟨rs, hT, e2⟩
      obtain ⟨p, hp, rfl⟩ := refs_at hv
      have hi := (List.getElem?_eq_some_iff.mp hp).1
      rw [hm.len] at hi
      have hrow := e2.seq (SqL.of (K := K) (hm.row i p hp))
      have hxx := e2 _ _ hx2
      refine ⟨rfl, ?_⟩
      walk_at "st"
      intro E nE
      refine lc_list (K := K) (a := p) (xs := (rowI n (g i)).map V.int) (fun j H' => H' E = some (.lst ((rowI j fun b => g i b * pr).map V.int)) ∧ Same H2 H') ⟨upd_same, same_upd nE⟩ (fun j H' _ ⟨_, e⟩ => e.seq hrow) ?_ ?_
      · rintro j u H3 hu ⟨hE, e3⟩
        obtain ⟨z, hz, rfl⟩ := ints_at hu
        have hj := (List.getElem?_eq_some_iff.mp hz).1
        rw [rowI_len] at hj
        rw [rowI_at hj] at hz
        cases hz
        have hxx3 := e3 _ _ hxx
        have hg2 := hgb i hi j hj
        refine ⟨rfl, ?_⟩
        walk_at "st"
        refine ⟨small1000 (by rw [List.length_map, rowI_len]; omega), ?_, TabR.keep e3 nE⟩
        rw [upd_same, rowI_succ, List.map_append]
        rfl
      · rintro H3 ⟨hE, e3⟩
        rw [List.length_map, rowI_len] at hE
        refine ⟨_, e3 _ _ hT.lst, small1000 (by rw [List.length_map, hT.len]; omega), rs ++ [E], hT.push e3 nE hE, TabR.keep (e2.trans e3) nD⟩
    · rintro H2 ⟨rs, hT, e2⟩
      rw [List.length_map, hm.len] at hT
      have hD := hT.tab
      have ht2 := ht.same e2
      have hts2 := SqL.of (K := K) ht2.lst
      have hDs := SqL.of (K := K) hD.lst
      walk_at "st"
      intro D2 nD2
      refine lc_zip (K := K) (a := t) (b := D) (xs := ps.map V.ref) (ys := rs.map V.ref) (by rw [List.length_map, List.length_map, ht.len, hD.len]) (fun i H' => ∃ rs, TabR H' D2 rs i n (fun a b => f' a b + g a b * pr) ∧ Same H2 H') ⟨[], .nil n _ upd_same, same_upd nD2⟩ (fun i H' _ ⟨_, _, e⟩ => ⟨e.seq hts2, e.seq hDs⟩) ?_ ?_
      · rintro i x y H' T1 hx hy ⟨rs2, hT2, e⟩ nT
        obtain ⟨p, hp, rfl⟩ := refs_at hx
        obtain ⟨p2, hp2, rfl⟩ := refs_at hy
        have hi := (List.getElem?_eq_some_iff.mp hp).1
        rw [ht.len] at hi
        have s2 : Same H' (upd H' T1 (.tup [.ref p, .ref p2])) := same_upd nT
        have t2 : SqT K (upd H' T1 (.tup [.ref p, .ref p2])) T1 [.ref p, .ref p2] := SqT.of upd_same
        have e3 := e.trans s2
        have hTs := hT2.same s2
        have r1 := e3.seq (SqL.of (K := K) (ht2.row i p hp))
        have r2 := e3.seq (SqL.of (K := K) (hD.row i p2 hp2))
        generalize upd H' T1 _ = H3 at *
        walk_at "st"
        intro E nE
        refine lc_zip (K := K) (a := p) (b := p2) (xs := (rowI n (f' i)).map V.int) (ys := (rowI n fun b => g i b * pr).map V.int) (by rw [List.length_map, List.length_map, rowI_len, rowI_len]) (fun j H' => H' E = some (.lst ((rowI j fun b => f' i b + g i b * pr).map V.int)) ∧ Same H3 H') ⟨upd_same, same_upd nE⟩ (fun j H' _ ⟨_, e⟩ => ⟨e.seq r1, e.seq r2⟩) ?_ ?_
        · rintro j u v H4 T3 hu0 hv0 ⟨hE, e4⟩ nT3
          obtain ⟨u', hu, rfl⟩ := ints_at hu0
          obtain ⟨v', hv, rfl⟩ := ints_at hv0
          have hj := (List.getElem?_eq_some_iff.mp hu).1
          rw [rowI_len] at hj
          rw [rowI_at hj] at hu hv
          cases hu
          cases hv
          have s4 : Same H4 (upd H4 T3 (.tup [.int (f' i j), .int (g i j * pr)])) := same_upd nT3
          have t4 : SqT K (upd H4 T3 (.tup [.int (f' i j), .int (g i j * pr)])) T3 [.int (f' i j), .int (g i j * pr)] := SqT.of upd_same
          have e5 := e4.trans s4
          have hE4 := s4 _ _ hE
          generalize upd H4 T3 _ = H5 at *
          walk_at "st"
          refine ⟨small1000 (by rw [List.length_map, rowI_len]; omega), ?_, TabR.keep e5 nE⟩
          rw [upd_same, rowI_succ, List.map_append]
          rfl
        · rintro H4 ⟨hE, e4⟩
          rw [List.length_map, rowI_len] at hE
          refine ⟨_, e4 _ _ hTs.lst, small1000 (by rw [List.length_map, hTs.len]; omega), rs2 ++ [E], hTs.push e4 nE hE, TabR.keep (e3.trans e4) nD2⟩
      · rintro H' ⟨rs2, hT2, e⟩
        rw [List.length_map, ht.len] at hT2
        exact q D2 rs2 H' (e2.trans e) (e2.free nD2) hT2.tab

theorem same_new {x : Addr} {H H1 H2 : Hp} (nx : H x = none) (sx : Same H H1) (kx : KeepX x H1 H2) : Same H H2 := fun z o hz => kx z o (fun e => by rw [e, nx] at hz; cases hz) (sx z o hz)
/-! ### all but one list -/
def rem (H : Hp) (a : Addr) : Hp := fun z => if z = a then none else H z
theorem rem_same {H : Hp} {a : Addr} : Same (rem H a) H := fun z o h => by
  unfold rem at h
  split at h
  · cases h
  · exact h
theorem rem_upd {H : Hp} {a : Addr} {o : HO} : Same (rem H a) (upd H a o) := fun z o' h => by
  unfold rem at h
  split at h
  · cases h
  · next hz => rw [upd_ne hz]; exact h
theorem rem_at {H : Hp} {a z : Addr} {o : HO} (h : H z = some o) (hz : z ≠ a) : rem H a z = some o := by
  unfold rem
  rw [if_neg hz]
  exact h
theorem refs_inj : ∀ {ps bs : List Addr}, ps.map V.ref = bs.map V.ref → ps = bs
  | [], [], _ => rfl
  | [], _ :: _, h => by cases h
  | _ :: _, [], h => by cases h
  | p :: ps, b :: bs, h => by
    obtain ⟨h1, h2⟩ := List.cons.inj h
    rw [V.ref.inj h1, refs_inj h2]
/-- a list of objects is no part of a table -/
theorem tab_off {H : Hp} {t a : Addr} {ps bs : List Addr} {m n : Nat} {f : Nat → Nat → Int} (h : TabR H t ps m n f) (hl : H a = some (.lst (bs.map V.ref))) (hb : ∀ b, b ∈ bs → ∃ C dx fs, H b = some (.ins C dx fs)) (hm : 1 ≤ m) (hn : 1 ≤ n) : TabR (rem H a) t ps m n f := by
  refine ⟨rem_at h.lst fun z => ?_, h.len, fun i p hp => rem_at (h.row i p hp) fun z => ?_, h.nod, h.out⟩
  · have h1 := h.lst
    rw [z, hl] at h1
    have h2 := refs_inj (HO.lst.inj (Option.some.inj h1))
    have hp := List.getElem?_eq_getElem (show 0 < ps.length by rw [h.len]; omega)
    obtain ⟨C, dx, fs, h3⟩ := hb _ (by rw [h2]; exact List.mem_of_getElem? hp)
    rw [h.row 0 _ hp] at h3
    cases h3
  · have h1 := h.row i p hp
    rw [z, hl] at h1
    have h2 := HO.lst.inj (Option.some.inj h1)
    obtain ⟨k, rfl⟩ : ∃ k, n = k + 1 := ⟨n - 1, by omega⟩
    have h3 := congrArg (fun l => l[0]?) h2

    rw [List.getElem?_map, List.getElem?_map, rowI_at (by omega)] at h3
    cases hb0 : bs[0]? with
    | none => rw [hb0] at h3; cases h3
    | some b => rw [hb0] at h3; cases h3

/-! ### a day of which anything may be out of range -/
structure InJ where
  t : Addr
  ps : List Addr
  m : Nat
  f : Nat → List Int
  h : Addr
  xs : List Int
  p : Int
structure InJAt (H : Hp) (a : Addr) (x : InJ) : Prop where
  tup : H a = some (.tup [.ref x.t, .ref x.h, .int x.p])
  jag : JagR H x.t x.ps x.m x.f
  held : H x.h = some (.lst (x.xs.map V.int))
theorem InJAt.same {H H' : Hp} {a : Addr} {x : InJ} (h : InJAt H a x) (e : Same H H') : InJAt H' a x := ⟨e _ _ h.tup, h.jag.same e, e _ _ h.held⟩
structure InJL (H : Hp) (l : Addr) (as : List Addr) (xs : List InJ) : Prop where
  lst : H l = some (.lst (as.map V.ref))
  len : as.length = xs.length
  row : ∀ (i : Nat) (a : Addr) (x : InJ), as[i]? = some a → xs[i]? = some x → InJAt H a x
theorem InJL.same {H H' : Hp} {l : Addr} {as : List Addr} {xs : List InJ} (h : InJL H l as xs) (e : Same H H') : InJL H' l as xs := ⟨e _ _ h.lst, h.len, fun i a x h1 h2 => (h.row i a x h1 h2).same e⟩
theorem InJL.item {H : Hp} {l : Addr} {as : List Addr} {xs : List InJ} (h : InJL H l as xs) {i : Nat} {v : V} (e : (as.map V.ref)[i]? = some v) : ∃ a x, as[i]? = some a ∧ xs[i]? = some x ∧ v = .ref a ∧ InJAt H a x := by
  obtain ⟨a, ha, rfl⟩ := refs_at e
  have hi := (List.getElem?_eq_some_iff.mp ha).1
  rw [h.len] at hi
  exact ⟨a, xs[i], ha, List.getElem?_eq_getElem hi, rfl, h.row i a _ ha (List.getElem?_eq_getElem hi)⟩
inductive DayO
  | trade
  | amount
  | fine (g : Nat → Nat → Int)
def OkJ (n : Nat) (x : InJ) : Prop := x.m = n ∧ 0 ≤ x.p ∧ DebtsJ x.m x.f
def addJ (n : Nat) (g : Nat → Nat → Int) (x : InJ) (y : Nat → Int) (a b : Nat) : Int := g a b + missF n (cellJ x.f) y a b * x.p
/-- what comes of a day's instruments, one after another -/
inductive DayOut (n : Nat) : (Nat → Nat → Int) → List InJ → DayO → Prop
  | nil (g : Nat → Nat → Int) : DayOut n g [] (.fine g)
  | trade (g : Nat → Nat → Int) (x : InJ) (r : List InJ) : ¬ OkJ n x → DayOut n g (x :: r) .trade
  | amount (g : Nat → Nat → Int) (x : InJ) (r : List InJ) : OkJ n x → ¬ HeldJ x.xs n → DayOut n g (x :: r) .amount
  | next (g : Nat → Nat → Int) (x : InJ) (r : List InJ) (y : Nat → Int) (o : DayO) : OkJ n x → HeldJ x.xs n → BestP n (cellJ x.f) (at0 x.xs) y → DayOut n (addJ n g x y) r o → DayOut n g (x :: r) o
def rowsJ (n : Nat) (g : Nat → Nat → Int) (i : Nat) : List Int := rowI n (g i)
theorem Tab.jag {H : Hp} {t : Addr} {ps : List Addr} {n : Nat} {g : Nat → Nat → Int} (h : Tab H t ps n g) : JagR H t ps n (rowsJ n g) := ⟨h.lst, h.len, fun i p hp => h.row i p hp, h.nod, h.out⟩
theorem cell_rows {n : Nat} {g : Nat → Nat → Int} {i j : Nat} (hj : j < n) : cellJ (rowsJ n g) i j = g i j := by
  unfold cellJ rowsJ
  exact at0_of (rowI_at hj)
def sp_settle_day (K : PySem.W.Frag) (CT CA CD CS : Addr) : Sp := fun vs H Q E => ∃ (_ : Unit) (l t ca : Addr) (as ps : List Addr) (n : Nat) (fj : Nat → List Int) (cs : List Int) (xs : List InJ), vs = [.ref l, .ref t, .ref ca] ∧ InJL H l as xs ∧ xs.length ≤ 9 ∧ (∀ x, x ∈ xs → x.m ≤ 900 ∧ (∀ i, i < x.m → (x.f i).length ≤ 900) ∧ x.xs.length ≤ 900) ∧ JagR H t ps n fj ∧ n ≤ 900 ∧ (∀ i, i < n → (fj i).length ≤ 900) ∧ H ca = some (.lst (cs.map V.int)) ∧ cs.length ≤ 900 ∧
  (¬ DebtsJ n fj → ∀ H', Same H H' → E (.ref CT) none H') ∧ (DebtsJ n fj → ¬ HeldJ cs n → ∀ H', Same H H' → E (.ref CA) none H') ∧
  (DebtsJ n fj → HeldJ cs n → DayOut n (cellJ fj) xs .trade → ∀ H', Same H H' → E (.ref CT) none H') ∧ (DebtsJ n fj → HeldJ cs n → DayOut n (cellJ fj) xs .amount → ∀ H', Same H H' → E (.ref CA) none H') ∧
  (DebtsJ n fj → HeldJ cs n → ∀ g, DayOut n (cellJ fj) xs (.fine g) → (¬ DebtsJ n (rowsJ n g) → ∀ H', Same H H' → E (.ref CT) none H') ∧ (DebtsJ n (rowsJ n g) → ∀ (_ : Unit) H' X dx ds ow py pd cs' fl ows pds y vs, Same H H' → H X = none → SetAt CS H' n X (cellJ (rowsJ n g)) (at0 cs) vs dx ds ow py pd cs' fl ows pds y → Q (.ref X) H'))
set_option maxHeartbeats 0 in
theorem ok_settle_day (T : Txt K mg) : FnOk P w K mg base (L2.CX P w) 11 T.f_settle_day T.d_settle_day ["instruments", "owed", "cash"] (sp_settle_day K T.c_InvalidTrade T.c_InvalidAmount T.c_Delivery T.c_Settlement) := by
  refine T.F_settle_day.okX sc_settle_day (fun vs H Q E h => ?_) (fun cdv A outer s H vs Q E hr h => ?_)
  · obtain ⟨_, l, t, ca, as, ps, n, fj, cs, xs, rfl, _⟩ := h
    rfl
  · obtain ⟨_, l, t, ca, as, ps, n, fj, cs, xs, rfl, hI, hxl, hxs, htj, hm9, hl9, hca, hc9, qt, qa, qt2, qa2, q⟩ := h
    have G_check_debts : FnOk P w K mg base (L2.CX P w) 3 T.f_check_debts T.d_check_debts ["owed"] (sp_check_debts K T.c_InvalidTrade) := ok_check_debts T
    have G_check_held : FnOk P w K mg base (L2.CX P w) 3 T.f_check_held T.d_check_held ["amounts", "houses"] (sp_check_held K T.c_InvalidAmount) := ok_check_held T
    have G_Settlement_init : FnOk P w K mg base (L2.CX P w) 9 T.f_Settlement_init T.d_Settlement_init ["self", "deliveries", "owed", "cash"] (sp_Settlement_init K T.c_InvalidTrade T.c_InvalidAmount T.c_Settlement) := ok_Settlement_init T
    have G_Delivery_init : FnOk P w K mg base (L2.CX P w) 9 T.f_Delivery_init T.d_Delivery_init ["self", "owed", "held", "price"] (sp_Delivery_init K T.c_InvalidTrade T.c_InvalidAmount T.c_Delivery) := ok_Delivery_init T
    have G_with_missing : FnOk P w K mg base CX0 1 T.f_with_missing T.d_with_missing ["owed", "delivery"] (sp_with_missing K T.c_Delivery) := ok_with_missing T
    have hlt : (ps.map V.ref).length = n := by rw [List.length_map, htj.len]
    have hts := SqL.of (K := K) htj.lst
    have hcas := SqL.of (K := K) hca
    have hIs := SqL.of (K := K) hI.lst
    refine ⟨_, (pss_cons (ps_expr (pe_callS G_check_debts (hr.mono (by decide)) (by rfl) T.m_check_debts T.F_check_debts.kp T.b_check_debts (fun σ => passAt (takes_of rfl rfl rfl rfl) σ) (pa_cons (pv 1) pa_nil)))
    (pss_cons (ps_expr (pe_callS G_check_held (hr.mono (by decide)) (by rfl) T.m_check_held T.F_check_held.kp T.b_check_held (fun σ => passAt (takes_of rfl rfl rfl rfl) σ) (pa_cons (pv 2) (pa_cons (pe_callB call_len_seq (by rfl) T.z_len PySem.boot_len (pa_cons (pv 1) pa_nil)) pa_nil))))
    (pss_cons (ps_set (i := 3) sc_settle_day.nd rfl (Or.inl rfl) (pe_lst pa_nil))
    (pss_cons (ps_set (i := 4) sc_settle_day.nd rfl (Or.inl rfl) (pv 1))
    (pss_cons (ps_for (passes_of rfl) rfl (pi_list (pv 0)) (pg_tup rfl (pgs_cons (pg_name (i := 5) sc_settle_day.nd rfl (Or.inl rfl)) (pgs_cons (pg_name (i := 6) sc_settle_day.nd rfl (Or.inl rfl)) (pgs_cons (pg_name (i := 7) sc_settle_day.nd rfl (Or.inl rfl)) pgs_nil))))
      (pss_cons (ps_if (pt_cmpR op_ne (pe_callB call_len_seq (by rfl) T.z_len PySem.boot_len (pa_cons (pv 5) pa_nil)) (pe_callB call_len_seq (by rfl) T.z_len PySem.boot_len (pa_cons (pv 1) pa_nil)) (nomark _))
        (pss_one (ps_raise rfl (takes_of rfl rfl rfl rfl) (pmk_own PySem.F.excBase_ValueError T.x_InvalidTrade T.m_InvalidTrade T.k_InvalidTrade (raises_own T.b_InvalidTrade T.t_InvalidTrade) (by rfl))))
        pss_nil)
      (pss_cons (ps_set (i := 8) sc_settle_day.nd rfl (Or.inl rfl) (pe_makeX T.mk_Delivery G_Delivery_init hr (by rfl) T.m_Delivery T.b_Delivery_init .nil (fun σ => passAt (takes_of rfl rfl rfl rfl) σ) (pa_cons (pv 5) (pa_cons (pv 6) (pa_cons (pv 7) pa_nil)))))
      (pss_cons (ps_expr (pe_bm PySem.F.plainAttrs_list PySem.F.slot_list_append PySem.F.type_list_append mt_append (pv 3) (pa_cons (pv 8) pa_nil)))
      (pss_one (ps_set (i := 4) sc_settle_day.nd rfl (Or.inl rfl) (pe_call G_with_missing (hr.mono (by decide)) (by rfl) T.m_with_missing T.F_with_missing.kp T.b_with_missing .nil pass0 (pa_cons (pv 4) (pa_cons (pv 8) pa_nil)))))))))
    (pss_one (ps_ret (pe_makeX T.mk_Settlement G_Settlement_init hr (by rfl) T.m_Settlement T.b_Settlement_init .nil (fun σ => passAt (takes_of rfl rfl rfl rfl) σ) (pa_cons (pv 3) (pa_cons (pv 4) (pa_cons (pv 2) pa_nil))))))))))), ?_⟩
    walk_at "st"
    refine ⟨ps, n, fj, rfl, htj, hm9, hl9, fun hv H1 e1 => ?_, fun hv H1 e1 => qt hv H1 e1⟩
    replace qa := qa hv
    replace qt2 := qt2 hv
    replace qa2 := qa2 hv
    replace q := q hv
    have hts1 := e1.seq hts
    have hcas1 := e1.seq hcas
    walk_at "st"
    refine ⟨(), ca, cs, n, by rw [hlt], hcas1, hc9, fun hh H2 e2 => ?_, fun hh H2 e2 => qa hh H2 (e1.trans e2)⟩
    replace qt2 := qt2 hh
    replace qa2 := qa2 hh
    replace q := q hh
    have hn0 := hv.n0
    have hn1 := hv.n1
    have e12 := e1.trans e2
    walk_at "st"
    intro dl ndl
    have sdl := same_upd (o := .lst []) ndl
    have hdl := upd_same (H := H2) (a := dl) (o := .lst [])
    have e3 := e12.trans sdl
    have ndl0 : H dl = none := e12.free ndl
    generalize upd H2 dl (.lst []) = H3 at *
    have hIs3 := e3.seq hIs
    walk_at "st"
    refine for_list (K := K) (a := l) (xs := as.map V.ref) (fun i σ H' => ∃ (v5 v6 v7 v8 : Option V) (D : Addr) (dps bs : List Addr) (g : Nat → Nat → Int), σ = [some (.ref l), some (.ref t), some (.ref ca), some (.ref dl), some (.ref D), v5, v6, v7, v8] ∧ Same H H' ∧ bs.length = i ∧ H' dl = some (.lst (bs.map V.ref)) ∧ (∀ b, b ∈ bs → ∃ C dx fs, H' b = some (.ins C dx fs)) ∧ Tab H' D dps n g ∧ ∀ o, DayOut n g (xs.drop i) o → DayOut n (cellJ fj) xs o)
      ⟨none, none, none, none, t, ps, [], cellJ fj, rfl, e3, rfl, hdl, (fun b hb => by cases hb), (htj.tab hv.len).same e3, fun o ho => ho⟩ (fun i σ H' _ ⟨_, _, _, _, _, _, _, _, _, e, _⟩ => e.seq hIs) ?_ ?_
    · rintro i v σ H4 hvv ⟨v5, v6, v7, v8, D, dps, bs, g, rfl, e4, hbl0, hdl4, hbs, hT, hO⟩
      obtain ⟨a, x, ha, hxi, rfl, hat⟩ := (hI.same e4).item hvv
      have hi := (List.getElem?_eq_some_iff.mp hxi).1
      obtain ⟨x1, x2, x3⟩ := hxs x (List.mem_of_getElem? hxi)
      have hdrop : xs.drop i = x :: xs.drop (i + 1) := by rw [List.drop_eq_getElem_cons hi, (List.getElem?_eq_some_iff.mp hxi).2]
      rw [hdrop] at hO
      have htup : SqT K H4 a [.ref x.t, .ref x.h, .int x.p] := SqT.of hat.tup
      have hxt := SqL.of (K := K) hat.jag.lst
      have hts4 := e4.seq hts
      have hxl2 : (x.ps.map V.ref).length = x.m := by rw [List.length_map, hat.jag.len]
      walk_at "st"
      refine iteB (fun h => ?_) (fun h => ?_)
      · have h1 := ndec_t h
        rw [hxl2, hlt] at h1
        exact qt2 (hO _ (.trade _ _ _ fun z => h1 (congrArg (fun z : Nat => V.int (z : Int)) z.1))) H4 e4
      have hmn : x.m = n := by
        have h1 := V.int.inj (ndec_f h)
        rw [hxl2, hlt] at h1
        omega
      walk_at "st"
      intro X dx nX ndX hne
      have nX' : upd H4 dx (.own X) X = none := by
        first
          | (rw [upd_ne hne]; exact nX)
          | (rw [upd_ne (Ne.symm hne)]; exact nX)
      have sX : Same H4 (upd (upd H4 dx (.own X)) X (.ins T.c_Delivery dx [])) := (same_upd ndX).trans (same_upd nX')
      refine ⟨(), x.p, X, dx, x.t, x.h, x.ps, x.m, x.f, x.xs, rfl, upd_same, hat.jag.same sX, x1, x2, sX _ _ hat.held, x3, fun hz H7 e7 => qt2 (hO _ (.trade _ _ _ fun z => hz z.2)) H7 ((e4.trans sX).trans e7), fun h1 h2 h3 H7 e7 => qa2 (hO _ (.amount _ _ _ ⟨hmn, h1, h2⟩ (by rw [← hmn]; exact h3))) H7 ((e4.trans sX).trans e7), fun hp hv2 hh2 _ y d m h ds ms H7 kx hb hdT hmT hhT hx => ?_⟩
      rw [hmn] at hh2 hb hdT hmT hhT hv2
      have e47 := same_new nX sX kx
      have hdl7 := e47 _ _ hdl4
      have hbl : (bs.map V.ref).length < sizeLine := small1000 (by rw [List.length_map]; omega)
      have hT7 := hT.same e47
      walk_at "st"
      have hbs7 : ∀ b, b ∈ bs → ∃ C dx fs, H7 b = some (.ins C dx fs) := fun b hb => by
        obtain ⟨C, dx, fs, o⟩ := hbs b hb
        exact ⟨C, dx, fs, e47 _ _ o⟩
      have e48 : Same H (upd H7 dl (.lst (bs.map V.ref ++ [V.ref X]))) := TabR.keep (e4.trans e47) ndl0
      have hdl8 : upd H7 dl (.lst (bs.map V.ref ++ [V.ref X])) dl = some (.lst ((bs ++ [X]).map V.ref)) := by rw [upd_same, List.map_append]; rfl
      have kq : Same (rem H7 dl) (upd H7 dl (.lst (bs.map V.ref ++ [V.ref X]))) := rem_upd
      have hT8 := (tab_off ⟨hT7.lst, hT7.len, hT7.row, hT7.nod, hT7.out⟩ hdl7 hbs7 hn0 hn0).same kq
      have hm8 := (tab_off hmT hdl7 hbs7 hn0 hn0).same kq
      have hx8 : upd H7 dl (.lst (bs.map V.ref ++ [V.ref X])) X = some (delO T.c_Delivery dx d m h x.p) := kq _ _ (rem_at hx fun e => by rw [e, hdl7] at hx; cases hx)
      have hbs8 : ∀ b, b ∈ bs ++ [X] → ∃ C dx fs, upd H7 dl (.lst (bs.map V.ref ++ [V.ref X])) b = some (.ins C dx fs) := fun b hb => by
        rcases List.mem_append.mp hb with hb | hb
        · obtain ⟨C, dx, fs, o⟩ := hbs7 b hb
          exact ⟨C, dx, fs, kq _ _ (rem_at o fun e => by rw [e, hdl7] at o; cases o)⟩
        · rw [List.mem_singleton.mp hb]
          exact ⟨_, _, _, hx8⟩
      generalize upd H7 dl (.lst (bs.map V.ref ++ [V.ref X])) = H8 at *
      walk_at "st"
      refine ⟨g, missF n (cellJ x.f) y, x.p, D, X, dx, d, m, h, dps, ms, n, rfl, hT8.tab, hx8, hm8.tab, by omega, fun a ha b hb2 => ?_, fun r rs H9 e9 nr hr => ?_⟩
      · have := missF_b hv2.debts (by decide) hb.ok ha hb2
        omega
      · refine ⟨_, _, _, _, r, rs, bs ++ [X], addJ n g x y, rfl, e48.trans e9, by rw [List.length_append, hbl0]; rfl, e9 _ _ hdl8, fun b hb => ?_, hr, fun o ho => hO o (.next _ _ _ y o ⟨hmn, hp, by rw [hmn]; exact hv2⟩ hh2 hb ho)⟩
        obtain ⟨C, dx, fs, o⟩ := hbs8 b hb
        exact ⟨C, dx, fs, e9 _ _ o⟩
    · rintro σ H4 ⟨v5, v6, v7, v8, D, dps, bs, g, rfl, e4, hbl0, hdl4, hbs, hT, hO⟩
      rw [show xs.drop (as.map V.ref).length = [] by rw [List.length_map, hI.len, List.drop_length]] at hO
      obtain ⟨qe, qq⟩ := q g (hO _ (.nil g))
      walk_at "st"
      intro X dx nX ndX hne
      have nX' : upd H4 dx (.own X) X = none := by
        first
          | (rw [upd_ne hne]; exact nX)
          | (rw [upd_ne (Ne.symm hne)]; exact nX)
      have sX : Same H4 (upd (upd H4 dx (.own X)) X (.ins T.c_Settlement dx [])) := (same_upd ndX).trans (same_upd nX')
      refine ⟨(), bs.map V.ref, X, dx, dl, D, ca, dps, n, rowsJ n g, cs, rfl, upd_same, sX _ _ hdl4, (hT.same sX).jag, hm9, fun i _ => by unfold rowsJ; rw [rowI_len]; exact hm9, sX _ _ (e4 _ _ hca), hc9, fun hz H7 kx => qe hz H7 (e4.trans (same_new nX sX kx)), fun _ hz => absurd hh hz, fun hv3 _ _ H7 ds ow py pd cs' fl ows pds y kx hS => ?_⟩
      refine ⟨rfl, ?_⟩
      exact qq hv3 () H7 X dx ds ow py pd cs' fl ows pds y _ (e4.trans (same_new nX sX kx)) (e4.free nX) hS

def layI (x : List (List Int) × List Int × Int) : PyData := .tuple [.list (x.1.map fun ys => PyData.list (ys.map PyData.int)), .list (x.2.1.map PyData.int), .int x.2.2]
theorem LayD.up {α : Type} [DecidableEq α] {L : α → PyData} {k m : Nat} {G : α → Prop} (h : LayD L k G) (e : k ≤ m) : LayD L m G := ⟨h.lay, fun x => Nat.le_trans (h.dep x) e, h.eqv⟩
theorem layD_ints2 : LayD (fun xs : List Int => PyData.list (xs.map PyData.int)) 2 (fun xs => ∀ x, x ∈ xs → True) := layD_int.list.up (by decide)
theorem layD_int2 : LayD PyData.int 2 (fun _ => True) := layD_int.up (by decide)
theorem layD_I1 : LayD layI 3 (fun x => (∀ a, a ∈ x.1 → ∀ b, b ∈ a → True) ∧ (∀ a, a ∈ x.2.1 → True) ∧ True) := layD_tab.tup3 layD_ints2 layD_int2
theorem layD_I : LayD (fun xs : List (List (List Int) × List Int × Int) => PyData.list (xs.map layI)) 4 (fun xs => ∀ x, x ∈ xs → (∀ a, a ∈ x.1 → ∀ b, b ∈ a → True) ∧ (∀ a, a ∈ x.2.1 → True) ∧ True) := layD_I1.list

def sp_law_cell (K : PySem.W.Frag) : Sp := fun vs H Q _ => ∃ (a : Addr) (ns : List Int) (j : Nat), vs = [.ref a, .int j] ∧ SqL K H a (ns.map V.int) ∧ Q (.int (cellOf ns j)) H
set_option maxHeartbeats 0 in
theorem ok_law_cell (T : Txt K mg) : FnOk P w K mg base CX0 1 T.f_law_cell T.d_law_cell ["script", "k"] (sp_law_cell K) := by
  refine T.F_law_cell.ok sc_law_cell (fun vs H Q E h => ?_) (fun cdv A outer s H vs Q E hr h => ?_)
  · obtain ⟨a, ns, j, rfl, _⟩ := h
    rfl
  · obtain ⟨a, ns, j, rfl, hs, q⟩ := h
    refine ⟨_, (pss_cons (ps_if (pt_cmpR op_lt (pv 1) (pe_callB call_len_seq (by rfl) T.z_len PySem.boot_len (pa_cons (pv 0) pa_nil)) (nomark _))
      (pss_one (ps_ret (pe_ix ix_list (pv 0) (pv 1) (fun _ _ => rfl))))
      pss_nil)
    (pss_one (ps_ret pe_int))), ?_⟩
    walk_at "st"
    refine iteD (fun h => ?_) (fun h => ?_)
    · have hj : j < ns.length := by rw [List.length_map] at h; omega
      walk_at "st"
      exact ⟨atI_ints hj, q⟩
    · have hj : ¬ j < ns.length := by rw [List.length_map] at h; omega
      rw [cellOf_out hj] at q
      exact q

/-- the draws of a cell, one by one -/
def restB (size r : Int) : Nat → Int
  | 0 => r
  | k + 1 => restB size r k / size
def restS (r : Int) : Nat → Int
  | 0 => r
  | k + 1 => (restS r k * 48271 + (k : Int) * 69621 + 11) % 2147483647
def drawG (cell size : Int) (k : Nat) : Int :=
  if 1000000000000000000 ≤ (if cell < 0 then -cell else cell) then restB size (if cell < 0 then -cell else cell) k % size
  else (restS (if cell < 0 then -cell else cell) (k + 1) * 16807 + (k : Int)) % 2147483629 % size
theorem drawG_bound {cell size : Int} (h : 0 < size) (k : Nat) : 0 ≤ drawG cell size k ∧ drawG cell size k < size := by
  unfold drawG
  generalize (if cell < 0 then -cell else cell) = r
  split <;> exact ⟨Int.emod_nonneg _ (by omega), Int.emod_lt_of_pos _ h⟩
def sp_law_draws (K : PySem.W.Frag) : Sp := fun vs H Q _ => ∃ (cell : Int) (n : Nat) (size : Int), vs = [.int cell, .int (n : Int), .int size] ∧ n ≤ 1000 ∧ 0 < size ∧ size < 1073741824 ∧
  ∀ p H', Same H H' → H p = none → H' p = some (.lst ((rowI n (drawG cell size)).map V.int)) → Q (.ref p) H'
set_option maxHeartbeats 0 in
theorem ok_law_draws (T : Txt K mg) : FnOk P w K mg base CX0 1 T.f_law_draws T.d_law_draws ["cell", "count", "size"] (sp_law_draws K) := by
  refine T.F_law_draws.ok sc_law_draws (fun vs H Q E h => ?_) (fun cdv A outer s H vs Q E hr h => ?_)
  · obtain ⟨cell, n, size, rfl, _⟩ := h
    rfl
  · obtain ⟨cell, n, size, rfl, hn, h0, h1, q⟩ := h
    refine ⟨_, (pss_cons (ps_set (i := 3) sc_law_draws.nd rfl (Or.inl rfl) (pe_lst pa_nil))
    (pss_cons (ps_set (i := 4) sc_law_draws.nd rfl (Or.inl rfl) (pe_callB call_abs (by rfl) T.z_abs (by decide +kernel) (pa_cons (pv 0) pa_nil)))
    (pss_cons (ps_if (pt_cmpR op_ge (pv 4) pe_int (nomark _))
      (pss_cons (ps_for PassesOwn.never rfl (pi_range1 (by rfl) T.z_range (pa_cons (pv 1) pa_nil)) (pg_name (i := 5) sc_law_draws.nd rfl (Or.inl rfl))
        (pss_cons (ps_expr (pe_bm PySem.F.plainAttrs_list PySem.F.slot_list_append PySem.F.type_list_append mt_append (pv 3) (pa_cons (pe_op op_mod (pe_callTy call_int_i (by rfl) T.z_int (by decide +kernel) (pa_cons (pv 4) pa_nil)) (pv 2)) pa_nil)))
        (pss_one (ps_set (i := 4) sc_law_draws.nd rfl (Or.inl rfl) (pe_op op_fdiv (pv 4) (pv 2))))))
      (pss_one (ps_ret (pv 3))))
      pss_nil)
    (pss_cons (ps_for PassesOwn.never rfl (pi_range1 (by rfl) T.z_range (pa_cons (pv 1) pa_nil)) (pg_name (i := 5) sc_law_draws.nd rfl (Or.inl rfl))
      (pss_cons (ps_set (i := 4) sc_law_draws.nd rfl (Or.inl rfl) (pe_op op_mod (pe_callTy call_int_i (by rfl) T.z_int (by decide +kernel) (pa_cons (pe_op op_add (pe_op op_add (pe_op op_mul (pv 4) pe_int) (pe_op op_mul (pv 5) pe_int)) pe_int) pa_nil)) pe_int))
      (pss_one (ps_expr (pe_bm PySem.F.plainAttrs_list PySem.F.slot_list_append PySem.F.type_list_append mt_append (pv 3) (pa_cons (pe_op op_mod (pe_op op_mod (pe_callTy call_int_i (by rfl) T.z_int (by decide +kernel) (pa_cons (pe_op op_add (pe_op op_mul (pv 4) pe_int) (pv 5)) pa_nil)) pe_int) (pv 2)) pa_nil))))))
    (pss_one (ps_ret (pv 3))))))), ?_⟩
    walk_at "st"
    intro D nD
    walk_at "st"
    generalize hrest : (if cell < 0 then -cell else cell) = rest
    have hrest0 : 0 ≤ rest := by rw [← hrest]; split <;> omega
    have eD : (upd H D (.lst [])) D = some (.lst (([] : List Int).map V.int)) := upd_same
    have s1 : Same H (upd H D (.lst [])) := same_upd nD
    generalize upd H D (.lst []) = H1 at eD s1
    refine iteB (fun h => ?_) (fun h => ?_)
    · walk_at "st"
      refine for_range (lo := 0) (n := ((n : Int)).toNat) (fun i σ H' => ∃ (v5 : Option V) (r : Int), σ = [some (.int cell), some (.int (n : Int)), some (.int size), some (.ref D), some (.int r), v5] ∧ 0 ≤ r ∧ H' D = some (.lst ((rowI i (drawG cell size)).map V.int)) ∧ restB size rest i = r ∧ Same H H')
        ⟨none, rest, rfl, hrest0, eD, rfl, s1⟩ ?_ ?_
      · rintro i σ H' hi ⟨v5, r, rfl, hr0, hD, hrr, e⟩
        have hlt : ((rowI i (drawG cell size)).map V.int).length < sizeLine := small1000 (by rw [List.length_map, rowI_len]; omega)
        walk_at "st"
        refine ⟨some (.int (0 + (i : Int))), r / size, rfl, Int.ediv_nonneg hr0 (by omega), ?_, ?_, fun b o z => ?_⟩
        · have eg : drawG cell size i = r % size := by
            unfold drawG
            rw [hrest, if_pos (dec_t h), hrr]
          rw [upd_same, rowI_succ, List.map_append, eg]
          rfl
        · show restB size rest i / size = _
          rw [hrr]
        · rw [upd_ne (ne_of_none z nD)]
          exact e b o z
      · rintro σ H' ⟨v5, r, rfl, hr0, hD, hrr, e⟩
        walk_at "st"
        exact q D H' e nD (by rw [Int.toNat_natCast] at hD; exact hD)
    · walk_at "st"
      refine for_range (lo := 0) (n := ((n : Int)).toNat) (fun i σ H' => ∃ (v5 : Option V) (r : Int), σ = [some (.int cell), some (.int (n : Int)), some (.int size), some (.ref D), some (.int r), v5] ∧ 0 ≤ r ∧ H' D = some (.lst ((rowI i (drawG cell size)).map V.int)) ∧ restS rest i = r ∧ Same H H')
        ⟨none, rest, rfl, hrest0, eD, rfl, s1⟩ ?_ ?_
      · rintro i σ H' hi ⟨v5, r, rfl, hr0, hD, hrr, e⟩
        have hlt : ((rowI i (drawG cell size)).map V.int).length < sizeLine := small1000 (by rw [List.length_map, rowI_len]; omega)
        walk_at "st"
        refine ⟨some (.int (0 + (i : Int))), (r * 48271 + (0 + (i : Int)) * 69621 + 11) % 2147483647, rfl, Int.emod_nonneg _ (by decide), ?_, ?_, fun b o z => ?_⟩
        · have eg : drawG cell size i = ((r * 48271 + (0 + (i : Int)) * 69621 + 11) % 2147483647 * 16807 + (0 + (i : Int))) % 2147483629 % size := by
            unfold drawG
            rw [hrest, if_neg (dec_f h)]
            show ((restS rest i * 48271 + (i : Int) * 69621 + 11) % 2147483647 * 16807 + (i : Int)) % 2147483629 % size = _
            rw [hrr, Int.zero_add]
          rw [upd_same, rowI_succ, List.map_append, eg]
          rfl
        · show (restS rest i * 48271 + (i : Int) * 69621 + 11) % 2147483647 = _
          rw [hrr, Int.zero_add]
        · rw [upd_ne (ne_of_none z nD)]
          exact e b o z
      · rintro σ H' ⟨v5, r, rfl, hr0, hD, hrr, e⟩
        walk_at "st"
        exact q D H' e nD (by rw [Int.toNat_natCast] at hD; exact hD)

/-- the rows of the laws' small tables -/
def smallG (cell : Int) (payer : Nat) (size : Int) (j : Nat) : Int := if j = payer then 0 else (if decide (V.int ((if cell < 0 then -cell else cell) % 3) = V.int 1) = true then drawG cell (size + 1) j * (if decide (V.int (drawG cell (size + 1) j % 3) = V.int 1) = true then 1 else 0) else drawG cell (size + 1) j)
theorem smallG_b {cell size : Int} {payer : Nat} (h : 0 ≤ size) (j : Nat) : 0 ≤ smallG cell payer size j ∧ smallG cell payer size j ≤ size := by
  have h1 := drawG_bound (cell := cell) (size := size + 1) (by omega) j
  unfold smallG
  by_cases x : j = payer
  · rw [if_pos x]
    omega
  · rw [if_neg x]
    by_cases y : decide (V.int ((if cell < 0 then -cell else cell) % 3) = V.int 1) = true
    · rw [if_pos y]
      by_cases z : decide (V.int (drawG cell (size + 1) j % 3) = V.int 1) = true
      · rw [if_pos z, Int.mul_one]
        omega
      · rw [if_neg z, Int.mul_zero]
        omega
    · rw [if_neg y]
      omega
theorem smallG_d {cell size : Int} {payer : Nat} : smallG cell payer size payer = 0 := if_pos rfl
def sp_law_small_row (K : PySem.W.Frag) : Sp := fun vs H Q _ => ∃ (cell size : Int) (k n : Nat), vs = [.int cell, .int (k : Int), .int (n : Int), .int size] ∧ k < n ∧ n ≤ 900 ∧ 0 ≤ size ∧ size ≤ 9999 ∧
  ∀ p H', Same H H' → H p = none → H' p = some (.lst ((rowI n (smallG cell k size)).map V.int)) → Q (.ref p) H'
set_option maxHeartbeats 0 in
theorem ok_law_small_row (T : Txt K mg) : FnOk P w K mg base CX0 2 T.f_law_small_row T.d_law_small_row ["cell", "payer", "count", "size"] (sp_law_small_row K) := by
  refine T.F_law_small_row.ok sc_law_small_row (fun vs H Q E h => ?_) (fun cdv A outer s H vs Q E hr h => ?_)
  · obtain ⟨cell, size, k, n, rfl, _⟩ := h
    rfl
  · obtain ⟨cell, size, k, n, rfl, hk, hn, hz0, hz1, q⟩ := h
    have G_law_draws : FnOk P w K mg base CX0 1 T.f_law_draws T.d_law_draws ["cell", "count", "size"] (sp_law_draws K) := ok_law_draws T
    refine ⟨_, (pss_cons (ps_set (i := 4) sc_law_small_row.nd rfl (Or.inl rfl) (pe_call G_law_draws hr (by rfl) T.m_law_draws T.F_law_draws.kp T.b_law_draws .nil pass0 (pa_cons (pv 0) (pa_cons (pv 2) (pa_cons (pe_op op_add (pv 3) pe_int) pa_nil)))))
    (pss_cons (ps_if (pt_cmpR op_eq (pe_op op_mod (pe_callB call_abs (by rfl) T.z_abs (by decide +kernel) (pa_cons (pv 0) pa_nil)) pe_int) pe_int (nomark _))
      (pss_one (ps_setLc (i := 4) (own := [("draw", 5)]) (g := gName 5) (tt := tYes) rfl sc_law_small_row.nd rfl rfl (sw_true rfl rfl rfl (by decide +kernel)) (pi_list (pv 4)) (blkOk_by (own := [("draw", 5)]) (N := N_law_small_row) (sc := defScope s_law_small_row) (by decide +kernel)) (fun _ _ _ _ _ => (pg_name (i := 5) sc_law_small_row.nd rfl (Or.inl rfl))) (fun _ _ _ _ _ => pts_nil) (fun _ _ _ _ _ => (pe_op op_mul (pv 5) (pe_callTy call_int_b (by rfl) T.z_int (by decide +kernel) (pa_cons (pe_cmpR op_eq (pe_op op_mod (pv 5) pe_int) pe_int (nomark _)) pa_nil))))))
      pss_nil)
    (pss_cons (ps_asg pe_int (pg_sub (pv 4) (pv 1) set_list))
    (pss_one (ps_ret (pv 4)))))), ?_⟩
    walk_at "st"
    intro p H1 e1 np hp
    have hp1 := SqL.of (K := K) hp
    have fin : ∀ (g : Nat → Int), (rowI n g).set k 0 = rowI n fun j => if j = k then 0 else g j := fun g => rowI_set hk
    have hix : ∀ (g : Nat → Int), ixN ((rowI n g).map V.int).length (k : Int) = some k := fun g => ixN_nat (by rw [List.length_map, rowI_len]; exact hk)
    walk_at "st"
    refine iteB (fun h => ?_) (fun h => ?_)
    · walk_at "st"
      intro D nD
      refine lc_list (K := K) (a := p) (xs := (rowI n (drawG cell (size + 1))).map V.int) (fun i H' => H' D = some (.lst ((rowI i fun j => drawG cell (size + 1) j * (if decide (V.int (drawG cell (size + 1) j % 3) = V.int 1) = true then 1 else 0)).map V.int)) ∧ Same H1 H') ⟨upd_same, same_upd nD⟩ (fun i H' _ ⟨_, e⟩ => e.seq hp1) ?_ ?_
      · rintro i x H' hx ⟨hD, e⟩
        obtain ⟨z, hz, rfl⟩ := ints_at hx
        have hi := (List.getElem?_eq_some_iff.mp hz).1
        rw [rowI_len] at hi
        rw [rowI_at hi] at hz
        cases hz
        refine ⟨rfl, ?_⟩
        have hdb := drawG_bound (cell := cell) (size := size + 1) (by omega) i
        walk_at "st"
        refine ⟨small1000 (by rw [List.length_map, rowI_len]; omega), ?_, TabR.keep e nD⟩
        rw [upd_same, rowI_succ, List.map_append]
        rfl
      · rintro H2 ⟨hD, e2⟩
        rw [List.length_map, rowI_len] at hD
        have hix := hix fun j => drawG cell (size + 1) j * (if decide (V.int (drawG cell (size + 1) j % 3) = V.int 1) = true then 1 else 0)
        walk_at "st"
        refine q D _ (TabR.keep (e1.trans e2) (e1.free nD)) (e1.free nD) ?_
        rw [upd_same, ← List.map_set, fin]
        congr 3
        refine rowI_eq.mpr fun j hj => ?_
        unfold smallG
        rw [if_pos h]
    · have hix := hix (drawG cell (size + 1))
      walk_at "st"
      refine q p _ (TabR.keep e1 np) np ?_
      rw [upd_same, ← List.map_set, fin]
      congr 3
      refine rowI_eq.mpr fun j hj => ?_
      unfold smallG
      rw [show (if decide (V.int ((if cell < 0 then -cell else cell) % 3) = V.int 1) = true then drawG cell (size + 1) j * (if decide (V.int (drawG cell (size + 1) j % 3) = V.int 1) = true then 1 else 0) else drawG cell (size + 1) j) = drawG cell (size + 1) j from if_neg (by rw [h]; exact Bool.false_ne_true)]
def smallT (ns : List Int) (o : Nat) (size : Int) (k : Nat) : Nat → Int := smallG (cellOf ns (o + k)) k size
theorem smallT_debts {ns : List Int} {o n : Nat} {size : Int} (h0 : 1 ≤ n) (h1 : n ≤ 13) (hz : 0 ≤ size) : Debts n (smallT ns o size) size := ⟨h0, h1, fun _ _ _ _ => smallG_b hz _, fun _ _ => smallG_d⟩
def sp_law_small_table (K : PySem.W.Frag) : Sp := fun vs H Q _ => ∃ (a : Addr) (ns : List Int) (o n : Nat) (size : Int), vs = [.ref a, .int (o : Int), .int (n : Int), .int size] ∧ SqL K H a (ns.map V.int) ∧ n ≤ 900 ∧ 0 ≤ size ∧ size ≤ 9999 ∧
  ∀ t ps H', Same H H' → H t = none → (∀ p, p ∈ ps → H p = none) → TabR H' t ps n n (smallT ns o size) → Q (.ref t) H'
set_option maxHeartbeats 0 in
theorem ok_law_small_table (T : Txt K mg) : FnOk P w K mg base CX0 3 T.f_law_small_table T.d_law_small_table ["script", "at", "count", "size"] (sp_law_small_table K) := by
  refine T.F_law_small_table.ok sc_law_small_table (fun vs H Q E h => ?_) (fun cdv A outer s H vs Q E hr h => ?_)
  · obtain ⟨a, ns, o, n, size, rfl, _⟩ := h
    rfl
  · obtain ⟨a, ns, o, n, size, rfl, hs, hn, hz0, hz1, q⟩ := h
    have G_law_small_row : FnOk P w K mg base CX0 2 T.f_law_small_row T.d_law_small_row ["cell", "payer", "count", "size"] (sp_law_small_row K) := ok_law_small_row T
    have G_law_cell : FnOk P w K mg base CX0 1 T.f_law_cell T.d_law_cell ["script", "k"] (sp_law_cell K) := ok_law_cell T
    refine ⟨_, (pss_one (ps_ret (pe_lc (own := [("k", 4)]) (g := gName 4) (tt := tYes) rfl sc_law_small_table.nd (pi_range1 (by rfl) T.z_range (pa_cons (pv 2) pa_nil)) (blkOk_by (own := [("k", 4)]) (N := N_law_small_table) (sc := defScope s_law_small_table) (by decide +kernel)) (fun _ _ _ _ _ => (pg_name (i := 4) sc_law_small_table.nd rfl (Or.inl rfl))) (fun _ _ _ _ _ => pts_nil) (fun _ _ _ _ _ => (pe_call G_law_small_row hr (by rfl) T.m_law_small_row T.F_law_small_row.kp T.b_law_small_row .nil pass0 (pa_cons (pe_call G_law_cell (hr.mono (by decide)) (by rfl) T.m_law_cell T.F_law_cell.kp T.b_law_cell .nil pass0 (pa_cons (pv 0) (pa_cons (pe_op op_add (pv 1) (pv 4)) pa_nil))) (pa_cons (pv 4) (pa_cons (pv 2) (pa_cons (pv 3) pa_nil))))))))), ?_⟩
    walk_at "st"
    intro D nD
    refine lc_range (lo := 0) (n := (n : Int).toNat) (fun i H' => ∃ (_ : Unit) (ps : List Addr), TabR H' D ps i n (smallT ns o size) ∧ (∀ p, p ∈ ps → H p = none) ∧ Same H H') ⟨(), [], .nil n _ upd_same, (fun p h => by cases h), same_upd nD⟩ ?_ ?_
    · rintro i H' hi ⟨_, ps, ht, hf, e2⟩
      have hs2 := e2.seq hs
      have hi2 : i < n := by omega
      rw [show (0 : Int) + i = ((i : Nat) : Int) by omega]
      refine ⟨rfl, ?_⟩
      walk_at "st"
      intro p H2 e3 np hp
      refine ⟨_, e3 _ _ ht.lst, small1000 (by rw [List.length_map, ht.len]; omega), (), _, ht.push e3 np hp, fun r hr => ?_, TabR.keep (e2.trans e3) nD⟩
      rcases List.mem_append.mp hr with z | z
      · exact hf r z
      · rw [List.mem_singleton.mp z]
        exact e2.free np
    · rintro H' ⟨_, ps, ht, hf, e2⟩
      rw [Int.toNat_natCast] at ht
      exact q D ps H' e2 nD hf ht

theorem cutV_take {xs : List V} {k : Int} (h0 : 0 ≤ k) (h : k ≤ (xs.length : Int)) : cutV xs none (some k) = xs.take k.toNat := by
  obtain ⟨n, rfl⟩ := Int.eq_ofNat_of_zero_le h0
  have hn : n ≤ xs.length := by omega
  have e : HT.sIx xs.length xs.length (some (n : Int)) = n := by
    rw [HT.sIx_nat]
    omega
  unfold cutV
  show (xs.drop _).take (HT.sIx xs.length xs.length (some (n : Int)) - _) = _
  rw [e, HT.sIx_none, List.drop_zero, Int.toNat_natCast]
  rfl
theorem cutV_drop {xs : List V} {k : Int} (h0 : 0 ≤ k) (h : k ≤ (xs.length : Int)) : cutV xs (some k) none = xs.drop k.toNat := by
  obtain ⟨n, rfl⟩ := Int.eq_ofNat_of_zero_le h0
  have hn : n ≤ xs.length := by omega
  have e : HT.sIx xs.length 0 (some (n : Int)) = n := by
    rw [HT.sIx_nat]
    omega
  unfold cutV
  show (xs.drop (HT.sIx xs.length 0 (some (n : Int)))).take _ = _
  rw [e, HT.sIx_none, List.take_of_length_le (by rw [List.length_drop]; exact Nat.le_refl _), Int.toNat_natCast]

theorem filI_mem {n : Nat} {P : Nat → Bool} {x : Int} : x ∈ filI n P ↔ ∃ a : Nat, a < n ∧ P a = true ∧ (a : Int) = x := by
  unfold filI
  rw [List.mem_map]
  constructor
  · rintro ⟨a, h, e⟩
    rw [List.mem_filter, List.mem_range] at h
    exact ⟨a, h.1, h.2, e⟩
  · rintro ⟨a, h1, h2, e⟩
    exact ⟨a, by rw [List.mem_filter, List.mem_range]; exact ⟨h1, h2⟩, e⟩

theorem Tab.congr {H : Hp} {t : Addr} {ps : List Addr} {n : Nat} {f g : Nat → Nat → Int} (h : Tab H t ps n f) (e : ∀ i, i < n → ∀ j, j < n → f i j = g i j) : Tab H t ps n g :=
  ⟨h.lst, h.len, fun i p hp => by
    have hi := (List.getElem?_eq_some_iff.mp hp).1
    rw [h.row i p hp, rowI_eq.mpr (e i (by rw [← h.len]; exact hi))], h.nod, h.out⟩

/-- what a day of these instruments is told as -/
def sp_law_told (K : PySem.W.Frag) : Sp := fun vs H Q _ => ∃ (_ : Unit) (l t ca : Addr) (as ps : List Addr) (n : Nat) (fj : Nat → List Int) (cs : List Int) (xs : List InJ), vs = [.ref l, .ref t, .ref ca] ∧ InJL H l as xs ∧ xs.length ≤ 9 ∧ (∀ x, x ∈ xs → x.m ≤ 900 ∧ (∀ i, i < x.m → (x.f i).length ≤ 900) ∧ x.xs.length ≤ 900) ∧ JagR H t ps n fj ∧ H ca = some (.lst (cs.map V.int)) ∧ DebtsJ n fj ∧ HeldJ cs n ∧
  (DayOut n (cellJ fj) xs .trade → ∀ (p e : Addr) H', Same H H' → H' p = some (.tup [.str "trade", .ref e]) → H' e = some (.lst []) → Q (.ref p) H') ∧
  (DayOut n (cellJ fj) xs .amount → ∀ (p e : Addr) H', Same H H' → H' p = some (.tup [.str "amount", .ref e]) → H' e = some (.lst []) → Q (.ref p) H') ∧
  (∀ g, DayOut n (cellJ fj) xs (.fine g) → (¬ DebtsJ n (rowsJ n g) → ∀ (p e : Addr) H', Same H H' → H' p = some (.tup [.str "trade", .ref e]) → H' e = some (.lst []) → Q (.ref p) H') ∧ (DebtsJ n (rowsJ n g) → ∀ (p ow : Addr) (ows : List Addr) H', Same H H' → H' p = some (.tup [.str "fine", .ref ow]) → Tab H' ow ows n g → Q (.ref p) H'))
set_option maxHeartbeats 0 in
theorem ok_law_told (T : Txt K mg) : FnOk P w K mg base CX0 12 T.f_law_told T.d_law_told ["instruments", "owed", "cash"] (sp_law_told K) := by
  refine T.F_law_told.ok sc_law_told (fun vs H Q E h => ?_) (fun cdv A outer s H vs Q E hr h => ?_)
  · obtain ⟨_, l, t, ca, as, ps, n, fj, cs, xs, rfl, _⟩ := h
    rfl
  · obtain ⟨_, l, t, ca, as, ps, n, fj, cs, xs, rfl, hI, hxl, hxs, hj, hca, hv, hh, qt, qa, qf⟩ := h
    have G_settle_day : FnOk P w K mg base (L2.CX P w) 11 T.f_settle_day T.d_settle_day ["instruments", "owed", "cash"] (sp_settle_day K T.c_InvalidTrade T.c_InvalidAmount T.c_Delivery T.c_Settlement) := ok_settle_day T
    have fact_Settlement_0 := T.cl_Settlement; have fact_Settlement_1 := T.na_Settlement_deliveries; have fact_Settlement_2 := T.na_Settlement_owed; have fact_Settlement_3 := T.na_Settlement_pay; have fact_Settlement_4 := T.na_Settlement_paid; have fact_Settlement_5 := T.na_Settlement_cash; have fact_Settlement_6 := T.na_Settlement_fallen
    have teT := PySem.W.exm_ref T.b_InvalidTrade T.d_InvalidTrade T.t_InvalidTrade T.s_InvalidTrade
    have teA := PySem.W.exm_ref T.b_InvalidAmount T.d_InvalidAmount T.t_InvalidAmount T.s_InvalidAmount
    have teN := PySem.W.exm_ref T.b_InvalidTrade T.d_InvalidTrade T.t_InvalidTrade T.su_InvalidAmount_InvalidTrade
    have hn := hv.n1
    have hhl := hh.1
    refine ⟨_, (pss_cons (ps_try_as2 (i := 4) rfl rfl sc_law_told.nd rfl rfl ⟨rfl, by decide, Or.inl T.m_InvalidTrade⟩ ⟨rfl, by decide, Or.inl T.m_InvalidAmount⟩ takes0
      (fun W pn xe tk _ => (pss_one (ps_set (i := 3) sc_law_told.nd rfl (Or.inl rfl) (pe_callS G_settle_day hr (by rfl) T.m_settle_day T.F_settle_day.kp T.b_settle_day (fun σ => passAt tk σ) (pa_cons (pv 0) (pa_cons (pv 1) (pa_cons (pv 2) pa_nil)))))))
      (fun a oe cls d pn hz hf => (pss_cons (ps_if (PW.pt (pw_and (pt_val (pe_callB (call_isE' T.e_InvalidTrade hz hf) (by rfl) T.z_isinstance (by decide +kernel) (pa_cons (pv 4) (pa_cons (pe_glob (v := .ref T.c_BourseError) rfl T.m_BourseError rfl) pa_nil)))) (pw_and1 (pt_not (pt_val (pe_callB (call_isE' T.e_InvalidTrade hz hf) (by rfl) T.z_isinstance (by decide +kernel) (pa_cons (pv 4) (pa_cons (pe_glob (v := .ref T.c_InvalidAmount) rfl T.m_InvalidAmount rfl) pa_nil))))))))
        (pss_one (ps_ret (pe_tup (pa_cons pe_str (pa_cons (pe_lst pa_nil) pa_nil)))))
        pss_nil)
      (pss_one (ps_ret (pe_tup (pa_cons pe_str (pa_cons (pe_lst pa_nil) pa_nil)))))))
      (fun a oe cls d pn hz hf => (pss_cons (ps_if (pt_val (pe_callB (call_isE' T.e_InvalidAmount hz hf) (by rfl) T.z_isinstance (by decide +kernel) (pa_cons (pv 4) (pa_cons (pe_glob (v := .ref T.c_BourseError) rfl T.m_BourseError rfl) pa_nil))))
        (pss_one (ps_ret (pe_tup (pa_cons pe_str (pa_cons (pe_lst pa_nil) pa_nil)))))
        pss_nil)
      (pss_one (ps_ret (pe_tup (pa_cons pe_str (pa_cons (pe_lst pa_nil) pa_nil))))))))
    (pss_one (ps_ret (pe_tup (pa_cons pe_str (pa_cons (pe_fld (pv 3) rfl) pa_nil)))))), ?_⟩
    walk_at "st"
    have tradeX : (∀ (p e : Addr) H', Same H H' → H' p = some (.tup [.str "trade", .ref e]) → H' e = some (.lst []) → Q (.ref p) H') → True := fun _ => trivial
    refine ⟨(), l, t, ca, as, ps, n, fj, cs, xs, rfl, hI, hxl, hxs, hj, by omega, fun i hi => by rw [hv.len i hi]; omega, hca, by omega, fun z => absurd hv z, fun _ z => absurd hh z, fun _ _ ho H' e => ?_, fun _ _ ho H' e => ?_, fun _ _ g ho => ⟨fun hz H' e => ?_, fun hz _ H' X dx ds ow py pd cs' fl ows pds y vs e nX hS => ?_⟩⟩
    · refine ⟨true, teT, fun _ a0 _ => ?_, fun q => Bool.noConfusion q⟩
      walk_at "st"
      refine ⟨_, true, rfl, fun u hu => hu, T.kt_InvalidTrade_BourseError, ?_⟩
      refine ⟨true, rfl, iteT ?_⟩
      walk_at "st"
      refine ⟨_, false, rfl, fun u hu => hu, T.kt_InvalidTrade_InvalidAmount, ?_⟩
      walk_at "st"
      intro Z nZ
      have sZ := same_upd (o := .lst []) nZ
      walk_at "st"
      intro B nB
      have sB := same_upd (o := .tup [.str "trade", .ref Z]) nB
      exact qt ho B Z _ ((e.trans sZ).trans sB) upd_same (sB _ _ upd_same)
    · refine ⟨false, teN, fun q => Bool.noConfusion q, fun _ => ?_⟩
      refine ⟨true, teA, fun _ a0 _ => ?_, fun q => Bool.noConfusion q⟩
      walk_at "st"
      refine ⟨_, true, rfl, fun u hu => hu, T.kt_InvalidAmount_BourseError, ?_⟩
      walk_at "st"
      intro Z nZ
      have sZ := same_upd (o := .lst []) nZ
      walk_at "st"
      intro B nB
      have sB := same_upd (o := .tup [.str "amount", .ref Z]) nB
      exact qa ho B Z _ ((e.trans sZ).trans sB) upd_same (sB _ _ upd_same)
    · refine ⟨true, teT, fun _ a0 _ => ?_, fun q => Bool.noConfusion q⟩
      walk_at "st"
      refine ⟨_, true, rfl, fun u hu => hu, T.kt_InvalidTrade_BourseError, ?_⟩
      refine ⟨true, rfl, iteT ?_⟩
      walk_at "st"
      refine ⟨_, false, rfl, fun u hu => hu, T.kt_InvalidTrade_InvalidAmount, ?_⟩
      walk_at "st"
      intro Z nZ
      have sZ := same_upd (o := .lst []) nZ
      walk_at "st"
      intro B nB
      have sB := same_upd (o := .tup [.str "trade", .ref Z]) nB
      exact (qf g ho).1 hz B Z _ ((e.trans sZ).trans sB) upd_same (sB _ _ upd_same)
    · have hX : H' X = some (.ins T.c_Settlement dx [("deliveries", .ref ds), ("owed", .ref ow), ("pay", .ref py), ("paid", .ref pd), ("cash", .ref cs'), ("fallen", .ref fl)]) := hS.obj
      walk_at "st"
      intro B nB
      have sB := same_upd (o := .tup [.str "fine", .ref ow]) nB
      exact (qf g ho).2 hz B ow ows _ (e.trans sB) upd_same ((hS.ow.same sB).congr fun i hi j hj => cell_rows hj)

/-- an instrument of the law, with the word that it was made for -/
structure Inst61 (n : Nat) (x : InJ) (w : Str) : Prop where
  m : x.m ≤ 9
  len : ∀ i, i < x.m → (x.f i).length ≤ 9
  xs : x.xs.length ≤ 9
  case : (w = "trade" ∧ ¬ OkJ n x) ∨ (w = "amount" ∧ OkJ n x ∧ ¬ HeldJ x.xs n) ∨ (w = "fine" ∧ OkJ n x ∧ HeldJ x.xs n ∧ (∀ i, i < n → at0 x.xs i = 0) ∧ ∀ i, i < n → ∀ j, j < n → ¬ i < j → cellJ x.f i j = 0)
theorem Debts.rows {n : Nat} {g : Nat → Nat → Int} {M : Int} (h : Debts n g M) (hM : M ≤ 1000000000000000) : DebtsJ n (rowsJ n g) := by
  refine ⟨h.n0, h.n1, fun i _ => rowI_len _ _, fun i hi z hz => ?_, fun i hi => ?_⟩
  · obtain ⟨j, hj, e⟩ := rowI_mem.mp hz
    have := h.b i hi j hj
    omega
  · show at0 (rowI n (g i)) i = 0
    rw [at0_of (rowI_at hi), h.d i hi]
theorem JagR.cat1 {H : Hp} {t p R : Addr} {ps : List Addr} {m : Nat} {f : Nat → List Int} (h : JagR H t ps m f) (hp : H p = some (.lst ((f m).map V.int))) (n1 : p ∉ ps) (nR : H R = none) : JagR (upd H R (.lst (ps.map V.ref ++ [V.ref p]))) R (ps ++ [p]) (m + 1) f := by
  refine ⟨by rw [upd_same, List.map_append]; rfl, by rw [List.length_append, h.len]; rfl, fun i q hq => ?_, ?_, fun z => ?_⟩
  · by_cases hi : i < ps.length
    · rw [List.getElem?_append_left hi] at hq
      exact same_upd nR _ _ (h.row i q hq)
    · rw [List.getElem?_append_right (by omega)] at hq
      have hi2 := (List.getElem?_eq_some_iff.mp hq).1
      have : i - ps.length = 0 := by
        rw [List.length_cons, List.length_nil] at hi2
        omega
      rw [this] at hq
      have hqp : p = q := Option.some.inj hq
      subst hqp
      rw [same_upd nR _ _ hp]
      have : i = m := by have := h.len; omega
      rw [this]
  · rw [List.nodup_append]
    refine ⟨h.nod, List.nodup_cons.mpr ⟨fun z => (by cases z), List.nodup_nil⟩, fun a ha b hb z => ?_⟩
    rw [List.mem_singleton] at hb
    rw [hb] at z
    rw [z] at ha
    exact n1 ha
  · rcases List.mem_append.mp z with z | z
    · exact (h.there nR).1 z
    · rw [List.mem_singleton] at z
      rw [z, hp] at nR
      cases nR
def sp_law_instrument (K : PySem.W.Frag) : Sp := fun vs H Q _ => ∃ (_ : Unit) (a : Addr) (ns : List Int) (o n : Nat), vs = [.ref a, .int (o : Int), .int (n : Int)] ∧ SqL K H a (ns.map V.int) ∧ 1 ≤ n ∧ n ≤ 3 ∧
  ∀ (_ : Unit) (x : InJ) (w : Str) (T B : Addr) H', Same H H' → H' B = some (.tup [.ref T, .str w]) → InJAt H' T x → Inst61 n x w → Q (.ref B) H'
set_option maxHeartbeats 0 in
theorem ok_law_instrument (T : Txt K mg) : FnOk P w K mg base CX0 4 T.f_law_instrument T.d_law_instrument ["script", "at", "count"] (sp_law_instrument K) := by
  refine T.F_law_instrument.ok sc_law_instrument (fun vs H Q E h => ?_) (fun cdv A outer s H vs Q E hr h => ?_)
  · obtain ⟨_, a, ns, o, n, rfl, _⟩ := h
    rfl
  · obtain ⟨_, a, ns, o, n, rfl, hs, hn0, hn1, q⟩ := h
    have G_law_small_table : FnOk P w K mg base CX0 3 T.f_law_small_table T.d_law_small_table ["script", "at", "count", "size"] (sp_law_small_table K) := ok_law_small_table T
    have G_law_cell : FnOk P w K mg base CX0 1 T.f_law_cell T.d_law_cell ["script", "k"] (sp_law_cell K) := ok_law_cell T
    refine ⟨_, (pss_cons (ps_set (i := 3) sc_law_instrument.nd rfl (Or.inr rfl) (pe_call G_law_small_table hr (by rfl) T.m_law_small_table T.F_law_small_table.kp T.b_law_small_table .nil pass0 (pa_cons (pv 0) (pa_cons (pv 1) (pa_cons (pv 2) (pa_cons pe_int pa_nil))))))
    (pss_cons (ps_for PassesOwn.never rfl (pi_range1 (by rfl) T.z_range (pa_cons (pv 2) pa_nil)) (pg_name (i := 4) sc_law_instrument.nd rfl (Or.inr rfl))
      (pss_one (ps_asg (pe_lc (own := [("b", 5)]) (g := gName 5) (tt := tYes) rfl sc_law_instrument.nd (pi_range1 (by rfl) T.z_range (pa_cons (pv 2) pa_nil)) (blkOk_by (own := [("b", 5)]) (N := N_law_instrument) (sc := defScope s_law_instrument) (by decide +kernel)) (fun _ _ _ _ _ => (pg_name (i := 5) sc_law_instrument.nd rfl (Or.inl rfl))) (fun _ _ _ _ _ => pts_nil) (fun _ _ _ _ _ => (pe_op op_mul (pe_ix (show IxR _ (rIxL K) from ix_list) (pe_ix (show IxR _ (rIxL K) from ix_list) (pv 3) (pv 4) (fun _ _ => rfl)) (pv 5) (fun _ _ => rfl)) (pe_callTy call_int_b (by rfl) T.z_int (by decide +kernel) (pa_cons (pe_cmpR op_lt (pv 4) (pv 5) (nomark _)) pa_nil))))) (pg_sub (pv 3) (pv 4) set_list))))
    (pss_cons (ps_setLc (i := 6) (own := [("house", 7)]) (g := gName 7) (tt := tYes) rfl sc_law_instrument.nd rfl rfl (sw_true rfl rfl rfl (by decide +kernel)) (pi_range1 (by rfl) T.z_range (pa_cons (pv 2) pa_nil)) (blkOk_by (own := [("house", 7)]) (N := N_law_instrument) (sc := defScope s_law_instrument) (by decide +kernel)) (fun _ _ _ _ _ => (pg_name (i := 7) sc_law_instrument.nd rfl (Or.inl rfl))) (fun _ _ _ _ _ => pts_nil) (fun _ _ _ _ _ => pe_int))
    (pss_cons (ps_set (i := 8) sc_law_instrument.nd rfl (Or.inl rfl) (pe_callB call_abs (by rfl) T.z_abs (by decide +kernel) (pa_cons (pe_call G_law_cell (hr.mono (by decide)) (by rfl) T.m_law_cell T.F_law_cell.kp T.b_law_cell .nil pass0 (pa_cons (pv 0) (pa_cons (pe_op op_add (pv 1) pe_int) pa_nil))) pa_nil)))
    (pss_cons (ps_set (i := 9) sc_law_instrument.nd rfl (Or.inl rfl) (pe_ix ix_list (pe_lst (pa_cons pe_int (pa_cons pe_int (pa_cons pe_int pa_nil)))) (pe_op op_mod (pv 8) pe_int) (fun _ _ => rfl)))
    (pss_cons (ps_set (i := 10) sc_law_instrument.nd rfl (Or.inl rfl) (pe_op op_mod (pe_op op_fdiv (pv 8) pe_int) pe_int))
    (pss_cons (ps_set (i := 11) sc_law_instrument.nd rfl (Or.inl rfl) pe_str)
    (pss_cons (ps_if (pt_cmpR op_eq (pv 10) pe_int (nomark _))
      (pss_cons (ps_set (i := 3) sc_law_instrument.nd rfl (Or.inr rfl) (pe_op op_cat (pe_lc (own := [("row", 12)]) (g := gName 12) (tt := tYes) rfl sc_law_instrument.nd (pi_list (pv 3)) (blkOk_by (own := [("row", 12)]) (N := N_law_instrument) (sc := defScope s_law_instrument) (by decide +kernel)) (fun _ _ _ _ _ => (pg_name (i := 12) sc_law_instrument.nd rfl (Or.inl rfl))) (fun _ _ _ _ _ => pts_nil) (fun _ _ _ _ _ => (pe_op op_cat (pv 12) (pe_lst (pa_cons pe_int pa_nil))))) (pe_lst (pa_cons (pe_lc (own := [("house", 7)]) (g := gName 7) (tt := tYes) rfl sc_law_instrument.nd (pi_range1 (by rfl) T.z_range (pa_cons (pe_op op_add (pv 2) pe_int) pa_nil)) (blkOk_by (own := [("house", 7)]) (N := N_law_instrument) (sc := defScope s_law_instrument) (by decide +kernel)) (fun _ _ _ _ _ => (pg_name (i := 7) sc_law_instrument.nd rfl (Or.inl rfl))) (fun _ _ _ _ _ => pts_nil) (fun _ _ _ _ _ => pe_int)) pa_nil))))
      (pss_cons (ps_set (i := 6) sc_law_instrument.nd rfl (Or.inl rfl) (pe_op op_cat (pv 6) (pe_lst (pa_cons pe_int pa_nil))))
      (pss_one (ps_set (i := 11) sc_law_instrument.nd rfl (Or.inl rfl) pe_str))))
      pss_nil)
    (pss_cons (ps_if (pt_cmpR op_eq (pv 10) pe_int (nomark _))
      (pss_cons (ps_set (i := 9) sc_law_instrument.nd rfl (Or.inl rfl) (pe_un un_neg pe_int))
      (pss_one (ps_set (i := 11) sc_law_instrument.nd rfl (Or.inl rfl) pe_str)))
      pss_nil)
    (pss_cons (ps_if (pt_cmpR op_eq (pv 10) pe_int (nomark _))
      (pss_cons (ps_asg pe_int (pg_sub (pe_ix ix_list (pv 3) (pe_op op_mod (pe_op op_fdiv (pv 8) pe_int) (pv 2)) (fun _ _ => rfl)) (pe_op op_mod (pe_op op_fdiv (pv 8) pe_int) (pv 2)) set_list))
      (pss_one (ps_set (i := 11) sc_law_instrument.nd rfl (Or.inl rfl) pe_str)))
      pss_nil)
    (pss_cons (ps_if (pt_cmpR op_eq (pv 10) pe_int (nomark _))
      (pss_cons (ps_asg (pe_un un_neg pe_int) (pg_sub (pv 6) (pe_op op_mod (pe_op op_fdiv (pv 8) pe_int) (pv 2)) set_list))
      (pss_one (ps_set (i := 11) sc_law_instrument.nd rfl (Or.inl rfl) pe_str)))
      pss_nil)
    (pss_cons (ps_if (pt_cmpR op_eq (pv 10) pe_int (nomark _))
      (pss_cons (ps_set (i := 6) sc_law_instrument.nd rfl (Or.inl rfl) (pe_slice sl_list (pv 6) po_none (po_some (pe_op op_sub (pv 2) pe_int))))
      (pss_one (ps_set (i := 11) sc_law_instrument.nd rfl (Or.inl rfl) pe_str)))
      pss_nil)
    (pss_one (ps_ret (pe_tup (pa_cons (pe_tup (pa_cons (pv 3) (pa_cons (pv 6) (pa_cons (pv 9) pa_nil)))) (pa_cons (pv 11) pa_nil))))))))))))))))), ?_⟩
    have fin : ∀ (x : InJ) (w : Str) (H5 : Hp) (T B : Addr), Same H H5 → JagR H5 x.t x.ps x.m x.f → H5 x.h = some (.lst (x.xs.map V.int)) → Inst61 n x w → H5 T = none → upd H5 T (.tup [.ref x.t, .ref x.h, .int x.p]) B = none → Q (.ref B) (upd (upd H5 T (.tup [.ref x.t, .ref x.h, .int x.p])) B (.tup [.ref T, .str w])) := fun x w H5 T B e hj hh hi nT nB => by
      have sT := same_upd (o := .tup [.ref x.t, .ref x.h, .int x.p]) nT
      have sB := same_upd (o := .tup [.ref T, .str w]) nB
      exact q () x w T B _ ((e.trans sT).trans sB) upd_same ⟨sB _ _ upd_same, (hj.same sT).same sB, sB _ _ (sT _ _ hh)⟩ hi
    walk_at "st"
    intro u us H1 e1 nu hfu hu
    have hD1 : DebtsJ n (rowsJ n (smallT ns o 9)) := (smallT_debts (by omega) (by omega) (by decide)).rows (by decide)
    have hu1 := hu.tab.jag
    generalize rowsJ n (smallT ns o 9) = fu0 at *
    clear hu
    walk_at "st"
    refine for_range (lo := 0) (n := (n : Int).toNat) (fun i σ H' => ∃ (_ : Unit) (v4 : Option V) (us : List Addr) (fu : Nat → List Int), σ = [some (.ref a), some (.int (o : Int)), some (.int (n : Int)), some (.ref u), v4, none, none, none, none, none, none, none, none] ∧ Same H H' ∧ (∀ p, p ∈ us → H p = none) ∧ JagR H' u us n fu ∧ DebtsJ n fu ∧ ∀ r, r < i → ∀ c, c < n → ¬ r < c → cellJ fu r c = 0) ⟨(), none, us, fu0, rfl, e1, hfu, hu1, hD1, fun r hr => by omega⟩ ?_ ?_
    · rintro i σ H2 hi ⟨_, v4, us2, fu, rfl, e2, hf2, hu2, hD2, hup⟩
      rw [Int.toNat_natCast] at hi
      rw [show (0 : Int) + i = ((i : Nat) : Int) by omega]
      have hut2 := SqL.of (K := K) hu2.lst
      obtain ⟨r, hr1, hr2, hr3⟩ := hu2.at hi
      have hr4 := SqL.of (K := K) hr3
      have hixi : ixN (us2.map V.ref).length (i : Int) = some i := ixN_nat (by rw [List.length_map, hu2.len]; exact hi)
      walk_at "st"
      intro E nE
      refine lc_range (lo := 0) (n := (n : Int).toNat) (fun j H' => H' E = some (.lst ((rowI j fun b => cellJ fu i b * (if decide ((i : Int) < (b : Int)) = true then 1 else 0)).map V.int)) ∧ Same H2 H') ⟨upd_same, same_upd nE⟩ ?_ ?_
      · rintro j H3 hj ⟨hE, e3⟩
        rw [Int.toNat_natCast] at hj
        rw [show (0 : Int) + j = ((j : Nat) : Int) by omega]
        have hut3 := e3.seq hut2
        have hr5 := e3.seq hr4
        have hat : atI ((fu i).map V.int) (j : Int) = some (.int (cellJ fu i j)) := atI_n (by rw [hD2.len i hi]; exact hj)
        refine ⟨rfl, ?_⟩
        walk_at "st"
        refine ⟨small1000 (by rw [List.length_map, rowI_len]; omega), ?_, TabR.keep e3 nE⟩
        rw [upd_same, rowI_succ, List.map_append]
        rfl
      · rintro H3 ⟨hE, e3⟩
        rw [Int.toNat_natCast] at hE
        have hu3 := hu2.same e3
        have hu3l := hu3.lst
        obtain ⟨nEp, nEt⟩ := hu2.there nE
        walk_at "st"
        refine ⟨(), _, us2.set i E, setJ fu i (rowI n fun b => cellJ fu i b * (if decide ((i : Int) < (b : Int)) = true then 1 else 0)), rfl, TabR.keep (e2.trans e3) nu, fun p hp => ?_, hu3.setRow hi hE nEp nEt, ⟨hD2.n0, hD2.n1, fun r hr => ?_, fun r hr z hz => ?_, fun r hr => ?_⟩, fun r hr c hc hrc => ?_⟩
        · rcases List.mem_or_eq_of_mem_set hp with z | z
          · exact hf2 p z
          · rw [z]
            exact e2.free nE
        · by_cases h : r = i
          · rw [h, setJ_at, rowI_len]
          · rw [setJ_ne h]
            exact hD2.len r hr
        · by_cases h : r = i
          · rw [h, setJ_at] at hz
            obtain ⟨j, hj, e⟩ := rowI_mem.mp hz
            have := hD2.debts.b i hi j hj
            split at e <;> omega
          · rw [setJ_ne h] at hz
            exact hD2.b r hr z hz
        · by_cases h : r = i
          · subst h
            rw [setJ_at, at0_of (rowI_at hr), if_neg (by rw [decide_eq_false (by omega)]; exact Bool.false_ne_true), Int.mul_zero]
          · rw [setJ_ne h]
            exact hD2.d r hr
        · unfold cellJ
          by_cases h : r = i
          · subst h
            rw [setJ_at, at0_of (rowI_at hc), if_neg (by rw [decide_eq_false (by omega)]; exact Bool.false_ne_true), Int.mul_zero]
          · rw [setJ_ne h]
            exact hup r (by omega) c hc hrc
    · rintro σ H2 ⟨_, v4, us2, fu, rfl, e2, hf2, hu2, hD2, hup⟩
      rw [Int.toNat_natCast] at hup
      clear hu1 hD1 hfu e1
      have hs2 := e2.seq hs
      walk_at "st"
      intro hh nhh
      refine lc_range (lo := 0) (n := (n : Int).toNat) (fun i H' => H' = upd H2 hh (.lst ((List.replicate i (0 : Int)).map V.int))) rfl ?_ ?_
      · rintro i H3 hi rfl
        rw [Int.toNat_natCast] at hi
        refine ⟨rfl, ?_⟩
        exact ⟨_, upd_same, small1000 (by rw [List.length_map, List.length_replicate]; omega), by rw [upd_upd, List.replicate_succ', List.map_append]; rfl⟩
      · rintro H3 rfl
        rw [Int.toNat_natCast]
        have sh := same_upd (o := .lst ((List.replicate n (0 : Int)).map V.int)) nhh
        have hhl := upd_same (H := H2) (a := hh) (o := .lst ((List.replicate n (0 : Int)).map V.int))
        generalize upd H2 hh (.lst ((List.replicate n (0 : Int)).map V.int)) = H3 at *
        have hs3 := sh.seq hs2
        have e3 := e2.trans sh
        have hu3 := hu2.same sh
        have hhp : hh ∉ us2 := (hu2.there nhh).1
        have hhu : hh ≠ u := (hu2.there nhh).2
        have hhf : H hh = none := e2.free nhh
        clear hu2 hs2 e2 sh nhh
        walk_at "st"
        obtain ⟨s, es, hs0⟩ : ∃ s, (if cellOf ns (o + 3) < 0 then -cellOf ns (o + 3) else cellOf ns (o + 3)) = s ∧ 0 ≤ s := ⟨_, rfl, by split <;> omega⟩
        intro LP nLP
        rw [es]
        clear es
        have sLP := same_upd (o := .lst [.int 0, .int 1, .int 1000000000000000]) nLP
        have hLP := SqL.of (K := K) (upd_same (H := H3) (a := LP) (o := .lst [.int 0, .int 1, .int 1000000000000000]))
        generalize upd H3 LP (.lst [.int 0, .int 1, .int 1000000000000000]) = H4 at *
        have e4 := e3.trans sLP
        have hu4 := hu3.same sLP
        have hh4 := sLP _ _ hhl
        clear sLP e3 hu3 hhl hs3 nLP
        obtain ⟨pr, hpr, hp0⟩ : ∃ z : Int, atI [V.int 0, V.int 1, V.int 1000000000000000] (s % 3) = some (.int z) ∧ 0 ≤ z := by
          rcases (by omega : s % 3 = 0 ∨ s % 3 = 1 ∨ s % 3 = 2) with e | e | e
          · exact ⟨0, by rw [e]; rfl, by decide⟩
          · exact ⟨1, by rw [e]; rfl, by decide⟩
          · exact ⟨1000000000000000, by rw [e]; rfl, by decide⟩
        have hn' : (0 : Int) < (n : Int) := by omega
        obtain ⟨hv, ehv⟩ := Int.eq_ofNat_of_zero_le (Int.emod_nonneg (s / 24) (Int.ne_of_gt hn'))
        have hhv : hv < n := by
          have := Int.emod_lt_of_pos (s / 24) hn'
          omega
        have hut4 := SqL.of (K := K) hu4.lst
        have hhs4 := SqL.of (K := K) hh4
        have hx0 : ∀ i, i < n → at0 (List.replicate n (0 : Int)) i = 0 := fun i hi => at0_of (List.getElem?_replicate_of_lt hi)
        have hhJ : HeldJ (List.replicate n (0 : Int)) n := ⟨List.length_replicate, fun z hz => by rw [List.eq_of_mem_replicate hz]; decide⟩
        have hl9 : ∀ i, i < n → (fu i).length ≤ 9 := fun i hi => by rw [hD2.len i hi]; omega
        have hx9 : (List.replicate n (0 : Int)).length ≤ 9 := by rw [List.length_replicate]; omega
        walk_at "st"
        refine iteB (fun h => ?_) (fun h => ?_)
        · have hk : s / 3 % 8 = 3 := V.int.inj (dec_t h)
          walk_at "st"
          intro E nE
          refine lc_list (K := K) (a := u) (xs := us2.map V.ref) (fun i H' => ∃ (_ : Unit) (qs : List Addr), JagR H' E qs i (fun i => fu i ++ [0]) ∧ Same H4 H') ⟨(), [], .nil _ upd_same, same_upd nE⟩ (fun i H' _ ⟨_, _, _, e⟩ => e.seq hut4) ?_ ?_
          · rintro i x H5 hx ⟨_, qs, hT, e5⟩
            obtain ⟨p, hp, rfl⟩ := refs_at hx
            have hi := (List.getElem?_eq_some_iff.mp hp).1
            rw [hu4.len] at hi
            have hp5 := e5 _ _ (hu4.row i p hp)
            refine ⟨rfl, ?_⟩
            walk_at "st"
            intro L nL
            have sL := same_upd (o := .lst [.int 0]) nL
            have hL := upd_same (H := H5) (a := L) (o := .lst [.int 0])
            generalize upd H5 L (.lst [.int 0]) = H6 at *
            have hp6 := sL _ _ hp5
            have hz : ((fu i).map V.int).length + [V.int 0].length ≤ sizeLine := len_le (Nat.ble_eq_true_of_le (by rw [List.length_map, hD2.len i hi]; show n + 1 ≤ 1000; omega))
            walk_at "st"
            intro R nR
            have sR := same_upd (o := .lst ((fu i).map V.int ++ [.int 0])) nR
            exact ⟨_, (sL.trans sR) _ _ hT.lst, small1000 (by rw [List.length_map, hT.len]; omega), (), _, hT.push (sL.trans sR) (sL.free nR) (by rw [upd_same, List.map_append]; rfl), TabR.keep ((e5.trans sL).trans sR) nE⟩
          · rintro H5 ⟨_, qs, hT, e5⟩
            rw [List.length_map, hu4.len] at hT
            walk_at "st"
            intro C nC
            refine lc_range (lo := 0) (n := ((n : Int) + 1).toNat) (fun j H' => H' = upd H5 C (.lst ((List.replicate j (0 : Int)).map V.int))) rfl ?_ ?_
            · rintro j H6 hj rfl
              refine ⟨rfl, ?_⟩
              exact ⟨_, upd_same, small1000 (by rw [List.length_map, List.length_replicate]; omega), by rw [upd_upd, List.replicate_succ', List.map_append]; rfl⟩
            · rintro H6 rfl
              rw [show ((n : Int) + 1).toNat = n + 1 by omega]
              have sC := same_upd (o := .lst ((List.replicate (n + 1) (0 : Int)).map V.int)) nC
              have hC := upd_same (H := H5) (a := C) (o := .lst ((List.replicate (n + 1) (0 : Int)).map V.int))
              generalize upd H5 C (.lst ((List.replicate (n + 1) (0 : Int)).map V.int)) = H6 at *
              obtain ⟨nCq, _⟩ := hT.there nC
              walk_at "st"
              intro L nL
              have sL := same_upd (o := .lst [.ref C]) nL
              have hL := upd_same (H := H6) (a := L) (o := .lst [.ref C])
              generalize upd H6 L (.lst [.ref C]) = H7 at *
              have hT7 := (hT.same sC).same sL
              have hT7s := hT7.lst
              have hC7 := sL _ _ hC
              have hz : (qs.map V.ref).length + [V.ref C].length ≤ sizeLine := len_le (Nat.ble_eq_true_of_le (by rw [List.length_map, hT.len]; show n + 1 ≤ 1000; omega))
              walk_at "st"
              intro R nR
              have hT8 := (hT7.congr (g := fun i => if i < n then fu i ++ [0] else List.replicate (n + 1) 0) (fun i hi => (if_pos hi).symm)).cat1 (by rw [if_neg (Nat.lt_irrefl n)]; exact hC7) nCq nR
              have sR := same_upd (o := .lst (qs.map V.ref ++ [.ref C])) nR
              generalize upd H7 R (.lst (qs.map V.ref ++ [.ref C])) = H8 at *
              have e48 := ((e5.trans sC).trans sL).trans sR
              have hh8' := e48 _ _ hh4
              walk_at "st"
              intro L2 nL2
              have sL2 := same_upd (o := .lst [.int 0]) nL2
              have hL2 := upd_same (H := H8) (a := L2) (o := .lst [.int 0])
              generalize upd H8 L2 (.lst [.int 0]) = H9 at *
              have hh9 := sL2 _ _ hh8'
              have hz2 : ((List.replicate n (0 : Int)).map V.int).length + [V.int 0].length ≤ sizeLine := len_le (Nat.ble_eq_true_of_le (by rw [List.length_map, List.length_replicate]; show n + 1 ≤ 1000; omega))
              walk_at "st"
              intro R2 nR2
              have sR2 := same_upd (o := .lst ((List.replicate n (0 : Int)).map V.int ++ [.int 0])) nR2
              have hR2 := upd_same (H := H9) (a := R2) (o := .lst ((List.replicate n (0 : Int)).map V.int ++ [.int 0]))
              generalize upd H9 R2 (.lst ((List.replicate n (0 : Int)).map V.int ++ [.int 0])) = HA at *
              have hTA := (hT8.same sL2).same sR2
              have e0A := e4.trans ((e48.trans sL2).trans sR2)
              walk_at "st"
              refine iteB (fun h => absurd (V.int.inj (dec_t h)) (by omega)) (fun _ => ?_)
              walk_at "st"
              refine iteB (fun h => absurd (V.int.inj (dec_t h)) (by omega)) (fun _ => ?_)
              walk_at "st"
              refine iteB (fun h => absurd (V.int.inj (dec_t h)) (by omega)) (fun _ => ?_)
              walk_at "st"
              refine iteB (fun h => absurd (V.int.inj (dec_t h)) (by omega)) (fun _ => ?_)
              walk_at "st"
              intro T nT
              walk_at "st"
              intro B nB
              refine fin ⟨R, qs ++ [C], n + 1, _, R2, List.replicate n 0 ++ [0], pr⟩ "trade" HA T B e0A hTA (by rw [hR2, List.map_append]; rfl) ⟨by show n + 1 ≤ 9; omega, fun i hi => ?_, by show (List.replicate n (0 : Int) ++ [0]).length ≤ 9; rw [List.length_append, List.length_replicate]; show n + 1 ≤ 9; omega, .inl ⟨rfl, fun z => absurd z.1 (by show n + 1 ≠ n; omega)⟩⟩ nT nB
              show (if i < n then fu i ++ [0] else List.replicate (n + 1) 0).length ≤ 9
              split
              · rename_i hi
                rw [List.length_append, hD2.len i hi]
                show n + 1 ≤ 9
                omega
              · rw [List.length_replicate]
                omega
        have hk3 : s / 3 % 8 ≠ 3 := fun z => dec_f h (congrArg V.int z)
        walk_at "st"
        refine iteB (fun h => ?_) (fun h => ?_)
        · have hk : s / 3 % 8 = 4 := V.int.inj (dec_t h)
          walk_at "st"
          refine iteB (fun h => absurd (V.int.inj (dec_t h)) (by omega)) (fun _ => ?_)
          walk_at "st"
          refine iteB (fun h => absurd (V.int.inj (dec_t h)) (by omega)) (fun _ => ?_)
          walk_at "st"
          refine iteB (fun h => absurd (V.int.inj (dec_t h)) (by omega)) (fun _ => ?_)
          walk_at "st"
          intro T nT
          walk_at "st"
          intro B nB
          exact fin ⟨u, us2, n, fu, hh, List.replicate n 0, -1⟩ "trade" H4 T B e4 hu4 hh4 ⟨by show n ≤ 9; omega, hl9, hx9, .inl ⟨rfl, fun z => absurd (show (0 : Int) ≤ -1 from z.2.1) (by decide)⟩⟩ nT nB
        have hk4 : s / 3 % 8 ≠ 4 := fun z => dec_f h (congrArg V.int z)
        walk_at "st"
        refine iteB (fun h => ?_) (fun h => ?_)
        · have hk : s / 3 % 8 = 5 := V.int.inj (dec_t h)
          obtain ⟨r, hr1, hr2, hr3⟩ := hu4.at hhv
          rw [← ehv] at hr2
          have hr4 := SqL.of (K := K) hr3
          have hix : ixN ((fu hv).map V.int).length (s / 24 % (n : Int)) = some hv := by
            rw [ehv]
            exact ixN_nat (by rw [List.length_map, hD2.len hv hhv]; exact hhv)
          walk_at "st"
          rw [show (((fu hv).map V.int).set hv (V.int 1)) = ((fu hv).set hv 1).map V.int from (List.map_set ..).symm]
          have hj5 := hu4.setCell hr1 (xs := (fu hv).set hv 1)
          have e5 : Same H (upd H4 r (.lst (((fu hv).set hv 1).map V.int))) := TabR.keep e4 (hf2 r (List.mem_of_getElem? hr1))
          have hh5 : upd H4 r (.lst (((fu hv).set hv 1).map V.int)) hh = some (.lst ((List.replicate n (0 : Int)).map V.int)) := (upd_ne fun w => hhp (by rw [w]; exact List.mem_of_getElem? hr1)).trans hh4
          generalize upd H4 r (.lst (((fu hv).set hv 1).map V.int)) = H5 at *
          walk_at "st"
          refine iteB (fun h => absurd (V.int.inj (dec_t h)) (by omega)) (fun _ => ?_)
          walk_at "st"
          refine iteB (fun h => absurd (V.int.inj (dec_t h)) (by omega)) (fun _ => ?_)
          walk_at "st"
          intro T nT
          walk_at "st"
          intro B nB
          refine fin ⟨u, us2, n, setJ fu hv ((fu hv).set hv 1), hh, List.replicate n 0, pr⟩ "trade" H5 T B e5 hj5 hh5 ⟨by show n ≤ 9; omega, fun i hi => ?_, hx9, .inl ⟨rfl, fun z => ?_⟩⟩ nT nB
          · show (setJ fu hv ((fu hv).set hv 1) i).length ≤ 9
            by_cases h : i = hv
            · rw [h, setJ_at, List.length_set]
              exact hl9 hv hhv
            · rw [setJ_ne h]
              exact hl9 i hi
          · have := z.2.2.d hv hhv
            have : at0 (setJ fu hv ((fu hv).set hv 1) hv) hv = 0 := this
            rw [setJ_at, at0_set (by rw [hD2.len hv hhv]; omega), if_pos rfl] at this
            exact absurd this (by decide)
        have hk5 : s / 3 % 8 ≠ 5 := fun z => dec_f h (congrArg V.int z)
        walk_at "st"
        refine iteB (fun h => ?_) (fun h => ?_)
        · have hk : s / 3 % 8 = 6 := V.int.inj (dec_t h)
          have hix : ixN ((List.replicate n (0 : Int)).map V.int).length (s / 24 % (n : Int)) = some hv := by
            rw [ehv]
            exact ixN_nat (by rw [List.length_map, List.length_replicate]; exact hhv)
          walk_at "st"
          rw [show (((List.replicate n (0 : Int)).map V.int).set hv (V.int (-1))) = ((List.replicate n (0 : Int)).set hv (-1)).map V.int from (List.map_set ..).symm]
          have hj5 : JagR (upd H4 hh (.lst (((List.replicate n (0 : Int)).set hv (-1)).map V.int))) u us2 n fu := ⟨(upd_ne (Ne.symm hhu)).trans hu4.lst, hu4.len, fun j p hp => (upd_ne fun w => hhp (by rw [← w]; exact List.mem_of_getElem? hp)).trans (hu4.row j p hp), hu4.nod, hu4.out⟩
          have e5 : Same H (upd H4 hh (.lst (((List.replicate n (0 : Int)).set hv (-1)).map V.int))) := TabR.keep e4 hhf
          have hh5 := upd_same (H := H4) (a := hh) (o := .lst (((List.replicate n (0 : Int)).set hv (-1)).map V.int))
          generalize upd H4 hh (.lst (((List.replicate n (0 : Int)).set hv (-1)).map V.int)) = H5 at *
          walk_at "st"
          refine iteB (fun h => absurd (V.int.inj (dec_t h)) (by omega)) (fun _ => ?_)
          walk_at "st"
          intro T nT
          walk_at "st"
          intro B nB
          refine fin ⟨u, us2, n, fu, hh, (List.replicate n 0).set hv (-1), pr⟩ "amount" H5 T B e5 hj5 hh5 ⟨by show n ≤ 9; omega, hl9, by show ((List.replicate n (0 : Int)).set hv (-1)).length ≤ 9; rw [List.length_set]; exact hx9, .inr (.inl ⟨rfl, ⟨rfl, hp0, hD2⟩, fun z => ?_⟩)⟩ nT nB
          have := (z.2 (-1) (List.mem_iff_getElem?.mpr ⟨hv, List.getElem?_set_self (by rw [List.length_replicate]; omega)⟩)).1
          omega
        have hk6 : s / 3 % 8 ≠ 6 := fun z => dec_f h (congrArg V.int z)
        walk_at "st"
        refine iteB (fun h => ?_) (fun h => ?_)
        · walk_at "st"
          intro R nR
          rw [cutV_take (k := (n : Int) - 1) (by omega) (by rw [List.length_map, List.length_replicate]; omega), ← List.map_take]
          have sR := same_upd (o := .lst (((List.replicate n (0 : Int)).take ((n : Int) - 1).toNat).map V.int)) nR
          have hR := upd_same (H := H4) (a := R) (o := .lst (((List.replicate n (0 : Int)).take ((n : Int) - 1).toNat).map V.int))
          generalize upd H4 R (.lst (((List.replicate n (0 : Int)).take ((n : Int) - 1).toNat).map V.int)) = H5 at *
          have hlr : ((List.replicate n (0 : Int)).take ((n : Int) - 1).toNat).length = n - 1 := by
            rw [List.length_take, List.length_replicate]
            omega
          walk_at "st"
          intro T nT
          walk_at "st"
          intro B nB
          refine fin ⟨u, us2, n, fu, R, (List.replicate n 0).take ((n : Int) - 1).toNat, pr⟩ "amount" H5 T B (e4.trans sR) (hu4.same sR) hR ⟨by show n ≤ 9; omega, hl9, by show ((List.replicate n (0 : Int)).take ((n : Int) - 1).toNat).length ≤ 9; omega, .inr (.inl ⟨rfl, ⟨rfl, hp0, hD2⟩, fun z => ?_⟩)⟩ nT nB
          have : ((List.replicate n (0 : Int)).take ((n : Int) - 1).toNat).length = n := z.1
          omega
        walk_at "st"
        intro T nT
        walk_at "st"
        intro B nB
        exact fin ⟨u, us2, n, fu, hh, List.replicate n 0, pr⟩ "fine" H4 T B e4 hu4 hh4 ⟨by show n ≤ 9; omega, hl9, hx9, .inr (.inr ⟨rfl, ⟨rfl, hp0, hD2⟩, hhJ, hx0, hup⟩)⟩ nT nB

/-- one number of a table changed -/
def setF2 (f : Nat → Nat → Int) (i j : Nat) (x : Int) : Nat → Nat → Int := fun a b => if a = i ∧ b = j then x else f a b
theorem Tab.set {H : Hp} {t p : Addr} {ps : List Addr} {n i j : Nat} {f : Nat → Nat → Int} {x : Int} (h : Tab H t ps n f) (hp : ps[i]? = some p) (hj : j < n) : Tab (upd H p (.lst (((rowI n (f i)).map V.int).set j (.int x)))) t ps n (setF2 f i j x) := by
  have hm := List.mem_of_getElem? hp
  refine ⟨?_, h.len, fun a q hq => ?_, h.nod, h.out⟩
  · rw [upd_ne (fun z => h.out (by rw [z]; exact hm))]
    exact h.lst
  · by_cases z : a = i
    · subst z
      rw [hp] at hq
      cases hq
      rw [upd_same, ← List.map_set, rowI_set hj]
      refine congrArg (fun z => some (HO.lst (List.map V.int z))) (rowI_eq.mpr fun b hb => ?_)
      unfold setF2
      by_cases c : b = j
      · rw [if_pos c, if_pos ⟨rfl, c⟩]
      · rw [if_neg c, if_neg fun e => c e.2]
    · have hne : q ≠ p := fun e => by
        rw [e] at hq
        have h1 := List.getElem?_eq_some_iff.mp hq
        have h2 := List.getElem?_eq_some_iff.mp hp
        exact z ((List.getElem_inj h.nod).mp (h1.2.trans h2.2.symm))
      rw [upd_ne hne, h.row a q hq]
      refine congrArg (fun z => some (HO.lst (List.map V.int z))) (rowI_eq.mpr fun b hb => ?_)
      unfold setF2
      rw [if_neg fun e => z e.1]

/-- the cells that are done: the rows above a, and of the row a those left of b -/
def doneF (f w : Nat → Nat → Int) (a b i j : Nat) : Int := if i < a ∨ (i = a ∧ j < b) then f i j + w i j else f i j
/-- debts with all units of these instruments at their prices -/
def addI (f : Nat → Nat → Int) (xs : List InJ) : Nat → Nat → Int := xs.foldl (fun g x a b => g a b + cellJ x.f a b * x.p) f
theorem addI_snoc {f : Nat → Nat → Int} {xs : List InJ} {x : InJ} {a b : Nat} : addI f (xs ++ [x]) a b = addI f xs a b + cellJ x.f a b * x.p := by
  unfold addI
  rw [List.foldl_append]
  rfl
def sp_law_debts (K : PySem.W.Frag) : Sp := fun vs H Q _ => ∃ (f : Nat → Nat → Int) (t l : Addr) (ps as : List Addr) (xs : List InJ) (n : Nat), vs = [.ref t, .ref l] ∧ Tab H t ps n f ∧ n ≤ 13 ∧ InJL H l as xs ∧ (∀ x, x ∈ xs → OkJ n x) ∧
  ∀ r rs H', Same H H' → H r = none → Tab H' r rs n (addI f xs) → Q (.ref r) H'
set_option maxHeartbeats 0 in
theorem ok_law_debts (T : Txt K mg) : FnOk P w K mg base CX0 1 T.f_law_debts T.d_law_debts ["owed", "instruments"] (sp_law_debts K) := by
  refine T.F_law_debts.ok sc_law_debts (fun vs H Q E h => ?_) (fun cdv A outer s H vs Q E hr h => ?_)
  · obtain ⟨f, t, l, ps, as, xs, n, rfl, _⟩ := h
    rfl
  · obtain ⟨f', t, l, ps, as, xs, n, rfl, ht, hn1, hI, hok, q⟩ := h
    
    have hlt : (ps.map V.ref).length = n := by rw [List.length_map, ht.len]
    have hts := SqL.of (K := K) ht.lst
    have hIs := SqL.of (K := K) hI.lst
    have hil : (as.map V.ref).length = xs.length := by rw [List.length_map, hI.len]
    refine ⟨_, (pss_cons (ps_setLc (i := 2) (own := [("row", 3)]) (g := gName 3) (tt := tYes) rfl sc_law_debts.nd rfl rfl (sw_true rfl rfl rfl (by decide +kernel)) (pi_list (pv 0)) (blkOk_by (own := [("row", 3)]) (N := N_law_debts) (sc := defScope s_law_debts) (by decide +kernel)) (fun _ _ _ _ _ => (pg_name (i := 3) sc_law_debts.nd rfl (Or.inl rfl))) (fun _ _ _ _ _ => pts_nil) (fun _ _ _ _ _ => (pe_callTy (show CallR _ (.type "list") (rListOf K) from call_list_of) (by rfl) T.z_list (by decide +kernel) (pa_cons (pv 3) pa_nil))))
    (pss_cons (ps_for PassesOwn.never rfl (pi_list (pv 1)) (pg_tup rfl (pgs_cons (pg_name (i := 4) sc_law_debts.nd rfl (Or.inl rfl)) (pgs_cons (pg_name (i := 5) sc_law_debts.nd rfl (Or.inl rfl)) (pgs_cons (pg_name (i := 6) sc_law_debts.nd rfl (Or.inl rfl)) pgs_nil))))
      (pss_one (ps_for PassesOwn.never rfl (pi_range1 (by rfl) T.z_range (pa_cons (pe_callB call_len_seq (by rfl) T.z_len PySem.boot_len (pa_cons (pv 0) pa_nil)) pa_nil)) (pg_name (i := 7) sc_law_debts.nd rfl (Or.inl rfl))
        (pss_one (ps_for PassesOwn.never rfl (pi_range1 (by rfl) T.z_range (pa_cons (pe_callB call_len_seq (by rfl) T.z_len PySem.boot_len (pa_cons (pv 0) pa_nil)) pa_nil)) (pg_name (i := 8) sc_law_debts.nd rfl (Or.inl rfl))
          (pss_one (ps_asg (pe_op op_add (pe_ix ix_list (pe_ix ix_list (pv 2) (pv 7) (fun _ _ => rfl)) (pv 8) (fun _ _ => rfl)) (pe_op op_mul (pe_ix ix_list (pe_ix ix_list (pv 4) (pv 7) (fun _ _ => rfl)) (pv 8) (fun _ _ => rfl)) (pv 6))) (pg_sub (pe_ix ix_list (pv 2) (pv 7) (fun _ _ => rfl)) (pv 8) set_list))))))))
    (pss_one (ps_ret (pv 2))))), ?_⟩
    walk_at "st"
    intro D nD
    refine lc_copy ht (by omega) nD rfl fun H1 qs e1 hT1 hfr => ?_
    have hIs1 := e1.seq hIs
    walk_at "st"
    refine for_list (K := K) (a := l) (xs := as.map V.ref) (fun i σ H' => ∃ (v4 v5 v6 v7 v8 : Option V) (g : Nat → Nat → Int), σ = [some (.ref t), some (.ref l), some (.ref D), none, v4, v5, v6, v7, v8] ∧ Same H H' ∧ Tab H' D qs n g ∧ ∀ a, a < n → ∀ b, b < n → g a b = addI f' (xs.take i) a b)
      ⟨none, none, none, none, none, f', rfl, e1, hT1, fun _ _ _ _ => rfl⟩ (fun i σ H' _ ⟨_, _, _, _, _, _, _, e, _⟩ => e.seq hIs) ?_ ?_
    · rintro i v σ H2 hvv ⟨v4, v5, v6, v7, v8, g, rfl, e2, hT, hg⟩
      obtain ⟨a, x, ha, hxi, rfl, hat⟩ := (hI.same e2).item hvv
      obtain ⟨okm, okp, okd⟩ := hok x (List.mem_of_getElem? hxi)
      have htup : SqT K H2 a [.ref x.t, .ref x.h, .int x.p] := SqT.of hat.tup
      have hts2 := e2.seq hts
      walk_at "st"
      refine for_range (lo := 0) (n := (((ps.map V.ref).length : Nat) : Int).toNat) (fun u σ H' => ∃ (v7 v8 : Option V) (g2 : Nat → Nat → Int), σ = [some (.ref t), some (.ref l), some (.ref D), none, some (.ref x.t), some (.ref x.h), some (.int x.p), v7, v8] ∧ Same H H' ∧ Tab H' D qs n g2 ∧ ∀ a, a < n → ∀ b, b < n → g2 a b = doneF g (fun a b => cellJ x.f a b * x.p) u 0 a b)
        ⟨v7, v8, g, rfl, e2, hT, fun a ha b hb => by unfold doneF; rw [if_neg (by omega)]⟩ ?_ ?_
      · rintro u σ H5 hu ⟨v7, v8, g2, rfl, e5, hT5, hg2⟩
        rw [hlt, Int.toNat_natCast] at hu
        rw [show (0 : Int) + u = ((u : Nat) : Int) by omega]
        have hts5 := e5.seq hts
        walk_at "st"
        refine for_range (lo := 0) (n := (((ps.map V.ref).length : Nat) : Int).toNat) (fun v σ H' => ∃ (v8 : Option V) (g3 : Nat → Nat → Int), σ = [some (.ref t), some (.ref l), some (.ref D), none, some (.ref x.t), some (.ref x.h), some (.int x.p), some (.int (u : Int)), v8] ∧ Same H H' ∧ Tab H' D qs n g3 ∧ ∀ a, a < n → ∀ b, b < n → g3 a b = doneF g (fun a b => cellJ x.f a b * x.p) u v a b)
          ⟨v8, g2, rfl, e5, hT5, hg2⟩ ?_ ?_
        · rintro v σ H6 hv ⟨v8, g3, rfl, e6, hT6, hg3⟩
          rw [hlt, Int.toNat_natCast] at hv
          rw [show (0 : Int) + v = ((v : Nat) : Int) by omega]
          have hux := (hI.row i a x ha hxi).same e6
          have huj := hux.jag
          obtain ⟨p1, hp1, hp2, hp3⟩ := huj.at (show u < x.m by omega)
          obtain ⟨p4, hs1, hs2, hs3⟩ := hT6.at hu
          have t1 := SqL.of (K := K) huj.lst
          have t4 := SqL.of (K := K) hT6.lst
          have u1 := SqL.of (K := K) hp3
          have u4 := SqL.of (K := K) hs3
          have c1 : atI ((x.f u).map V.int) (v : Int) = some (.int (cellJ x.f u v)) := atI_n (by rw [okd.len u (by omega)]; omega)
          have hcb := okd.debts.b u (by omega) v (by omega)
          have c4 := atI_row (g := g3 u) hv
          have hix : ixN ((rowI n (g3 u)).map V.int).length (v : Int) = some v := ixN_nat (by rw [List.length_map, rowI_len]; exact hv)
          walk_at "st"
          refine ⟨_, _, rfl, TabR.keep e6 (hfr p4 (List.mem_of_getElem? hs1)), hT6.set hs1 hv, fun a ha b' hb' => ?_⟩
          have h0 := hg3 a ha b' hb'
          unfold setF2
          by_cases hc : a = u ∧ b' = v
          · obtain ⟨rfl, rfl⟩ := hc
            rw [if_pos ⟨rfl, rfl⟩]
            show g3 a b' + cellJ x.f a b' * x.p = _
            rw [h0]
            unfold doneF
            rw [if_neg (by omega), if_pos (by omega)]
          · rw [if_neg hc, h0]
            unfold doneF
            by_cases hh : a < u ∨ (a = u ∧ b' < v)
            · rw [if_pos hh, if_pos (by omega)]
            · rw [if_neg hh, if_neg (by omega)]
        · rintro σ H6 ⟨v8, g3, rfl, e6, hT6, hg3⟩
          rw [hlt, Int.toNat_natCast] at hg3
          refine ⟨_, _, g3, rfl, e6, hT6, fun a ha b hb => ?_⟩
          rw [hg3 a ha b hb]
          unfold doneF
          by_cases h : a < u + 1
          · rw [if_pos (by omega), if_pos (by omega)]
          · rw [if_neg (by omega), if_neg (by omega)]
      · rintro σ H5 ⟨v7, v8, g2, rfl, e5, hT5, hg2⟩
        rw [hlt, Int.toNat_natCast] at hg2
        refine ⟨_, _, _, _, _, g2, rfl, e5, hT5, fun a ha b hb => ?_⟩
        rw [hg2 a ha b hb, take_succ hxi, addI_snoc]
        unfold doneF
        rw [if_pos (.inl ha), hg a ha b hb]
    · rintro σ H2 ⟨v4, v5, v6, v7, v8, g, rfl, e2, hT, hg⟩
      rw [hil, List.take_length] at hg
      walk_at "st"
      exact q D qs H2 e2 nD (hT.congr hg)
def coreJ (x : InJ) : Nat × (Nat → List Int) × List Int × Int := (x.m, x.f, x.xs, x.p)
theorem rem_mono {H H' : Hp} {a : Addr} (e : Same H H') : Same (rem H a) (rem H' a) := fun z o h => by
  unfold rem at h ⊢
  split at h
  · cases h
  · next hz => rw [if_neg hz]; exact e z o h
structure CopL (H : Hp) (l : Addr) (as : List Addr) (xs : List InJ) : Prop where
  lst : H l = some (.lst (as.map V.ref))
  len : as.length = xs.length
  row : ∀ (i : Nat) (a : Addr) (x : InJ), as[i]? = some a → xs[i]? = some x → InJAt (rem H l) a x
theorem CopL.inj {H : Hp} {l : Addr} {as : List Addr} {xs : List InJ} (h : CopL H l as xs) : InJL H l as xs := ⟨h.lst, h.len, fun i a x h1 h2 => (h.row i a x h1 h2).same rem_same⟩
theorem CopL.push {H H' : Hp} {l a : Addr} {as : List Addr} {xs : List InJ} {x : InJ} (h : CopL H l as xs) (e : Same H H') (hx : InJAt (rem H' l) a x) : CopL (upd H' l (.lst (as.map V.ref ++ [V.ref a]))) l (as ++ [a]) (xs ++ [x]) := by
  have k : Same (rem H' l) (rem (upd H' l (.lst (as.map V.ref ++ [V.ref a]))) l) := fun z o h => by
    unfold rem at h ⊢
    split at h
    · cases h
    · next hz => rw [if_neg hz, upd_ne hz]; exact h
  refine ⟨by rw [upd_same, List.map_append]; rfl, by rw [List.length_append, List.length_append, h.len]; rfl, fun i b y h1 h2 => ?_⟩
  by_cases hi : i < as.length
  · rw [List.getElem?_append_left hi] at h1
    rw [List.getElem?_append_left (by rw [← h.len]; exact hi)] at h2
    exact ((h.row i b y h1 h2).same (rem_mono e)).same k
  · have hl := h.len
    rw [List.getElem?_append_right (by omega)] at h1 h2
    have hi2 := (List.getElem?_eq_some_iff.mp h1).1
    rw [List.length_cons, List.length_nil] at hi2
    rw [show i - as.length = 0 by omega] at h1
    rw [show i - xs.length = 0 by omega] at h2
    obtain rfl := Option.some.inj h1
    obtain rfl := Option.some.inj h2
    exact hx.same k
def sp_law_copies (K : PySem.W.Frag) : Sp := fun vs H Q _ => ∃ (_ : Unit) (l : Addr) (as : List Addr) (xs : List InJ), vs = [.ref l] ∧ InJL H l as xs ∧ xs.length ≤ 9 ∧ (∀ x, x ∈ xs → x.m ≤ 900) ∧
  ∀ (_ : Unit) r as' ys H', Same H H' → InJL H' r as' ys → ys.map coreJ = xs.map coreJ → Q (.ref r) H'
set_option maxHeartbeats 0 in
theorem ok_law_copies (T : Txt K mg) : FnOk P w K mg base CX0 1 T.f_law_copies T.d_law_copies ["instruments"] (sp_law_copies K) := by
  refine T.F_law_copies.ok sc_law_copies (fun vs H Q E h => ?_) (fun cdv A outer s H vs Q E hr h => ?_)
  · obtain ⟨_, l, as, xs, rfl, _⟩ := h
    rfl
  · obtain ⟨_, l, as, xs, rfl, hI, hl9, hm9, q⟩ := h
    
    have hIs := SqL.of (K := K) hI.lst
    refine ⟨_, (pss_one (ps_ret (pe_lc (own := [("units", 2), ("held", 3), ("price", 4)]) (tt := tYes) rfl sc_law_copies.nd (pi_list (pv 0)) (blkOk_by (own := [("units", 2), ("held", 3), ("price", 4)]) (N := N_law_copies) (sc := defScope s_law_copies) (by decide +kernel)) (fun _ _ _ _ _ => (show PG _ _ (gTup K 3 (gCons (gName 2) (gCons (gName 3) (gCons (gName 4) gNil)))) from (pg_tup rfl (pgs_cons (pg_name (i := 2) sc_law_copies.nd rfl (Or.inl rfl)) (pgs_cons (pg_name (i := 3) sc_law_copies.nd rfl (Or.inl rfl)) (pgs_cons (pg_name (i := 4) sc_law_copies.nd rfl (Or.inl rfl)) pgs_nil)))))) (fun _ _ _ _ _ => pts_nil) (fun _ _ _ _ _ => (pe_tup (pa_cons (pe_lc (own := [("row", 1)]) (g := gName 1) (tt := tYes) rfl sc_law_copies.nd (show PI _ _ _ (iList K _) from pi_list (pv 2)) (blkOk_by (own := [("row", 1)]) (N := N_law_copies) (by show blkC _ (relS _ (defScope s_law_copies)) _ _ = true; decide +kernel)) (fun _ _ _ _ _ => (pg_name (i := 1) sc_law_copies.nd rfl (Or.inl rfl))) (fun _ _ _ _ _ => pts_nil) (fun _ _ _ _ _ => (pe_callTy (show CallR _ (.type "list") (rListOf K) from call_list_of) (by rfl) T.z_list (by decide +kernel) (pa_cons (pv 1) pa_nil)))) (pa_cons (pe_callTy (show CallR _ (.type "list") (rListOf K) from call_list_of) (by rfl) T.z_list (by decide +kernel) (pa_cons (pv 3) pa_nil)) (pa_cons (pv 4) pa_nil)))))))), ?_⟩
    walk_at "st"
    intro D nD
    refine lc_list (K := K) (a := l) (xs := as.map V.ref) (fun i H' => ∃ (_ : Unit) (bs : List Addr) (ys : List InJ), CopL H' D bs ys ∧ ys.map coreJ = (xs.take i).map coreJ ∧ Same H H') ⟨(), [], [], ⟨upd_same, rfl, fun i a x h1 => by rw [List.getElem?_nil] at h1; cases h1⟩, rfl, same_upd nD⟩ (fun i H' _ ⟨_, _, _, _, _, e⟩ => e.seq hIs) ?_ ?_
    · rintro i v H2 hvv ⟨_, bs, ys, hC, hys, e2⟩
      obtain ⟨a, x, ha, hxi, rfl, hat⟩ := (hI.same e2).item hvv
      have htup : SqT K H2 a [.ref x.t, .ref x.h, .int x.p] := SqT.of hat.tup
      have hbl : bs.length ≤ 9 := by
        have h1 := congrArg List.length hys
        rw [List.length_map, List.length_map, List.length_take] at h1
        have := hC.len
        omega
      have hxt := SqL.of (K := K) hat.jag.lst
      walk_at "st"
      intro E nE
      refine lc_copyJ hat.jag (hm9 x (List.mem_of_getElem? hxi)) nE rfl fun H3 qs e3 hT3 hf3 => ?_
      have hh3 := SqL.of (K := K) (e3 _ _ hat.held)
      walk_at "st"
      intro hl nhl
      have shl := same_upd (o := .lst (x.xs.map V.int)) nhl
      have hhl := upd_same (H := H3) (a := hl) (o := .lst (x.xs.map V.int))
      generalize upd H3 hl (.lst (x.xs.map V.int)) = H4 at *
      walk_at "st"
      intro T nT
      have sT := same_upd (o := .tup [.ref E, .ref hl, .int x.p]) nT
      have hT := upd_same (H := H4) (a := T) (o := .tup [.ref E, .ref hl, .int x.p])
      generalize upd H4 T (.tup [.ref E, .ref hl, .int x.p]) = H5 at *
      have e25 := (e3.trans shl).trans sT
      have hD2 := hC.lst
      have hD5 := e25 _ _ hD2
      have nf : ∀ z, H2 z = none → z ≠ D := fun z hz w => by rw [w, hD2] at hz; cases hz
      have hJ5 := (hT3.same shl).same sT
      refine ⟨_, hD5, small1000 (by rw [List.length_map]; omega), (), bs ++ [T], ys ++ [⟨E, qs, x.m, x.f, hl, x.xs, x.p⟩], hC.push e25 ⟨rem_at hT (nf T ((e3.trans shl).free nT)), ⟨rem_at hJ5.lst (nf E nE), hJ5.len, fun j p hp => rem_at (hJ5.row j p hp) (nf p (hf3 p (List.mem_of_getElem? hp))), hJ5.nod, hJ5.out⟩, rem_at (sT _ _ hhl) (nf hl (e3.free nhl))⟩, ?_, TabR.keep (e2.trans e25) nD⟩
      rw [take_succ hxi, List.map_append, List.map_append, hys]
      rfl
    · rintro H2 ⟨_, bs, ys, hC, hys, e2⟩
      rw [List.length_map, hI.len, List.take_length] at hys
      exact q () D bs ys H2 e2 hC.inj hys

theorem le_sumI : ∀ {n : Nat} {h : Nat → Int}, (∀ i, i < n → 0 ≤ h i) → ∀ {j : Nat}, j < n → h j ≤ sumI n h
  | 0, _, _, _, hj => absurd hj (Nat.not_lt_zero _)
  | n + 1, h, h0, j, hj => by
    rw [sumI_succ]
    have hs : 0 ≤ sumI n h := by
      have : ∀ m, m ≤ n → 0 ≤ sumI m h := fun m => by
        induction m with
        | zero => exact fun _ => Int.le_refl 0
        | succ m ih =>
          intro hm
          rw [sumI_succ]
          have := ih (by omega)
          have := h0 m (by omega)
          omega
      exact this n (Nat.le_refl _)
    by_cases e : j = n
    · rw [e]
      omega
    · have := le_sumI (n := n) (h := h) (fun i hi => h0 i (by omega)) (show j < n by omega)
      have := h0 n (by omega)
      omega
/-- with nothing held and debts to later ones alone nothing is paid -/
theorem best_zero {n : Nat} {g : Nat → Nat → Int} {M : Int} {cash y : Nat → Int} (hd : Debts n g M) (up : ∀ i, i < n → ∀ j, j < n → ¬ i < j → g i j = 0) (hc : ∀ i, i < n → cash i = 0) (hb : BestP n g cash y) : ∀ i, i < n → y i = 0 := by
  intro i
  induction i using Nat.strongRecOn with
  | ind i ih =>
    intro hi
    have hinc : incF n g y i = 0 := by
      unfold incF
      rw [sumI_congr (g := fun _ => 0) fun a ha => ?_]
      · have : ∀ m : Nat, sumI m (fun _ => (0 : Int)) = 0 := fun m => by
          induction m with
          | zero => rfl
          | succ m ih => rw [sumI_succ, ih]; rfl
        exact this n
      · have h1 := recF_b hd hb.ok ha hi
        by_cases hai : a < i
        · have h2 := recF_sum hd hb.ok ha
          rw [ih a hai ha] at h2
          have h3 := le_sumI (h := recF n g y a) (fun j hj => (recF_b hd hb.ok ha hj).1) hi
          omega
        · have := up a ha i hi hai
          omega
    have h1 := hb.fx i hi
    have h2 := hb.ok.b i hi
    unfold rndF at h1
    rw [hinc, hc i hi] at h1
    split at h1 <;> omega

theorem Inst61.core {n : Nat} {x y : InJ} {w : Str} (h : Inst61 n x w) (e : coreJ y = coreJ x) : Inst61 n y w := by
  cases x with
  | mk t ps m f a xs p => cases y with
    | mk t' ps' m' f' a' xs' p' =>
      unfold coreJ at e
      simp only [Prod.mk.injEq] at e
      obtain ⟨e1, e2, e3, e4⟩ := e
      subst e1 e2 e3 e4
      exact ⟨h.m, h.len, h.xs, h.case⟩
theorem Inst61.fine {n : Nat} {x : InJ} {w : Str} (h : Inst61 n x w) (e : w = "fine") : OkJ n x ∧ HeldJ x.xs n ∧ (∀ i, i < n → at0 x.xs i = 0) ∧ ∀ i, i < n → ∀ j, j < n → ¬ i < j → cellJ x.f i j = 0 := by
  rcases h.case with z | z | z
  · exact absurd (z.1.symm.trans e) (by decide)
  · exact absurd (z.1.symm.trans e) (by decide)
  · exact z.2
theorem Inst61.trade {n : Nat} {x : InJ} {w : Str} (h : Inst61 n x w) (e : ¬ OkJ n x) : w = "trade" := by
  rcases h.case with z | z | z
  · exact z.1
  · exact absurd z.2.1 e
  · exact absurd z.2.1 e
theorem Inst61.amount {n : Nat} {x : InJ} {w : Str} (h : Inst61 n x w) (e : OkJ n x) (g : ¬ HeldJ x.xs n) : w = "amount" := by
  rcases h.case with z | z | z
  · exact absurd e z.2
  · exact z.1
  · exact absurd z.2.2.1 g
theorem Inst61.done {n : Nat} {x : InJ} {w : Str} (h : Inst61 n x w) (e : OkJ n x) (g : HeldJ x.xs n) : w = "fine" := by
  rcases h.case with z | z | z
  · exact absurd e z.2
  · exact absurd g z.2.2
  · exact z.1
theorem Inst61.mis {n : Nat} {x : InJ} {w : Str} {y : Nat → Int} (h : Inst61 n x w) (e : w = "fine") (hb : BestP n (cellJ x.f) (at0 x.xs) y) {a b : Nat} (ha : a < n) (hb2 : b < n) : missF n (cellJ x.f) y a b = cellJ x.f a b := by
  obtain ⟨hok, hh, hz, hup⟩ := h.fine e
  have hdx := hok.2.2.debts
  rw [hok.1] at hdx
  have hy := best_zero hdx hup hz hb
  have q1 := recF_b hdx hb.ok ha hb2
  have q2 := recF_sum hdx hb.ok ha
  rw [hy a ha] at q2
  have q3 := le_sumI (h := recF n (cellJ x.f) y a) (fun j hj => (recF_b hdx hb.ok ha hj).1) hb2
  unfold missF
  omega
/-- what is told of a day -/
structure Out61 (n : Nat) (f : Nat → Nat → Int) (xs : List InJ) (due : Str) (d : List (List Int)) : Prop where
  tr : DayOut n f xs .trade → due = "trade" ∧ d = []
  am : DayOut n f xs .amount → due = "amount" ∧ d = []
  fi : ∀ g, DayOut n f xs (.fine g) → (¬ DebtsJ n (rowsJ n g) → due = "trade" ∧ d = []) ∧ (DebtsJ n (rowsJ n g) → due = "fine" ∧ d = jagL n (rowsJ n g))
theorem day61 {n : Nat} {f : Nat → Nat → Int} {x y : InJ} {w1 w2 due : Str} {d : List (List Int)} (hv : Debts n f 1000000000000000) (i1 : Inst61 n x w1) (i2 : Inst61 n y w2)
    (h1 : w1 ≠ "fine" → due = w1 ∧ d = []) (h2 : w1 = "fine" → w2 ≠ "fine" → due = w2 ∧ d = [])
    (h3 : w1 = "fine" → w2 = "fine" → (∃ a, a < n ∧ ∃ b, b < n ∧ 1000000000000000 < addI f [x, y] a b) → due = "trade" ∧ d = [])
    (h4 : w1 = "fine" → w2 = "fine" → ¬ (∃ a, a < n ∧ ∃ b, b < n ∧ 1000000000000000 < addI f [x, y] a b) → due = "fine" ∧ d = jagL n (rowsJ n (addI f [x, y]))) : Out61 n f [x, y] due d := by
  have tf : ("trade" : Str) ≠ "fine" := by decide
  have af : ("amount" : Str) ≠ "fine" := by decide
  refine ⟨fun ho => ?_, fun ho => ?_, fun g ho => ?_⟩
  · cases ho with
    | trade _ _ _ hno =>
      have e := i1.trade hno
      rw [h1 (by rw [e]; exact tf) |>.1, h1 (by rw [e]; exact tf) |>.2, e]
      exact ⟨rfl, rfl⟩
    | next _ _ _ _ _ hok hh _ hr =>
      have e1 := i1.done hok hh
      cases hr with
      | trade _ _ _ hno =>
        have e := i2.trade hno
        have h := h2 e1 (by rw [e]; exact tf)
        exact ⟨h.1.trans e, h.2⟩
      | next _ _ _ _ _ _ _ _ hr => cases hr
  · cases ho with
    | amount _ _ _ hok hno =>
      have e := i1.amount hok hno
      have h := h1 (by rw [e]; exact af)
      exact ⟨h.1.trans e, h.2⟩
    | next _ _ _ _ _ hok hh _ hr =>
      have e1 := i1.done hok hh
      cases hr with
      | amount _ _ _ hok hno =>
        have e := i2.amount hok hno
        have h := h2 e1 (by rw [e]; exact af)
        exact ⟨h.1.trans e, h.2⟩
      | next _ _ _ _ _ _ _ _ hr => cases hr
  · cases ho with
    | next _ _ _ y1 _ hok hh hb hr =>
      have e1 := i1.done hok hh
      cases hr with
      | next _ _ _ y2 _ hok2 hh2 hb2 hr =>
        have e2 := i2.done hok2 hh2
        cases hr
        have hg : ∀ a, a < n → ∀ b, b < n → addJ n (addJ n f x y1) y y2 a b = addI f [x, y] a b := fun a ha b hb' => by
          show f a b + missF n (cellJ x.f) y1 a b * x.p + missF n (cellJ y.f) y2 a b * y.p = f a b + cellJ x.f a b * x.p + cellJ y.f a b * y.p
          rw [i1.mis e1 hb ha hb', i2.mis e2 hb2 ha hb']
        have hd1 := hok.2.2.debts
        have hd2 := hok2.2.2.debts
        rw [hok.1] at hd1
        rw [hok2.1] at hd2
        have key : DebtsJ n (rowsJ n (addJ n (addJ n f x y1) y y2)) ↔ ¬ ∃ a, a < n ∧ ∃ b, b < n ∧ 1000000000000000 < addI f [x, y] a b := by
          constructor
          · rintro hD ⟨a, ha, b, hb2, hlt⟩
            have q1 := (hD.debts.b a ha b hb2).2
            rw [cell_rows hb2, hg a ha b hb2] at q1
            omega
          · intro hno
            refine ⟨hv.n0, hv.n1, fun i hi => rowI_len _ _, fun i hi z hzz => ?_, fun i hi => ?_⟩
            · obtain ⟨j, hj, hjz⟩ := rowI_mem.mp hzz
              rw [hg i hi j hj] at hjz
              have q4 : ¬ 1000000000000000 < addI f [x, y] i j := fun z => hno ⟨i, hi, j, hj, z⟩
              have q5 : addI f [x, y] i j = f i j + cellJ x.f i j * x.p + cellJ y.f i j * y.p := rfl
              have q1 := hv.b i hi j hj
              have q2 : 0 ≤ cellJ x.f i j * x.p := Int.mul_nonneg (hd1.b i hi j hj).1 hok.2.1
              have q3 : 0 ≤ cellJ y.f i j * y.p := Int.mul_nonneg (hd2.b i hi j hj).1 hok2.2.1
              omega
            · show at0 (rowI n (addJ n (addJ n f x y1) y y2 i)) i = 0
              rw [at0_of (rowI_at hi), hg i hi i hi]
              show f i i + cellJ x.f i i * x.p + cellJ y.f i i * y.p = 0
              rw [hv.d i hi, hd1.d i hi, hd2.d i hi, Int.zero_mul, Int.zero_mul]
              rfl
        refine ⟨fun hD => h3 e1 e2 (Classical.byContradiction fun z => hD (key.mpr z)), fun hD => ?_⟩
        have h := h4 e1 e2 (key.mp hD)
        refine ⟨h.1, h.2.trans (jagL_eq fun i hi => ?_)⟩
        exact rowI_eq.mpr fun j hj => (hg i hi j hj).symm
theorem DayOut.core {n : Nat} {g : Nat → Nat → Int} {ys : List InJ} {o : DayO} (h : DayOut n g ys o) : ∀ {xs : List InJ}, xs.map coreJ = ys.map coreJ → DayOut n g xs o := by
  have key : ∀ {x y : InJ}, coreJ x = coreJ y → x = ⟨x.t, x.ps, y.m, y.f, x.h, y.xs, y.p⟩ := fun {x y} e => by
    cases x with
    | mk t ps m f a xs p => cases y with
      | mk t' ps' m' f' a' xs' p' =>
        unfold coreJ at e
        simp only [Prod.mk.injEq] at e
        obtain ⟨e1, e2, e3, e4⟩ := e
        subst e1 e2 e3 e4
        rfl
  have cut : ∀ {xs r : List InJ} {y : InJ}, xs.map coreJ = (y :: r).map coreJ → ∃ t ps a r', xs = ⟨t, ps, y.m, y.f, a, y.xs, y.p⟩ :: r' ∧ r'.map coreJ = r.map coreJ := fun {xs r y} e => by
    cases xs with
    | nil => cases e
    | cons x r' =>
      obtain ⟨e1, e2⟩ := List.cons.inj e
      exact ⟨x.t, x.ps, x.h, r', congrArg (· :: r') (key e1), e2⟩
  induction h with
  | nil g =>
    intro xs e
    cases xs with
    | nil => exact .nil g
    | cons x r => cases e
  | trade g x r h =>
    intro xs e
    obtain ⟨t, ps, a, r', rfl, e2⟩ := cut e
    exact .trade _ _ _ h
  | amount g x r h h2 =>
    intro xs e
    obtain ⟨t, ps, a, r', rfl, e2⟩ := cut e
    exact .amount _ _ _ h h2
  | next g x r y o h h2 hb _ ih =>
    intro xs e
    obtain ⟨t, ps, a, r', rfl, e2⟩ := cut e
    exact .next _ _ _ y _ h h2 hb (ih e2)
theorem layD_due : LayD (fun x : Str × List (List Int) => PyData.tuple [.str x.1, PyData.list (x.2.map fun ys => PyData.list (ys.map PyData.int))]) 3 (fun x => PyData.strOk x.1 = true ∧ ∀ a, a ∈ x.2 → ∀ b, b ∈ a → True) := (layD_str.up (by decide)).tup2 layD_tab
theorem eq61 {H : Hp} {p B : Addr} {x y : Str × List (List Int)} {Q : VK} (hp : Dp K H (.ref p) (PyData.tuple [.str x.1, PyData.list (x.2.map fun ys => PyData.list (ys.map PyData.int))])) (hB : Dp K H (.ref B) (PyData.tuple [.str y.1, PyData.list (y.2.map fun ys => PyData.list (ys.map PyData.int))])) (h1 : y.1 = x.1 ∧ y.2 = x.2) (hs : PyData.strOk x.1 = true) (q : Q (.bl true) H) : rEqD K (.ref p) (.ref B) H Q := by
  refine eqL layD_due (by decide) (a := x) (b := y) ⟨hs, fun _ _ _ _ => trivial⟩ ⟨by rw [h1.1]; exact hs, fun _ _ _ _ => trivial⟩ hp hB ?_
  rw [decide_eq_true (Prod.ext h1.1.symm h1.2.symm)]
  exact q
def sp_law (K : PySem.W.Frag) : Sp := fun vs H Q _ => ∃ (a : Addr) (ns : List Int), vs = [.ref a] ∧ SqL K H a (ns.map V.int) ∧ ns.length ≤ 63 ∧ ∀ H', Q (.bl true) H'
set_option maxHeartbeats 0 in
theorem ok_law {f : Addr} {fd : FuncData} (T : Txt K mg) (F : Fun K "law" "law" s_law f fd) : FnOk P w K mg base CX0 13 f fd ["script"] (sp_law K) := by
  refine F.ok sc_law (fun vs H Q E h => ?_) (fun cdv A outer s H vs Q E hr h => ?_)
  · obtain ⟨a, ns, rfl, _⟩ := h
    rfl
  · obtain ⟨a, ns, rfl, hs, hlen, q⟩ := h
    have G_law_small_table : FnOk P w K mg base CX0 3 T.f_law_small_table T.d_law_small_table ["script", "at", "count", "size"] (sp_law_small_table K) := ok_law_small_table T
    have G_law_draws : FnOk P w K mg base CX0 1 T.f_law_draws T.d_law_draws ["cell", "count", "size"] (sp_law_draws K) := ok_law_draws T
    have G_law_instrument : FnOk P w K mg base CX0 4 T.f_law_instrument T.d_law_instrument ["script", "at", "count"] (sp_law_instrument K) := ok_law_instrument T
    have G_law_told : FnOk P w K mg base CX0 12 T.f_law_told T.d_law_told ["instruments", "owed", "cash"] (sp_law_told K) := ok_law_told T
    have G_law_cell : FnOk P w K mg base CX0 1 T.f_law_cell T.d_law_cell ["script", "k"] (sp_law_cell K) := ok_law_cell T
    have G_law_debts : FnOk P w K mg base CX0 1 T.f_law_debts T.d_law_debts ["owed", "instruments"] (sp_law_debts K) := ok_law_debts T
    have G_law_copies : FnOk P w K mg base CX0 1 T.f_law_copies T.d_law_copies ["instruments"] (sp_law_copies K) := ok_law_copies T
    refine ⟨_, (pss_cons (ps_set (i := 1) sc_law.nd rfl (Or.inl rfl) (pe_op op_add pe_int (pe_op op_mod (pe_callB call_abs (by rfl) T.z_abs (by decide +kernel) (pa_cons (pe_call G_law_cell (hr.mono (by decide)) (by rfl) T.m_law_cell T.F_law_cell.kp T.b_law_cell .nil pass0 (pa_cons (pv 0) (pa_cons pe_int pa_nil))) pa_nil)) pe_int)))
    (pss_cons (ps_set (i := 2) sc_law.nd rfl (Or.inl rfl) (pe_call G_law_small_table (hr.mono (by decide)) (by rfl) T.m_law_small_table T.F_law_small_table.kp T.b_law_small_table .nil pass0 (pa_cons (pv 0) (pa_cons pe_int (pa_cons (pv 1) (pa_cons pe_int pa_nil))))))
    (pss_cons (ps_set (i := 3) sc_law.nd rfl (Or.inl rfl) (pe_call G_law_draws (hr.mono (by decide)) (by rfl) T.m_law_draws T.F_law_draws.kp T.b_law_draws .nil pass0 (pa_cons (pe_call G_law_cell (hr.mono (by decide)) (by rfl) T.m_law_cell T.F_law_cell.kp T.b_law_cell .nil pass0 (pa_cons (pv 0) (pa_cons pe_int pa_nil))) (pa_cons (pv 1) (pa_cons pe_int pa_nil)))))
    (pss_cons (ps_asg (pe_call G_law_instrument (hr.mono (by decide)) (by rfl) T.m_law_instrument T.F_law_instrument.kp T.b_law_instrument .nil pass0 (pa_cons (pv 0) (pa_cons pe_int (pa_cons (pv 1) pa_nil)))) (pg_tup rfl (pgs_cons (pg_name (i := 4) sc_law.nd rfl (Or.inl rfl)) (pgs_cons (pg_name (i := 5) sc_law.nd rfl (Or.inl rfl)) pgs_nil))))
    (pss_cons (ps_asg (pe_call G_law_instrument (hr.mono (by decide)) (by rfl) T.m_law_instrument T.F_law_instrument.kp T.b_law_instrument .nil pass0 (pa_cons (pv 0) (pa_cons pe_int (pa_cons (pv 1) pa_nil)))) (pg_tup rfl (pgs_cons (pg_name (i := 6) sc_law.nd rfl (Or.inl rfl)) (pgs_cons (pg_name (i := 7) sc_law.nd rfl (Or.inl rfl)) pgs_nil))))
    (C8.pss_cut (ps_if (pt_cmpR op_eq (pv 5) pe_str (nomark _))
      (pss_one (ps_set (i := 5) sc_law.nd rfl (Or.inl rfl) (pv 7)))
      pss_nil)
    (pss_cons (ps_set (i := 8) sc_law.nd rfl (Or.inl rfl) (pe_lst pa_nil))
    (C8.pss_cut (ps_if (pt_cmpR op_eq (pv 5) pe_str (nomark _))
      (pss_cons (ps_set (i := 8) sc_law.nd rfl (Or.inl rfl) (pe_call G_law_debts (hr.mono (by decide)) (by rfl) T.m_law_debts T.F_law_debts.kp T.b_law_debts .nil pass0 (pa_cons (pv 2) (pa_cons (pe_lst (pa_cons (pv 4) (pa_cons (pv 6) pa_nil))) pa_nil))))
      (pss_one (ps_if (pt_cmpR (op_neD hr.units) (pe_lc (own := [("row", 9)]) (g := gName 9) rfl sc_law.nd (pi_list (pv 8)) (blkOk_by (own := [("row", 9)]) (N := N_law) (sc := defScope s_law) (by decide +kernel)) (fun _ _ _ _ _ => (pg_name (i := 9) sc_law.nd rfl (Or.inl rfl))) (fun _ _ _ _ _ => pts_one (pt_cmpR op_gt (pe_callB (show CallR _ (.builtin "max") (rMax K) from (cr_max rfl)) (by rfl) T.z_max (by decide +kernel) (pa_cons (pv 9) pa_nil)) pe_int (nomark _))) (fun _ _ _ _ _ => (pv 9))) (pe_lst pa_nil) (nomark _))
        (pss_cons (ps_set (i := 5) sc_law.nd rfl (Or.inl rfl) pe_str)
        (pss_one (ps_set (i := 8) sc_law.nd rfl (Or.inl rfl) (pe_lst pa_nil))))
        pss_nil)))
      pss_nil)
    (pss_cons (ps_set (i := 10) sc_law.nd rfl (Or.inl rfl) (pe_call G_law_told hr (by rfl) T.m_law_told T.F_law_told.kp T.b_law_told .nil pass0 (pa_cons (pe_call G_law_copies (hr.mono (by decide)) (by rfl) T.m_law_copies T.F_law_copies.kp T.b_law_copies .nil pass0 (pa_cons (pe_lst (pa_cons (pv 4) (pa_cons (pv 6) pa_nil))) pa_nil)) (pa_cons (pe_lc (own := [("row", 9)]) (g := gName 9) (tt := tYes) rfl sc_law.nd (pi_list (pv 2)) (blkOk_by (own := [("row", 9)]) (N := N_law) (sc := defScope s_law) (by decide +kernel)) (fun _ _ _ _ _ => (pg_name (i := 9) sc_law.nd rfl (Or.inl rfl))) (fun _ _ _ _ _ => pts_nil) (fun _ _ _ _ _ => (pe_callTy (show CallR _ (.type "list") (rListOf K) from call_list_of) (by rfl) T.z_list (by decide +kernel) (pa_cons (pv 9) pa_nil)))) (pa_cons (pe_callTy call_list_of (by rfl) T.z_list (by decide +kernel) (pa_cons (pv 3) pa_nil)) pa_nil)))))
    (pss_one (ps_ret (pe_cmpR (op_eqD hr.units) (pv 10) (pe_tup (pa_cons (pv 5) (pa_cons (pv 8) pa_nil))) (nomark _))))))))))))), ?_⟩
    obtain ⟨s0, es0, hs00⟩ : ∃ s, (if cellOf ns 0 < 0 then -cellOf ns 0 else cellOf ns 0) = s ∧ 0 ≤ s := ⟨_, rfl, by split <;> omega⟩
    obtain ⟨n, en, hn0, hn1⟩ : ∃ n : Nat, 1 + s0 % 3 = (n : Int) ∧ 1 ≤ n ∧ n ≤ 3 := ⟨(1 + s0 % 3).toNat, by omega, by omega, by omega⟩
    rw [← es0] at en
    walk_at "st"
    dsimp only
    rw [en]
    walk_at "st"
    intro t ps H1 e1 nt hf ht
    have hs1 := e1.seq hs
    have hD0 : Debts n (smallT ns 1 9) 9 := smallT_debts (by omega) (by omega) (by decide)
    have ht1 := ht.tab.jag
    have hvJ : DebtsJ n (rowsJ n (smallT ns 1 9)) := hD0.rows (by decide)
    generalize rowsJ n (smallT ns 1 9) = fj at *
    clear ht
    have hd15 := hvJ.debts
    walk_at "st"
    intro ca H2 e2 nca hca
    have hcb : HeldJ (rowI n (drawG (cellOf ns 4) 10)) n := ⟨rowI_len _ _, fun z hz => by
      obtain ⟨j, hj, e⟩ := rowI_mem.mp hz
      have := drawG_bound (cell := cellOf ns 4) (size := 10) (by decide) j
      omega⟩
    generalize rowI n (drawG (cellOf ns 4) 10) = cs at *
    have hs2 := e2.seq hs1
    walk_at "st"
    refine ⟨(), a, ns, 5, n, rfl, hs2, by omega, by omega, fun _ x1 w1 T1 B1 H3 e3 hB1 hx1 i1 => ?_⟩
    have hs3 := e3.seq hs2
    have hB1t : SqT K H3 B1 [.ref T1, .str w1] := SqT.of hB1
    walk_at "st"
    refine ⟨(), a, ns, 9, n, rfl, hs3, by omega, by omega, fun _ x2 w2 T2 B2 H4 e4 hB2 hx2 i2 => ?_⟩
    have hB2t : SqT K H4 B2 [.ref T2, .str w2] := SqT.of hB2
    walk_at "st"
    refine ⟨fun σ' H' => ∃ (_ : Unit) (d1 : Str), σ' = [some (.ref a), some (.int (n : Int)), some (.ref t), some (.ref ca), some (.ref T1), some (.str d1), some (.ref T2), some (.str w2), none, none, none] ∧ H' = H4 ∧ (w1 = "fine" → d1 = w2) ∧ (w1 ≠ "fine" → d1 = w1), ?_, ?_⟩
    · walk_at "st"
      refine iteB (fun h => ?_) (fun h => ?_)
      · have h1 : w1 = "fine" := V.str.inj (dec_t h)
        walk_at "st"
        exact ⟨(), w2, rfl, rfl, fun _ => rfl, fun z => absurd h1 z⟩
      · have h1 : w1 ≠ "fine" := fun z => dec_f h (congrArg V.str z)
        exact ⟨(), w1, rfl, rfl, fun z => absurd z h1, fun _ => rfl⟩
    rintro σ' H' ⟨_, d1, rfl, rfl, hd1, hd2⟩
    have e14 := (e2.trans e3).trans e4
    have ht4 := ht1.same e14
    have hx14 := hx1.same e4
    have hca4 := (e3.trans e4) _ _ hca
    clear hs hs1 hs2 hs3 e1 e2 e3 e4 e14 hB1 hB1t hB2 hB2t hx1 ht1 hca nt hf nca hD0
    walk_at "st"
    intro Z nZ
    have sZ := same_upd (o := .lst []) nZ
    have hZ := upd_same (H := H') (a := Z) (o := .lst [])
    generalize upd H' Z (.lst []) = H5 at *
    have ht5 := ht4.same sZ
    have hx15 := hx14.same sZ
    have hx25 := hx2.same sZ
    have hca5 := sZ _ _ hca4
    clear ht4 hx14 hx2 hca4 sZ nZ
    walk_at "st"
    refine ⟨fun σ' H' => ∃ (_ : Unit) (d2 : Str) (D : Addr) (rs : List Addr) (m : Nat) (fd : Nat → List Int) (v9 : Option V), σ' = [some (.ref a), some (.int (n : Int)), some (.ref t), some (.ref ca), some (.ref T1), some (.str d2), some (.ref T2), some (.str w2), some (.ref D), v9, none] ∧ Same H5 H' ∧ JagR H' D rs m fd ∧ m ≤ 13 ∧ Out61 n (cellJ fj) [x1, x2] d2 (jagL m fd), ?_, ?_⟩
    · walk_at "st"
      refine iteB (fun h => ?_) (fun h => ?_)
      rotate_left
      · have h1 : d1 ≠ "fine" := fun z => dec_f h (congrArg V.str z)
        refine ⟨(), d1, Z, [], 0, fun _ => [], none, rfl, Same.refl _, .nil _ hZ, by decide, day61 hd15 i1 i2 (fun z => ⟨hd2 z, rfl⟩) (fun z _ => ⟨hd1 z, rfl⟩) (fun z1 z2 => absurd ((hd1 z1).trans z2) h1) (fun z1 z2 => absurd ((hd1 z1).trans z2) h1)⟩
      have h1 : d1 = "fine" := V.str.inj (dec_t h)
      have hw1 : w1 = "fine" := Classical.byContradiction fun z => z ((hd2 z).symm.trans h1)
      have hw2 : w2 = "fine" := (hd1 hw1).symm.trans h1
      have ok1 := (i1.fine hw1).1
      have ok2 := (i2.fine hw2).1
      walk_at "st"
      intro L nL
      have sL := same_upd (o := .lst [.ref T1, .ref T2]) nL
      have hL := upd_same (H := H5) (a := L) (o := .lst [.ref T1, .ref T2])
      generalize upd H5 L (.lst [.ref T1, .ref T2]) = H6 at *
      have hI6 : InJL H6 L [T1, T2] [x1, x2] := ⟨hL, rfl, fun i b x h1 h2 => by
        match i, h1, h2 with
        | 0, h1, h2 =>
          obtain rfl := Option.some.inj h1
          obtain rfl := Option.some.inj h2
          exact hx15.same sL
        | 1, h1, h2 =>
          obtain rfl := Option.some.inj h1
          obtain rfl := Option.some.inj h2
          exact hx25.same sL
        | i + 2, h1, _ => cases h1⟩
      have ht6 := ht5.same sL
      walk_at "st"
      refine ⟨cellJ fj, t, L, ps, [T1, T2], [x1, x2], n, rfl, ht6.tab hvJ.len, by omega, hI6, fun x hx => ?_, fun D rs H7 e7 nD hD => ?_⟩
      · rcases List.mem_cons.mp hx with rfl | hx
        · exact ok1
        · rw [List.mem_singleton.mp hx]
          exact ok2
      have e57 := sL.trans e7
      have hDs := SqL.of (K := K) hD.lst
      walk_at "st"
      intro F nF
      refine lc_list (K := K) (a := D) (xs := rs.map V.ref) (fun i H' => ∃ (_ : Unit) (qs : List Addr) (yss : List (List Int)), H' F = some (.lst (qs.map V.ref)) ∧ qs.length = yss.length ∧ qs.length ≤ i ∧ (∀ (k : Nat) (p : Addr) (y : List Int), qs[k]? = some p → yss[k]? = some y → H7 p = some (.lst (y.map V.int))) ∧ (yss = [] ↔ ¬ ∃ a, a < i ∧ ∃ b, b < n ∧ 1000000000000000 < addI (cellJ fj) [x1, x2] a b) ∧ Same H7 H') ⟨(), [], [], upd_same, rfl, Nat.le_refl _, fun k p y h1 => (by rw [List.getElem?_nil] at h1; cases h1), ⟨fun _ z => by obtain ⟨a, h, _⟩ := z; omega, fun _ => rfl⟩, same_upd nF⟩ (fun i H' _ ⟨_, _, _, _, _, _, _, _, e⟩ => e.seq hDs) ?_ ?_
      · rintro i v H8 hvv ⟨_, qs, yss, hF, hql, hqi, hrow, hiff, e8⟩
        obtain ⟨p, hp, rfl⟩ := refs_at hvv
        have hi := (List.getElem?_eq_some_iff.mp hp).1
        rw [hD.len] at hi
        have hp7 := hD.row i p hp
        have hp8 := SqL.of (K := K) (e8 _ _ hp7)
        refine ⟨rfl, ?_⟩
        walk_at "st"
        refine ⟨by rw [rowI_len]; omega, fun mx hmx hmb => ?_⟩
        walk_at "st"
        refine iteB (fun h => ?_) (fun h => ?_)
        · have h3 : 1000000000000000 < mx := dec_t h
          walk_at "st"
          refine ⟨small1000 (by rw [List.length_map]; omega), (), qs ++ [p], yss ++ [rowI n (addI (cellJ fj) [x1, x2] i)], by rw [upd_same, List.map_append]; rfl, by rw [List.length_append, List.length_append, hql]; rfl, by rw [List.length_append]; show qs.length + 1 ≤ i + 1; omega, fun k p' y k1 k2 => ?_, ⟨fun z => ?_, fun z => ?_⟩, TabR.keep e8 nF⟩
          · by_cases hk : k < qs.length
            · rw [List.getElem?_append_left hk] at k1
              rw [List.getElem?_append_left (by omega)] at k2
              exact hrow k p' y k1 k2
            · rw [List.getElem?_append_right (by omega)] at k1 k2
              have hi2 := (List.getElem?_eq_some_iff.mp k1).1
              rw [List.length_cons, List.length_nil] at hi2
              rw [show k - qs.length = 0 by omega] at k1
              rw [show k - yss.length = 0 by omega] at k2
              obtain rfl := Option.some.inj k1
              obtain rfl := Option.some.inj k2
              exact hp7
          · exact absurd z (List.append_ne_nil_of_right_ne_nil _ (List.cons_ne_nil _ _))
          · obtain ⟨b, hb, e⟩ := rowI_mem.mp hmx
            exact absurd ⟨i, by omega, b, hb, by omega⟩ z
        · have h3 : ¬ 1000000000000000 < mx := dec_f h
          walk_at "st"
          refine ⟨(), qs, yss, hF, hql, by omega, hrow, hiff.trans ⟨fun z w => ?_, fun z w => ?_⟩, e8⟩
          · obtain ⟨b, hb, c, hc, hlt⟩ := w
            by_cases hbi : b = i
            · subst hbi
              have := hmb _ (rowI_mem.mpr ⟨c, hc, rfl⟩)
              omega
            · exact z ⟨b, by omega, c, hc, hlt⟩
          · obtain ⟨b, hb, c, hc, hlt⟩ := w
            exact z ⟨b, by omega, c, hc, hlt⟩
      · rintro H8 ⟨_, qs, yss, hF, hql, hqi, hrow, hiff, e8⟩
        rw [List.length_map, hD.len] at hiff
        walk_at "st"
        intro M nM
        have sM := same_upd (o := .lst []) nM
        have hdp : Dp K (upd H8 M (.lst [])) (.ref F) (PyData.list (yss.map fun ys => PyData.list (ys.map PyData.int))) := .lst (SqL.of (sM _ _ hF)) (dpAll_refs hql fun k p y h1 h2 => .lst (SqL.of (sM _ _ (e8 _ _ (hrow k p y h1 h2)))) (dpAll_ints _))
        have hdm : Dp K (upd H8 M (.lst [])) (.ref M) (PyData.list (([] : List (List Int)).map fun ys => PyData.list (ys.map PyData.int))) := .lst (SqL.of upd_same) .nil
        refine neL layD_tab (by decide) (fun _ _ _ _ => trivial) (fun _ _ _ _ => trivial) hdp hdm ?_
        have e5M := (e57.trans e8).trans sM
        have hDM := (hD.same e8).same sM
        generalize upd H8 M (.lst []) = HM at *
        refine ⟨_, rfl, iteB (fun h => ?_) (fun h => ?_)⟩
        · have h3 : ¬ yss = [] := ndec_t h
          have hov : ∃ a, a < n ∧ ∃ b, b < n ∧ 1000000000000000 < addI (cellJ fj) [x1, x2] a b := Classical.byContradiction fun z => h3 (hiff.mpr z)
          walk_at "st"
          intro Y nY
          exact ⟨(), "trade", Y, [], 0, fun _ => [], _, rfl, e5M.trans (same_upd nY), .nil _ upd_same, by decide, day61 hd15 i1 i2 (fun z => absurd hw1 z) (fun _ z => absurd hw2 z) (fun _ _ _ => ⟨rfl, rfl⟩) (fun _ _ z => absurd hov z)⟩
        · have h3 : yss = [] := ndec_f h
          have hov := hiff.mp h3
          exact ⟨(), d1, D, rs, n, rowsJ n (addI (cellJ fj) [x1, x2]), _, rfl, e5M, hDM.jag, by omega, day61 hd15 i1 i2 (fun z => absurd hw1 z) (fun _ z => absurd hw2 z) (fun _ _ z => absurd z hov) (fun _ _ _ => ⟨h1, rfl⟩)⟩
    rintro σ' H6 ⟨_, d2, D, rs, m, fd, v9, rfl, e6, hD, hm13, hout⟩
    have ht6 := ht5.same e6
    have hx16 := hx15.same e6
    have hx26 := hx25.same e6
    have hca6 := e6 _ _ hca5
    have hout' := hout
    walk_at "st"
    intro L nL
    have sL := same_upd (o := .lst [.ref T1, .ref T2]) nL
    have hL := upd_same (H := H6) (a := L) (o := .lst [.ref T1, .ref T2])
    generalize upd H6 L (.lst [.ref T1, .ref T2]) = H7 at *
    have hI7 : InJL H7 L [T1, T2] [x1, x2] := ⟨hL, rfl, fun i b x h1 h2 => by
      match i, h1, h2 with
      | 0, h1, h2 =>
        obtain rfl := Option.some.inj h1
        obtain rfl := Option.some.inj h2
        exact hx16.same sL
      | 1, h1, h2 =>
        obtain rfl := Option.some.inj h1
        obtain rfl := Option.some.inj h2
        exact hx26.same sL
      | i + 2, h1, _ => cases h1⟩
    walk_at "st"
    refine ⟨(), L, [T1, T2], [x1, x2], rfl, hI7, by show 2 ≤ 9; omega, fun x hx => ?_, fun _ r as' ys H8 e8 hI8 hys => ?_⟩
    · rcases List.mem_cons.mp hx with rfl | hx
      · have := i1.m
        omega
      · rw [List.mem_singleton.mp hx]
        have := i2.m
        omega
    obtain ⟨y1, y2, rfl⟩ : ∃ y1 y2, ys = [y1, y2] := by
      match ys, congrArg List.length hys with
      | [y1, y2], _ => exact ⟨y1, y2, rfl⟩
      | [], h => cases h
      | [_], h => cases h
      | _ :: _ :: _ :: _, h => cases h
    obtain ⟨k1, k2⟩ := List.cons.inj hys
    have k2 := (List.cons.inj k2).1
    have j1 := i1.core k1
    have j2 := i2.core k2
    have hout : Out61 n (cellJ fj) [y1, y2] d2 (jagL m fd) := ⟨fun z => hout.tr (z.core hys.symm), fun z => hout.am (z.core hys.symm), fun g z => hout.fi g (z.core hys.symm)⟩
    have ht8 := (ht6.same sL).same e8
    have hts8 := SqL.of (K := K) ht8.lst
    have hca8 := e8 _ _ (sL _ _ hca6)
    have hD8 := (hD.same sL).same e8
    walk_at "st"
    intro C nC
    refine lc_copyJ ht8 (by omega) nC rfl fun H9 qs e9 hC9 _ => ?_
    have hcs9 := SqL.of (K := K) (e9 _ _ hca8)
    walk_at "st"
    intro cl ncl
    have scl := same_upd (o := .lst (cs.map V.int)) ncl
    have hcl := upd_same (H := H9) (a := cl) (o := .lst (cs.map V.int))
    generalize upd H9 cl (.lst (cs.map V.int)) = HA at *
    have hCA := hC9.same scl
    have hIA := (hI8.same e9).same scl
    have hDA := (hD8.same e9).same scl
    walk_at "st"
    have hs1 : PyData.strOk "trade" = true := by decide +kernel
    have hs2 : PyData.strOk "amount" = true := by decide +kernel
    have hs3 : PyData.strOk "fine" = true := by decide +kernel
    refine ⟨(), r, C, cl, as', qs, n, fj, cs, [y1, y2], rfl, hIA, by show 2 ≤ 9; omega, fun x hx => ?_, hCA, hcl, hvJ, hcb, fun ho p e HB eB hp he => ?_, fun ho p e HB eB hp he => ?_, fun g ho => ⟨fun hz p e HB eB hp he => ?_, fun hz p ow ows HB eB hp hT => ?_⟩⟩
    · have k : ∀ {x : InJ} {w : Str}, Inst61 n x w → x.m ≤ 900 ∧ (∀ i, i < x.m → (x.f i).length ≤ 900) ∧ x.xs.length ≤ 900 := fun h => ⟨by have := h.m; omega, fun i hi => by have := h.len i hi; omega, by have := h.xs; omega⟩
      rcases List.mem_cons.mp hx with rfl | hx
      · exact k j1
      · rw [List.mem_singleton.mp hx]
        exact k j2
    · have hDB := hDA.same eB
      walk_at "st"
      intro B nB
      have sB := same_upd (o := .tup [.str d2, .ref D]) nB
      exact eq61 (x := ("trade", [])) (y := (d2, jagL m fd)) (.tup (SqT.of (sB _ _ hp)) (.cons (.str _) (.cons (.lst (SqL.of (sB _ _ he)) .nil) .nil))) (.tup (SqT.of upd_same) (.cons (.str _) (.cons (hDB.same sB).dp .nil))) (hout.tr ho) hs1 (q _)
    · have hDB := hDA.same eB
      walk_at "st"
      intro B nB
      have sB := same_upd (o := .tup [.str d2, .ref D]) nB
      exact eq61 (x := ("amount", [])) (y := (d2, jagL m fd)) (.tup (SqT.of (sB _ _ hp)) (.cons (.str _) (.cons (.lst (SqL.of (sB _ _ he)) .nil) .nil))) (.tup (SqT.of upd_same) (.cons (.str _) (.cons (hDB.same sB).dp .nil))) (hout.am ho) hs2 (q _)
    · have hDB := hDA.same eB
      walk_at "st"
      intro B nB
      have sB := same_upd (o := .tup [.str d2, .ref D]) nB
      exact eq61 (x := ("trade", [])) (y := (d2, jagL m fd)) (.tup (SqT.of (sB _ _ hp)) (.cons (.str _) (.cons (.lst (SqL.of (sB _ _ he)) .nil) .nil))) (.tup (SqT.of upd_same) (.cons (.str _) (.cons (hDB.same sB).dp .nil))) ((hout.fi g ho).1 hz) hs1 (q _)
    · have hDB := hDA.same eB
      walk_at "st"
      intro B nB
      have sB := same_upd (o := .tup [.str d2, .ref D]) nB
      exact eq61 (x := ("fine", jagL n (rowsJ n g))) (y := (d2, jagL m fd)) (.tup (SqT.of (sB _ _ hp)) (.cons (.str _) (.cons (hT.jag.same sB).dp .nil))) (.tup (SqT.of upd_same) (.cons (.str _) (.cons (hDB.same sB).dp .nil))) ((hout.fi g ho).2 hz) hs3 (q _)

end
set_option maxHeartbeats 0 in
theorem all_mk {l : PySem.W.OpenLaw} {w : World} {K : PySem.W.Frag} {h : Heap} {mg : Str → Option Value} {fa f1 f2 f3 f4 f5 f6 f7 f8 f9 f10 f11 f12 f13 f14 f15 f16 f17 f18 f19 f20 f21 f22 f23 f24 f25 f26 f27 f28 f29 f30 f31 f32 f33 : Addr} (X : K.In h) (G : h.Ns mainGlobals mg) (hfa : mg "law" = some (.ref fa))
    {c_BourseError c_InvalidAmount c_InvalidWeights c_InvalidTrade c_Delivery c_Settlement : Addr}
    {od1 an1 od2 an2 od3 an3 od4 an4 od5 an5 od6 an6 od7 an7 od8 an8 od9 an9 od10 an10 od11 an11 od12 an12 od13 an13 od14 an14 od15 an15 od16 an16 od17 an17 od18 an18 od19 an19 od20 an20 od21 an21 od22 an22 od23 an23 od24 an24 od25 an25 od26 an26 od27 an27 od28 an28 od29 an29 od30 an30 od31 an31 od32 an32 od33 an33 : Option Addr} {sl1 sl2 sl3 sl4 sl5 sl6 sl7 sl8 sl9 sl10 sl11 sl12 sl13 sl14 sl15 sl16 sl17 sl18 sl19 sl20 sl21 sl22 sl23 sl24 sl25 sl26 sl27 sl28 sl29 sl30 sl31 sl32 sl33 : Array (Option Value)} {oc1 kV1 dc1 pm1 cd1 ct1 oc2 kV2 dc2 pm2 cd2 ct2 oc3 kV3 dc3 pm3 cd3 ct3 oc4 kV4 dc4 pm4 cd4 ct4 oc5 kV5 dc5 pm5 cd5 ct5 oc6 kV6 dc6 pm6 cd6 ct6 oc7 kV7 dc7 pm7 cd7 ct7 oc8 kV8 dc8 pm8 cd8 ct8 oc9 kV9 dc9 pm9 cd9 ct9 oc10 kV10 dc10 pm10 cd10 ct10 oc11 kV11 dc11 pm11 cd11 ct11 oc12 kV12 dc12 pm12 cd12 ct12 oc13 kV13 dc13 pm13 cd13 ct13 oc14 kV14 dc14 pm14 cd14 ct14 oc15 kV15 dc15 pm15 cd15 ct15 oc16 kV16 dc16 pm16 cd16 ct16 oc17 kV17 dc17 pm17 cd17 ct17 oc18 kV18 dc18 pm18 cd18 ct18 oc19 kV19 dc19 pm19 cd19 ct19 oc20 kV20 dc20 pm20 cd20 ct20 oc21 kV21 dc21 pm21 cd21 ct21 oc22 kV22 dc22 pm22 cd22 ct22 oc23 kV23 dc23 pm23 cd23 ct23 oc24 kV24 dc24 pm24 cd24 ct24 oc25 kV25 dc25 pm25 cd25 ct25 oc26 kV26 dc26 pm26 cd26 ct26 oc27 kV27 dc27 pm27 cd27 ct27 oc28 kV28 dc28 pm28 cd28 ct28 oc29 kV29 dc29 pm29 cd29 ct29 oc30 kV30 dc30 pm30 cd30 ct30 oc31 kV31 dc31 pm31 cd31 ct31 oc32 kV32 dc32 pm32 cd32 ct32 oc33 kV33 dc33 pm33 cd33 ct33 : Value}
    (a1 : PySem.W.nsIn K mainGlobals "is_integral" = some (some (.ref f1)))
    (l1 : K.lookup f1 = some ⟨oc1, od1, .func (PySem.W.fnOf "is_integral" "is_integral" (defArgs s_is_integral) (defBody s_is_integral) (defScope s_is_integral) .none kV1 dc1 pm1 an1 cd1 ct1), sl1⟩) (c1 : PySem.W.codeIn K cd1 "is_integral" = true) (k1 : PySem.W.keepIn K (.ref f1) = true)
    (a2 : PySem.W.nsIn K mainGlobals "is_within" = some (some (.ref f2)))
    (l2 : K.lookup f2 = some ⟨oc2, od2, .func (PySem.W.fnOf "is_within" "is_within" (defArgs s_is_within) (defBody s_is_within) (defScope s_is_within) .none kV2 dc2 pm2 an2 cd2 ct2), sl2⟩) (c2 : PySem.W.codeIn K cd2 "is_within" = true) (k2 : PySem.W.keepIn K (.ref f2) = true)
    (a3 : PySem.W.nsIn K mainGlobals "_check_amount" = some (some (.ref f3)))
    (l3 : K.lookup f3 = some ⟨oc3, od3, .func (PySem.W.fnOf "_check_amount" "_check_amount" (defArgs s_check_amount) (defBody s_check_amount) (defScope s_check_amount) .none kV3 dc3 pm3 an3 cd3 ct3), sl3⟩) (c3 : PySem.W.codeIn K cd3 "_check_amount" = true) (k3 : PySem.W.keepIn K (.ref f3) = true)
    (a4 : PySem.W.nsIn K mainGlobals "_check_weights" = some (some (.ref f4)))
    (l4 : K.lookup f4 = some ⟨oc4, od4, .func (PySem.W.fnOf "_check_weights" "_check_weights" (defArgs s_check_weights) (defBody s_check_weights) (defScope s_check_weights) .none kV4 dc4 pm4 an4 cd4 ct4), sl4⟩) (c4 : PySem.W.codeIn K cd4 "_check_weights" = true) (k4 : PySem.W.keepIn K (.ref f4) = true)
    (a5 : PySem.W.nsIn K mainGlobals "split" = some (some (.ref f5)))
    (l5 : K.lookup f5 = some ⟨oc5, od5, .func (PySem.W.fnOf "split" "split" (defArgs s_split) (defBody s_split) (defScope s_split) .none kV5 dc5 pm5 an5 cd5 ct5), sl5⟩) (c5 : PySem.W.codeIn K cd5 "split" = true) (k5 : PySem.W.keepIn K (.ref f5) = true)
    (a6 : PySem.W.nsIn K mainGlobals "_greatest_quotient" = some (some (.ref f6)))
    (l6 : K.lookup f6 = some ⟨oc6, od6, .func (PySem.W.fnOf "_greatest_quotient" "_greatest_quotient" (defArgs s_greatest_quotient) (defBody s_greatest_quotient) (defScope s_greatest_quotient) .none kV6 dc6 pm6 an6 cd6 ct6), sl6⟩) (c6 : PySem.W.codeIn K cd6 "_greatest_quotient" = true) (k6 : PySem.W.keepIn K (.ref f6) = true)
    (a7 : PySem.W.nsIn K mainGlobals "check_debts" = some (some (.ref f7)))
    (l7 : K.lookup f7 = some ⟨oc7, od7, .func (PySem.W.fnOf "check_debts" "check_debts" (defArgs s_check_debts) (defBody s_check_debts) (defScope s_check_debts) .none kV7 dc7 pm7 an7 cd7 ct7), sl7⟩) (c7 : PySem.W.codeIn K cd7 "check_debts" = true) (k7 : PySem.W.keepIn K (.ref f7) = true)
    (a8 : PySem.W.nsIn K mainGlobals "receipts" = some (some (.ref f8)))
    (l8 : K.lookup f8 = some ⟨oc8, od8, .func (PySem.W.fnOf "receipts" "receipts" (defArgs s_receipts) (defBody s_receipts) (defScope s_receipts) .none kV8 dc8 pm8 an8 cd8 ct8), sl8⟩) (c8 : PySem.W.codeIn K cd8 "receipts" = true) (k8 : PySem.W.keepIn K (.ref f8) = true)
    (a9 : PySem.W.nsIn K mainGlobals "received" = some (some (.ref f9)))
    (l9 : K.lookup f9 = some ⟨oc9, od9, .func (PySem.W.fnOf "received" "received" (defArgs s_received) (defBody s_received) (defScope s_received) .none kV9 dc9 pm9 an9 cd9 ct9), sl9⟩) (c9 : PySem.W.codeIn K cd9 "received" = true) (k9 : PySem.W.keepIn K (.ref f9) = true)
    (a10 : PySem.W.nsIn K mainGlobals "round_of" = some (some (.ref f10)))
    (l10 : K.lookup f10 = some ⟨oc10, od10, .func (PySem.W.fnOf "round_of" "round_of" (defArgs s_round_of) (defBody s_round_of) (defScope s_round_of) .none kV10 dc10 pm10 an10 cd10 ct10), sl10⟩) (c10 : PySem.W.codeIn K cd10 "round_of" = true) (k10 : PySem.W.keepIn K (.ref f10) = true)
    (a11 : PySem.W.nsIn K mainGlobals "clearing" = some (some (.ref f11)))
    (l11 : K.lookup f11 = some ⟨oc11, od11, .func (PySem.W.fnOf "clearing" "clearing" (defArgs s_clearing) (defBody s_clearing) (defScope s_clearing) .none kV11 dc11 pm11 an11 cd11 ct11), sl11⟩) (c11 : PySem.W.codeIn K cd11 "clearing" = true) (k11 : PySem.W.keepIn K (.ref f11) = true)
    (a12 : PySem.W.nsIn K mainGlobals "_after_rounds" = some (some (.ref f12)))
    (l12 : K.lookup f12 = some ⟨oc12, od12, .func (PySem.W.fnOf "_after_rounds" "_after_rounds" (defArgs s_after_rounds) (defBody s_after_rounds) (defScope s_after_rounds) .none kV12 dc12 pm12 an12 cd12 ct12), sl12⟩) (c12 : PySem.W.codeIn K cd12 "_after_rounds" = true) (k12 : PySem.W.keepIn K (.ref f12) = true)
    (a13 : PySem.W.nsIn K mainGlobals "_leap" = some (some (.ref f13)))
    (l13 : K.lookup f13 = some ⟨oc13, od13, .func (PySem.W.fnOf "_leap" "_leap" (defArgs s_leap) (defBody s_leap) (defScope s_leap) .none kV13 dc13 pm13 an13 cd13 ct13), sl13⟩) (c13 : PySem.W.codeIn K cd13 "_leap" = true) (k13 : PySem.W.keepIn K (.ref f13) = true)
    (a14 : PySem.W.nsIn K mainGlobals "_raised" = some (some (.ref f14)))
    (l14 : K.lookup f14 = some ⟨oc14, od14, .func (PySem.W.fnOf "_raised" "_raised" (defArgs s_raised) (defBody s_raised) (defScope s_raised) .none kV14 dc14 pm14 an14 cd14 ct14), sl14⟩) (c14 : PySem.W.codeIn K cd14 "_raised" = true) (k14 : PySem.W.keepIn K (.ref f14) = true)
    (a15 : PySem.W.nsIn K mainGlobals "_may_rise" = some (some (.ref f15)))
    (l15 : K.lookup f15 = some ⟨oc15, od15, .func (PySem.W.fnOf "_may_rise" "_may_rise" (defArgs s_may_rise) (defBody s_may_rise) (defScope s_may_rise) .none kV15 dc15 pm15 an15 cd15 ct15), sl15⟩) (c15 : PySem.W.codeIn K cd15 "_may_rise" = true) (k15 : PySem.W.keepIn K (.ref f15) = true)
    (a16 : PySem.W.nsIn K mainGlobals "_next_creditor" = some (some (.ref f16)))
    (l16 : K.lookup f16 = some ⟨oc16, od16, .func (PySem.W.fnOf "_next_creditor" "_next_creditor" (defArgs s_next_creditor) (defBody s_next_creditor) (defScope s_next_creditor) .none kV16 dc16 pm16 an16 cd16 ct16), sl16⟩) (c16 : PySem.W.codeIn K cd16 "_next_creditor" = true) (k16 : PySem.W.keepIn K (.ref f16) = true)
    (a17 : PySem.W.nsIn K mainGlobals "cash_after" = some (some (.ref f17)))
    (l17 : K.lookup f17 = some ⟨oc17, od17, .func (PySem.W.fnOf "cash_after" "cash_after" (defArgs s_cash_after) (defBody s_cash_after) (defScope s_cash_after) .none kV17 dc17 pm17 an17 cd17 ct17), sl17⟩) (c17 : PySem.W.codeIn K cd17 "cash_after" = true) (k17 : PySem.W.keepIn K (.ref f17) = true)
    (a18 : PySem.W.nsIn K mainGlobals "fallen" = some (some (.ref f18)))
    (l18 : K.lookup f18 = some ⟨oc18, od18, .func (PySem.W.fnOf "fallen" "fallen" (defArgs s_fallen) (defBody s_fallen) (defScope s_fallen) .none kV18 dc18 pm18 an18 cd18 ct18), sl18⟩) (c18 : PySem.W.codeIn K cd18 "fallen" = true) (k18 : PySem.W.keepIn K (.ref f18) = true)
    (a19 : PySem.W.nsIn K mainGlobals "missing" = some (some (.ref f19)))
    (l19 : K.lookup f19 = some ⟨oc19, od19, .func (PySem.W.fnOf "missing" "missing" (defArgs s_missing) (defBody s_missing) (defScope s_missing) .none kV19 dc19 pm19 an19 cd19 ct19), sl19⟩) (c19 : PySem.W.codeIn K cd19 "missing" = true) (k19 : PySem.W.keepIn K (.ref f19) = true)
    (a20 : PySem.W.findIn K (.ref c_Delivery) "__init__" = some (some (.ref f20))) (i20 : PySem.W.isFn K (.ref f20) = true)
    (l20 : K.lookup f20 = some ⟨oc20, od20, .func (PySem.W.fnOf "__init__" "Delivery.__init__" (defArgs s_Delivery_init) (defBody s_Delivery_init) (defScope s_Delivery_init) .none kV20 dc20 pm20 an20 cd20 ct20), sl20⟩) (c20 : PySem.W.codeIn K cd20 "Delivery.__init__" = true) (k20 : PySem.W.keepIn K (.ref f20) = true)
    (a21 : PySem.W.findIn K (.ref c_Settlement) "__init__" = some (some (.ref f21))) (i21 : PySem.W.isFn K (.ref f21) = true)
    (l21 : K.lookup f21 = some ⟨oc21, od21, .func (PySem.W.fnOf "__init__" "Settlement.__init__" (defArgs s_Settlement_init) (defBody s_Settlement_init) (defScope s_Settlement_init) .none kV21 dc21 pm21 an21 cd21 ct21), sl21⟩) (c21 : PySem.W.codeIn K cd21 "Settlement.__init__" = true) (k21 : PySem.W.keepIn K (.ref f21) = true)
    (a22 : PySem.W.nsIn K mainGlobals "settle_day" = some (some (.ref f22)))
    (l22 : K.lookup f22 = some ⟨oc22, od22, .func (PySem.W.fnOf "settle_day" "settle_day" (defArgs s_settle_day) (defBody s_settle_day) (defScope s_settle_day) .none kV22 dc22 pm22 an22 cd22 ct22), sl22⟩) (c22 : PySem.W.codeIn K cd22 "settle_day" = true) (k22 : PySem.W.keepIn K (.ref f22) = true)
    (a23 : PySem.W.nsIn K mainGlobals "_with_missing" = some (some (.ref f23)))
    (l23 : K.lookup f23 = some ⟨oc23, od23, .func (PySem.W.fnOf "_with_missing" "_with_missing" (defArgs s_with_missing) (defBody s_with_missing) (defScope s_with_missing) .none kV23 dc23 pm23 an23 cd23 ct23), sl23⟩) (c23 : PySem.W.codeIn K cd23 "_with_missing" = true) (k23 : PySem.W.keepIn K (.ref f23) = true)
    (a24 : PySem.W.nsIn K mainGlobals "_check_held" = some (some (.ref f24)))
    (l24 : K.lookup f24 = some ⟨oc24, od24, .func (PySem.W.fnOf "_check_held" "_check_held" (defArgs s_check_held) (defBody s_check_held) (defScope s_check_held) .none kV24 dc24 pm24 an24 cd24 ct24), sl24⟩) (c24 : PySem.W.codeIn K cd24 "_check_held" = true) (k24 : PySem.W.keepIn K (.ref f24) = true)
    (a25 : PySem.W.nsIn K mainGlobals "_law_cell" = some (some (.ref f25)))
    (l25 : K.lookup f25 = some ⟨oc25, od25, .func (PySem.W.fnOf "_law_cell" "_law_cell" (defArgs s_law_cell) (defBody s_law_cell) (defScope s_law_cell) .none kV25 dc25 pm25 an25 cd25 ct25), sl25⟩) (c25 : PySem.W.codeIn K cd25 "_law_cell" = true) (k25 : PySem.W.keepIn K (.ref f25) = true)
    (a26 : PySem.W.nsIn K mainGlobals "_law_draws" = some (some (.ref f26)))
    (l26 : K.lookup f26 = some ⟨oc26, od26, .func (PySem.W.fnOf "_law_draws" "_law_draws" (defArgs s_law_draws) (defBody s_law_draws) (defScope s_law_draws) .none kV26 dc26 pm26 an26 cd26 ct26), sl26⟩) (c26 : PySem.W.codeIn K cd26 "_law_draws" = true) (k26 : PySem.W.keepIn K (.ref f26) = true)
    (a27 : PySem.W.nsIn K mainGlobals "_law_small_row" = some (some (.ref f27)))
    (l27 : K.lookup f27 = some ⟨oc27, od27, .func (PySem.W.fnOf "_law_small_row" "_law_small_row" (defArgs s_law_small_row) (defBody s_law_small_row) (defScope s_law_small_row) .none kV27 dc27 pm27 an27 cd27 ct27), sl27⟩) (c27 : PySem.W.codeIn K cd27 "_law_small_row" = true) (k27 : PySem.W.keepIn K (.ref f27) = true)
    (a28 : PySem.W.nsIn K mainGlobals "_law_small_table" = some (some (.ref f28)))
    (l28 : K.lookup f28 = some ⟨oc28, od28, .func (PySem.W.fnOf "_law_small_table" "_law_small_table" (defArgs s_law_small_table) (defBody s_law_small_table) (defScope s_law_small_table) .none kV28 dc28 pm28 an28 cd28 ct28), sl28⟩) (c28 : PySem.W.codeIn K cd28 "_law_small_table" = true) (k28 : PySem.W.keepIn K (.ref f28) = true)
    (a29 : PySem.W.nsIn K mainGlobals "_law_told" = some (some (.ref f29)))
    (l29 : K.lookup f29 = some ⟨oc29, od29, .func (PySem.W.fnOf "_law_told" "_law_told" (defArgs s_law_told) (defBody s_law_told) (defScope s_law_told) .none kV29 dc29 pm29 an29 cd29 ct29), sl29⟩) (c29 : PySem.W.codeIn K cd29 "_law_told" = true) (k29 : PySem.W.keepIn K (.ref f29) = true)
    (a30 : PySem.W.nsIn K mainGlobals "_law_instrument" = some (some (.ref f30)))
    (l30 : K.lookup f30 = some ⟨oc30, od30, .func (PySem.W.fnOf "_law_instrument" "_law_instrument" (defArgs s_law_instrument) (defBody s_law_instrument) (defScope s_law_instrument) .none kV30 dc30 pm30 an30 cd30 ct30), sl30⟩) (c30 : PySem.W.codeIn K cd30 "_law_instrument" = true) (k30 : PySem.W.keepIn K (.ref f30) = true)
    (a31 : PySem.W.nsIn K mainGlobals "_law_debts" = some (some (.ref f31)))
    (l31 : K.lookup f31 = some ⟨oc31, od31, .func (PySem.W.fnOf "_law_debts" "_law_debts" (defArgs s_law_debts) (defBody s_law_debts) (defScope s_law_debts) .none kV31 dc31 pm31 an31 cd31 ct31), sl31⟩) (c31 : PySem.W.codeIn K cd31 "_law_debts" = true) (k31 : PySem.W.keepIn K (.ref f31) = true)
    (a32 : PySem.W.nsIn K mainGlobals "_law_copies" = some (some (.ref f32)))
    (l32 : K.lookup f32 = some ⟨oc32, od32, .func (PySem.W.fnOf "_law_copies" "_law_copies" (defArgs s_law_copies) (defBody s_law_copies) (defScope s_law_copies) .none kV32 dc32 pm32 an32 cd32 ct32), sl32⟩) (c32 : PySem.W.codeIn K cd32 "_law_copies" = true) (k32 : PySem.W.keepIn K (.ref f32) = true)
    (a33 : PySem.W.nsIn K mainGlobals "law" = some (some (.ref f33)))
    (l33 : K.lookup f33 = some ⟨oc33, od33, .func (PySem.W.fnOf "law" "law" (defArgs s_law) (defBody s_law) (defScope s_law) .none kV33 dc33 pm33 an33 cd33 ct33), sl33⟩) (c33 : PySem.W.codeIn K cd33 "law" = true) (k33 : PySem.W.keepIn K (.ref f33) = true)
    (z_abs : PySem.W.nsIn K mainGlobals "abs" = some none)
    (z_all : PySem.W.nsIn K mainGlobals "all" = some none)
    (z_bool : PySem.W.nsIn K mainGlobals "bool" = some none)
    (z_enumerate : PySem.W.nsIn K mainGlobals "enumerate" = some none)
    (z_int : PySem.W.nsIn K mainGlobals "int" = some none)
    (z_isinstance : PySem.W.nsIn K mainGlobals "isinstance" = some none)
    (z_len : PySem.W.nsIn K mainGlobals "len" = some none)
    (z_list : PySem.W.nsIn K mainGlobals "list" = some none)
    (z_max : PySem.W.nsIn K mainGlobals "max" = some none)
    (z_min : PySem.W.nsIn K mainGlobals "min" = some none)
    (z_range : PySem.W.nsIn K mainGlobals "range" = some none)
    (z_sum : PySem.W.nsIn K mainGlobals "sum" = some none)
    (z_zip : PySem.W.nsIn K mainGlobals "zip" = some none)
    {t_MOST_AMOUNT t_MOST_WEIGHTS t_MOST_WEIGHT t_MOST_HOUSES t_MOST_DEBT t_MOST_HELD : Tok}
    (v_MOST_AMOUNT : PySem.W.nsIn K mainGlobals "MOST_AMOUNT" = some (some (.int 1000000000000000000 t_MOST_AMOUNT)))
    (v_MOST_WEIGHTS : PySem.W.nsIn K mainGlobals "MOST_WEIGHTS" = some (some (.int 40 t_MOST_WEIGHTS)))
    (v_MOST_WEIGHT : PySem.W.nsIn K mainGlobals "MOST_WEIGHT" = some (some (.int 1000000000000000 t_MOST_WEIGHT)))
    (v_MOST_HOUSES : PySem.W.nsIn K mainGlobals "MOST_HOUSES" = some (some (.int 13 t_MOST_HOUSES)))
    (v_MOST_DEBT : PySem.W.nsIn K mainGlobals "MOST_DEBT" = some (some (.int 1000000000000000 t_MOST_DEBT)))
    (v_MOST_HELD : PySem.W.nsIn K mainGlobals "MOST_HELD" = some (some (.int 100000000000000000 t_MOST_HELD)))
    (g_BourseError : PySem.W.nsIn K mainGlobals "BourseError" = some (some (.ref c_BourseError)))
    (g_InvalidAmount : PySem.W.nsIn K mainGlobals "InvalidAmount" = some (some (.ref c_InvalidAmount)))
    (x_InvalidAmount : PySem.W.excIn K c_InvalidAmount [.type "ValueError", .type "Exception", .type "BaseException", .type "object"] "ValueError.__new__" = true)
    (k_InvalidAmount : PySem.W.keepIn K (.ref c_InvalidAmount) = true)
    (b_InvalidAmount : PySem.W.subIn K (.ref c_InvalidAmount) (.type "BaseException") = some true)
    (t_InvalidAmount : PySem.W.typeIn K (.ref c_InvalidAmount) = some (.type "type"))
    (d_InvalidAmount : PySem.W.hasDictIn K c_InvalidAmount = true)
    (s_InvalidAmount : PySem.W.subIn K (.ref c_InvalidAmount) (.ref c_InvalidAmount) = some true)
    (eg_InvalidAmount : PySem.W.findIn K (.ref c_InvalidAmount) "__getattribute__" = some (some (.builtin "BaseException.__getattribute__")))
    (ek_InvalidAmount : PySem.W.findIn K (.ref c_InvalidAmount) "__getattr__" = some none)
    (ea_InvalidAmount : PySem.W.findIn K (.ref c_InvalidAmount) "__class__" = some (some (.builtin "object.__class__")))
    (en_InvalidAmount : PySem.W.specialIn K (.builtin "object.__class__") "__get__" = some (some (.builtin "getset_descriptor.__get__")))
    (et_InvalidAmount : PySem.W.takesIn K (.builtin "object.__class__") = some true)
    (em_InvalidAmount : PySem.W.mroIn K c_InvalidAmount (.type "object") = some true)
    (g_InvalidWeights : PySem.W.nsIn K mainGlobals "InvalidWeights" = some (some (.ref c_InvalidWeights)))
    (g_InvalidTrade : PySem.W.nsIn K mainGlobals "InvalidTrade" = some (some (.ref c_InvalidTrade)))
    (x_InvalidTrade : PySem.W.excIn K c_InvalidTrade [.type "ValueError", .type "Exception", .type "BaseException", .type "object"] "ValueError.__new__" = true)
    (k_InvalidTrade : PySem.W.keepIn K (.ref c_InvalidTrade) = true)
    (b_InvalidTrade : PySem.W.subIn K (.ref c_InvalidTrade) (.type "BaseException") = some true)
    (t_InvalidTrade : PySem.W.typeIn K (.ref c_InvalidTrade) = some (.type "type"))
    (d_InvalidTrade : PySem.W.hasDictIn K c_InvalidTrade = true)
    (s_InvalidTrade : PySem.W.subIn K (.ref c_InvalidTrade) (.ref c_InvalidTrade) = some true)
    (eg_InvalidTrade : PySem.W.findIn K (.ref c_InvalidTrade) "__getattribute__" = some (some (.builtin "BaseException.__getattribute__")))
    (ek_InvalidTrade : PySem.W.findIn K (.ref c_InvalidTrade) "__getattr__" = some none)
    (ea_InvalidTrade : PySem.W.findIn K (.ref c_InvalidTrade) "__class__" = some (some (.builtin "object.__class__")))
    (en_InvalidTrade : PySem.W.specialIn K (.builtin "object.__class__") "__get__" = some (some (.builtin "getset_descriptor.__get__")))
    (et_InvalidTrade : PySem.W.takesIn K (.builtin "object.__class__") = some true)
    (em_InvalidTrade : PySem.W.mroIn K c_InvalidTrade (.type "object") = some true)
    (g_Delivery : PySem.W.nsIn K mainGlobals "Delivery" = some (some (.ref c_Delivery)))
    (pg_Delivery : PySem.W.plainGet K c_Delivery Str.empty = true)
    (hd_Delivery : PySem.W.hasDictIn K c_Delivery = true)
    (po_Delivery : PySem.W.plainOver K c_Delivery = true)
    (sa_Delivery : PySem.W.findIn K (.ref c_Delivery) "__setattr__" = some (some (.builtin "object.__setattr__")))
    (ma_Delivery : PySem.W.makesIn K c_Delivery = true)
    (kc_Delivery : PySem.W.keepIn K (.ref c_Delivery) = true)
    (na_Delivery_delivered : PySem.W.findIn K (.ref c_Delivery) "delivered" = some none)
    (na_Delivery_missing : PySem.W.findIn K (.ref c_Delivery) "missing" = some none)
    (na_Delivery_held : PySem.W.findIn K (.ref c_Delivery) "held" = some none)
    (na_Delivery_price : PySem.W.findIn K (.ref c_Delivery) "price" = some none)
    (g_Settlement : PySem.W.nsIn K mainGlobals "Settlement" = some (some (.ref c_Settlement)))
    (pg_Settlement : PySem.W.plainGet K c_Settlement Str.empty = true)
    (hd_Settlement : PySem.W.hasDictIn K c_Settlement = true)
    (po_Settlement : PySem.W.plainOver K c_Settlement = true)
    (sa_Settlement : PySem.W.findIn K (.ref c_Settlement) "__setattr__" = some (some (.builtin "object.__setattr__")))
    (ma_Settlement : PySem.W.makesIn K c_Settlement = true)
    (kc_Settlement : PySem.W.keepIn K (.ref c_Settlement) = true)
    (na_Settlement_deliveries : PySem.W.findIn K (.ref c_Settlement) "deliveries" = some none)
    (na_Settlement_owed : PySem.W.findIn K (.ref c_Settlement) "owed" = some none)
    (na_Settlement_pay : PySem.W.findIn K (.ref c_Settlement) "pay" = some none)
    (na_Settlement_paid : PySem.W.findIn K (.ref c_Settlement) "paid" = some none)
    (na_Settlement_cash : PySem.W.findIn K (.ref c_Settlement) "cash" = some none)
    (na_Settlement_fallen : PySem.W.findIn K (.ref c_Settlement) "fallen" = some none)
    (kt_InvalidTrade_BourseError : PySem.W.kitOne K (.ref c_InvalidTrade) (.ref c_BourseError) = some true)
    (kt_InvalidTrade_InvalidAmount : PySem.W.kitOne K (.ref c_InvalidTrade) (.ref c_InvalidAmount) = some false)
    (kt_InvalidAmount_BourseError : PySem.W.kitOne K (.ref c_InvalidAmount) (.ref c_BourseError) = some true)
    (su_InvalidAmount_InvalidTrade : PySem.W.subIn K (.ref c_InvalidAmount) (.ref c_InvalidTrade) = some false) :
    ∃ fd : FuncData, (∀ (s : Shared) (v : Value), BindsTo s fd ⟨[v], []⟩ [("script", v)]) ∧ ∀ base : Heap, K.In base → base.Ns mainGlobals mg → FnOk l.prog w K mg base CX0 13 fa fd ["script"] (sp_law K) := by
  have e := hfa.symm.trans (PySem.W.mg_of X G a33)
  cases e
  have F1 := fun_mk (st := s_is_integral) l1 c1 k1
  have b1 := F1.binds (ps := ["value"]) fun _ _ _ _ _ _ us hl => match us, hl with | [_], _ => rfl
  have F2 := fun_mk (st := s_is_within) l2 c2 k2
  have b2 := F2.binds (ps := ["least", "most", "value"]) fun _ _ _ _ _ _ us hl => match us, hl with | [_, _, _], _ => rfl
  have F3 := fun_mk (st := s_check_amount) l3 c3 k3
  have b3 := F3.binds (ps := ["amount", "most"]) fun _ _ _ _ _ _ us hl => match us, hl with | [_, _], _ => rfl
  have F4 := fun_mk (st := s_check_weights) l4 c4 k4
  have b4 := F4.binds (ps := ["weights", "amount"]) fun _ _ _ _ _ _ us hl => match us, hl with | [_, _], _ => rfl
  have F5 := fun_mk (st := s_split) l5 c5 k5
  have b5 := F5.binds (ps := ["amount", "weights"]) fun _ _ _ _ _ _ us hl => match us, hl with | [_, _], _ => rfl
  have F6 := fun_mk (st := s_greatest_quotient) l6 c6 k6
  have b6 := F6.binds (ps := ["weights", "parts"]) fun _ _ _ _ _ _ us hl => match us, hl with | [_, _], _ => rfl
  have F7 := fun_mk (st := s_check_debts) l7 c7 k7
  have b7 := F7.binds (ps := ["owed"]) fun _ _ _ _ _ _ us hl => match us, hl with | [_], _ => rfl
  have F8 := fun_mk (st := s_receipts) l8 c8 k8
  have b8 := F8.binds (ps := ["owed", "pay"]) fun _ _ _ _ _ _ us hl => match us, hl with | [_, _], _ => rfl
  have F9 := fun_mk (st := s_received) l9 c9 k9
  have b9 := F9.binds (ps := ["owed", "pay"]) fun _ _ _ _ _ _ us hl => match us, hl with | [_, _], _ => rfl
  have F10 := fun_mk (st := s_round_of) l10 c10 k10
  have b10 := F10.binds (ps := ["owed", "cash", "pay"]) fun _ _ _ _ _ _ us hl => match us, hl with | [_, _, _], _ => rfl
  have F11 := fun_mk (st := s_clearing) l11 c11 k11
  have b11 := F11.binds (ps := ["owed", "cash"]) fun _ _ _ _ _ _ us hl => match us, hl with | [_, _], _ => rfl
  have F12 := fun_mk (st := s_after_rounds) l12 c12 k12
  have b12 := F12.binds (ps := ["owed", "cash", "pay"]) fun _ _ _ _ _ _ us hl => match us, hl with | [_, _, _], _ => rfl
  have F13 := fun_mk (st := s_leap) l13 c13 k13
  have b13 := F13.binds (ps := ["owed", "cash", "pay", "drop"]) fun _ _ _ _ _ _ us hl => match us, hl with | [_, _, _, _], _ => rfl
  have F14 := fun_mk (st := s_raised) l14 c14 k14
  have b14 := F14.binds (ps := ["owed", "cash", "pay"]) fun _ _ _ _ _ _ us hl => match us, hl with | [_, _, _], _ => rfl
  have F15 := fun_mk (st := s_may_rise) l15 c15 k15
  have b15 := F15.binds (ps := ["owed", "pay", "able"]) fun _ _ _ _ _ _ us hl => match us, hl with | [_, _, _], _ => rfl
  have F16 := fun_mk (st := s_next_creditor) l16 c16 k16
  have b16 := F16.binds (ps := ["debts", "amount"]) fun _ _ _ _ _ _ us hl => match us, hl with | [_, _], _ => rfl
  have F17 := fun_mk (st := s_cash_after) l17 c17 k17
  have b17 := F17.binds (ps := ["owed", "cash", "pay"]) fun _ _ _ _ _ _ us hl => match us, hl with | [_, _, _], _ => rfl
  have F18 := fun_mk (st := s_fallen) l18 c18 k18
  have b18 := F18.binds (ps := ["owed", "pay"]) fun _ _ _ _ _ _ us hl => match us, hl with | [_, _], _ => rfl
  have F19 := fun_mk (st := s_missing) l19 c19 k19
  have b19 := F19.binds (ps := ["owed", "delivered"]) fun _ _ _ _ _ _ us hl => match us, hl with | [_, _], _ => rfl
  have F20 := fun_mk (st := s_Delivery_init) l20 c20 k20
  have b20 := F20.binds (ps := ["self", "owed", "held", "price"]) fun _ _ _ _ _ _ us hl => match us, hl with | [_, _, _, _], _ => rfl
  have F21 := fun_mk (st := s_Settlement_init) l21 c21 k21
  have b21 := F21.binds (ps := ["self", "deliveries", "owed", "cash"]) fun _ _ _ _ _ _ us hl => match us, hl with | [_, _, _, _], _ => rfl
  have F22 := fun_mk (st := s_settle_day) l22 c22 k22
  have b22 := F22.binds (ps := ["instruments", "owed", "cash"]) fun _ _ _ _ _ _ us hl => match us, hl with | [_, _, _], _ => rfl
  have F23 := fun_mk (st := s_with_missing) l23 c23 k23
  have b23 := F23.binds (ps := ["owed", "delivery"]) fun _ _ _ _ _ _ us hl => match us, hl with | [_, _], _ => rfl
  have F24 := fun_mk (st := s_check_held) l24 c24 k24
  have b24 := F24.binds (ps := ["amounts", "houses"]) fun _ _ _ _ _ _ us hl => match us, hl with | [_, _], _ => rfl
  have F25 := fun_mk (st := s_law_cell) l25 c25 k25
  have b25 := F25.binds (ps := ["script", "k"]) fun _ _ _ _ _ _ us hl => match us, hl with | [_, _], _ => rfl
  have F26 := fun_mk (st := s_law_draws) l26 c26 k26
  have b26 := F26.binds (ps := ["cell", "count", "size"]) fun _ _ _ _ _ _ us hl => match us, hl with | [_, _, _], _ => rfl
  have F27 := fun_mk (st := s_law_small_row) l27 c27 k27
  have b27 := F27.binds (ps := ["cell", "payer", "count", "size"]) fun _ _ _ _ _ _ us hl => match us, hl with | [_, _, _, _], _ => rfl
  have F28 := fun_mk (st := s_law_small_table) l28 c28 k28
  have b28 := F28.binds (ps := ["script", "at", "count", "size"]) fun _ _ _ _ _ _ us hl => match us, hl with | [_, _, _, _], _ => rfl
  have F29 := fun_mk (st := s_law_told) l29 c29 k29
  have b29 := F29.binds (ps := ["instruments", "owed", "cash"]) fun _ _ _ _ _ _ us hl => match us, hl with | [_, _, _], _ => rfl
  have F30 := fun_mk (st := s_law_instrument) l30 c30 k30
  have b30 := F30.binds (ps := ["script", "at", "count"]) fun _ _ _ _ _ _ us hl => match us, hl with | [_, _, _], _ => rfl
  have F31 := fun_mk (st := s_law_debts) l31 c31 k31
  have b31 := F31.binds (ps := ["owed", "instruments"]) fun _ _ _ _ _ _ us hl => match us, hl with | [_, _], _ => rfl
  have F32 := fun_mk (st := s_law_copies) l32 c32 k32
  have b32 := F32.binds (ps := ["instruments"]) fun _ _ _ _ _ _ us hl => match us, hl with | [_], _ => rfl
  have F33 := fun_mk (st := s_law) l33 c33 k33
  have b33 := F33.binds (ps := ["script"]) fun _ _ _ _ _ _ us hl => match us, hl with | [_], _ => rfl
  have T : Txt K mg := ⟨f1, _, F1, PySem.W.mg_of X G a1, b1, f2, _, F2, PySem.W.mg_of X G a2, b2, f3, _, F3, PySem.W.mg_of X G a3, b3, f4, _, F4, PySem.W.mg_of X G a4, b4, f5, _, F5, PySem.W.mg_of X G a5, b5, f6, _, F6, PySem.W.mg_of X G a6, b6, f7, _, F7, PySem.W.mg_of X G a7, b7, f8, _, F8, PySem.W.mg_of X G a8, b8, f9, _, F9, PySem.W.mg_of X G a9, b9, f10, _, F10, PySem.W.mg_of X G a10, b10, f11, _, F11, PySem.W.mg_of X G a11, b11, f12, _, F12, PySem.W.mg_of X G a12, b12, f13, _, F13, PySem.W.mg_of X G a13, b13, f14, _, F14, PySem.W.mg_of X G a14, b14, f15, _, F15, PySem.W.mg_of X G a15, b15, f16, _, F16, PySem.W.mg_of X G a16, b16, f17, _, F17, PySem.W.mg_of X G a17, b17, f18, _, F18, PySem.W.mg_of X G a18, b18, f19, _, F19, PySem.W.mg_of X G a19, b19, f20, _, F20, b20, f21, _, F21, b21, f22, _, F22, PySem.W.mg_of X G a22, b22, f23, _, F23, PySem.W.mg_of X G a23, b23, f24, _, F24, PySem.W.mg_of X G a24, b24, f25, _, F25, PySem.W.mg_of X G a25, b25, f26, _, F26, PySem.W.mg_of X G a26, b26, f27, _, F27, PySem.W.mg_of X G a27, b27, f28, _, F28, PySem.W.mg_of X G a28, b28, f29, _, F29, PySem.W.mg_of X G a29, b29, f30, _, F30, PySem.W.mg_of X G a30, b30, f31, _, F31, PySem.W.mg_of X G a31, b31, f32, _, F32, PySem.W.mg_of X G a32, b32, c_BourseError, PySem.W.mg_of X G g_BourseError, c_InvalidAmount, PySem.W.mg_of X G g_InvalidAmount, x_InvalidAmount, k_InvalidAmount, b_InvalidAmount, t_InvalidAmount, d_InvalidAmount, s_InvalidAmount, eg_InvalidAmount, ek_InvalidAmount, ea_InvalidAmount, en_InvalidAmount, et_InvalidAmount, em_InvalidAmount, ⟨eg_InvalidAmount, ek_InvalidAmount, b_InvalidAmount, d_InvalidAmount, ea_InvalidAmount, en_InvalidAmount, et_InvalidAmount, em_InvalidAmount⟩, c_InvalidWeights, PySem.W.mg_of X G g_InvalidWeights, c_InvalidTrade, PySem.W.mg_of X G g_InvalidTrade, x_InvalidTrade, k_InvalidTrade, b_InvalidTrade, t_InvalidTrade, d_InvalidTrade, s_InvalidTrade, eg_InvalidTrade, ek_InvalidTrade, ea_InvalidTrade, en_InvalidTrade, et_InvalidTrade, em_InvalidTrade, ⟨eg_InvalidTrade, ek_InvalidTrade, b_InvalidTrade, d_InvalidTrade, ea_InvalidTrade, en_InvalidTrade, et_InvalidTrade, em_InvalidTrade⟩, c_Delivery, PySem.W.mg_of X G g_Delivery, pg_Delivery, hd_Delivery, po_Delivery, sa_Delivery, ma_Delivery, kc_Delivery, ⟨pg_Delivery, hd_Delivery, po_Delivery, sa_Delivery⟩, na_Delivery_delivered, na_Delivery_missing, na_Delivery_held, na_Delivery_price, c_Settlement, PySem.W.mg_of X G g_Settlement, pg_Settlement, hd_Settlement, po_Settlement, sa_Settlement, ma_Settlement, kc_Settlement, ⟨pg_Settlement, hd_Settlement, po_Settlement, sa_Settlement⟩, na_Settlement_deliveries, na_Settlement_owed, na_Settlement_pay, na_Settlement_paid, na_Settlement_cash, na_Settlement_fallen, ⟨ma_Delivery, a20, i20, kc_Delivery⟩, ⟨ma_Settlement, a21, i21, kc_Settlement⟩, kt_InvalidTrade_BourseError, kt_InvalidTrade_InvalidAmount, kt_InvalidAmount_BourseError, su_InvalidAmount_InvalidTrade, PySem.W.mg_none_of X G z_abs, PySem.W.mg_none_of X G z_all, PySem.W.mg_none_of X G z_bool, PySem.W.mg_none_of X G z_enumerate, PySem.W.mg_none_of X G z_int, PySem.W.mg_none_of X G z_isinstance, PySem.W.mg_none_of X G z_len, PySem.W.mg_none_of X G z_list, PySem.W.mg_none_of X G z_max, PySem.W.mg_none_of X G z_min, PySem.W.mg_none_of X G z_range, PySem.W.mg_none_of X G z_sum, PySem.W.mg_none_of X G z_zip, t_MOST_AMOUNT, PySem.W.mg_of X G v_MOST_AMOUNT, t_MOST_WEIGHTS, PySem.W.mg_of X G v_MOST_WEIGHTS, t_MOST_WEIGHT, PySem.W.mg_of X G v_MOST_WEIGHT, t_MOST_HOUSES, PySem.W.mg_of X G v_MOST_HOUSES, t_MOST_DEBT, PySem.W.mg_of X G v_MOST_DEBT, t_MOST_HELD, PySem.W.mg_of X G v_MOST_HELD⟩
  exact ⟨PySem.W.fnOf "law" "law" (defArgs s_law) (defBody s_law) (defScope s_law) .none kV33 dc33 pm33 an33 cd33 ct33, fun s v => .of_eq rfl, fun base _ _ => ok_law T F33⟩
end FB
open PySem PySem.W PyProof.Rows
set_option maxRecDepth 100000 in
set_option maxHeartbeats 0 in
theorem PySem.Challenge.cw_fairbourse_k61_errors_of_two_instruments_holds : PySem.Challenge.rw_fairbourse_k61_errors_of_two_instruments.Holds := by
  w_on; o_law; k_head; (case hw => w_witness2)
  k_fill
  refine L2.walk_of (l := PySem.Challenge.rw_fairbourse_k61_errors_of_two_instruments) (n := 63) (k := 13) (x := "script") (CX := fun _ => L2.CX0) (sp := fun w => FB.sp_law _) rfl (by decide) rfl ⟨rfl, by decide, by decide⟩ (fun w h Y => PySem.W.kIn_of Y) ?F (fun _ _ a ns hl _ hS => ⟨a, ns, rfl, hS, hl, fun _ => rfl⟩) (fun _ _ _ _ _ h => h)
  case F =>
    intro w mg fa h KX G hmg
    refine' FB.all_mk KX G hmg ?a1 ?l1 ?c1 ?k1 ?a2 ?l2 ?c2 ?k2 ?a3 ?l3 ?c3 ?k3 ?a4 ?l4 ?c4 ?k4 ?a5 ?l5 ?c5 ?k5 ?a6 ?l6 ?c6 ?k6 ?a7 ?l7 ?c7 ?k7 ?a8 ?l8 ?c8 ?k8 ?a9 ?l9 ?c9 ?k9 ?a10 ?l10 ?c10 ?k10 ?a11 ?l11 ?c11 ?k11 ?a12 ?l12 ?c12 ?k12 ?a13 ?l13 ?c13 ?k13 ?a14 ?l14 ?c14 ?k14 ?a15 ?l15 ?c15 ?k15 ?a16 ?l16 ?c16 ?k16 ?a17 ?l17 ?c17 ?k17 ?a18 ?l18 ?c18 ?k18 ?a19 ?l19 ?c19 ?k19 ?a20 ?i20 ?l20 ?c20 ?k20 ?a21 ?i21 ?l21 ?c21 ?k21 ?a22 ?l22 ?c22 ?k22 ?a23 ?l23 ?c23 ?k23 ?a24 ?l24 ?c24 ?k24 ?a25 ?l25 ?c25 ?k25 ?a26 ?l26 ?c26 ?k26 ?a27 ?l27 ?c27 ?k27 ?a28 ?l28 ?c28 ?k28 ?a29 ?l29 ?c29 ?k29 ?a30 ?l30 ?c30 ?k30 ?a31 ?l31 ?c31 ?k31 ?a32 ?l32 ?c32 ?k32 ?a33 ?l33 ?c33 ?k33 ?z_abs ?z_all ?z_bool ?z_enumerate ?z_int ?z_isinstance ?z_len ?z_list ?z_max ?z_min ?z_range ?z_sum ?z_zip ?v_MOST_AMOUNT ?v_MOST_WEIGHTS ?v_MOST_WEIGHT ?v_MOST_HOUSES ?v_MOST_DEBT ?v_MOST_HELD ?g_BourseError ?g_InvalidAmount ?x_InvalidAmount ?k_InvalidAmount ?b_InvalidAmount ?t_InvalidAmount ?d_InvalidAmount ?s_InvalidAmount ?eg_InvalidAmount ?ek_InvalidAmount ?ea_InvalidAmount ?en_InvalidAmount ?et_InvalidAmount ?em_InvalidAmount ?g_InvalidWeights ?g_InvalidTrade ?x_InvalidTrade ?k_InvalidTrade ?b_InvalidTrade ?t_InvalidTrade ?d_InvalidTrade ?s_InvalidTrade ?eg_InvalidTrade ?ek_InvalidTrade ?ea_InvalidTrade ?en_InvalidTrade ?et_InvalidTrade ?em_InvalidTrade ?g_Delivery ?pg_Delivery ?hd_Delivery ?po_Delivery ?sa_Delivery ?ma_Delivery ?kc_Delivery ?na_Delivery_delivered ?na_Delivery_missing ?na_Delivery_held ?na_Delivery_price ?g_Settlement ?pg_Settlement ?hd_Settlement ?po_Settlement ?sa_Settlement ?ma_Settlement ?kc_Settlement ?na_Settlement_deliveries ?na_Settlement_owed ?na_Settlement_pay ?na_Settlement_paid ?na_Settlement_cash ?na_Settlement_fallen ?kt_InvalidTrade_BourseError ?kt_InvalidTrade_InvalidAmount ?kt_InvalidAmount_BourseError ?su_InvalidAmount_InvalidTrade
    (case g_BourseError => k_is)
    (case g_InvalidAmount => k_is)
    (case g_InvalidWeights => k_is)
    (case g_InvalidTrade => k_is)
    (case g_Delivery => k_is)
    (case g_Settlement => k_is)
    (case a1 => k_is)
    (case l1 => k_is)
    (case c1 => k_is)
    (case k1 => k_is)
    (case a2 => k_is)
    (case l2 => k_is)
    (case c2 => k_is)
    (case k2 => k_is)
    (case a3 => k_is)
    (case l3 => k_is)
    (case c3 => k_is)
    (case k3 => k_is)
    (case a4 => k_is)
    (case l4 => k_is)
    (case c4 => k_is)
    (case k4 => k_is)
    (case a5 => k_is)
    (case l5 => k_is)
    (case c5 => k_is)
    (case k5 => k_is)
    (case a6 => k_is)
    (case l6 => k_is)
    (case c6 => k_is)
    (case k6 => k_is)
    (case a7 => k_is)
    (case l7 => k_is)
    (case c7 => k_is)
    (case k7 => k_is)
    (case a8 => k_is)
    (case l8 => k_is)
    (case c8 => k_is)
    (case k8 => k_is)
    (case a9 => k_is)
    (case l9 => k_is)
    (case c9 => k_is)
    (case k9 => k_is)
    (case a10 => k_is)
    (case l10 => k_is)
    (case c10 => k_is)
    (case k10 => k_is)
    (case a11 => k_is)
    (case l11 => k_is)
    (case c11 => k_is)
    (case k11 => k_is)
    (case a12 => k_is)
    (case l12 => k_is)
    (case c12 => k_is)
    (case k12 => k_is)
    (case a13 => k_is)
    (case l13 => k_is)
    (case c13 => k_is)
    (case k13 => k_is)
    (case a14 => k_is)
    (case l14 => k_is)
    (case c14 => k_is)
    (case k14 => k_is)
    (case a15 => k_is)
    (case l15 => k_is)
    (case c15 => k_is)
    (case k15 => k_is)
    (case a16 => k_is)
    (case l16 => k_is)
    (case c16 => k_is)
    (case k16 => k_is)
    (case a17 => k_is)
    (case l17 => k_is)
    (case c17 => k_is)
    (case k17 => k_is)
    (case a18 => k_is)
    (case l18 => k_is)
    (case c18 => k_is)
    (case k18 => k_is)
    (case a19 => k_is)
    (case l19 => k_is)
    (case c19 => k_is)
    (case k19 => k_is)
    (case a20 => k_is)
    (case i20 => k_is)
    (case l20 => k_is)
    (case c20 => k_is)
    (case k20 => k_is)
    (case a21 => k_is)
    (case i21 => k_is)
    (case l21 => k_is)
    (case c21 => k_is)
    (case k21 => k_is)
    (case a22 => k_is)
    (case l22 => k_is)
    (case c22 => k_is)
    (case k22 => k_is)
    (case a23 => k_is)
    (case l23 => k_is)
    (case c23 => k_is)
    (case k23 => k_is)
    (case a24 => k_is)
    (case l24 => k_is)
    (case c24 => k_is)
    (case k24 => k_is)
    (case a25 => k_is)
    (case l25 => k_is)
    (case c25 => k_is)
    (case k25 => k_is)
    (case a26 => k_is)
    (case l26 => k_is)
    (case c26 => k_is)
    (case k26 => k_is)
    (case a27 => k_is)
    (case l27 => k_is)
    (case c27 => k_is)
    (case k27 => k_is)
    (case a28 => k_is)
    (case l28 => k_is)
    (case c28 => k_is)
    (case k28 => k_is)
    (case a29 => k_is)
    (case l29 => k_is)
    (case c29 => k_is)
    (case k29 => k_is)
    (case a30 => k_is)
    (case l30 => k_is)
    (case c30 => k_is)
    (case k30 => k_is)
    (case a31 => k_is)
    (case l31 => k_is)
    (case c31 => k_is)
    (case k31 => k_is)
    (case a32 => k_is)
    (case l32 => k_is)
    (case c32 => k_is)
    (case k32 => k_is)
    (case a33 => k_is)
    (case l33 => k_is)
    (case c33 => k_is)
    (case k33 => k_is)
    (case z_abs => k_is)
    (case z_all => k_is)
    (case z_bool => k_is)
    (case z_enumerate => k_is)
    (case z_int => k_is)
    (case z_isinstance => k_is)
    (case z_len => k_is)
    (case z_list => k_is)
    (case z_max => k_is)
    (case z_min => k_is)
    (case z_range => k_is)
    (case z_sum => k_is)
    (case z_zip => k_is)
    (case v_MOST_AMOUNT => k_is)
    (case v_MOST_WEIGHTS => k_is)
    (case v_MOST_WEIGHT => k_is)
    (case v_MOST_HOUSES => k_is)
    (case v_MOST_DEBT => k_is)
    (case v_MOST_HELD => k_is)
    (case x_InvalidAmount => k_exc)
    (case k_InvalidAmount => k_is)
    (case b_InvalidAmount => k_is)
    (case t_InvalidAmount => k_is)
    (case d_InvalidAmount => k_is)
    (case s_InvalidAmount => first | rfl | k_is)
    (case eg_InvalidAmount => k_is)
    (case ek_InvalidAmount => k_is)
    (case ea_InvalidAmount => k_is)
    (case en_InvalidAmount => k_is)
    (case et_InvalidAmount => k_is)
    (case em_InvalidAmount => k_is)
    (case x_InvalidTrade => k_exc)
    (case k_InvalidTrade => k_is)
    (case b_InvalidTrade => k_is)
    (case t_InvalidTrade => k_is)
    (case d_InvalidTrade => k_is)
    (case s_InvalidTrade => first | rfl | k_is)
    (case eg_InvalidTrade => k_is)
    (case ek_InvalidTrade => k_is)
    (case ea_InvalidTrade => k_is)
    (case en_InvalidTrade => k_is)
    (case et_InvalidTrade => k_is)
    (case em_InvalidTrade => k_is)
    (case pg_Delivery => k_is)
    (case hd_Delivery => k_is)
    (case po_Delivery => k_is)
    (case sa_Delivery => k_is)
    (case ma_Delivery => k_is)
    (case kc_Delivery => k_is)
    (case na_Delivery_delivered => k_is)
    (case na_Delivery_missing => k_is)
    (case na_Delivery_held => k_is)
    (case na_Delivery_price => k_is)
    (case pg_Settlement => k_is)
    (case hd_Settlement => k_is)
    (case po_Settlement => k_is)
    (case sa_Settlement => k_is)
    (case ma_Settlement => k_is)
    (case kc_Settlement => k_is)
    (case na_Settlement_deliveries => k_is)
    (case na_Settlement_owed => k_is)
    (case na_Settlement_pay => k_is)
    (case na_Settlement_paid => k_is)
    (case na_Settlement_cash => k_is)
    (case na_Settlement_fallen => k_is)
    (case kt_InvalidTrade_BourseError => kit_is)
    (case kt_InvalidTrade_InvalidAmount => kit_is)
    (case kt_InvalidAmount_BourseError => kit_is)
    (case su_InvalidAmount_InvalidTrade => first | rfl | k_is)
