import PyProof.Rows.All
import Wide.All
import OpenK.AllK
import Wide.FinOn
import HandS.ForMost
import HandS.ForExc
import HandS.Defaults
import HandS.Sort
import HandS.IsInst
import HandS.Wide
import HandS.Codes
import HandS.Walk
import HandS.SetFor
import HandS.More
import KE.DataFind
import HandS.ExcIs
import HandS.MakeKwOnly
import HandS.CallSlots
import HandS.StrMore
import HandS.FStr
import HandS.RaiseMore
import HandS.TryMany
import HandS.OwnEq
import HandS.ListItems
import HandS.Conv
import HandS.Lambda
import HandS.EndTab
import HandS.Strs
import PyProof.Rows.SetFrom
import KE.DataMinMax
import HandS.Deep
import HandS.SortKw
import KE.SortKeyHeap
import PySem.Challenge.RW_fairbourse_k27_returned_lists_are_new
import PyProof.Rows.RegFStrParts
set_option Elab.async false
set_option linter.all false
set_option maxRecDepth 100000
namespace FB
open PySem PySem.Spec PyProof.Rows L2
def topS (i : Nat) : Stmt := PySem.Challenge.pw_fairbourse_k27_returned_lists_are_new.main.body.getD i (.Pass ⟨0, 0, 0, 0⟩)
abbrev s_is_integral : Stmt := topS 11
abbrev N_is_integral : List Str := ["value"]
theorem sc_is_integral : FnScope N_is_integral ["value"] (defScope s_is_integral) := ⟨rfl, rfl, rfl, by decide +kernel, rfl, by decide +kernel, by decide +kernel⟩
abbrev s_is_within : Stmt := topS 12
abbrev N_is_within : List Str := ["least", "most", "value"]
theorem sc_is_within : FnScope N_is_within ["least", "most", "value"] (defScope s_is_within) := ⟨rfl, rfl, rfl, by decide +kernel, rfl, by decide +kernel, by decide +kernel⟩
abbrev s_other_side : Stmt := topS 17
abbrev N_other_side : List Str := ["side"]
theorem sc_other_side : FnScope N_other_side ["side"] (defScope s_other_side) := ⟨rfl, rfl, rfl, by decide +kernel, rfl, by decide +kernel, by decide +kernel⟩
abbrev s_accepts : Stmt := topS 18
abbrev N_accepts : List Str := ["side", "limit", "price"]
theorem sc_accepts : FnScope N_accepts ["side", "limit", "price"] (defScope s_accepts) := ⟨rfl, rfl, rfl, by decide +kernel, rfl, by decide +kernel, by decide +kernel⟩
abbrev s_check_house : Stmt := topS 19
abbrev N_check_house : List Str := ["house"]
theorem sc_check_house : FnScope N_check_house ["house"] (defScope s_check_house) := ⟨rfl, rfl, rfl, by decide +kernel, rfl, by decide +kernel, by decide +kernel⟩
abbrev s_check_side : Stmt := topS 20
abbrev N_check_side : List Str := ["side"]
theorem sc_check_side : FnScope N_check_side ["side"] (defScope s_check_side) := ⟨rfl, rfl, rfl, by decide +kernel, rfl, by decide +kernel, by decide +kernel⟩
abbrev s_check_number : Stmt := topS 21
abbrev N_check_number : List Str := ["number", "least", "most"]
theorem sc_check_number : FnScope N_check_number ["number", "least", "most"] (defScope s_check_number) := ⟨rfl, rfl, rfl, by decide +kernel, rfl, by decide +kernel, by decide +kernel⟩
abbrev s_check_price : Stmt := topS 22
abbrev N_check_price : List Str := ["price"]
theorem sc_check_price : FnScope N_check_price ["price"] (defScope s_check_price) := ⟨rfl, rfl, rfl, by decide +kernel, rfl, by decide +kernel, by decide +kernel⟩
abbrev s_check_quantity : Stmt := topS 23
abbrev N_check_quantity : List Str := ["quantity"]
theorem sc_check_quantity : FnScope N_check_quantity ["quantity"] (defScope s_check_quantity) := ⟨rfl, rfl, rfl, by decide +kernel, rfl, by decide +kernel, by decide +kernel⟩
abbrev s_check_order : Stmt := topS 24
abbrev N_check_order : List Str := ["house", "side", "price", "quantity", "kind", "shown"]
theorem sc_check_order : FnScope N_check_order ["house", "side", "price", "quantity", "kind", "shown"] (defScope s_check_order) := ⟨rfl, rfl, rfl, by decide +kernel, rfl, by decide +kernel, by decide +kernel⟩
abbrev s_check_stop : Stmt := topS 25
abbrev N_check_stop : List Str := ["house", "side", "trigger", "price", "quantity"]
theorem sc_check_stop : FnScope N_check_stop ["house", "side", "trigger", "price", "quantity"] (defScope s_check_stop) := ⟨rfl, rfl, rfl, by decide +kernel, rfl, by decide +kernel, by decide +kernel⟩
abbrev s_Order_init : Stmt := inClass (topS 27) 0
abbrev N_Order_init : List Str := ["self", "number", "house", "side", "price", "quantity", "shown"]
theorem sc_Order_init : FnScope N_Order_init ["self", "number", "house", "side", "price", "quantity", "shown"] (defScope s_Order_init) := ⟨rfl, rfl, rfl, by decide +kernel, rfl, by decide +kernel, by decide +kernel⟩
abbrev s_Order_accepts_price : Stmt := inClass (topS 27) 1
abbrev N_Order_accepts_price : List Str := ["self", "price"]
theorem sc_Order_accepts_price : FnScope N_Order_accepts_price ["self", "price"] (defScope s_Order_accepts_price) := ⟨rfl, rfl, rfl, by decide +kernel, rfl, by decide +kernel, by decide +kernel⟩
abbrev s_Order_show_next_part : Stmt := inClass (topS 27) 2
abbrev N_Order_show_next_part : List Str := ["self"]
theorem sc_Order_show_next_part : FnScope N_Order_show_next_part ["self"] (defScope s_Order_show_next_part) := ⟨rfl, rfl, rfl, by decide +kernel, rfl, by decide +kernel, by decide +kernel⟩
abbrev s_Order_trade_visible : Stmt := inClass (topS 27) 3
abbrev N_Order_trade_visible : List Str := ["self", "quantity"]
theorem sc_Order_trade_visible : FnScope N_Order_trade_visible ["self", "quantity"] (defScope s_Order_trade_visible) := ⟨rfl, rfl, rfl, by decide +kernel, rfl, by decide +kernel, by decide +kernel⟩
abbrev s_Stop_init : Stmt := inClass (topS 28) 0
abbrev N_Stop_init : List Str := ["self", "number", "house", "side", "trigger", "price", "quantity"]
theorem sc_Stop_init : FnScope N_Stop_init ["self", "number", "house", "side", "trigger", "price", "quantity"] (defScope s_Stop_init) := ⟨rfl, rfl, rfl, by decide +kernel, rfl, by decide +kernel, by decide +kernel⟩
abbrev s_Stop_is_reached : Stmt := inClass (topS 28) 1
abbrev N_Stop_is_reached : List Str := ["self", "last"]
theorem sc_Stop_is_reached : FnScope N_Stop_is_reached ["self", "last"] (defScope s_Stop_is_reached) := ⟨rfl, rfl, rfl, by decide +kernel, rfl, by decide +kernel, by decide +kernel⟩
abbrev s_Stop_row : Stmt := inClass (topS 28) 2
abbrev N_Stop_row : List Str := ["self"]
theorem sc_Stop_row : FnScope N_Stop_row ["self"] (defScope s_Stop_row) := ⟨rfl, rfl, rfl, by decide +kernel, rfl, by decide +kernel, by decide +kernel⟩
abbrev s_BookSide_init : Stmt := inClass (topS 29) 0
abbrev N_BookSide_init : List Str := ["self"]
theorem sc_BookSide_init : FnScope N_BookSide_init ["self"] (defScope s_BookSide_init) := ⟨rfl, rfl, rfl, by decide +kernel, rfl, by decide +kernel, by decide +kernel⟩
abbrev s_BookSide_rows : Stmt := inClass (topS 29) 1
abbrev N_BookSide_rows : List Str := ["self", "order"]
theorem sc_BookSide_rows : FnScope N_BookSide_rows ["self"] (defScope s_BookSide_rows) := ⟨rfl, rfl, rfl, by decide +kernel, rfl, by decide +kernel, by decide +kernel⟩
abbrev s_BookSide_depth : Stmt := inClass (topS 29) 3
abbrev N_BookSide_depth : List Str := ["self", "quantities", "order"]
theorem sc_BookSide_depth : FnScope N_BookSide_depth ["self"] (defScope s_BookSide_depth) := ⟨rfl, rfl, rfl, by decide +kernel, rfl, by decide +kernel, by decide +kernel⟩
abbrev s_BookSide_first : Stmt := inClass (topS 29) 4
abbrev N_BookSide_first : List Str := ["self"]
theorem sc_BookSide_first : FnScope N_BookSide_first ["self"] (defScope s_BookSide_first) := ⟨rfl, rfl, rfl, by decide +kernel, rfl, by decide +kernel, by decide +kernel⟩
abbrev s_BookSide_available : Stmt := inClass (topS 29) 6
abbrev N_BookSide_available : List Str := ["self", "taker", "lefts", "order"]
theorem sc_BookSide_available : FnScope N_BookSide_available ["self", "taker"] (defScope s_BookSide_available) := ⟨rfl, rfl, rfl, by decide +kernel, rfl, by decide +kernel, by decide +kernel⟩
abbrev s_BookSide_enter : Stmt := inClass (topS 29) 7
abbrev N_BookSide_enter : List Str := ["self", "order"]
theorem sc_BookSide_enter : FnScope N_BookSide_enter ["self", "order"] (defScope s_BookSide_enter) := ⟨rfl, rfl, rfl, by decide +kernel, rfl, by decide +kernel, by decide +kernel⟩
abbrev s_BookSideplace_behind : Stmt := inClass (topS 29) 8
abbrev N_BookSideplace_behind : List Str := ["self", "order", "low", "high", "middle"]
theorem sc_BookSideplace_behind : FnScope N_BookSideplace_behind ["self", "order"] (defScope s_BookSideplace_behind) := ⟨rfl, rfl, rfl, by decide +kernel, rfl, by decide +kernel, by decide +kernel⟩
abbrev s_BookSide_leave : Stmt := inClass (topS 29) 9
abbrev N_BookSide_leave : List Str := ["self", "order"]
theorem sc_BookSide_leave : FnScope N_BookSide_leave ["self", "order"] (defScope s_BookSide_leave) := ⟨rfl, rfl, rfl, by decide +kernel, rfl, by decide +kernel, by decide +kernel⟩
abbrev s_BookSide_trade_first : Stmt := inClass (topS 29) 10
abbrev N_BookSide_trade_first : List Str := ["self", "quantity", "first"]
theorem sc_BookSide_trade_first : FnScope N_BookSide_trade_first ["self", "quantity"] (defScope s_BookSide_trade_first) := ⟨rfl, rfl, rfl, by decide +kernel, rfl, by decide +kernel, by decide +kernel⟩
abbrev s_Report_init : Stmt := inClass (topS 31) 0
abbrev N_Report_init : List Str := ["self", "number", "house", "side"]
theorem sc_Report_init : FnScope N_Report_init ["self", "number", "house", "side"] (defScope s_Report_init) := ⟨rfl, rfl, rfl, by decide +kernel, rfl, by decide +kernel, by decide +kernel⟩
abbrev s_Book_init : Stmt := inClass (topS 32) 0
abbrev N_Book_init : List Str := ["self", "first_number"]
theorem sc_Book_init : FnScope N_Book_init ["self", "first_number"] (defScope s_Book_init) := ⟨rfl, rfl, rfl, by decide +kernel, rfl, by decide +kernel, by decide +kernel⟩
abbrev s_Book_submit : Stmt := inClass (topS 32) 1
abbrev N_Book_submit : List Str := ["self", "house", "side", "price", "quantity", "kind", "shown", "order", "report"]
theorem sc_Book_submit : FnScope N_Book_submit ["self", "house", "side", "price", "quantity", "kind", "shown"] (defScope s_Book_submit) := ⟨rfl, rfl, rfl, by decide +kernel, rfl, by decide +kernel, by decide +kernel⟩
abbrev s_Book_submit_stop : Stmt := inClass (topS 32) 2
abbrev N_Book_submit_stop : List Str := ["self", "house", "side", "trigger", "price", "quantity", "stop"]
theorem sc_Book_submit_stop : FnScope N_Book_submit_stop ["self", "house", "side", "trigger", "price", "quantity"] (defScope s_Book_submit_stop) := ⟨rfl, rfl, rfl, by decide +kernel, rfl, by decide +kernel, by decide +kernel⟩
abbrev s_Book_orders : Stmt := inClass (topS 32) 6
abbrev N_Book_orders : List Str := ["self", "side"]
theorem sc_Book_orders : FnScope N_Book_orders ["self", "side"] (defScope s_Book_orders) := ⟨rfl, rfl, rfl, by decide +kernel, rfl, by decide +kernel, by decide +kernel⟩
abbrev s_Book_stops : Stmt := inClass (topS 32) 7
abbrev N_Book_stops : List Str := ["self", "stop"]
theorem sc_Book_stops : FnScope N_Book_stops ["self"] (defScope s_Book_stops) := ⟨rfl, rfl, rfl, by decide +kernel, rfl, by decide +kernel, by decide +kernel⟩
abbrev s_Book_best : Stmt := inClass (topS 32) 8
abbrev N_Book_best : List Str := ["self", "side", "first"]
theorem sc_Book_best : FnScope N_Book_best ["self", "side"] (defScope s_Book_best) := ⟨rfl, rfl, rfl, by decide +kernel, rfl, by decide +kernel, by decide +kernel⟩
abbrev s_Book_depth : Stmt := inClass (topS 32) 9
abbrev N_Book_depth : List Str := ["self", "side"]
theorem sc_Book_depth : FnScope N_Book_depth ["self", "side"] (defScope s_Book_depth) := ⟨rfl, rfl, rfl, by decide +kernel, rfl, by decide +kernel, by decide +kernel⟩
abbrev s_Booktake_number : Stmt := inClass (topS 32) 11
abbrev N_Booktake_number : List Str := ["self", "number"]
theorem sc_Booktake_number : FnScope N_Booktake_number ["self"] (defScope s_Booktake_number) := ⟨rfl, rfl, rfl, by decide +kernel, rfl, by decide +kernel, by decide +kernel⟩
abbrev s_Bookenter : Stmt := inClass (topS 32) 12
abbrev N_Bookenter : List Str := ["self", "order", "kind", "report", "across", "first", "quantity"]
theorem sc_Bookenter : FnScope N_Bookenter ["self", "order", "kind"] (defScope s_Bookenter) := ⟨rfl, rfl, rfl, by decide +kernel, rfl, by decide +kernel, by decide +kernel⟩
abbrev s_Booktrigger_stops : Stmt := inClass (topS 32) 18
abbrev N_Booktrigger_stops : List Str := ["self", "reports", "stop", "kind", "order"]
theorem sc_Booktrigger_stops : FnScope N_Booktrigger_stops ["self"] (defScope s_Booktrigger_stops) := ⟨rfl, rfl, rfl, by decide +kernel, rfl, by decide +kernel, by decide +kernel⟩
abbrev s_Bookfirst_reached : Stmt := inClass (topS 32) 19
abbrev N_Bookfirst_reached : List Str := ["self", "stop"]
theorem sc_Bookfirst_reached : FnScope N_Bookfirst_reached ["self"] (defScope s_Bookfirst_reached) := ⟨rfl, rfl, rfl, by decide +kernel, rfl, by decide +kernel, by decide +kernel⟩
abbrev s_Ledger_init : Stmt := inClass (topS 34) 0
abbrev N_Ledger_init : List Str := ["self"]
theorem sc_Ledger_init : FnScope N_Ledger_init ["self"] (defScope s_Ledger_init) := ⟨rfl, rfl, rfl, by decide +kernel, rfl, by decide +kernel, by decide +kernel⟩
abbrev s_Ledger_open_account : Stmt := inClass (topS 34) 1
abbrev N_Ledger_open_account : List Str := ["self", "name", "may_owe"]
theorem sc_Ledger_open_account : FnScope N_Ledger_open_account ["self", "name", "may_owe"] (defScope s_Ledger_open_account) := ⟨rfl, rfl, rfl, by decide +kernel, rfl, by decide +kernel, by decide +kernel⟩
abbrev s_Ledger_accounts : Stmt := inClass (topS 34) 2
abbrev N_Ledger_accounts : List Str := ["self"]
theorem sc_Ledger_accounts : FnScope N_Ledger_accounts ["self"] (defScope s_Ledger_accounts) := ⟨rfl, rfl, rfl, by decide +kernel, rfl, by decide +kernel, by decide +kernel⟩
abbrev s_Ledger_balance : Stmt := inClass (topS 34) 3
abbrev N_Ledger_balance : List Str := ["self", "name"]
theorem sc_Ledger_balance : FnScope N_Ledger_balance ["self", "name"] (defScope s_Ledger_balance) := ⟨rfl, rfl, rfl, by decide +kernel, rfl, by decide +kernel, by decide +kernel⟩
abbrev s_Ledger_post : Stmt := inClass (topS 34) 4
abbrev N_Ledger_post : List Str := ["self", "moves", "sums", "name", "amount", "number"]
theorem sc_Ledger_post : FnScope N_Ledger_post ["self", "moves"] (defScope s_Ledger_post) := ⟨rfl, rfl, rfl, by decide +kernel, rfl, by decide +kernel, by decide +kernel⟩
abbrev s_Ledger_entries : Stmt := inClass (topS 34) 6
abbrev N_Ledger_entries : List Str := ["self", "moves"]
theorem sc_Ledger_entries : FnScope N_Ledger_entries ["self"] (defScope s_Ledger_entries) := ⟨rfl, rfl, rfl, by decide +kernel, rfl, by decide +kernel, by decide +kernel⟩
abbrev s_Ledger_statement : Stmt := inClass (topS 34) 7
abbrev N_Ledger_statement : List Str := ["self", "name"]
theorem sc_Ledger_statement : FnScope N_Ledger_statement ["self", "name"] (defScope s_Ledger_statement) := ⟨rfl, rfl, rfl, by decide +kernel, rfl, by decide +kernel, by decide +kernel⟩
abbrev s_Ledgercheck_account : Stmt := inClass (topS 34) 8
abbrev N_Ledgercheck_account : List Str := ["self", "name"]
theorem sc_Ledgercheck_account : FnScope N_Ledgercheck_account ["self", "name"] (defScope s_Ledgercheck_account) := ⟨rfl, rfl, rfl, by decide +kernel, rfl, by decide +kernel, by decide +kernel⟩
abbrev s_Ledgersums : Stmt := inClass (topS 34) 9
abbrev N_Ledgersums : List Str := ["self", "moves", "sums", "name", "amount"]
theorem sc_Ledgersums : FnScope N_Ledgersums ["self", "moves"] (defScope s_Ledgersums) := ⟨rfl, rfl, rfl, by decide +kernel, rfl, by decide +kernel, by decide +kernel⟩
abbrev s_Ledgercheck_sums : Stmt := inClass (topS 34) 10
abbrev N_Ledgercheck_sums : List Str := ["self", "sums", "name", "amount"]
theorem sc_Ledgercheck_sums : FnScope N_Ledgercheck_sums ["self", "sums"] (defScope s_Ledgercheck_sums) := ⟨rfl, rfl, rfl, by decide +kernel, rfl, by decide +kernel, by decide +kernel⟩
abbrev s_check_of : Stmt := topS 39
abbrev N_check_of : List Str := ["text", "value", "sign"]
theorem sc_check_of : FnScope N_check_of ["text"] (defScope s_check_of) := ⟨rfl, rfl, rfl, by decide +kernel, rfl, by decide +kernel, by decide +kernel⟩
abbrev s_write_line : Stmt := topS 40
abbrev N_write_line : List Str := ["number", "text", "numbered"]
theorem sc_write_line : FnScope N_write_line ["number", "text"] (defScope s_write_line) := ⟨rfl, rfl, rfl, by decide +kernel, rfl, by decide +kernel, by decide +kernel⟩
abbrev s_is_text : Stmt := topS 41
abbrev N_is_text : List Str := ["text", "sign"]
theorem sc_is_text : FnScope N_is_text ["text"] (defScope s_is_text) := ⟨rfl, rfl, rfl, by decide +kernel, rfl, by decide +kernel, by decide +kernel⟩
abbrev s_Tape_init : Stmt := inClass (topS 42) 0
abbrev N_Tape_init : List Str := ["self"]
theorem sc_Tape_init : FnScope N_Tape_init ["self"] (defScope s_Tape_init) := ⟨rfl, rfl, rfl, by decide +kernel, rfl, by decide +kernel, by decide +kernel⟩
abbrev s_Tape_append : Stmt := inClass (topS 42) 1
abbrev N_Tape_append : List Str := ["self", "text", "number"]
theorem sc_Tape_append : FnScope N_Tape_append ["self", "text"] (defScope s_Tape_append) := ⟨rfl, rfl, rfl, by decide +kernel, rfl, by decide +kernel, by decide +kernel⟩
abbrev s_Tape_texts : Stmt := inClass (topS 42) 2
abbrev N_Tape_texts : List Str := ["self"]
theorem sc_Tape_texts : FnScope N_Tape_texts ["self"] (defScope s_Tape_texts) := ⟨rfl, rfl, rfl, by decide +kernel, rfl, by decide +kernel, by decide +kernel⟩
abbrev s_law_house : Stmt := topS 44
abbrev N_law_house : List Str := ["cell"]
theorem sc_law_house : FnScope N_law_house ["cell"] (defScope s_law_house) := ⟨rfl, rfl, rfl, by decide +kernel, rfl, by decide +kernel, by decide +kernel⟩
abbrev s_law_spoil : Stmt := topS 45
abbrev N_law_spoil : List Str := ["rows"]
theorem sc_law_spoil : FnScope N_law_spoil ["rows"] (defScope s_law_spoil) := ⟨rfl, rfl, rfl, by decide +kernel, rfl, by decide +kernel, by decide +kernel⟩
abbrev s_law_book : Stmt := topS 46
abbrev N_law_book : List Str := ["script", "book", "cell", "side", "price", "quantity", "reports", "report"]
theorem sc_law_book : FnScope N_law_book ["script"] (defScope s_law_book) := ⟨rfl, rfl, rfl, by decide +kernel, rfl, by decide +kernel, by decide +kernel⟩
abbrev s_law_ledger : Stmt := topS 47
abbrev N_law_ledger : List Str := ["script", "ledger", "cell", "moves"]
theorem sc_law_ledger : FnScope N_law_ledger ["script"] (defScope s_law_ledger) := ⟨rfl, rfl, rfl, by decide +kernel, rfl, by decide +kernel, by decide +kernel⟩
abbrev s_law_tape : Stmt := topS 48
abbrev N_law_tape : List Str := ["script", "tape", "cell"]
theorem sc_law_tape : FnScope N_law_tape ["script"] (defScope s_law_tape) := ⟨rfl, rfl, rfl, by decide +kernel, rfl, by decide +kernel, by decide +kernel⟩
abbrev s_law_lists : Stmt := topS 49
abbrev N_law_lists : List Str := ["book", "ledger", "tape", "lists"]
theorem sc_law_lists : FnScope N_law_lists ["book", "ledger", "tape"] (defScope s_law_lists) := ⟨rfl, rfl, rfl, by decide +kernel, rfl, by decide +kernel, by decide +kernel⟩
abbrev s_law : Stmt := topS 50
abbrev N_law : List Str := ["script", "book", "ledger", "tape", "before", "rows", "entries", "due", "cell"]
theorem sc_law : FnScope N_law ["script"] (defScope s_law) := ⟨rfl, rfl, rfl, by decide +kernel, rfl, by decide +kernel, by decide +kernel⟩
set_option maxHeartbeats 0 in
structure Txt (K : PySem.W.Frag) (mg : Str → Option Value) where
  f_is_integral : Addr
  d_is_integral : FuncData
  F_is_integral : Fun K "is_integral" "is_integral" s_is_integral f_is_integral d_is_integral
  m_is_integral : mg "is_integral" = some (.ref f_is_integral)
  b_is_integral : Binds K d_is_integral ["value"] []
  f_is_within : Addr
  d_is_within : FuncData
  F_is_within : Fun K "is_within" "is_within" s_is_within f_is_within d_is_within
  m_is_within : mg "is_within" = some (.ref f_is_within)
  b_is_within : Binds K d_is_within ["least", "most", "value"] []
  f_other_side : Addr
  d_other_side : FuncData
  F_other_side : Fun K "other_side" "other_side" s_other_side f_other_side d_other_side
  m_other_side : mg "other_side" = some (.ref f_other_side)
  b_other_side : Binds K d_other_side ["side"] []
  f_accepts : Addr
  d_accepts : FuncData
  F_accepts : Fun K "accepts" "accepts" s_accepts f_accepts d_accepts
  m_accepts : mg "accepts" = some (.ref f_accepts)
  b_accepts : Binds K d_accepts ["side", "limit", "price"] []
  f_check_house : Addr
  d_check_house : FuncData
  F_check_house : Fun K "check_house" "check_house" s_check_house f_check_house d_check_house
  m_check_house : mg "check_house" = some (.ref f_check_house)
  b_check_house : Binds K d_check_house ["house"] []
  f_check_side : Addr
  d_check_side : FuncData
  F_check_side : Fun K "check_side" "check_side" s_check_side f_check_side d_check_side
  m_check_side : mg "check_side" = some (.ref f_check_side)
  b_check_side : Binds K d_check_side ["side"] []
  f_check_number : Addr
  d_check_number : FuncData
  F_check_number : Fun K "check_number" "check_number" s_check_number f_check_number d_check_number
  m_check_number : mg "check_number" = some (.ref f_check_number)
  b_check_number : Binds K d_check_number ["number", "least", "most"] []
  f_check_price : Addr
  d_check_price : FuncData
  F_check_price : Fun K "check_price" "check_price" s_check_price f_check_price d_check_price
  m_check_price : mg "check_price" = some (.ref f_check_price)
  b_check_price : Binds K d_check_price ["price"] []
  f_check_quantity : Addr
  d_check_quantity : FuncData
  F_check_quantity : Fun K "check_quantity" "check_quantity" s_check_quantity f_check_quantity d_check_quantity
  m_check_quantity : mg "check_quantity" = some (.ref f_check_quantity)
  b_check_quantity : Binds K d_check_quantity ["quantity"] []
  f_check_order : Addr
  d_check_order : FuncData
  F_check_order : Fun K "check_order" "check_order" s_check_order f_check_order d_check_order
  m_check_order : mg "check_order" = some (.ref f_check_order)
  b_check_order : Binds K d_check_order ["house", "side", "price", "quantity", "kind", "shown"] []
  f_check_stop : Addr
  d_check_stop : FuncData
  F_check_stop : Fun K "check_stop" "check_stop" s_check_stop f_check_stop d_check_stop
  m_check_stop : mg "check_stop" = some (.ref f_check_stop)
  b_check_stop : Binds K d_check_stop ["house", "side", "trigger", "price", "quantity"] []
  f_Order_init : Addr
  d_Order_init : FuncData
  F_Order_init : Fun K "__init__" "Order.__init__" s_Order_init f_Order_init d_Order_init
  b_Order_init : Binds K d_Order_init ["self", "number", "house", "side", "price", "quantity", "shown"] []
  f_Order_accepts_price : Addr
  d_Order_accepts_price : FuncData
  F_Order_accepts_price : Fun K "accepts_price" "Order.accepts_price" s_Order_accepts_price f_Order_accepts_price d_Order_accepts_price
  b_Order_accepts_price : Binds K d_Order_accepts_price ["self", "price"] []
  f_Order_show_next_part : Addr
  d_Order_show_next_part : FuncData
  F_Order_show_next_part : Fun K "show_next_part" "Order.show_next_part" s_Order_show_next_part f_Order_show_next_part d_Order_show_next_part
  b_Order_show_next_part : Binds K d_Order_show_next_part ["self"] []
  f_Order_trade_visible : Addr
  d_Order_trade_visible : FuncData
  F_Order_trade_visible : Fun K "trade_visible" "Order.trade_visible" s_Order_trade_visible f_Order_trade_visible d_Order_trade_visible
  b_Order_trade_visible : Binds K d_Order_trade_visible ["self", "quantity"] []
  f_Stop_init : Addr
  d_Stop_init : FuncData
  F_Stop_init : Fun K "__init__" "Stop.__init__" s_Stop_init f_Stop_init d_Stop_init
  b_Stop_init : Binds K d_Stop_init ["self", "number", "house", "side", "trigger", "price", "quantity"] []
  f_Stop_is_reached : Addr
  d_Stop_is_reached : FuncData
  F_Stop_is_reached : Fun K "is_reached" "Stop.is_reached" s_Stop_is_reached f_Stop_is_reached d_Stop_is_reached
  b_Stop_is_reached : Binds K d_Stop_is_reached ["self", "last"] []
  f_Stop_row : Addr
  d_Stop_row : FuncData
  F_Stop_row : Fun K "row" "Stop.row" s_Stop_row f_Stop_row d_Stop_row
  b_Stop_row : Binds K d_Stop_row ["self"] []
  f_BookSide_init : Addr
  d_BookSide_init : FuncData
  F_BookSide_init : Fun K "__init__" "BookSide.__init__" s_BookSide_init f_BookSide_init d_BookSide_init
  b_BookSide_init : Binds K d_BookSide_init ["self"] []
  f_BookSide_rows : Addr
  d_BookSide_rows : FuncData
  F_BookSide_rows : Fun K "rows" "BookSide.rows" s_BookSide_rows f_BookSide_rows d_BookSide_rows
  b_BookSide_rows : Binds K d_BookSide_rows ["self"] []
  f_BookSide_depth : Addr
  d_BookSide_depth : FuncData
  F_BookSide_depth : Fun K "depth" "BookSide.depth" s_BookSide_depth f_BookSide_depth d_BookSide_depth
  b_BookSide_depth : Binds K d_BookSide_depth ["self"] []
  f_BookSide_first : Addr
  d_BookSide_first : FuncData
  F_BookSide_first : Fun K "first" "BookSide.first" s_BookSide_first f_BookSide_first d_BookSide_first
  b_BookSide_first : Binds K d_BookSide_first ["self"] []
  f_BookSide_available : Addr
  d_BookSide_available : FuncData
  F_BookSide_available : Fun K "available" "BookSide.available" s_BookSide_available f_BookSide_available d_BookSide_available
  b_BookSide_available : Binds K d_BookSide_available ["self", "taker"] []
  f_BookSide_enter : Addr
  d_BookSide_enter : FuncData
  F_BookSide_enter : Fun K "enter" "BookSide.enter" s_BookSide_enter f_BookSide_enter d_BookSide_enter
  b_BookSide_enter : Binds K d_BookSide_enter ["self", "order"] []
  f_BookSideplace_behind : Addr
  d_BookSideplace_behind : FuncData
  F_BookSideplace_behind : Fun K "_place_behind" "BookSide._place_behind" s_BookSideplace_behind f_BookSideplace_behind d_BookSideplace_behind
  b_BookSideplace_behind : Binds K d_BookSideplace_behind ["self", "order"] []
  f_BookSide_leave : Addr
  d_BookSide_leave : FuncData
  F_BookSide_leave : Fun K "leave" "BookSide.leave" s_BookSide_leave f_BookSide_leave d_BookSide_leave
  b_BookSide_leave : Binds K d_BookSide_leave ["self", "order"] []
  f_BookSide_trade_first : Addr
  d_BookSide_trade_first : FuncData
  F_BookSide_trade_first : Fun K "trade_first" "BookSide.trade_first" s_BookSide_trade_first f_BookSide_trade_first d_BookSide_trade_first
  b_BookSide_trade_first : Binds K d_BookSide_trade_first ["self", "quantity"] []
  f_Report_init : Addr
  d_Report_init : FuncData
  F_Report_init : Fun K "__init__" "Report.__init__" s_Report_init f_Report_init d_Report_init
  b_Report_init : Binds K d_Report_init ["self", "number", "house", "side"] []
  f_Book_init : Addr
  d_Book_init : FuncData
  F_Book_init : FunD K "__init__" "Book.__init__" (defArgs s_Book_init) (defBody s_Book_init) (defScope s_Book_init) [.int 1] [] f_Book_init d_Book_init
  b0_Book_init : ∃ ds, Vals [.int 1] ds ∧ Binds K d_Book_init ["self", "first_number"] ds
  b_Book_init : Binds K d_Book_init ["self", "first_number"] []
  f_Book_submit : Addr
  d_Book_submit : FuncData
  F_Book_submit : FunD K "submit" "Book.submit" (defArgs s_Book_submit) (defBody s_Book_submit) (defScope s_Book_submit) [] [("kind", .str "rest"), ("shown", .int 0)] f_Book_submit d_Book_submit
  b_Book_submit : ∃ ds, Vals [.str "rest", .int 0] ds ∧ Binds K d_Book_submit ["self", "house", "side", "price", "quantity", "kind", "shown"] ds
  f_Book_submit_stop : Addr
  d_Book_submit_stop : FuncData
  F_Book_submit_stop : Fun K "submit_stop" "Book.submit_stop" s_Book_submit_stop f_Book_submit_stop d_Book_submit_stop
  b_Book_submit_stop : Binds K d_Book_submit_stop ["self", "house", "side", "trigger", "price", "quantity"] []
  f_Book_orders : Addr
  d_Book_orders : FuncData
  F_Book_orders : Fun K "orders" "Book.orders" s_Book_orders f_Book_orders d_Book_orders
  b_Book_orders : Binds K d_Book_orders ["self", "side"] []
  f_Book_stops : Addr
  d_Book_stops : FuncData
  F_Book_stops : Fun K "stops" "Book.stops" s_Book_stops f_Book_stops d_Book_stops
  b_Book_stops : Binds K d_Book_stops ["self"] []
  f_Book_best : Addr
  d_Book_best : FuncData
  F_Book_best : Fun K "best" "Book.best" s_Book_best f_Book_best d_Book_best
  b_Book_best : Binds K d_Book_best ["self", "side"] []
  f_Book_depth : Addr
  d_Book_depth : FuncData
  F_Book_depth : Fun K "depth" "Book.depth" s_Book_depth f_Book_depth d_Book_depth
  b_Book_depth : Binds K d_Book_depth ["self", "side"] []
  f_Booktake_number : Addr
  d_Booktake_number : FuncData
  F_Booktake_number : Fun K "_take_number" "Book._take_number" s_Booktake_number f_Booktake_number d_Booktake_number
  b_Booktake_number : Binds K d_Booktake_number ["self"] []
  f_Bookenter : Addr
  d_Bookenter : FuncData
  F_Bookenter : Fun K "_enter" "Book._enter" s_Bookenter f_Bookenter d_Bookenter
  b_Bookenter : Binds K d_Bookenter ["self", "order", "kind"] []
  f_Booktrigger_stops : Addr
  d_Booktrigger_stops : FuncData
  F_Booktrigger_stops : Fun K "_trigger_stops" "Book._trigger_stops" s_Booktrigger_stops f_Booktrigger_stops d_Booktrigger_stops
  b_Booktrigger_stops : Binds K d_Booktrigger_stops ["self"] []
  f_Bookfirst_reached : Addr
  d_Bookfirst_reached : FuncData
  F_Bookfirst_reached : Fun K "_first_reached" "Book._first_reached" s_Bookfirst_reached f_Bookfirst_reached d_Bookfirst_reached
  b_Bookfirst_reached : Binds K d_Bookfirst_reached ["self"] []
  f_Ledger_init : Addr
  d_Ledger_init : FuncData
  F_Ledger_init : Fun K "__init__" "Ledger.__init__" s_Ledger_init f_Ledger_init d_Ledger_init
  b_Ledger_init : Binds K d_Ledger_init ["self"] []
  f_Ledger_open_account : Addr
  d_Ledger_open_account : FuncData
  F_Ledger_open_account : FunD K "open_account" "Ledger.open_account" (defArgs s_Ledger_open_account) (defBody s_Ledger_open_account) (defScope s_Ledger_open_account) [] [("may_owe", .bl false)] f_Ledger_open_account d_Ledger_open_account
  b_Ledger_open_account : ∃ ds, Vals [.bl false] ds ∧ Binds K d_Ledger_open_account ["self", "name", "may_owe"] ds
  kb_Ledger_open_account_may_owe : ∃ g : List Value → List Value → List Value, KBn K d_Ledger_open_account ["self", "name", "may_owe"] 2 ["may_owe"] g (fun vs zs => vs ++ zs)
  f_Ledger_accounts : Addr
  d_Ledger_accounts : FuncData
  F_Ledger_accounts : Fun K "accounts" "Ledger.accounts" s_Ledger_accounts f_Ledger_accounts d_Ledger_accounts
  b_Ledger_accounts : Binds K d_Ledger_accounts ["self"] []
  f_Ledger_balance : Addr
  d_Ledger_balance : FuncData
  F_Ledger_balance : Fun K "balance" "Ledger.balance" s_Ledger_balance f_Ledger_balance d_Ledger_balance
  b_Ledger_balance : Binds K d_Ledger_balance ["self", "name"] []
  f_Ledger_post : Addr
  d_Ledger_post : FuncData
  F_Ledger_post : Fun K "post" "Ledger.post" s_Ledger_post f_Ledger_post d_Ledger_post
  b_Ledger_post : Binds K d_Ledger_post ["self", "moves"] []
  f_Ledger_entries : Addr
  d_Ledger_entries : FuncData
  F_Ledger_entries : Fun K "entries" "Ledger.entries" s_Ledger_entries f_Ledger_entries d_Ledger_entries
  b_Ledger_entries : Binds K d_Ledger_entries ["self"] []
  f_Ledger_statement : Addr
  d_Ledger_statement : FuncData
  F_Ledger_statement : Fun K "statement" "Ledger.statement" s_Ledger_statement f_Ledger_statement d_Ledger_statement
  b_Ledger_statement : Binds K d_Ledger_statement ["self", "name"] []
  f_Ledgercheck_account : Addr
  d_Ledgercheck_account : FuncData
  F_Ledgercheck_account : Fun K "_check_account" "Ledger._check_account" s_Ledgercheck_account f_Ledgercheck_account d_Ledgercheck_account
  b_Ledgercheck_account : Binds K d_Ledgercheck_account ["self", "name"] []
  f_Ledgersums : Addr
  d_Ledgersums : FuncData
  F_Ledgersums : Fun K "_sums" "Ledger._sums" s_Ledgersums f_Ledgersums d_Ledgersums
  b_Ledgersums : Binds K d_Ledgersums ["self", "moves"] []
  f_Ledgercheck_sums : Addr
  d_Ledgercheck_sums : FuncData
  F_Ledgercheck_sums : Fun K "_check_sums" "Ledger._check_sums" s_Ledgercheck_sums f_Ledgercheck_sums d_Ledgercheck_sums
  b_Ledgercheck_sums : Binds K d_Ledgercheck_sums ["self", "sums"] []
  f_check_of : Addr
  d_check_of : FuncData
  F_check_of : Fun K "check_of" "check_of" s_check_of f_check_of d_check_of
  m_check_of : mg "check_of" = some (.ref f_check_of)
  b_check_of : Binds K d_check_of ["text"] []
  f_write_line : Addr
  d_write_line : FuncData
  F_write_line : Fun K "write_line" "write_line" s_write_line f_write_line d_write_line
  m_write_line : mg "write_line" = some (.ref f_write_line)
  b_write_line : Binds K d_write_line ["number", "text"] []
  f_is_text : Addr
  d_is_text : FuncData
  F_is_text : Fun K "_is_text" "_is_text" s_is_text f_is_text d_is_text
  m_is_text : mg "_is_text" = some (.ref f_is_text)
  b_is_text : Binds K d_is_text ["text"] []
  f_Tape_init : Addr
  d_Tape_init : FuncData
  F_Tape_init : Fun K "__init__" "Tape.__init__" s_Tape_init f_Tape_init d_Tape_init
  b_Tape_init : Binds K d_Tape_init ["self"] []
  f_Tape_append : Addr
  d_Tape_append : FuncData
  F_Tape_append : Fun K "append" "Tape.append" s_Tape_append f_Tape_append d_Tape_append
  b_Tape_append : Binds K d_Tape_append ["self", "text"] []
  f_Tape_texts : Addr
  d_Tape_texts : FuncData
  F_Tape_texts : Fun K "texts" "Tape.texts" s_Tape_texts f_Tape_texts d_Tape_texts
  b_Tape_texts : Binds K d_Tape_texts ["self"] []
  f_law_house : Addr
  d_law_house : FuncData
  F_law_house : Fun K "_law_house" "_law_house" s_law_house f_law_house d_law_house
  m_law_house : mg "_law_house" = some (.ref f_law_house)
  b_law_house : Binds K d_law_house ["cell"] []
  f_law_spoil : Addr
  d_law_spoil : FuncData
  F_law_spoil : Fun K "_law_spoil" "_law_spoil" s_law_spoil f_law_spoil d_law_spoil
  m_law_spoil : mg "_law_spoil" = some (.ref f_law_spoil)
  b_law_spoil : Binds K d_law_spoil ["rows"] []
  f_law_book : Addr
  d_law_book : FuncData
  F_law_book : Fun K "_law_book" "_law_book" s_law_book f_law_book d_law_book
  m_law_book : mg "_law_book" = some (.ref f_law_book)
  b_law_book : Binds K d_law_book ["script"] []
  f_law_ledger : Addr
  d_law_ledger : FuncData
  F_law_ledger : Fun K "_law_ledger" "_law_ledger" s_law_ledger f_law_ledger d_law_ledger
  m_law_ledger : mg "_law_ledger" = some (.ref f_law_ledger)
  b_law_ledger : Binds K d_law_ledger ["script"] []
  f_law_tape : Addr
  d_law_tape : FuncData
  F_law_tape : Fun K "_law_tape" "_law_tape" s_law_tape f_law_tape d_law_tape
  m_law_tape : mg "_law_tape" = some (.ref f_law_tape)
  b_law_tape : Binds K d_law_tape ["script"] []
  f_law_lists : Addr
  d_law_lists : FuncData
  F_law_lists : Fun K "_law_lists" "_law_lists" s_law_lists f_law_lists d_law_lists
  m_law_lists : mg "_law_lists" = some (.ref f_law_lists)
  b_law_lists : Binds K d_law_lists ["book", "ledger", "tape"] []
  c_BourseError : Addr
  m_BourseError : mg "BourseError" = some (.ref c_BourseError)
  c_InvalidAmount : Addr
  m_InvalidAmount : mg "InvalidAmount" = some (.ref c_InvalidAmount)
  x_InvalidAmount : PySem.W.excIn K c_InvalidAmount [.type "ValueError", .type "Exception", .type "BaseException", .type "object"] "ValueError.__new__" = true
  k_InvalidAmount : PySem.W.keepIn K (.ref c_InvalidAmount) = true
  b_InvalidAmount : PySem.W.subIn K (.ref c_InvalidAmount) (.type "BaseException") = some true
  t_InvalidAmount : PySem.W.typeIn K (.ref c_InvalidAmount) = some (.type "type")
  d_InvalidAmount : PySem.W.hasDictIn K c_InvalidAmount = true
  s_InvalidAmount : PySem.W.subIn K (.ref c_InvalidAmount) (.ref c_InvalidAmount) = some true
  c_UnknownName : Addr
  m_UnknownName : mg "UnknownName" = some (.ref c_UnknownName)
  x_UnknownName : PySem.W.excIn K c_UnknownName [.type "ValueError", .type "Exception", .type "BaseException", .type "object"] "ValueError.__new__" = true
  k_UnknownName : PySem.W.keepIn K (.ref c_UnknownName) = true
  b_UnknownName : PySem.W.subIn K (.ref c_UnknownName) (.type "BaseException") = some true
  t_UnknownName : PySem.W.typeIn K (.ref c_UnknownName) = some (.type "type")
  d_UnknownName : PySem.W.hasDictIn K c_UnknownName = true
  s_UnknownName : PySem.W.subIn K (.ref c_UnknownName) (.ref c_UnknownName) = some true
  c_DuplicateName : Addr
  m_DuplicateName : mg "DuplicateName" = some (.ref c_DuplicateName)
  x_DuplicateName : PySem.W.excIn K c_DuplicateName [.type "ValueError", .type "Exception", .type "BaseException", .type "object"] "ValueError.__new__" = true
  k_DuplicateName : PySem.W.keepIn K (.ref c_DuplicateName) = true
  b_DuplicateName : PySem.W.subIn K (.ref c_DuplicateName) (.type "BaseException") = some true
  t_DuplicateName : PySem.W.typeIn K (.ref c_DuplicateName) = some (.type "type")
  d_DuplicateName : PySem.W.hasDictIn K c_DuplicateName = true
  s_DuplicateName : PySem.W.subIn K (.ref c_DuplicateName) (.ref c_DuplicateName) = some true
  c_InvalidOrder : Addr
  m_InvalidOrder : mg "InvalidOrder" = some (.ref c_InvalidOrder)
  x_InvalidOrder : PySem.W.excIn K c_InvalidOrder [.type "ValueError", .type "Exception", .type "BaseException", .type "object"] "ValueError.__new__" = true
  k_InvalidOrder : PySem.W.keepIn K (.ref c_InvalidOrder) = true
  b_InvalidOrder : PySem.W.subIn K (.ref c_InvalidOrder) (.type "BaseException") = some true
  t_InvalidOrder : PySem.W.typeIn K (.ref c_InvalidOrder) = some (.type "type")
  d_InvalidOrder : PySem.W.hasDictIn K c_InvalidOrder = true
  s_InvalidOrder : PySem.W.subIn K (.ref c_InvalidOrder) (.ref c_InvalidOrder) = some true
  c_Unbalanced : Addr
  m_Unbalanced : mg "Unbalanced" = some (.ref c_Unbalanced)
  x_Unbalanced : PySem.W.excIn K c_Unbalanced [.type "ValueError", .type "Exception", .type "BaseException", .type "object"] "ValueError.__new__" = true
  k_Unbalanced : PySem.W.keepIn K (.ref c_Unbalanced) = true
  b_Unbalanced : PySem.W.subIn K (.ref c_Unbalanced) (.type "BaseException") = some true
  t_Unbalanced : PySem.W.typeIn K (.ref c_Unbalanced) = some (.type "type")
  d_Unbalanced : PySem.W.hasDictIn K c_Unbalanced = true
  s_Unbalanced : PySem.W.subIn K (.ref c_Unbalanced) (.ref c_Unbalanced) = some true
  c_Overdrawn : Addr
  m_Overdrawn : mg "Overdrawn" = some (.ref c_Overdrawn)
  x_Overdrawn : PySem.W.excIn K c_Overdrawn [.type "ValueError", .type "Exception", .type "BaseException", .type "object"] "ValueError.__new__" = true
  k_Overdrawn : PySem.W.keepIn K (.ref c_Overdrawn) = true
  b_Overdrawn : PySem.W.subIn K (.ref c_Overdrawn) (.type "BaseException") = some true
  t_Overdrawn : PySem.W.typeIn K (.ref c_Overdrawn) = some (.type "type")
  d_Overdrawn : PySem.W.hasDictIn K c_Overdrawn = true
  s_Overdrawn : PySem.W.subIn K (.ref c_Overdrawn) (.ref c_Overdrawn) = some true
  c_BrokenTape : Addr
  m_BrokenTape : mg "BrokenTape" = some (.ref c_BrokenTape)
  x_BrokenTape : PySem.W.excIn K c_BrokenTape [.type "ValueError", .type "Exception", .type "BaseException", .type "object"] "ValueError.__new__" = true
  k_BrokenTape : PySem.W.keepIn K (.ref c_BrokenTape) = true
  b_BrokenTape : PySem.W.subIn K (.ref c_BrokenTape) (.type "BaseException") = some true
  t_BrokenTape : PySem.W.typeIn K (.ref c_BrokenTape) = some (.type "type")
  d_BrokenTape : PySem.W.hasDictIn K c_BrokenTape = true
  s_BrokenTape : PySem.W.subIn K (.ref c_BrokenTape) (.ref c_BrokenTape) = some true
  c_Order : Addr
  m_Order : mg "Order" = some (.ref c_Order)
  pg_Order : PySem.W.plainGet K c_Order Str.empty = true
  hd_Order : PySem.W.hasDictIn K c_Order = true
  po_Order : PySem.W.plainOver K c_Order = true
  sa_Order : PySem.W.findIn K (.ref c_Order) "__setattr__" = some (some (.builtin "object.__setattr__"))
  ma_Order : PySem.W.makesIn K c_Order = true
  kc_Order : PySem.W.keepIn K (.ref c_Order) = true
  eq_Order : PySem.W.findIn K (.ref c_Order) "__eq__" = some (some (.builtin "object.__eq__"))
  mo_Order : PySem.W.mroIn K c_Order (.type "object") = some true
  cl_Order : Cls K c_Order
  na_Order_number : PySem.W.findIn K (.ref c_Order) "number" = some none
  na_Order_house : PySem.W.findIn K (.ref c_Order) "house" = some none
  na_Order_side : PySem.W.findIn K (.ref c_Order) "side" = some none
  na_Order_price : PySem.W.findIn K (.ref c_Order) "price" = some none
  na_Order_shown : PySem.W.findIn K (.ref c_Order) "shown" = some none
  na_Order_left : PySem.W.findIn K (.ref c_Order) "left" = some none
  na_Order_visible : PySem.W.findIn K (.ref c_Order) "visible" = some none
  c_Stop : Addr
  m_Stop : mg "Stop" = some (.ref c_Stop)
  pg_Stop : PySem.W.plainGet K c_Stop Str.empty = true
  hd_Stop : PySem.W.hasDictIn K c_Stop = true
  po_Stop : PySem.W.plainOver K c_Stop = true
  sa_Stop : PySem.W.findIn K (.ref c_Stop) "__setattr__" = some (some (.builtin "object.__setattr__"))
  ma_Stop : PySem.W.makesIn K c_Stop = true
  kc_Stop : PySem.W.keepIn K (.ref c_Stop) = true
  eq_Stop : PySem.W.findIn K (.ref c_Stop) "__eq__" = some (some (.builtin "object.__eq__"))
  mo_Stop : PySem.W.mroIn K c_Stop (.type "object") = some true
  cl_Stop : Cls K c_Stop
  na_Stop_number : PySem.W.findIn K (.ref c_Stop) "number" = some none
  na_Stop_house : PySem.W.findIn K (.ref c_Stop) "house" = some none
  na_Stop_side : PySem.W.findIn K (.ref c_Stop) "side" = some none
  na_Stop_trigger : PySem.W.findIn K (.ref c_Stop) "trigger" = some none
  na_Stop_price : PySem.W.findIn K (.ref c_Stop) "price" = some none
  na_Stop_quantity : PySem.W.findIn K (.ref c_Stop) "quantity" = some none
  c_BookSide : Addr
  m_BookSide : mg "BookSide" = some (.ref c_BookSide)
  pg_BookSide : PySem.W.plainGet K c_BookSide Str.empty = true
  hd_BookSide : PySem.W.hasDictIn K c_BookSide = true
  po_BookSide : PySem.W.plainOver K c_BookSide = true
  sa_BookSide : PySem.W.findIn K (.ref c_BookSide) "__setattr__" = some (some (.builtin "object.__setattr__"))
  ma_BookSide : PySem.W.makesIn K c_BookSide = true
  kc_BookSide : PySem.W.keepIn K (.ref c_BookSide) = true
  cl_BookSide : Cls K c_BookSide
  na_BookSide__orders : PySem.W.findIn K (.ref c_BookSide) "_orders" = some none
  c_Report : Addr
  m_Report : mg "Report" = some (.ref c_Report)
  pg_Report : PySem.W.plainGet K c_Report Str.empty = true
  hd_Report : PySem.W.hasDictIn K c_Report = true
  po_Report : PySem.W.plainOver K c_Report = true
  sa_Report : PySem.W.findIn K (.ref c_Report) "__setattr__" = some (some (.builtin "object.__setattr__"))
  ma_Report : PySem.W.makesIn K c_Report = true
  kc_Report : PySem.W.keepIn K (.ref c_Report) = true
  cl_Report : Cls K c_Report
  na_Report_number : PySem.W.findIn K (.ref c_Report) "number" = some none
  na_Report_house : PySem.W.findIn K (.ref c_Report) "house" = some none
  na_Report_side : PySem.W.findIn K (.ref c_Report) "side" = some none
  na_Report_fills : PySem.W.findIn K (.ref c_Report) "fills" = some none
  na_Report_removed : PySem.W.findIn K (.ref c_Report) "removed" = some none
  na_Report_resting : PySem.W.findIn K (.ref c_Report) "resting" = some none
  c_Book : Addr
  m_Book : mg "Book" = some (.ref c_Book)
  pg_Book : PySem.W.plainGet K c_Book Str.empty = true
  hd_Book : PySem.W.hasDictIn K c_Book = true
  po_Book : PySem.W.plainOver K c_Book = true
  sa_Book : PySem.W.findIn K (.ref c_Book) "__setattr__" = some (some (.builtin "object.__setattr__"))
  ma_Book : PySem.W.makesIn K c_Book = true
  kc_Book : PySem.W.keepIn K (.ref c_Book) = true
  cl_Book : Cls K c_Book
  na_Book_last : PySem.W.findIn K (.ref c_Book) "last" = some none
  na_Book__next_number : PySem.W.findIn K (.ref c_Book) "_next_number" = some none
  na_Book__sides : PySem.W.findIn K (.ref c_Book) "_sides" = some none
  na_Book__stops : PySem.W.findIn K (.ref c_Book) "_stops" = some none
  c_Ledger : Addr
  m_Ledger : mg "Ledger" = some (.ref c_Ledger)
  pg_Ledger : PySem.W.plainGet K c_Ledger Str.empty = true
  hd_Ledger : PySem.W.hasDictIn K c_Ledger = true
  po_Ledger : PySem.W.plainOver K c_Ledger = true
  sa_Ledger : PySem.W.findIn K (.ref c_Ledger) "__setattr__" = some (some (.builtin "object.__setattr__"))
  ma_Ledger : PySem.W.makesIn K c_Ledger = true
  kc_Ledger : PySem.W.keepIn K (.ref c_Ledger) = true
  cl_Ledger : Cls K c_Ledger
  na_Ledger__balances : PySem.W.findIn K (.ref c_Ledger) "_balances" = some none
  na_Ledger__may_owe : PySem.W.findIn K (.ref c_Ledger) "_may_owe" = some none
  na_Ledger__statements : PySem.W.findIn K (.ref c_Ledger) "_statements" = some none
  na_Ledger__entries : PySem.W.findIn K (.ref c_Ledger) "_entries" = some none
  c_Tape : Addr
  m_Tape : mg "Tape" = some (.ref c_Tape)
  pg_Tape : PySem.W.plainGet K c_Tape Str.empty = true
  hd_Tape : PySem.W.hasDictIn K c_Tape = true
  po_Tape : PySem.W.plainOver K c_Tape = true
  sa_Tape : PySem.W.findIn K (.ref c_Tape) "__setattr__" = some (some (.builtin "object.__setattr__"))
  ma_Tape : PySem.W.makesIn K c_Tape = true
  kc_Tape : PySem.W.keepIn K (.ref c_Tape) = true
  cl_Tape : Cls K c_Tape
  na_Tape__texts : PySem.W.findIn K (.ref c_Tape) "_texts" = some none
  na_Tape__lines : PySem.W.findIn K (.ref c_Tape) "_lines" = some none
  mk_Order : Mk K c_Order f_Order_init
  mt_Order_accepts_price : Meth K c_Order "accepts_price" f_Order_accepts_price
  mt_Order_show_next_part : Meth K c_Order "show_next_part" f_Order_show_next_part
  mt_Order_trade_visible : Meth K c_Order "trade_visible" f_Order_trade_visible
  mk_Stop : Mk K c_Stop f_Stop_init
  mt_Stop_is_reached : Meth K c_Stop "is_reached" f_Stop_is_reached
  mt_Stop_row : Meth K c_Stop "row" f_Stop_row
  mk_BookSide : Mk K c_BookSide f_BookSide_init
  mt_BookSide_rows : Meth K c_BookSide "rows" f_BookSide_rows
  mt_BookSide_depth : Meth K c_BookSide "depth" f_BookSide_depth
  mt_BookSide_first : Meth K c_BookSide "first" f_BookSide_first
  mt_BookSide_available : Meth K c_BookSide "available" f_BookSide_available
  mt_BookSide_enter : Meth K c_BookSide "enter" f_BookSide_enter
  mt_BookSideplace_behind : Meth K c_BookSide "_place_behind" f_BookSideplace_behind
  mt_BookSide_leave : Meth K c_BookSide "leave" f_BookSide_leave
  mt_BookSide_trade_first : Meth K c_BookSide "trade_first" f_BookSide_trade_first
  mk_Report : Mk K c_Report f_Report_init
  mk_Book : Mk K c_Book f_Book_init
  mt_Book_submit : Meth K c_Book "submit" f_Book_submit
  mt_Book_submit_stop : Meth K c_Book "submit_stop" f_Book_submit_stop
  mt_Book_orders : Meth K c_Book "orders" f_Book_orders
  mt_Book_stops : Meth K c_Book "stops" f_Book_stops
  mt_Book_best : Meth K c_Book "best" f_Book_best
  mt_Book_depth : Meth K c_Book "depth" f_Book_depth
  mt_Booktake_number : Meth K c_Book "_take_number" f_Booktake_number
  mt_Bookenter : Meth K c_Book "_enter" f_Bookenter
  mt_Booktrigger_stops : Meth K c_Book "_trigger_stops" f_Booktrigger_stops
  mt_Bookfirst_reached : Meth K c_Book "_first_reached" f_Bookfirst_reached
  mk_Ledger : Mk K c_Ledger f_Ledger_init
  mt_Ledger_open_account : Meth K c_Ledger "open_account" f_Ledger_open_account
  mt_Ledger_accounts : Meth K c_Ledger "accounts" f_Ledger_accounts
  mt_Ledger_balance : Meth K c_Ledger "balance" f_Ledger_balance
  mt_Ledger_post : Meth K c_Ledger "post" f_Ledger_post
  mt_Ledger_entries : Meth K c_Ledger "entries" f_Ledger_entries
  mt_Ledger_statement : Meth K c_Ledger "statement" f_Ledger_statement
  mt_Ledgercheck_account : Meth K c_Ledger "_check_account" f_Ledgercheck_account
  mt_Ledgersums : Meth K c_Ledger "_sums" f_Ledgersums
  mt_Ledgercheck_sums : Meth K c_Ledger "_check_sums" f_Ledgercheck_sums
  mk_Tape : Mk K c_Tape f_Tape_init
  mt_Tape_append : Meth K c_Tape "append" f_Tape_append
  mt_Tape_texts : Meth K c_Tape "texts" f_Tape_texts
  z_all : mg "all" = none
  z_bool : mg "bool" = none
  z_int : mg "int" = none
  z_isinstance : mg "isinstance" = none
  z_len : mg "len" = none
  z_list : mg "list" = none
  z_min : mg "min" = none
  z_ord : mg "ord" = none
  z_repr : mg "repr" = none
  z_sorted : mg "sorted" = none
  z_str : mg "str" = none
  z_sum : mg "sum" = none
  c_SIDES : Addr
  m_SIDES : mg "SIDES" = some (.ref c_SIDES)
  q_SIDES : ∀ H : Hp, SqT K H c_SIDES [.str "buy", .str "sell"]
  c_KINDS : Addr
  m_KINDS : mg "KINDS" = some (.ref c_KINDS)
  q_KINDS : ∀ H : Hp, SqT K H c_KINDS [.str "rest", .str "now", .str "all"]
  t_MOST : Tok
  m_MOST : mg "MOST" = some (.int 1000000 t_MOST)
  t_FIRST_VALUE : Tok
  m_FIRST_VALUE : mg "FIRST_VALUE" = some (.int 7 t_FIRST_VALUE)
  t_FACTOR : Tok
  m_FACTOR : mg "FACTOR" = some (.int 31 t_FACTOR)
  t_MODULUS : Tok
  m_MODULUS : mg "MODULUS" = some (.int 9973 t_MODULUS)
/-! own short words -/
theorem iteD {p A B : Prop} [Decidable p] (h1 : p → A) (h2 : ¬ p → B) : if decide p = true then A else B := by
  by_cases h : p
  · rw [decide_eq_true h, if_pos rfl]; exact h1 h
  · rw [decide_eq_false h, if_neg Bool.false_ne_true]; exact h2 h
theorem iteDN {p A B : Prop} [Decidable p] (h1 : ¬ p → A) (h2 : p → B) : if (!decide p) = true then A else B := by
  by_cases h : p
  · rw [decide_eq_true h]; exact iteF (h2 h)
  · rw [decide_eq_false h]; exact iteT (h1 h)
theorem len_le {n : Nat} (h : Nat.ble n 1000 = true) : n ≤ sizeLine := Nat.le_trans (Nat.le_of_ble_eq_true h) (by decide)
theorem iteB {b : Bool} {A B : Prop} (h1 : b = true → A) (h2 : b = false → B) : if b = true then A else B := by
  cases b with
  | true => exact iteT (h1 rfl)
  | false => exact iteF (h2 rfl)
theorem cmul_l {i j : Int} (h : -(2 ^ 64) < i) (h' : i < 2 ^ 64) : CMul i j := .inl ⟨h, h'⟩
theorem cmul_r {i j : Int} (h : -(2 ^ 64) < j) (h' : j < 2 ^ 64) : CMul i j := .inr ⟨h, h'⟩
theorem dec_t {p : Prop} [Decidable p] (h : decide p = true) : p := of_decide_eq_true h
theorem dec_f {p : Prop} [Decidable p] (h : decide p = false) : ¬ p := of_decide_eq_false h
theorem ndec_t {p : Prop} [Decidable p] (h : (!decide p) = true) : ¬ p := fun q => by rw [decide_eq_true q] at h; cases h
theorem ndec_f {p : Prop} [Decidable p] (h : (!decide p) = false) : p := by
  by_cases q : p
  · exact q
  · rw [decide_eq_false q] at h; cases h
theorem fld_lt {n : Nat} (h : Nat.ble (n + 1) 1000 = true) : n < 1000 := Nat.le_of_ble_eq_true h
def rLen (K : PySem.W.Frag) : List V → Hp → VK → Prop := fun xs H Q => ∃ p ys, xs = [.ref p] ∧ (SqL K H p ys ∨ SqT K H p ys) ∧ Q (.int ys.length) H
def rListOf (K : PySem.W.Frag) : List V → Hp → VK → Prop := fun xs H Q => ∃ p ys, xs = [.ref p] ∧ (SqL K H p ys ∨ SqT K H p ys) ∧ ∀ l, H l = none → Q (.ref l) (upd H l (.lst ys))
def rTupleOf (K : PySem.W.Frag) : List V → Hp → VK → Prop := fun xs H Q => ∃ p ys, xs = [.ref p] ∧ ((SqL K H p ys ∧ ∀ l, H l = none → Q (.ref l) (upd H l (.tup ys))) ∨ (SqT K H p ys ∧ Q (.ref p) H))
theorem len0 : ([] : List V).length ≤ sizeLine := len_le rfl
theorem len1 {a : V} : [a].length ≤ sizeLine := len_le rfl
theorem len2 {a b : V} : [a, b].length ≤ sizeLine := len_le rfl
theorem len3 {a b c : V} : [a, b, c].length ≤ sizeLine := len_le rfl
theorem len4 {a b c d : V} : [a, b, c, d].length ≤ sizeLine := len_le rfl
theorem len5 {a b c d e : V} : [a, b, c, d, e].length ≤ sizeLine := len_le rfl
local macro_rules | `(tactic| walk_at "st") => `(tactic| repeat (first
  | (apply Exists.intro (α := V))
  | (apply Exists.intro (α := Int))
  | (apply Exists.intro (α := Bool))
  | (apply Exists.intro (α := Addr))
  | (apply Exists.intro (α := List V))
  | (apply Exists.intro (α := List Int))
  | (apply Exists.intro (α := List (Str × V)))
  | (apply Exists.intro (α := Str))
  | (apply And.intro; focus (first | omega | (dsimp only; omega) | (simp only [List.length_map, List.length_replicate]; omega) | exact rfl | assumption | exact SqL.of (by assumption) | exact Or.inl (by assumption) | exact Or.inr (by assumption) | exact Or.inr (SqT.of (by assumption)) | exact Or.inl (Or.inl upd_same) | exact Or.inl (Or.inl (Or.inl upd_same)) | (with_reducible exact len0) | (with_reducible exact len1) | (with_reducible exact len2) | (with_reducible exact len3) | (with_reducible exact len4) | (with_reducible exact len5) | exact upd_same | exact ⟨_, Or.inl (Or.inl upd_same)⟩ | exact ⟨_, SqL.of (by assumption)⟩ | exact ⟨_, by assumption⟩ | exact Or.inl ⟨rfl, _, SqL.of (by assumption)⟩ | exact Or.inl ⟨rfl, _, SqL.of upd_same⟩ | exact cmul_l (by omega) (by omega) | exact cmul_r (by omega) (by omega) | exact ⟨by omega, by omega⟩ | (simp only [List.length_map, List.length_replicate]; omega) | exact Or.inl (SqL.of (by assumption)) | exact SqT.of (by assumption) | exact fld_lt rfl | exact Or.inl ⟨_, by assumption, rfl⟩))))
/-- the script's cell at j, 0 where there is none -/
def cellOf (ns : List Int) (j : Nat) : Int := ns.getD j 0
theorem atI_ints {ns : List Int} {j : Nat} (h : j < ns.length) : atI (ns.map V.int) (j : Int) = some (.int (cellOf ns j)) := by
  refine at_of (j := j) rfl ?_
  rw [List.getElem?_map, List.getElem?_eq_getElem h]
  unfold cellOf
  rw [List.getD_eq_getElem?_getD, List.getElem?_eq_getElem h]
  rfl
theorem cellOf_out {ns : List Int} {j : Nat} (h : ¬ j < ns.length) : cellOf ns j = 0 := by
  unfold cellOf
  rw [List.getD_eq_getElem?_getD, List.getElem?_eq_none (by omega)]
  rfl
theorem same_upd {H : Hp} {p : Addr} {o : HO} (h : H p = none) : Same H (upd H p o) := fun b x e => by
  rw [upd_ne (ne_of_none e h)]
  exact e
/-- a slice of a list of ints -/
def cutI (ns : List Int) (lo hi : Option Int) : List Int := (ns.drop (HT.sIx ns.length 0 lo)).take (HT.sIx ns.length ns.length hi - HT.sIx ns.length 0 lo)
theorem cutV_ints (ns : List Int) (lo hi : Option Int) : cutV (ns.map V.int) lo hi = (cutI ns lo hi).map V.int := by
  unfold cutV cutI
  rw [List.length_map, List.map_take, List.map_drop]
theorem cutI_len (ns : List Int) (lo hi : Option Int) : (cutI ns lo hi).length ≤ ns.length := by
  unfold cutI
  rw [List.length_take, List.length_drop]
  omega
theorem ints_at {ns : List Int} {i : Nat} {x : V} (h : (ns.map V.int)[i]? = some x) : ∃ z, ns[i]? = some z ∧ x = V.int z := by
  rw [List.getElem?_map] at h
  cases e : ns[i]? with
  | none => rw [e] at h; cases h
  | some z => rw [e] at h; exact ⟨z, rfl, (Option.some.inj h).symm⟩
theorem take_succ {α : Type} {xs : List α} {i : Nat} {x : α} (h : xs[i]? = some x) : xs.take (i + 1) = xs.take i ++ [x] := by
  rw [List.take_add_one, h]
  rfl
theorem sum_le_mul : ∀ (ws : List Int) (b : Int), (∀ w, w ∈ ws → w ≤ b) → ws.sum ≤ (ws.length : Int) * b
  | [], b, _ => by show (0 : Int) ≤ ((0 : Nat) : Int) * b; omega
  | w :: ws, b, h => by
    rw [List.sum_cons, List.length_cons, Int.natCast_add, Int.add_mul]
    have h1 := h w List.mem_cons_self
    have h2 := sum_le_mul ws b fun x hx => h x (List.mem_cons_of_mem _ hx)
    omega
theorem ixN_nat {n j : Nat} (h : j < n) : ixN n (j : Int) = some j := by
  unfold ixN
  rw [if_pos (by omega), if_pos (by omega), Int.toNat_natCast]
theorem call_int_i {X : Cx} : CallR X (.type "int") (fun xs H Q => ∃ i : Int, xs = [.int i] ∧ Q (.int i) H) := by
  intro pins s σ H xs us Q I r h
  obtain ⟨i, e, q⟩ := h
  exact call_int1 pins s σ H xs us Q I r (.inl ⟨i, e, q⟩)
theorem dpAll_ints {K : PySem.W.Frag} {H : Hp} : ∀ xs : List Int, DpAll K H (xs.map V.int) (xs.map PyData.int)
  | [] => .nil
  | x :: xs => .cons (.int x) (dpAll_ints xs)
theorem eqvAll_ints : ∀ xs ys : List Int, PyData.eqvAll (xs.map PyData.int) (ys.map PyData.int) = decide (xs = ys)
  | [], [] => by simp [PyData.eqvAll]
  | [], _ :: _ => by simp [PyData.eqvAll]
  | _ :: _, [] => by simp [PyData.eqvAll]
  | x :: xs, y :: ys => by
    rw [List.map_cons, List.map_cons]
    simp only [PyData.eqvAll, PyData.eqv]
    rw [eqvAll_ints xs ys]
    by_cases h : x = y <;> by_cases h2 : xs = ys <;> simp [h, h2]
theorem lay_ints : ∀ xs : List Int, PyData.canLayAll0 (xs.map PyData.int) = true
  | [] => rfl
  | x :: xs => by
    rw [List.map_cons]
    simp only [PyData.canLayAll0, PyData.canLay0, Bool.true_and]
    exact lay_ints xs
theorem depth_ints : ∀ xs : List Int, PyData.depthAll (xs.map PyData.int) = 0
  | [] => rfl
  | x :: xs => by
    rw [List.map_cons]
    simp only [PyData.depthAll, PyData.depth, depth_ints xs]
    rfl
theorem shaped_ints (xs : List Int) : SeqAt.shaped (.list (xs.map PyData.int)) = true := by
  unfold SeqAt.shaped
  simp only [PyData.canLay0, PyData.depth, lay_ints, depth_ints]
  rfl
theorem eqD_ints {K : PySem.W.Frag} {H : Hp} {a b : Addr} {xs ys : List Int} {Q : VK} (h1 : SqL K H a (xs.map V.int)) (h2 : SqL K H b (ys.map V.int)) (q : Q (.bl (decide (xs = ys))) H) : rEqD K (.ref a) (.ref b) H Q :=
  ⟨_, _, .lst h1 (dpAll_ints xs), .lst h2 (dpAll_ints ys), shaped_ints xs, shaped_ints ys, by rw [show PyData.eqv (.list (xs.map PyData.int)) (.list (ys.map PyData.int)) = decide (xs = ys) by simp only [PyData.eqv, eqvAll_ints]]; exact q⟩
theorem neD_ints {K : PySem.W.Frag} {H : Hp} {a b : Addr} {xs ys : List Int} {Q : VK} (h1 : SqL K H a (xs.map V.int)) (h2 : SqL K H b (ys.map V.int)) (q : Q (.bl (!decide (xs = ys))) H) : rNeD K (.ref a) (.ref b) H Q :=
  ⟨_, _, .lst h1 (dpAll_ints xs), .lst h2 (dpAll_ints ys), shaped_ints xs, shaped_ints ys, by rw [show PyData.eqv (.list (xs.map PyData.int)) (.list (ys.map PyData.int)) = decide (xs = ys) by simp only [PyData.eqv, eqvAll_ints]]; exact q⟩

/-- how items of one kind are told as data; equal data are equal items -/
structure LayD {α : Type} [DecidableEq α] (L : α → PyData) (k : Nat) (G : α → Prop) : Prop where
  lay : ∀ x, G x → (L x).canLay0 = true
  dep : ∀ x, (L x).depth ≤ k
  eqv : ∀ x y, PyData.eqv (L x) (L y) = decide (x = y)
theorem LayD.shaped {α : Type} [DecidableEq α] {L : α → PyData} {k : Nat} {G : α → Prop} (h : LayD L k G) (hk : k ≤ 64) {x : α} (g : G x) : SeqAt.shaped (L x) = true := by
  have h1 := h.lay x g
  have h2 := h.dep x
  unfold SeqAt.shaped
  rw [h1, Bool.true_and]
  exact decide_eq_true (by omega)
theorem layD_int : LayD PyData.int 0 (fun _ => True) := ⟨fun _ _ => rfl, fun _ => Nat.le_refl _, fun x y => by simp only [PyData.eqv]; exact (Bool.beq_eq_decide_eq x y)⟩
theorem layD_str : LayD PyData.str 0 (fun x => PyData.strOk x = true) := ⟨fun _ h => by simp only [PyData.canLay0]; exact h, fun _ => Nat.le_refl _, fun x y => by simp only [PyData.eqv]; exact (Bool.beq_eq_decide_eq x y)⟩
theorem decide_and2 {p q r : Prop} [Decidable p] [Decidable q] [Decidable r] (h : r ↔ p ∧ q) : (decide p && decide q) = decide r := by
  by_cases hp : p <;> by_cases hq : q <;> simp [h, hp, hq]
theorem layD_all {α : Type} [DecidableEq α] {L : α → PyData} {k : Nat} {G : α → Prop} (h : LayD L k G) : (∀ xs : List α, (∀ x, x ∈ xs → G x) → PyData.canLayAll0 (xs.map L) = true) ∧ (∀ xs : List α, PyData.depthAll (xs.map L) ≤ k) ∧ ∀ xs ys : List α, PyData.eqvAll (xs.map L) (ys.map L) = decide (xs = ys) := by
  refine ⟨fun xs => ?_, fun xs => ?_, fun xs => ?_⟩
  · induction xs with
    | nil => exact fun _ => rfl
    | cons x xs ih =>
      intro g
      rw [List.map_cons]
      simp only [PyData.canLayAll0, ih fun y hy => g y (List.mem_cons_of_mem _ hy), h.lay x (g x List.mem_cons_self)]
      rfl
  · induction xs with
    | nil => exact Nat.zero_le _
    | cons x xs ih => rw [List.map_cons]; simp only [PyData.depthAll]; exact Nat.max_le.mpr ⟨h.dep x, ih⟩
  · induction xs with
    | nil =>
      intro ys
      cases ys with
      | nil => rfl
      | cons y ys => simp [PyData.eqvAll]
    | cons x xs ih =>
      intro ys
      cases ys with
      | nil => simp [PyData.eqvAll]
      | cons y ys =>
        rw [List.map_cons, List.map_cons]
        simp only [PyData.eqvAll]
        rw [ih ys, h.eqv x y]
        exact decide_and2 (by rw [List.cons.injEq])
theorem LayD.list {α : Type} [DecidableEq α] {L : α → PyData} {k : Nat} {G : α → Prop} (h : LayD L k G) : LayD (fun xs : List α => PyData.list (xs.map L)) (k + 1) (fun xs => ∀ x, x ∈ xs → G x) := by
  obtain ⟨h1, h2, h3⟩ := layD_all h
  refine ⟨fun xs g => ?_, fun xs => ?_, fun xs ys => ?_⟩
  · simp only [PyData.canLay0]; exact h1 xs g
  · simp only [PyData.depth]; exact Nat.succ_le_succ (h2 xs)
  · simp only [PyData.eqv]; exact h3 xs ys
theorem LayD.tup2 {α β : Type} [DecidableEq α] [DecidableEq β] {L : α → PyData} {M : β → PyData} {k : Nat} {G : α → Prop} {G2 : β → Prop} (h : LayD L k G) (g : LayD M k G2) : LayD (fun x : α × β => PyData.tuple [L x.1, M x.2]) (k + 1) (fun x => G x.1 ∧ G2 x.2) := by
  refine ⟨fun x a => ?_, fun x => ?_, fun x y => ?_⟩
  · simp only [PyData.canLay0, PyData.canLayAll0, h.lay _ a.1, g.lay _ a.2, Bool.and_true]
  · simp only [PyData.depth, PyData.depthAll]
    have := h.dep x.1
    have := g.dep x.2
    omega
  · simp only [PyData.eqv, PyData.eqvAll, h.eqv, g.eqv, Bool.and_true]
    exact decide_and2 (by rw [Prod.ext_iff])
theorem LayD.tup3 {α β γ : Type} [DecidableEq α] [DecidableEq β] [DecidableEq γ] {L : α → PyData} {M : β → PyData} {N : γ → PyData} {k : Nat} {G : α → Prop} {G2 : β → Prop} {G3 : γ → Prop} (h : LayD L k G) (g : LayD M k G2) (e : LayD N k G3) : LayD (fun x : α × β × γ => PyData.tuple [L x.1, M x.2.1, N x.2.2]) (k + 1) (fun x => G x.1 ∧ G2 x.2.1 ∧ G3 x.2.2) := by
  refine ⟨fun x a => ?_, fun x => ?_, fun x y => ?_⟩
  · simp only [PyData.canLay0, PyData.canLayAll0, h.lay _ a.1, g.lay _ a.2.1, e.lay _ a.2.2, Bool.and_true]
  · simp only [PyData.depth, PyData.depthAll]
    have := h.dep x.1
    have := g.dep x.2.1
    have := e.dep x.2.2
    omega
  · simp only [PyData.eqv, PyData.eqvAll, h.eqv, g.eqv, e.eqv, Bool.and_true]
    rw [decide_and2 (r := x.2 = y.2) (by rw [Prod.ext_iff])]
    exact decide_and2 (by rw [Prod.ext_iff])
theorem LayD.tup4 {α β γ δ : Type} [DecidableEq α] [DecidableEq β] [DecidableEq γ] [DecidableEq δ] {L : α → PyData} {M : β → PyData} {N : γ → PyData} {O : δ → PyData} {k : Nat} {G : α → Prop} {G2 : β → Prop} {G3 : γ → Prop} {G4 : δ → Prop} (h : LayD L k G) (g : LayD M k G2) (e : LayD N k G3) (d : LayD O k G4) : LayD (fun x : α × β × γ × δ => PyData.tuple [L x.1, M x.2.1, N x.2.2.1, O x.2.2.2]) (k + 1) (fun x => G x.1 ∧ G2 x.2.1 ∧ G3 x.2.2.1 ∧ G4 x.2.2.2) := by
  refine ⟨fun x a => ?_, fun x => ?_, fun x y => ?_⟩
  · simp only [PyData.canLay0, PyData.canLayAll0, h.lay _ a.1, g.lay _ a.2.1, e.lay _ a.2.2.1, d.lay _ a.2.2.2, Bool.and_true]
  · simp only [PyData.depth, PyData.depthAll]
    have := h.dep x.1
    have := g.dep x.2.1
    have := e.dep x.2.2.1
    have := d.dep x.2.2.2
    omega
  · simp only [PyData.eqv, PyData.eqvAll, h.eqv, g.eqv, e.eqv, d.eqv, Bool.and_true]
    rw [decide_and2 (r := x.2.2 = y.2.2) (by rw [Prod.ext_iff]), decide_and2 (r := x.2 = y.2) (by rw [Prod.ext_iff])]
    exact decide_and2 (by rw [Prod.ext_iff])
theorem eqL {α : Type} [DecidableEq α] {L : α → PyData} {k : Nat} {G : α → Prop} (h : LayD L k G) (hk : k ≤ 64) {K : PySem.W.Frag} {H : Hp} {x y : V} {a b : α} {Q : VK} (ga : G a) (gb : G b) (h1 : Dp K H x (L a)) (h2 : Dp K H y (L b)) (q : Q (.bl (decide (a = b))) H) : rEqD K x y H Q :=
  ⟨_, _, h1, h2, h.shaped hk ga, h.shaped hk gb, by rw [h.eqv]; exact q⟩
theorem neL {α : Type} [DecidableEq α] {L : α → PyData} {k : Nat} {G : α → Prop} (h : LayD L k G) (hk : k ≤ 64) {K : PySem.W.Frag} {H : Hp} {x y : V} {a b : α} {Q : VK} (ga : G a) (gb : G b) (h1 : Dp K H x (L a)) (h2 : Dp K H y (L b)) (q : Q (.bl (!decide (a = b))) H) : rNeD K x y H Q :=
  ⟨_, _, h1, h2, h.shaped hk ga, h.shaped hk gb, by rw [h.eqv]; exact q⟩
theorem dpAll_refs {α : Type} {L : α → PyData} {K : PySem.W.Frag} {H : Hp} : ∀ {ps : List Addr} {xs : List α}, ps.length = xs.length → (∀ (i : Nat) (p : Addr) (x : α), ps[i]? = some p → xs[i]? = some x → Dp K H (.ref p) (L x)) → DpAll K H (ps.map V.ref) (xs.map L)
  | [], [], _, _ => .nil
  | [], _ :: _, h, _ => by cases h
  | _ :: _, [], h, _ => by cases h
  | p :: ps, x :: xs, h, e => .cons (e 0 p x rfl rfl) (dpAll_refs (Nat.succ.inj h) fun i p' x' h1 h2 => e (i + 1) p' x' h1 h2)

theorem refs_at {ps : List Addr} {i : Nat} {x : V} (h : (ps.map V.ref)[i]? = some x) : ∃ p, ps[i]? = some p ∧ x = V.ref p := by
  rw [List.getElem?_map] at h
  cases e : ps[i]? with
  | none => rw [e] at h; cases h
  | some z => rw [e] at h; exact ⟨z, rfl, (Option.some.inj h).symm⟩

/-- a list of tuples: the tuple of each item -/
structure Tups {α : Type} (enc : α → List V) (H : Hp) (l : Addr) (ps : List Addr) (xs : List α) : Prop where
  lst : H l = some (.lst (ps.map V.ref))
  len : ps.length = xs.length
  row : ∀ (i : Nat) (p : Addr) (x : α), ps[i]? = some p → xs[i]? = some x → H p = some (.tup (enc x))
theorem Tups.nil {α : Type} {enc : α → List V} {H : Hp} {l : Addr} (h : H l = some (.lst [])) : Tups enc H l [] ([] : List α) :=
  ⟨h, rfl, fun _ _ _ e => (by rw [List.getElem?_nil] at e; cases e)⟩
theorem Tups.same {α : Type} {enc : α → List V} {H H' : Hp} {l : Addr} {ps : List Addr} {xs : List α} (h : Tups enc H l ps xs) (e : Same H H') : Tups enc H' l ps xs :=
  ⟨e _ _ h.lst, h.len, fun i p x a b => e _ _ (h.row i p x a b)⟩
theorem Tups.at {α : Type} {enc : α → List V} {H : Hp} {l : Addr} {ps : List Addr} {xs : List α} (h : Tups enc H l ps xs) {i : Nat} {x : α} (e : xs[i]? = some x) : ∃ p, ps[i]? = some p ∧ atI (ps.map V.ref) (i : Int) = some (.ref p) ∧ H p = some (.tup (enc x)) := by
  have hi := (List.getElem?_eq_some_iff.mp e).1
  have hl : i < ps.length := by rw [h.len]; exact hi
  refine ⟨ps[i], List.getElem?_eq_getElem hl, at_of (j := i) rfl ?_, h.row i _ x (List.getElem?_eq_getElem hl) e⟩
  rw [List.getElem?_map, List.getElem?_eq_getElem hl]
  rfl
theorem Tups.item {α : Type} {enc : α → List V} {H : Hp} {l : Addr} {ps : List Addr} {xs : List α} (h : Tups enc H l ps xs) {i : Nat} {v : V} (e : (ps.map V.ref)[i]? = some v) : ∃ p x, ps[i]? = some p ∧ xs[i]? = some x ∧ v = .ref p ∧ H p = some (.tup (enc x)) := by
  obtain ⟨p, hp, rfl⟩ := refs_at e
  have hi := (List.getElem?_eq_some_iff.mp hp).1
  rw [h.len] at hi
  exact ⟨p, xs[i], hp, List.getElem?_eq_getElem hi, rfl, h.row i p _ hp (List.getElem?_eq_getElem hi)⟩
theorem Tups.push {α : Type} {enc : α → List V} {H H' : Hp} {l p : Addr} {ps : List Addr} {xs : List α} {x : α} (h : Tups enc H l ps xs) (e : Same H H') (np : H p = none) (hp : H' p = some (.tup (enc x))) : Tups enc (upd H' l (.lst (ps.map V.ref ++ [V.ref p]))) l (ps ++ [p]) (xs ++ [x]) := by
  have hpl : p ≠ l := fun z => by rw [z, h.lst] at np; cases np
  refine ⟨?_, ?_, fun i q y hq hy => ?_⟩
  · rw [upd_same, List.map_append]
    rfl
  · rw [List.length_append, List.length_append, h.len]
    rfl
  · by_cases hi : i < ps.length
    · rw [List.getElem?_append_left hi] at hq
      rw [List.getElem?_append_left (by rw [← h.len]; exact hi)] at hy
      have hq2 := h.row i q y hq hy
      rw [upd_ne (fun z => by rw [z, h.lst] at hq2; cases hq2)]
      exact e _ _ hq2
    · rw [List.getElem?_append_right (by omega)] at hq
      rw [List.getElem?_append_right (by have := h.len; omega)] at hy
      have h1 := (List.getElem?_eq_some_iff.mp hq).1
      rw [List.length_cons, List.length_nil] at h1
      have e0 : i - ps.length = 0 := by omega
      have e1 : i - xs.length = 0 := by have := h.len; omega
      rw [e0] at hq
      rw [e1] at hy
      have z1 : p = q := Option.some.inj hq
      have z2 : x = y := Option.some.inj hy
      rw [← z1, ← z2, upd_ne hpl]
      exact hp
theorem Tups.dp {α : Type} {enc : α → List V} {L : α → PyData} {K : PySem.W.Frag} {H : Hp} {l : Addr} {ps : List Addr} {xs : List α} (h : Tups enc H l ps xs) (he : ∀ x (p : Addr), H p = some (.tup (enc x)) → Dp K H (.ref p) (L x)) : Dp K H (.ref l) (PyData.list (xs.map L)) :=
  .lst (SqL.of h.lst) (dpAll_refs h.len fun i p x h1 h2 => he x p (h.row i p x h1 h2))
def enc2 (x : Int × Int) : List V := [.int x.1, .int x.2]
def enc3 (x : Int × Int × Int) : List V := [.int x.1, .int x.2.1, .int x.2.2]
def lay3 (x : Int × Int × Int) : PyData := .tuple [.int x.1, .int x.2.1, .int x.2.2]
theorem layD_3 : LayD lay3 1 (fun x => True ∧ True ∧ True) := layD_int.tup3 layD_int layD_int
theorem dp3 {K : PySem.W.Frag} {H : Hp} (x : Int × Int × Int) (p : Addr) (h : H p = some (.tup (enc3 x))) : Dp K H (.ref p) (lay3 x) :=
  .tup (SqT.of h) (.cons (.int _) (.cons (.int _) (.cons (.int _) .nil)))
theorem Tups.push2 {α : Type} {enc : α → List V} {H : Hp} {l p : Addr} {ps : List Addr} {xs : List α} {x : α} (h : Tups enc H l ps xs) (hp : H p = some (.tup (enc x))) : Tups enc (upd H l (.lst (ps.map V.ref ++ [V.ref p]))) l (ps ++ [p]) (xs ++ [x]) := by
  have hpl : p ≠ l := fun z => by rw [z, h.lst] at hp; cases hp
  refine ⟨?_, ?_, fun i q y hq hy => ?_⟩
  · rw [upd_same, List.map_append]
    rfl
  · rw [List.length_append, List.length_append, h.len]
    rfl
  · by_cases hi : i < ps.length
    · rw [List.getElem?_append_left hi] at hq
      rw [List.getElem?_append_left (by rw [← h.len]; exact hi)] at hy
      have hq2 := h.row i q y hq hy
      rw [upd_ne (fun z => by rw [z, h.lst] at hq2; cases hq2)]
      exact hq2
    · rw [List.getElem?_append_right (by omega)] at hq
      rw [List.getElem?_append_right (by have := h.len; omega)] at hy
      have h1 := (List.getElem?_eq_some_iff.mp hq).1
      rw [List.length_cons, List.length_nil] at h1
      have e0 : i - ps.length = 0 := by omega
      have e1 : i - xs.length = 0 := by have := h.len; omega
      rw [e0] at hq
      rw [e1] at hy
      have z1 : p = q := Option.some.inj hq
      have z2 : x = y := Option.some.inj hy
      rw [← z1, ← z2, upd_ne hpl]
      exact hp
theorem Tups.copy {α : Type} {enc : α → List V} {H H' : Hp} {l l2 : Addr} {ps : List Addr} {xs : List α} (h : Tups enc H l ps xs) (e : Same H H') (h2 : H' l2 = some (.lst (ps.map V.ref))) : Tups enc H' l2 ps xs :=
  ⟨h2, h.len, fun i p x a b => e _ _ (h.row i p x a b)⟩
theorem Tups.other {α : Type} {enc : α → List V} {H : Hp} {l A : Addr} {ps : List Addr} {xs : List α} {ys zs : List V} (h : Tups enc H l ps xs) (hA : H A = some (.lst ys)) (ne : l ≠ A) : Tups enc (upd H A (.lst zs)) l ps xs :=
  ⟨by rw [upd_ne ne]; exact h.lst, h.len, fun i p x a b => by
    have hp := h.row i p x a b
    rw [upd_ne (fun z => by rw [z, hA] at hp; cases hp)]
    exact hp⟩

/-! a dict from texts to whole numbers -/
def encD (d : List (Str × Int)) : List (Key × V) := d.map fun x => (Sum.inr x.1, V.int x.2)
def getS (d : List (Str × Int)) (s : Str) : Option Int := (d.find? fun x => decide (x.1 = s)).map (·.2)
def keysS (d : List (Str × Int)) : List Str := d.map (·.1)
def putS (d : List (Str × Int)) (s : Str) (v : Int) : List (Str × Int) := if s ∈ keysS d then d.map (fun x => if x.1 = s then (x.1, v) else x) else d ++ [(s, v)]
def gD (d : List (Str × Int)) (s : Str) : Int := (getS d s).getD 0
theorem inr_eq {a b : Str} : ((Sum.inr a : Key) = Sum.inr b) ↔ a = b := ⟨fun h => Sum.inr.inj h, fun h => by rw [h]⟩
theorem valV_enc (s : Str) : ∀ d : List (Str × Int), valV (encD d) (Sum.inr s) = (getS d s).map V.int
  | [] => rfl
  | x :: d => by
    unfold encD getS
    rw [List.map_cons, List.find?_cons]
    by_cases h : x.1 = s
    · rw [valV_pos (by rw [h]), decide_eq_true h]; rfl
    · rw [valV_neg (fun z => h (Sum.inr.inj z)), decide_eq_false h]
      exact valV_enc s d
theorem any_enc (s : Str) : ∀ d : List (Str × Int), ((encD d).any fun kv => decide (kv.1 = Sum.inr s)) = decide (s ∈ keysS d)
  | [] => rfl
  | x :: d => by
    have ih := any_enc s d
    unfold encD at ih ⊢
    rw [List.map_cons, List.any_cons, ih]
    unfold keysS
    rw [List.map_cons]
    by_cases h : x.1 = s
    · have hm : s ∈ x.1 :: List.map (fun x => x.1) d := by rw [← h]; exact List.mem_cons_self
      rw [decide_eq_true (show ((Sum.inr x.1 : Key) = Sum.inr s) by rw [h]), decide_eq_true hm]; rfl
    · rw [decide_eq_false (fun z => h (Sum.inr.inj z)), Bool.false_or]
      exact decide_eq_decide.mpr ⟨fun z => List.mem_cons_of_mem _ z, fun z => (List.mem_cons.mp z).resolve_left fun e => h e.symm⟩
theorem putK_enc (d : List (Str × Int)) (s : Str) (v : Int) : putK (encD d) (Sum.inr s) (V.int v) = encD (putS d s v) := by
  unfold putK putS
  rw [any_enc]
  by_cases h : s ∈ keysS d
  · rw [if_pos (decide_eq_true h), if_pos h]
    unfold encD
    rw [List.map_map, List.map_map]
    refine List.map_congr_left fun x _ => ?_
    show (if (Sum.inr x.1 : Key) = Sum.inr s then ((Sum.inr x.1 : Key), V.int v) else (Sum.inr x.1, V.int x.2)) = _
    by_cases z : x.1 = s
    · rw [if_pos (by rw [z])]
      show _ = ((Sum.inr (if x.1 = s then (x.1, v) else x).1 : Key), V.int (if x.1 = s then (x.1, v) else x).2)
      rw [if_pos z]
    · rw [if_neg (fun e => z (Sum.inr.inj e))]
      show _ = ((Sum.inr (if x.1 = s then (x.1, v) else x).1 : Key), V.int (if x.1 = s then (x.1, v) else x).2)
      rw [if_neg z]
  · rw [if_neg (by rw [decide_eq_false h]; exact Bool.false_ne_true), if_neg h]
    unfold encD
    rw [List.map_append]
    rfl
def addK (ks : List Str) (s : Str) : List Str := if s ∈ ks then ks else ks ++ [s]
theorem keys_put (d : List (Str × Int)) (s : Str) (v : Int) : keysS (putS d s v) = addK (keysS d) s := by
  unfold putS addK
  by_cases h : s ∈ keysS d
  · rw [if_pos h, if_pos h]
    unfold keysS
    rw [List.map_map]
    refine List.map_congr_left fun x _ => ?_
    show (if x.1 = s then (x.1, v) else x).1 = x.1
    split <;> rfl
  · rw [if_neg h, if_neg h]
    unfold keysS
    rw [List.map_append]
    rfl
theorem get_mem (s : Str) : ∀ d : List (Str × Int), (getS d s).isSome = decide (s ∈ keysS d)
  | [] => rfl
  | x :: d => by
    have ih := get_mem s d
    unfold getS keysS at ih ⊢
    rw [List.find?_cons, List.map_cons]
    by_cases h : x.1 = s
    · rw [decide_eq_true h, decide_eq_true (by rw [h]; exact List.mem_cons_self)]; rfl
    · rw [decide_eq_false h]
      refine ih.trans (decide_eq_decide.mpr ⟨fun z => List.mem_cons_of_mem _ z, fun z => (List.mem_cons.mp z).resolve_left fun e => h e.symm⟩)
theorem get_some {d : List (Str × Int)} {s : Str} (h : s ∈ keysS d) : getS d s = some (gD d s) := by
  have e := get_mem s d
  rw [decide_eq_true h] at e
  unfold gD
  cases w : getS d s with
  | none => rw [w] at e; cases e
  | some x => rfl
theorem get_map (s t : Str) (v : Int) : ∀ d : List (Str × Int), getS (d.map fun x => if x.1 = s then (x.1, v) else x) t = (getS d t).map fun w => if t = s then v else w
  | [] => rfl
  | x :: d => by
    have ih := get_map s t v d
    unfold getS at ih ⊢
    rw [List.map_cons, List.find?_cons, List.find?_cons]
    have e1 : (if x.1 = s then (x.1, v) else x).1 = x.1 := by split <;> rfl
    rw [e1]
    by_cases h : x.1 = t
    · rw [decide_eq_true h]
      show some (if x.1 = s then (x.1, v) else x).2 = some (if t = s then v else x.2)
      by_cases z : x.1 = s
      · rw [if_pos z, if_pos (h.symm.trans z)]
      · rw [if_neg z, if_neg fun e => z (h.trans e)]
    · rw [decide_eq_false h]
      exact ih
theorem gD_put (d : List (Str × Int)) (s t : Str) (v : Int) : gD (putS d s v) t = if t = s then v else gD d t := by
  unfold gD putS
  by_cases h : s ∈ keysS d
  · rw [if_pos h, get_map]
    by_cases z : t = s
    · have := get_some h
      rw [z, this, if_pos rfl]
      show (if s = s then v else gD d s) = v
      rw [if_pos rfl]
    · rw [if_neg z]
      cases getS d t with
      | none => rfl
      | some w => show (if t = s then v else w) = w; rw [if_neg z]
  · rw [if_neg h]
    unfold getS
    rw [List.find?_append]
    by_cases z : t = s
    · have e := get_mem s d
      rw [decide_eq_false h] at e
      unfold getS at e
      rw [z, if_pos rfl]
      cases w : d.find? fun x => decide (x.1 = s) with
      | none => rw [Option.none_or, List.find?_cons, decide_eq_true rfl]; rfl
      | some x => rw [w] at e; cases e
    · rw [if_neg z]
      have : List.find? (fun x : Str × Int => decide (x.1 = t)) [(s, v)] = none := by
        rw [List.find?_cons, decide_eq_false fun e : s = t => z e.symm]
        rfl
      rw [this, Option.or_none]
theorem dget_go {H : Hp} {a : Addr} {s : Str} {d : List (Str × Int)} {R : Option V → Prop} (h : H a = some (.dK (encD d))) (q : R ((getS d s).map V.int)) : ∃ o, DGet H a (.str s) o ∧ R o := by
  refine ⟨_, ?_, q⟩
  have := DGet.k (k := Sum.inr s) h
  rw [valV_enc] at this
  exact this
theorem dget_at {H : Hp} {a : Addr} {s : Str} {d : List (Str × Int)} (h : H a = some (.dK (encD d))) (k : s ∈ keysS d) : DGet H a (.str s) (some (.int (gD d s))) := by
  have := DGet.k (k := Sum.inr s) h
  rw [valV_enc, get_some k] at this
  exact this
theorem dput_go {H : Hp} {a : Addr} {s : Str} {v : Int} {d : List (Str × Int)} {R : Hp → Prop} (h : H a = some (.dK (encD d))) (hl : d.length ≤ 1000) (q : R (upd H a (.dK (encD (putS d s v))))) : ∃ H', V.ref a = V.ref a ∧ DPut H a (.str s) (.int v) H' ∧ R H' := by
  refine ⟨_, rfl, ?_, q⟩
  rw [← putK_enc]
  refine DPut.k (k := Sum.inr s) h ?_
  unfold encD
  rw [List.length_map]
  exact small1000 (by omega)
theorem getD_int (d : List (Str × Int)) (s : Str) : ((getS d s).map V.int).getD (.int 0) = .int (gD d s) := by
  unfold gD
  cases getS d s <;> rfl
theorem isD_enc {H : Hp} {a : Addr} {d : List (Str × Int)} (h : H a = some (.dK (encD d))) : IsD H a := .inl ⟨_, .inl h⟩
theorem addK_mem {ks : List Str} {s t : Str} : t ∈ addK ks s ↔ t ∈ ks ∨ t = s := by
  unfold addK
  split
  · exact ⟨.inl, fun h => h.elim id fun e => by rw [e]; assumption⟩
  · rw [List.mem_append, List.mem_singleton]
theorem addK_nodup {ks : List Str} {s : Str} (h : ks.Nodup) : (addK ks s).Nodup := by
  unfold addK
  split
  · exact h
  · rename_i n
    rw [List.nodup_append]
    exact ⟨h, List.nodup_cons.mpr ⟨fun z => (by cases z), List.nodup_nil⟩, fun a ha b hb e => n (by rw [List.mem_singleton] at hb; rw [← hb, ← e]; exact ha)⟩
theorem addK_len (ks : List Str) (s : Str) : (addK ks s).length ≤ ks.length + 1 := by
  unfold addK
  split
  · omega
  · rw [List.length_append]; exact Nat.le_refl _
/-- two ascending lists with the same texts, none twice, are equal -/
theorem rising_le : ∀ {xs : List Str} {p : Str}, risingS p xs = true → (p :: xs).Pairwise fun a b => a.cps.toList ≤ b.cps.toList
  | [], p, _ => List.pairwise_singleton _ _
  | x :: xs, p, h => by
    have h' : (!ltCps x.cps.toList p.cps.toList && risingS x xs) = true := h
    rw [Bool.and_eq_true] at h'
    have h1 : p.cps.toList ≤ x.cps.toList := by
      have := h'.1
      rw [ltCps_eq] at this
      exact ndec_t this
    have ih := rising_le h'.2
    refine List.pairwise_cons.mpr ⟨fun y hy => ?_, ih⟩
    rcases List.mem_cons.mp hy with e | e
    · rw [e]; exact h1
    · exact List.le_trans h1 ((List.pairwise_cons.mp ih).1 y e)
theorem sorted_le {xs : List Str} (h : sortedS xs = true) : xs.Pairwise fun a b => a.cps.toList ≤ b.cps.toList := by
  cases xs with
  | nil => exact .nil
  | cons x xs => exact rising_le h
theorem sorted_same : ∀ {xs ys : List Str}, xs.Pairwise (fun a b => a.cps.toList ≤ b.cps.toList) → ys.Pairwise (fun a b => a.cps.toList ≤ b.cps.toList) → xs.Nodup → ys.Nodup → (∀ s, s ∈ xs ↔ s ∈ ys) → xs = ys
  | [], [], _, _, _, _, _ => rfl
  | [], y :: ys, _, _, _, _, h => absurd ((h y).mpr List.mem_cons_self) (fun z => by cases z)
  | x :: xs, [], _, _, _, _, h => absurd ((h x).mp List.mem_cons_self) (fun z => by cases z)
  | x :: xs, y :: ys, h1, h2, n1, n2, h => by
    have a := List.pairwise_cons.mp h1
    have b := List.pairwise_cons.mp h2
    have c := List.nodup_cons.mp n1
    have d := List.nodup_cons.mp n2
    have e : x = y := by
      rcases List.mem_cons.mp ((h x).mp List.mem_cons_self) with e | e
      · exact e
      · rcases List.mem_cons.mp ((h y).mpr List.mem_cons_self) with f | f
        · exact f.symm
        · have z := List.le_antisymm (a.1 y f) (b.1 x e)
          cases x
          cases y
          exact congrArg _ (Array.toList_inj.mp z)
    subst e
    rw [sorted_same a.2 b.2 c.2 d.2 fun s => ?_]
    constructor
    · intro hs
      rcases List.mem_cons.mp ((h s).mp (List.mem_cons_of_mem _ hs)) with e | e
      · rw [e] at hs; exact absurd hs c.1
      · exact e
    · intro hs
      rcases List.mem_cons.mp ((h s).mpr (List.mem_cons_of_mem _ hs)) with e | e
      · rw [e] at hs; exact absurd hs d.1
      · exact e
theorem keys_enc (d : List (Str × Int)) : (encD d).map (·.1) = (keysS d).map Sum.inr := by
  unfold encD keysS
  rw [List.map_map, List.map_map]
  rfl

/-! ### the sum of the values of a dict of whole numbers -/
def tSumVals (td : TE) : TE := fun σ H Q => td σ H fun x H1 => ∃ (c : Addr) (kvs : List (Key × V)) (ws : List Int), x = V.ref c ∧ H1 c = some (.dK kvs) ∧ kvs.map (·.2) = ws.map V.int ∧ Q (.int ws.sum) H1
theorem sumW {ws : List Int} : ∀ n : Nat, n ≤ ws.length → PySem.preSum (fun i => ws.getD i 0) n = (ws.take n).sum
  | 0, _ => rfl
  | n + 1, hn => by
    have hl : n < ws.length := hn
    rw [List.take_add_one, List.sum_append, List.getElem?_eq_getElem hl]
    show PySem.preSum _ n + ws.getD n 0 = _ + ([ws[n]] : List Int).sum
    rw [sumW n (by omega), List.getD_eq_getElem?_getD, List.getElem?_eq_getElem hl]
    show _ + ws[n] = _ + (ws[n] + 0)
    omega
section
variable {X : Cx} {ob : Expr} {pn pa pm pe : Pos} {tq : TE}
theorem pe_sumVals (calm : X.calm = true) (glb : Gl X "sum") (own : X.mg "sum" = none) (hO : PE X ob tq) (hB : attributeBase ob "values" X.env (eval ob X.env) = eval ob X.env := by rfl) (hL : (pa.endLine == pm.line) = true := by rfl)
    (hS : starEach [Expr.Call (.Attribute ob "values" pa) [] [] pm] X.env = [(false, eval (Expr.Call (.Attribute ob "values" pa) [] [] pm) X.env)] := by rfl) :
    PE X (.Call (.Name "sum" pn) [.Call (.Attribute ob "values" pa) [] [] pm] [] pe) (tSumVals tq) := by
  refine ⟨fun pins sh σ H Q I hw => ?_⟩
  refine wpAny_Call_Name_kw (ld_blt I glb own (u := .builtin "sum") (by first | rfl | decide +kernel) ?_ (by first | decide +kernel | decide) (by first | decide +kernel | decide))
  rw [hS]
  refine PySem.callWith_builtin1 (wpAny_Call_method0_late hB hL (thn (hO.run pins sh σ H _ I hw) fun vv sh1 ⟨x, H1, J, rr, c, kvs, ws, ec, hc, hws, q⟩ => ?_))
  subst ec
  obtain rfl : vv = Value.ref c := rr
  obtain ⟨_, notsys, vals, rl, dofc⟩ := dk_of J.hok hc
  obtain ⟨ep, dAt⟩ := dofc.dictAt
  have dAt2 := dAt
  obtain ⟨obj, entr, hobj, hplain, _, _, _, _⟩ := dAt2
  refine ⟨"dict", "dict.values", F.plainAttrs_dict, F.slot_dict_values, F.type_dict_values, ⟨obj, hobj, hplain.1⟩, fun b e => ?_, Calls.callWith_builtin rfl (PySem.evalArgs_none ?_)⟩
  · cases e
    exact ⟨obj, hobj, hplain.2.1⟩
  refine call_meetsIn F.slot_dict_values ⟨obj, hobj, hplain.1⟩ F.entry_dict_values (F.args_dict_values_1 _) (meets_dict_values (mixKind X.prog X.w) c notsys) ⟨⟨vals, dofc⟩, ?_⟩
  have up : ∀ b u, sh1.heap.get? b = some u → (sh1.heap.push { cls := .type "dict_values", data := .fields #[.ref c] }).get? b = some u := fun _ _ g => Heap.get?_push_of_some _ g
  have dAt1 : (sh1.heap.push { cls := .type "dict_values", data := .fields #[.ref c] }).DictAt (mixKind X.prog X.w) c vals ep := dAt.keep up
  have lenV : vals.length = ws.length := by
    have h1 := congrArg List.length hws
    rw [List.length_map, List.length_map] at h1
    exact (KV.length rl).symm.trans h1
  have each : ∀ (i : Nat) (v : Value), (∃ k, vals[i]? = some (k, v)) → ∃ t, v = Value.int (ws.getD i 0) t := fun i v ⟨k, hk⟩ => by
    obtain ⟨x, g1, g2⟩ := KV.at' rl hk
    have g3 : (kvs.map (·.2))[i]? = some x := by rw [List.getElem?_map, g1] <;> rfl
    rw [hws, List.getElem?_map] at g3
    obtain ⟨j, hj, g4⟩ := Option.map_eq_some_iff.mp g3
    subst g4
    obtain ⟨t, g5⟩ := g2
    refine ⟨t, ?_⟩
    rw [g5, List.getD_eq_getElem?_getD, hj] <;> rfl
  have clt : c < sh1.heap.objs.size := Heap.lt_size hobj
  have szp : (sh1.heap.push { cls := .type "dict_values", data := .fields #[.ref c] }).objs.size = sh1.heap.objs.size + 1 := Heap.size_push _ _
  refine call_sum_walkG (wpAny_pyIter_values (v := sh1.heap.objs.size) (d := c) ⟨_, Heap.get?_push_size _ rfl, rfl, rfl⟩ dAt1 ?_)
  refine ⟨_, _, _, _, _, _, fun i => ws.getD i 0, rfl, Walks.dictValues (knd := mixKind X.prog X.w) (A := X.A.in1) (J.ok.hd calm) (sh1.heap.push { cls := .type "dict_values", data := .fields #[.ref c] }).objs.size c (by rw [szp]; exact Nat.ne_of_lt (Nat.lt_succ_of_lt clt)) vals ep,
    ⟨⟨_, Heap.get?_push_size _ rfl, rfl, rfl⟩, dAt1.keep fun _ _ g => Heap.get?_push_of_some _ g⟩, fun b hb => ?_, each, fun h2 tk t keep => ?_⟩
  · show b < ((sh1.heap.push _).push _).objs.size
    rw [Heap.size_push _ _, Heap.size_push _ _]
    rw [szp] at hb
    rcases List.mem_cons.mp hb with z | hb
    · rw [z]
      exact Nat.lt_succ_self _
    · rw [List.mem_singleton.mp hb]
      exact Nat.lt_succ_of_lt (Nat.lt_succ_of_lt clt)
  · refine ⟨.int _, H1, J.kept (t' := tk) fun b u g => keep b u (fun hm => ?_) (Heap.get?_push_of_some _ (up b u g)), ⟨t, ?_⟩, q⟩
    · have z1 : b = (sh1.heap.push { cls := .type "dict_values", data := .fields #[.ref c] }).objs.size := List.mem_singleton.mp hm
      have z2 := Heap.lt_size g
      rw [szp] at z1
      exact absurd (z1 ▸ z2) (Nat.not_lt.mpr (Nat.le_succ _))
    · rw [lenV, sumW _ (Nat.le_refl _), List.take_of_length_le (Nat.le_refl _)]
end

/-- for i, x in enumerate(xs): each turn a new pair -/
theorem for_enum {K : PySem.W.Frag} {a : Addr} {xs : List V} {g : TG} {tb : TS} {D : Ends} {σ : L2.St} {H : Hp} (Pv : Nat → L2.St → Hp → Prop) (h0 : Pv 0 σ H) (hl : ∀ i σ H, i ≤ xs.length → Pv i σ H → SqL K H a xs)
    (hs : ∀ (i : Nat) (x : V) (σ : L2.St) (H : Hp) (T : Addr), xs[i]? = some x → Pv i σ H → H T = none → g (.ref T) σ (upd H T (.tup [.int (i : Int), x])) fun σ2 H2 => tb { D with nx := Pv (i + 1), ct := Pv (i + 1), bk := D.nx } σ2 H2) (hd : ∀ σ H, Pv xs.length σ H → D.nx σ H) :
    ∃ W : Nat → Nat → L2.St → Hp → Prop, (∃ m, W 0 m σ H) ∧ ∀ i m σ H, W i m σ H →
      ((Ite K a).stop i H ∧ D.nx σ H) ∨ ((Ite K a).go i H ∧ ∃ N : L2.St → Hp → Prop, (∀ σ' H', N σ' H' → ∃ m', m' < m ∧ W (i + 1) m' σ' H') ∧ ∀ x H', (Ite K a).yld i H x H' → g x σ H' fun σ2 H2 => tb { D with nx := N, ct := N, bk := D.nx } σ2 H2) := by
  refine ⟨fun i m σ H => m + i = xs.length ∧ Pv i σ H, ⟨xs.length, rfl, h0⟩, ?_⟩
  rintro i m σ H ⟨em, p⟩
  have q := hl i σ H (by omega) p
  by_cases hlt : i < xs.length
  · refine .inr ⟨⟨xs, xs[i], q, List.getElem?_eq_getElem hlt⟩, Pv (i + 1), fun σ' H' p' => ⟨m - 1, by omega, by omega, p'⟩, fun x H' y => ?_⟩
    obtain ⟨T, z, rfl, nT, rfl, hz⟩ := y
    exact hs i z σ H T (hz xs q) p nT
  · have e : i = xs.length := by omega
    subst e
    exact .inl ⟨⟨xs, q, Nat.le_refl _⟩, hd σ H p⟩
theorem call_int_b {X : Cx} : CallR X (.type "int") (fun xs H Q => ∃ b : Bool, xs = [.bl b] ∧ Q (.int (if b = true then 1 else 0)) H) := by
  intro pins s σ H xs us Q I r h
  obtain ⟨i, e, q⟩ := h
  exact call_int1 pins s σ H xs us Q I r (.inr ⟨i, e, q⟩)

/-! methods that raise, methods called with keywords (own rules over the library's run_fnN and methodCall_KW) -/
def tMx (C : Addr) (m : Str) (sp : Sp) (dvs : List V) (E : L2.St → XK) (to : TE) (t : TA) : TE := fun σ H Q => to σ H fun x H1 => ∃ (a dx : Addr) (fs : List (Str × V)), x = .ref a ∧ H1 a = some (.ins C dx fs) ∧ fs.lookup m = none ∧ t σ H1 fun vs H2 => sp (.ref a :: vs ++ dvs) H2 Q (E σ)
theorem passLat {X : Cx} {σ : L2.St} : PassesAt (L2.CX X.prog X.w) X σ E0 := fun pn Hh st ev st' inv got => passL pn σ Hh st ev st' inv got
theorem pass0at {X : Cx} {σ : L2.St} : PassesAt CX0 X σ E0 := fun _ _ _ _ _ _ h => h.elim
def tMk (C : Addr) (m : Str) (n k : Nat) (sp : Sp) (gV : List V → List V → List V) (E : L2.St → XK) (to : TE) (t tk : TA) : TE := fun σ H Q => to σ H fun x H1 => ∃ (a dx : Addr) (fs : List (Str × V)), x = .ref a ∧ H1 a = some (.ins C dx fs) ∧ fs.lookup m = none ∧
  t σ H1 fun vs H2 => tk σ H2 fun zs H3 => vs.length = n ∧ zs.length = k ∧ sp (gV (.ref a :: vs) zs) H3 Q (E σ)
section
variable {X : Cx} {CX : CXT} {k n : Nat} {f C : Addr} {fd : FuncData} {ps ks : List Str} {sp : Sp} {E : L2.St → XK} {m : Str} {pos apos : Pos} {e o : Expr} {es : List Expr} {kws : List Keyword} {to : TE} {t tk : TA} {g : List Value → List Value → List Value} {gV : List V → List V → List V} {pl : Sem Bool} {dvs : List V} {ds : List Value}
theorem run_kw {pn : List (Addr × Obj)} {sh : L2.St} {Hh : Hp} {st : Shared} {Q : VK} {us ws : List Value} {vs zs : List V} (prom : FnOk X.prog X.w X.K X.mg X.base CX k f fd ps sp) (room : Room k X.A) (bnd : KBn X.K fd ps n ks g gV) (way : PassesAt CX X sh (E sh))
    (inv : Inv X pn sh Hh st) (rel : Vals vs us) (relz : Vals zs ws) (len1 : vs.length = n) (len2 : zs.length = ks.length) (hyp : sp (gV vs zs) Hh Q (E sh)) : wpAny (model X.prog X.w) X.A (call (.ref f) us (ks.zip ws)) (EP X pn sh Q) X.xe st := by
  have both := bnd.rel rel relz
  have bind := bnd.to st us ws inv.kIn (rel.length.symm.trans len1) (relz.length.symm.trans len2)
  refine wpAny_call (codeAny_mono (prom.run X.A X.stack st Hh ⟨us, ks.zip ws⟩ (g us ws) (gV vs zs) Q (E sh) room inv.env0 bind both hyp) fun out st' got => ?_)
  cases out with
  | error ev => exact way pn Hh st ev st' inv got
  | ok fl =>
    cases fl with
    | ret u => exact inv.after got
    | next => exact (False.elim got)
    | brk => exact (False.elim got)
    | cont => exact (False.elim got)
theorem pe_mx (obj : PE X o to) (cls : Cls X.K C) (mt : Meth X.K C m f) (prom : FnOk X.prog X.w X.K X.mg X.base CX k f fd ps sp) (room : Room k X.A) (bnd : Binds X.K fd ps ds) (dfl : Vals dvs ds) (way : ∀ σ, PassesAt CX X σ (E σ)) (args : PA X (e :: es) t)
    (st1 : starEach (e :: es) X.env = (false, eval e X.env) :: starEach es X.env := by rfl) (st2 : (backTo pos (starEach es X.env)).any (·.1) = false := by rfl)
    (form : eval (.Call (.Attribute o m apos) (e :: es) [] pos) X.env = (do let ov ← eval o X.env; standAt apos.atName; let (fn, fst) ← holding [ov] (getMethod ov m pl); callWith pos fn fst (backTo pos (starEach (e :: es) X.env)) (backToKw pos (keywordEach [] X.env))) := by rfl) :
    PE X (.Call (.Attribute o m apos) (e :: es) [] pos) (tMx C m sp dvs E to t) := by
  refine ⟨fun pn sh st Hh Q inv hyp => ?_⟩
  refine PySem.W.methodCall_KW (pl := pl) (thn (obj.run pn sh st Hh _ inv hyp) fun ov s1 ⟨x, H1, I1, rel, a, dx, fs, ex, ins, noat, more⟩ => ?_) form
  subst ex
  obtain rfl : ov = Value.ref a := rel
  refine getmeth_ok I1 ins cls mt noat ?_
  refine PySem.W.callWith_K (first := [.ref a]) (h₀ := X.base) I1.ok.mod.kin mt.kp (thn (args.run pos pn s1 st H1 _ I1 more) fun us s2 ⟨vs, H2, I2, rels, fin⟩ => ⟨I2.kIn, ?_⟩) st1 st2
  exact run_fnSD (us := Value.ref a :: us) (vs := V.ref a :: vs) prom room bnd dfl (way st) I2 (.cons rfl rels) fin
/-- o.m(e, .., k = v, ..) -/
theorem pe_mk (obj : PE X o to) (cls : Cls X.K C) (mt : Meth X.K C m f) (prom : FnOk X.prog X.w X.K X.mg X.base CX k f fd ps sp) (room : Room k X.A) (bnd : KBn X.K fd ps (n + 1) ks g gV) (way : ∀ σ, PassesAt CX X σ (E σ)) (args : PA X (e :: es) t) (kargs : PK X kws tk)
    (ka : (backToKw pos (keywordEach kws X.env)).all (·.1.isSome) = true := by rfl) (kn : (backToKw pos (keywordEach kws X.env)).filterMap (·.1) = ks := by rfl)
    (st1 : starEach (e :: es) X.env = (false, eval e X.env) :: starEach es X.env := by rfl)
    (st2 : ((backTo pos (starEach (e :: es) X.env)).any (·.1) || (backToKw pos (keywordEach kws X.env)).any (·.1.isNone)) = false := by rfl)
    (form : eval (.Call (.Attribute o m apos) (e :: es) kws pos) X.env = (do let ov ← eval o X.env; standAt apos.atName; let (fn, fst) ← holding [ov] (getMethod ov m pl); callWith pos fn fst (backTo pos (starEach (e :: es) X.env)) (backToKw pos (keywordEach kws X.env))) := by rfl) :
    PE X (.Call (.Attribute o m apos) (e :: es) kws pos) (tMk C m n ks.length sp gV E to t tk) := by
  refine ⟨fun pn sh st Hh Q inv hyp => ?_⟩
  refine PySem.W.methodCall_KW (pl := pl) (thn (obj.run pn sh st Hh _ inv hyp) fun ov s1 ⟨x, H1, I1, rel, a, dx, fs, ex, ins, noat, more⟩ => ?_) form
  subst ex
  obtain rfl : ov = Value.ref a := rel
  refine getmeth_ok I1 ins cls mt noat ?_
  refine PySem.W.callWith_KW (first := [.ref a]) (h₀ := X.base) I1.ok.mod.kin mt.kp ka (thn (args.run pos pn s1 st H1 _ I1 more) fun us s2 ⟨vs, H2, I2, rels, mid⟩ => ?_) st2 st1
  refine thn (kargs.run pos pn s2 st H2 _ I2 mid) fun ws s3 ⟨zs, H3, I3, relz, l1, l2, fin⟩ => ⟨I3.kIn, ?_⟩
  rw [kn]
  exact run_kw (us := Value.ref a :: us) (vs := V.ref a :: vs) prom room bnd (way st) I3 (.cons rfl rels) relz (congrArg (· + 1) l1) l2 fin
end

/-! one try with any except clauses, with names or without (the library has one named clause, or several without names) -/
section
variable {X : Cx}
inductive Clause (X : Cx) : ExceptHandler → (WX → Ends → WX) → Prop
  | named {x n : Str} {c : Value} {i : Nat} {np pp : Pos} {ff : Stmt} {ss : List Stmt} {tt : Addr → Value → Option Addr → TS} (nm : Names X x c) (at_i : X.N[i]? = some n) (loc_n : X.env.kindOf n = some .local)
      (hsu : ∀ (a : Addr) (o : Obj) (cls : Value) (d : Option Addr) (pn : List (Addr × Obj)), Zc cls d o → (∃ vs, o.data = .fields vs) → PSs (X.suite a ((a, o) :: pn)) (ff :: ss) (tt a cls d)) :
      Clause X (.ExceptHandler (some (.Name x np)) (some n) (ff :: ss) pp) (fun Wn D => wAs X.K c i tt Wn D)
  | plain {x : Str} {c : Value} {np pp : Pos} {ff : Stmt} {ss : List Stmt} {tt : Addr → Value → Option Addr → TS} (nm : Names X x c)
      (hsu : ∀ (a : Addr) (o : Obj) (cls : Value) (d : Option Addr) (pn : List (Addr × Obj)), Zc cls d o → (∃ vs, o.data = .fields vs) → PSs (X.suite a ((a, o) :: pn)) (ff :: ss) (tt a cls d)) :
      Clause X (.ExceptHandler (some (.Name x np)) none (ff :: ss) pp) (fun Wn D cls d σ H => ∃ b, PySem.W.exmOne X.K cls c = some b ∧ (b = true → ∀ a, H a = none → tt a cls d D σ H) ∧ (b = false → Wn cls d σ H))
inductive Clauses (X : Cx) : List ExceptHandler → List (WX → Ends → WX) → Prop
  | nil : Clauses X [] []
  | cons {h : ExceptHandler} {w : WX → Ends → WX} {hs : List ExceptHandler} {ws : List (WX → Ends → WX)} : Clause X h w → Clauses X hs ws → Clauses X (h :: hs) (w :: ws)
def wishes (D : Ends) (Wout : WX) : List (WX → Ends → WX) → WX
  | [] => Wout
  | w :: ws => w (wishes D Wout ws) D
theorem ps_try_any {body : List Stmt} {h0 : ExceptHandler} {hds : List ExceptHandler} {ws : List (WX → Ends → WX)} {pos : Pos} {tb : WX → TS} {Wout : WX} (hst : X.stack = X.env :: X.outer) (hfr : X.env.frame = some X.env.locals) (nd : X.N.Nodup) (tk : Takes X Wout)
    (hbody : ∀ (W : WX) (pn : List (Addr × Obj)) (xe : Value → Shared → Prop), Takes (X.tr pn xe) W → PassesOwn (model X.prog X.w) X.A X.env xe → PSs (X.tr pn xe) body (tb W))
    (cl : Clauses X (h0 :: hds) ws) : PS X (.Try body (h0 :: hds) [] [] pos) (fun D σ H => tb (wishes D Wout ws) D σ H) := by
  refine ⟨fun pins sh st Hh D inv hyp => ?_⟩
  have okX := inv.ok
  have frs0 : X.A.frames = some (X.env :: X.outer) := okX.frames.trans (congrArg some hst)
  refine wpAny_Try_except ?_
  refine wpAny_mono ((hbody (wishes D Wout ws) (X.pn ++ pins) (fun ev q₁ => wpAny (model X.prog X.w) X.A (noteFrame ev X.env) (fun _ q₂ => wpAny (model X.prog X.w) X.A (setFlight ev none) (fun _ q₃ =>
    wpAny (model X.prog X.w) X.A (handleBy ev X.env (h0 :: hds)) (SP X pins D) X.xe q₃) X.xe q₂) X.xe q₁) (fun u z xx => ?_) PassesOwn.looking).run [] sh st Hh D (inv.toTry _) hyp) (fun fl z1 left => ?_) (fun _ _ same => same)
  · obtain ⟨a, B, zI, pins2, st2, Hh2, cls, d, rfl, JT, nb, up, sky, na, os, ag, wish⟩ := xx
    have J : Inv X pins st2 Hh2 zI := JT.ofTry okX
    have skyX : Sky B (X.env :: X.outer) a (Zc cls d) X.env.locals z.heap := hst ▸ sky
    show wpAny (model X.prog X.w) X.A (noteFrame (Value.ref a) X.env) _ _ _
    refine Sky.land Zc.steady frs0 hfr skyX fun hp flz upz => ?_
    have J3 : Inv X pins st2 Hh2 { z with heap := hp } := J.landed nb flz.1 (up.trans upz) os ag
    obtain ⟨oA, vsA, atA, zA, dA⟩ := flz.there
    have apart : a ∉ frs (X.env :: X.outer) := fun hm => by
      obtain ⟨_, o', e', hnf⟩ := flz.2.2.1.mem hm
      rw [atA] at e'
      cases e'
      exact hnf _ dA
    have n1 : a ≠ X.env.locals := fun w => apart (List.mem_filterMap.mpr ⟨X.env, List.mem_cons_self, hfr.trans (congrArg some w.symm)⟩)
    have n2 : a ∉ X.fs := fun hm => by
      obtain ⟨ee, he, q⟩ := List.mem_filterMap.mp hm
      exact apart (List.mem_filterMap.mpr ⟨ee, List.mem_cons_of_mem _ he, q⟩)
    have S3 := J3.suite atA dA na n1 n2
    have onward : ∀ {hs' : List ExceptHandler} {ws' : List (WX → Ends → WX)}, Clauses X hs' ws' → wishes D Wout ws' cls d st2 Hh2 → wpAny (model X.prog X.w) X.A (handleBy (.ref a) X.env hs') (SP X pins D) X.xe { z with heap := hp } := by
      intro hs' ws' all
      induction all with
      | nil =>
        intro out
        refine wpAny_handleBy_nil ?_
        obtain ⟨j1, j2, j3, oC, vC, T, oT, tC, atC, zC, dC, fC, rC⟩ := id flz
        unfold PySem.passOn
        refine wpAny_bind (wpAny_field atC dC fC ?_)
        rw [if_neg (show ¬ ((Value.ref T == Value.none) = true) by simp)]
        have fin : wpAny (model X.prog X.w) X.A (setFlight (.ref a) X.env.frame) (fun _ q4 => wpAny (model X.prog X.w) X.A (throw (.ref a) : Sem Flow) (SP X pins D) X.xe q4) X.xe { z with heap := hp } := by
          rw [hfr]
          refine HandSPX.setFlight_upZ flz fun hq fq uq => wpAny_throw (tk _ _ ?_)
          exact ⟨a, B, zI, pins, st2, Hh2, cls, d, rfl, J, nb, (up.trans upz).trans uq, .inr (.inr (hst.symm ▸ fq)), na, os, ag, out⟩
        first | (exact wpAny_bind (wpAny_pure (wpAny_bind fin))) | (exact wpAny_bind fin)
      | @cons h w more ws2 c1 _ ih =>
        intro wish2
        have looks : PySem.W.Looks (model X.prog X.w) hp (typeOf (.ref a)) cls := fun A Q E s k q => wpAny_typeOf_ref (k _ _ atA) (by rw [zA.1]; exact q)
        have test : ∀ {x' : Str} {c' : Value} {np : Pos} {Q E : Value → Shared → Prop}, Names X x' c' → Q c' { z with heap := hp } → wpAny (model X.prog X.w) (X.A.mark (some (.ref a))) (eval (.Name x' np) X.env) Q E { z with heap := hp } := fun {x' c' np Q E} nm q => by
          rcases nm with ⟨gl, nodb, known | ⟨unk, boot, nn⟩⟩
          · exact ld_glob (X := X.suite a ((a, oA) :: (X.pn ++ pins))) S3 gl known q nodb
          · exact ld_blt (X := X.suite a ((a, oA) :: (X.pn ++ pins))) S3 gl unk boot q nn nodb
        cases c1 with
        | @plain x' c' np pp ff ss tt nm hsu =>
          obtain ⟨b, isb, yes, no⟩ := wish2
          refine wpAny_handleBy_cons (codeAny_handlers_test ?_) (fun q => by cases q)
          refine test nm ((PySem.W.exm_one (M := model X.prog X.w) J3.kIn looks isb).here ?_)
          cases b with
          | false => exact ih (no rfl)
          | true =>
            refine (codeAny_handlers_suite ?_)
            refine HandSPX.lands_againZ flz fun hq flq upq => ?_
            have J4 : Inv X pins st2 Hh2 { z with heap := hq } := J.landed nb flq.1 ((up.trans upz).trans upq) os ag
            obtain ⟨oB, vsB, atB, zB, dB⟩ := flq.there
            have S4 := J4.suite atB dB na n1 n2
            refine wpAny_mono ((hsu a oB cls d (X.pn ++ pins) zB ⟨_, dB⟩).run [] _ _ Hh2 _ S4 (yes rfl a na)) (fun fl r6 got => ?_) (fun _ _ w => False.elim w)
            cases fl with
            | next =>
              obtain ⟨σ6, H6, S6, w⟩ := got
              exact ⟨_, _, S6.unsuite okX, w⟩
            | brk =>
              obtain ⟨σ6, H6, S6, w⟩ := got
              exact ⟨_, _, S6.unsuite okX, w⟩
            | cont =>
              obtain ⟨σ6, H6, S6, w⟩ := got
              exact ⟨_, _, S6.unsuite okX, w⟩
            | ret u =>
              obtain ⟨v6, σ6, H6, S6, r6', w⟩ := got
              exact ⟨_, _, _, S6.unsuite okX, r6', w⟩
        | @named x' n c' i np pp ff ss tt nm at_i loc_n hsu =>
          obtain ⟨b, isb, yes, no⟩ := wish2
          refine wpAny_handleBy_cons (codeAny_handlers_test ?_) (fun q => by cases q)
          refine test nm ((PySem.W.exm_one (M := model X.prog X.w) J3.kIn looks isb).here ?_)
          cases b with
          | false => exact ih (no rfl)
          | true =>
            refine (codeAny_handlers_suite_as ?_)
            refine HandSPX.lands_againZ flz fun hq flq upq => ?_
            have J4 : Inv X pins st2 Hh2 { z with heap := hq } := J.landed nb flq.1 ((up.trans upz).trans upq) os ag
            obtain ⟨oB, vsB, atB, zB, dB⟩ := flq.there
            have S4 := J4.suite atB dB na n1 n2
            refine store_ok (X := X.suite a ((a, oB) :: (X.pn ++ pins))) (v := .ref a) S4 nd at_i (.inl loc_n) rfl (fun r5 S5 => ?_) (.inr loc_n)
            refine wpAny_mono ((hsu a oB cls d (X.pn ++ pins) zB ⟨_, dB⟩).run [] r5 _ Hh2 _ S5 (yes rfl a na)) (fun fl r6 got => ?_) (fun _ _ w => False.elim w)
            have close : ∀ {σ6 : L2.St} {H6 : Hp} {Q : Shared → Prop}, Inv (X.suite a ((a, oB) :: (X.pn ++ pins))) [] σ6 H6 r6 → (∀ r7, Inv X pins (σ6.set i none) H6 r7 → Q r7) →
                wpAny (model X.prog X.w) X.A (do bindName X.env n .none; unbindBehindTheSuite X.env n pp) (fun _ r7 => Q r7) X.xe r6 := fun {σ6 H6 Q} S6 hq => gone_ok (S6.unsuite okX) nd at_i loc_n hq
            cases fl with
            | next =>
              obtain ⟨σ6, H6, S6, w⟩ := got
              exact close S6 fun r7 J7 => ⟨_, _, J7, w⟩
            | brk =>
              obtain ⟨σ6, H6, S6, w⟩ := got
              exact close S6 fun r7 J7 => ⟨_, _, J7, w⟩
            | cont =>
              obtain ⟨σ6, H6, S6, w⟩ := got
              exact close S6 fun r7 J7 => ⟨_, _, J7, w⟩
            | ret u =>
              obtain ⟨v6, σ6, H6, S6, r6', w⟩ := got
              exact close S6 fun r7 J7 => ⟨_, _, _, J7, r6', w⟩
    exact onward cl wish
  · cases fl with
    | next =>
      obtain ⟨σ', H', J', q⟩ := left
      exact wpAny_execs_nil ⟨σ', H', J'.ofTry okX, q⟩
    | brk =>
      obtain ⟨σ', H', J', q⟩ := left
      exact ⟨σ', H', J'.ofTry okX, q⟩
    | cont =>
      obtain ⟨σ', H', J', q⟩ := left
      exact ⟨σ', H', J'.ofTry okX, q⟩
    | ret u =>
      obtain ⟨v, σ', H', J', r, q⟩ := left
      exact ⟨v, σ', H', J'.ofTry okX, r, q⟩
end

section
variable {X : Cx}
/-- isinstance(e, C), e the error that the suite holds, of the class D -/
def rIsE' (K : PySem.W.Frag) (D a : Addr) (cls : Value) (d : Option Addr) : List V → Hp → VK → Prop := fun xs H Q => cls = .ref D ∧ d = none ∧ rIsE K D a xs H Q
theorem call_isE' {a D : Addr} {cls : Value} {d : Option Addr} {oe : Obj} {pn : List (Addr × Obj)} (C : ExcC X.K D) (hz : Zc cls d oe) (hf : ∃ vs, oe.data = .fields vs) : CallR (X.suite a ((a, oe) :: pn)) (.builtin "isinstance") (rIsE' X.K D a cls d) := by
  intro pins s σ H xs us Q I r h
  obtain ⟨rfl, rfl, h⟩ := h
  exact call_isE C hz hf pins s σ H xs us Q I r h
end

/-! ### the mathematics of a tape, over lists of codes -/
def chkF (v : Nat) (l : List Nat) : Nat := l.foldl (fun v c => (v * 31 + c) % 9973) v
def dig4 (n : Nat) : List Nat := [48 + n / 1000, 48 + n / 100 % 10, 48 + n / 10 % 10, 48 + n % 10]
/-- a line: what stands ahead of the text, the text, the check -/
def lineP (p t : List Nat) : List Nat := p ++ t ++ ([32] ++ dig4 (chkF 7 (p ++ t)) ++ [10])
def goodT (t : List Nat) : Bool := !t.isEmpty && t.all (fun c => decide (32 ≤ c ∧ c ≤ 126))
theorem goodT_iff {t : List Nat} : goodT t = true ↔ t ≠ [] ∧ ∀ c, c ∈ t → 32 ≤ c ∧ c ≤ 126 := by
  unfold goodT
  rw [Bool.and_eq_true, List.all_eq_true]
  constructor
  · rintro ⟨h1, h2⟩
    refine ⟨fun e => by rw [e] at h1; simp at h1, fun c hc => of_decide_eq_true (h2 c hc)⟩
  · rintro ⟨h1, h2⟩
    refine ⟨?_, fun c hc => decide_eq_true (h2 c hc)⟩
    cases t with
    | nil => exact absurd rfl h1
    | cons a b => rfl
theorem chkF_lt {v : Nat} (h : v < 9973) : ∀ l : List Nat, chkF v l < 9973
  | [] => h
  | c :: l => chkF_lt (v := (v * 31 + c) % 9973) (Nat.mod_lt _ (by decide)) l
theorem chkF_inj : ∀ (l : List Nat) {v w : Nat}, v < 9973 → w < 9973 → chkF v l = chkF w l → v = w
  | [], _, _, _, _, h => h
  | c :: l, v, w, hv, hw, h => by
    have := chkF_inj l (Nat.mod_lt _ (by decide)) (Nat.mod_lt _ (by decide)) h
    omega
theorem chkF_append (v : Nat) (a b : List Nat) : chkF v (a ++ b) = chkF (chkF v a) b := List.foldl_append ..
/-- one sign changed: the check is another one -/
theorem chkF_one {v : Nat} {a b : List Nat} {c d : Nat} (hc : c < 9973) (hd : d < 9973) (h : chkF v (a ++ c :: b) = chkF v (a ++ d :: b)) : c = d := by
  rw [chkF_append, chkF_append] at h
  have := chkF_inj b (v := (chkF v a * 31 + c) % 9973) (w := (chkF v a * 31 + d) % 9973) (Nat.mod_lt _ (by decide)) (Nat.mod_lt _ (by decide)) h
  omega
theorem dig4_inj {n m : Nat} (h : dig4 n = dig4 m) : n = m := by
  unfold dig4 at h
  simp only [List.cons.injEq, and_true] at h
  omega
theorem dig4_no {n : Nat} : 10 ∉ dig4 n := by
  unfold dig4
  simp only [List.mem_cons, List.not_mem_nil, or_false]
  omega
theorem lineP_len (p t : List Nat) : (lineP p t).length = p.length + t.length + 6 := by
  unfold lineP dig4
  simp only [List.length_append, List.length_cons, List.length_nil]
/-- up to the newline -/
def rowOf : List Nat → List Nat
  | [] => []
  | c :: r => if c = 10 then [10] else if 10 ∈ r then c :: rowOf r else []
theorem rowOf_no : ∀ {l : List Nat}, 10 ∉ l → rowOf l = []
  | [], _ => rfl
  | c :: r, h => by
    unfold rowOf
    rw [if_neg fun e => h (by rw [e]; exact List.mem_cons_self), if_neg fun e => h (List.mem_cons_of_mem _ e)]
theorem rowOf_app : ∀ {a b : List Nat}, 10 ∉ a → rowOf (a ++ 10 :: b) = a ++ [10]
  | [], b, _ => by
    show rowOf (10 :: b) = [10]
    unfold rowOf
    rw [if_pos rfl]
  | c :: r, b, h => by
    show rowOf (c :: (r ++ 10 :: b)) = c :: (r ++ [10])
    unfold rowOf
    rw [if_neg fun e => h (by rw [e]; exact List.mem_cons_self), if_pos (by simp), rowOf_app fun e => h (List.mem_cons_of_mem _ e)]
theorem split10 : ∀ {l : List Nat}, 10 ∈ l → ∃ a b, l = a ++ 10 :: b ∧ 10 ∉ a
  | c :: r, h => by
    by_cases hc : c = 10
    · exact ⟨[], r, by rw [hc]; rfl, by simp⟩
    · obtain ⟨a, b, e, n⟩ := split10 (l := r) ((List.mem_cons.mp h).resolve_left fun e => hc e.symm)
      refine ⟨c :: a, b, by rw [e]; rfl, fun z => ?_⟩
      rcases List.mem_cons.mp z with z | z
      · exact hc z.symm
      · exact n z
def bodyOf (k : Nat) (row : List Nat) : List Nat := (row.drop k).take (row.length - 6 - k)
/-- the text that stands at the beginning, if a good line stands there -/
def textAt (p r : List Nat) : Option (List Nat) := if goodT (bodyOf p.length (rowOf r)) = true ∧ lineP p (bodyOf p.length (rowOf r)) = rowOf r then some (bodyOf p.length (rowOf r)) else none
theorem bodyOf_line (p t : List Nat) : bodyOf p.length (lineP p t) = t := by
  unfold bodyOf
  rw [lineP_len, show p.length + t.length + 6 - 6 - p.length = t.length by omega]
  unfold lineP
  rw [List.append_assoc, List.drop_left, List.take_left]
theorem no10_good {t : List Nat} (h : goodT t = true) : 10 ∉ t := fun z => by
  have := (goodT_iff.mp h).2 10 z
  omega
/-- a line without its newline -/
def bareP (p t : List Nat) : List Nat := p ++ t ++ ([32] ++ dig4 (chkF 7 (p ++ t)))
theorem lineP_bare (p t : List Nat) : lineP p t = bareP p t ++ [10] := by
  unfold lineP bareP
  simp only [List.append_assoc]
theorem bareP_no {p t : List Nat} (hp : 10 ∉ p) (ht : 10 ∉ t) : 10 ∉ bareP p t := by
  unfold bareP
  simp only [List.mem_append, not_or]
  exact ⟨⟨hp, ht⟩, by decide, dig4_no⟩
theorem rowOf_line {p t r : List Nat} (hp : 10 ∉ p) (ht : 10 ∉ t) : rowOf (lineP p t ++ r) = lineP p t := by
  rw [lineP_bare, List.append_assoc]
  exact rowOf_app (bareP_no hp ht)
theorem textAt_line {p t r : List Nat} (hp : 10 ∉ p) (ht : goodT t = true) : textAt p (lineP p t ++ r) = some t := by
  unfold textAt
  rw [rowOf_line hp (no10_good ht), bodyOf_line, if_pos ⟨ht, rfl⟩]
theorem textAt_no {p r : List Nat} (h : 10 ∉ r) : textAt p r = none := by
  unfold textAt
  rw [rowOf_no h, show bodyOf p.length [] = [] from by unfold bodyOf; simp]
  exact if_neg fun z => by have := (goodT_iff.mp z.1).1; exact this rfl
theorem textAt_some {p r t : List Nat} (h : textAt p r = some t) : goodT t = true ∧ rowOf r = lineP p t := by
  unfold textAt at h
  split at h
  · rename_i z
    cases h
    exact ⟨z.1, z.2.symm⟩
  · cases h
theorem rowOf_pre : ∀ r : List Nat, rowOf r = [] ∨ ∃ s, r = rowOf r ++ s
  | [] => .inl rfl
  | c :: r => by
    unfold rowOf
    by_cases hc : c = 10
    · rw [if_pos hc]
      exact .inr ⟨r, by rw [hc]; rfl⟩
    · rw [if_neg hc]
      by_cases hr : 10 ∈ r
      · rw [if_pos hr]
        rcases rowOf_pre r with h | ⟨s, h⟩
        · exfalso
          obtain ⟨a, b, e, n⟩ := split10 hr
          rw [e, rowOf_app n] at h
          simp at h
        · exact .inr ⟨s, by rw [List.cons_append, ← h]⟩
      · rw [if_neg hr]
        exact .inl rfl
theorem lineP_ne (p t : List Nat) : lineP p t ≠ [] := fun e => by
  have := congrArg List.length e
  rw [lineP_len] at this
  simp at this
/-- what is read from the line k on: the texts and how long they are -/
inductive Reads (p : Nat → List Nat) : List Nat → Nat → List (List Nat) → Nat → Prop where
  | stop {r k} (h : textAt (p k) r = none) : Reads p r k [] 0
  | step {r k t ts n} (h : textAt (p k) r = some t) (g : Reads p (r.drop (lineP (p k) t).length) (k + 1) ts n) : Reads p r k (t :: ts) ((lineP (p k) t).length + n)
def rowsP (p : Nat → List Nat) : Nat → List (List Nat) → List (List Nat)
  | _, [] => []
  | k, t :: ts => lineP (p k) t :: rowsP p (k + 1) ts
theorem rowsP_len (p : Nat → List Nat) : ∀ (ts : List (List Nat)) (k : Nat), (rowsP p k ts).length = ts.length
  | [], _ => rfl
  | t :: ts, k => by
    show (rowsP p (k + 1) ts).length + 1 = ts.length + 1
    rw [rowsP_len p ts (k + 1)]
theorem rowsP_at (p : Nat → List Nat) : ∀ (ts : List (List Nat)) (k i : Nat), (rowsP p k ts)[i]? = (ts[i]?).map (lineP (p (k + i)))
  | [], _, _ => by simp [rowsP]
  | t :: ts, k, 0 => rfl
  | t :: ts, k, i + 1 => by
    show (rowsP p (k + 1) ts)[i]? = (ts[i]?).map _
    rw [rowsP_at p ts (k + 1) i, show k + 1 + i = k + (i + 1) by omega]
/-- good lines are read -/
theorem reads_ahead {p : Nat → List Nat} (hp : ∀ k, 10 ∉ p k) {r : List Nat} {us : List (List Nat)} {n : Nat} : ∀ (ts : List (List Nat)) (k : Nat), (∀ t, t ∈ ts → goodT t = true) → Reads p r (k + ts.length) us n →
    Reads p ((rowsP p k ts).flatten ++ r) k (ts ++ us) ((rowsP p k ts).flatten.length + n)
  | [], k, _, h => by
    show Reads p ([] ++ r) k ([] ++ us) (0 + n)
    rw [List.nil_append, List.nil_append, Nat.zero_add]
    exact h
  | t :: ts, k, g, h => by
    have ih := reads_ahead hp ts (k + 1) (fun x hx => g x (List.mem_cons_of_mem _ hx)) (by rw [show k + 1 + ts.length = k + (t :: ts).length by rw [List.length_cons]; omega]; exact h)
    show Reads p ((lineP (p k) t ++ (rowsP p (k + 1) ts).flatten) ++ r) k (t :: (ts ++ us)) ((lineP (p k) t ++ (rowsP p (k + 1) ts).flatten).length + n)
    rw [List.length_append, Nat.add_assoc, List.append_assoc]
    refine .step (textAt_line (hp k) (g t List.mem_cons_self)) ?_
    rw [List.drop_left]
    exact ih
/-- how many of the first lines fit -/
def fit : Nat → List (List Nat) → Nat
  | _, [] => 0
  | cut, l :: ls => if l.length ≤ cut then fit (cut - l.length) ls + 1 else 0
theorem fit_le : ∀ (ls : List (List Nat)) (cut : Nat), fit cut ls ≤ ls.length
  | [], _ => Nat.le_refl _
  | l :: ls, cut => by
    unfold fit
    split
    · have := fit_le ls (cut - l.length)
      rw [List.length_cons]
      omega
    · omega
theorem fit_lt : ∀ (ls : List (List Nat)) (cut i : Nat) {l : List Nat}, i ≤ fit cut ls → ls[i]? = some l → (i < fit cut ls ↔ (ls.take i).flatten.length + l.length ≤ cut)
  | [], _, _, _, _, h => by simp at h
  | a :: ls, cut, 0, l, _, h => by
    have e : a = l := by simpa using h
    unfold fit
    rw [e, List.take_zero]
    split <;> simp <;> omega
  | a :: ls, cut, i + 1, l, hi, h => by
    have h2 : ls[i]? = some l := by simpa using h
    unfold fit at hi ⊢
    rw [List.take_succ_cons, List.flatten_cons, List.length_append]
    split
    · rename_i ha
      rw [if_pos ha] at hi
      have := fit_lt ls (cut - a.length) i (by omega) h2
      omega
    · rename_i ha
      rw [if_neg ha] at hi
      omega
/-- a tape that is cut -/
theorem reads_cut {p : Nat → List Nat} (hp : ∀ k, 10 ∉ p k) : ∀ (ts : List (List Nat)) (k cut : Nat), (∀ t, t ∈ ts → goodT t = true) →
    Reads p ((rowsP p k ts).flatten.take cut) k (ts.take (fit cut (rowsP p k ts))) ((rowsP p k ts).take (fit cut (rowsP p k ts))).flatten.length
  | [], k, cut, _ => by
    show Reads p (([] : List Nat).take cut) k [] 0
    rw [List.take_nil]
    exact .stop (textAt_no (by simp))
  | t :: ts, k, cut, g => by
    show Reads p ((lineP (p k) t ++ (rowsP p (k + 1) ts).flatten).take cut) k ((t :: ts).take (fit cut (lineP (p k) t :: rowsP p (k + 1) ts))) ((lineP (p k) t :: rowsP p (k + 1) ts).take (fit cut (lineP (p k) t :: rowsP p (k + 1) ts))).flatten.length
    unfold fit
    by_cases h : (lineP (p k) t).length ≤ cut
    · rw [if_pos h, List.take_succ_cons, List.take_succ_cons, List.flatten_cons, List.length_append, List.take_append, List.take_of_length_le h]
      refine .step (textAt_line (hp k) (g t List.mem_cons_self)) ?_
      rw [List.drop_left]
      exact reads_cut hp ts (k + 1) _ fun x hx => g x (List.mem_cons_of_mem _ hx)
    · rw [if_neg h]
      refine .stop (textAt_no fun z => ?_)
      rw [List.take_append_of_le_length (by omega), lineP_bare, List.take_append_of_le_length (by rw [lineP_bare, List.length_append, List.length_singleton] at h; omega)] at z
      exact bareP_no (hp k) (no10_good (g t List.mem_cons_self)) (List.mem_of_mem_take z)
/-- a line with one other sign is no good line -/
theorem textAt_changed {p t r a b : List Nat} {c d : Nat} (hp : 10 ∉ p) (hpl : ∀ x, x ∈ p → x < 9973) (ht : goodT t = true) (e : bareP p t = a ++ c :: b) (hne : d ≠ c) (hd : d ≠ 10) (hd2 : d < 9973) : textAt p (a ++ d :: b ++ 10 :: r) = none := by
  cases h : textAt p (a ++ d :: b ++ 10 :: r) with
  | none => rfl
  | some u =>
    exfalso
    obtain ⟨gu, hr⟩ := textAt_some h
    have hno := bareP_no hp (no10_good ht)
    rw [e] at hno
    have hno2 : 10 ∉ a ++ d :: b := by
      simp only [List.mem_append, List.mem_cons, not_or] at hno ⊢
      exact ⟨hno.1, fun z => hd z.symm, hno.2.2⟩
    rw [rowOf_app hno2, lineP_bare] at hr
    have h2 : bareP p u = a ++ d :: b := (List.append_cancel_right hr).symm
    have hl : u.length = t.length := by
      have h3 := congrArg List.length h2
      have h4 := congrArg List.length e
      unfold bareP at h3 h4
      simp only [List.length_append, List.length_cons] at h3 h4
      have e1 : (dig4 (chkF 7 (p ++ t))).length = 4 := rfl
      have e2 : (dig4 (chkF 7 (p ++ u))).length = 4 := rfl
      rw [e1] at h4
      rw [e2] at h3
      omega
    -- the numbered parts differ at one place, or are the same
    have hA : ∀ x : List Nat, x.length = t.length → ∀ y, bareP p x = y → p ++ x = y.take (p.length + t.length) ∧ dig4 (chkF 7 (p ++ x)) = y.drop (p.length + t.length + 1) := by
      intro x hx y hy
      rw [← hy]
      unfold bareP
      constructor
      · rw [List.take_append_of_le_length (by rw [List.length_append, hx]; exact Nat.le_refl _), List.take_of_length_le (by rw [List.length_append, hx]; exact Nat.le_refl _)]
      · rw [List.drop_append, List.drop_of_length_le (by rw [List.length_append, hx]; omega), List.nil_append, List.length_append, hx, show p.length + t.length + 1 - (p.length + t.length) = 1 by omega]
        rfl
    obtain ⟨t1, t2⟩ := hA t rfl _ e
    obtain ⟨u1, u2⟩ := hA u hl _ h2
    by_cases hpl2 : a.length < p.length + t.length
    · -- the changed sign stands in the numbered part: the check digits are the same
      have f : ∀ x : Nat, (a ++ x :: b).take (p.length + t.length) = a ++ x :: b.take (p.length + t.length - a.length - 1) := by
        intro x
        rw [List.take_append, List.take_of_length_le (by omega), show p.length + t.length - a.length = (p.length + t.length - a.length - 1) + 1 by omega, List.take_succ_cons, show p.length + t.length - a.length - 1 + 1 - 1 = p.length + t.length - a.length - 1 by omega]
      have g : ∀ x : Nat, (a ++ x :: b).drop (p.length + t.length + 1) = b.drop (p.length + t.length - a.length) := by
        intro x
        rw [List.drop_append, List.drop_of_length_le (by omega), List.nil_append, show p.length + t.length + 1 - a.length = (p.length + t.length - a.length) + 1 by omega, List.drop_succ_cons]
      rw [f] at t1 u1
      rw [g] at t2 u2
      have hc := dig4_inj (t2.trans u2.symm)
      rw [t1, u1] at hc
      have hcl : c < 9973 := by
        have : c ∈ p ++ t := by rw [t1]; simp
        rcases List.mem_append.mp this with z | z
        · exact hpl c z
        · have := (goodT_iff.mp ht).2 c z; omega
      exact hne (chkF_one hcl hd2 hc).symm
    · -- it stands behind: the texts are the same, so the lines are
      have f : ∀ x : Nat, (a ++ x :: b).take (p.length + t.length) = a.take (p.length + t.length) := fun x => List.take_append_of_le_length (by omega)
      rw [f] at t1 u1
      have : t = u := List.append_cancel_left (t1.trans u1.symm)
      rw [← this, e] at h2
      have := List.append_cancel_left h2
      injection this with z _
      exact hne z.symm

/-! ### texts by their codes -/
def strL (l : List Nat) : Str := ⟨l.toArray⟩
theorem strL_tl (x : Str) : strL (TL.tl x) = x := TL.mk_tl x
theorem tl_strL (l : List Nat) : TL.tl (strL l) = l := TL.tl_mk l
theorem strL_len (l : List Nat) : (strL l).length = l.length := by rw [TL.len_tl, tl_strL]
theorem strL_inj {a b : List Nat} (h : strL a = strL b) : a = b := by rw [← tl_strL a, h, tl_strL]
theorem natAbs_log {c : Int} {k : Nat} (h : c.natAbs < 2 ^ k) (hk : k ≤ 1920) (h0 : 0 < k) : c.natAbs.log2 < 1920 := by
  by_cases z : c.natAbs = 0
  · rw [z]
    decide
  · have := (Nat.log2_lt z).mpr h
    omega
theorem cut_nat {z : Str} {i j : Nat} : TL.tl (cutS z (some (i : Int)) (some (j : Int))) = ((TL.tl z).drop i).take (j - i) := by
  unfold cutS
  rw [TL.tl_mk, HT.sIx_nat, HT.sIx_nat, TL.len_tl]
  show (((TL.tl z).drop (min i (TL.tl z).length)).take (min j (TL.tl z).length - min i (TL.tl z).length)) = _
  rcases Nat.le_total i (TL.tl z).length with h | h
  · rw [Nat.min_eq_left h]
    rcases Nat.le_total j (TL.tl z).length with h2 | h2
    · rw [Nat.min_eq_left h2]
    · rw [Nat.min_eq_right h2, List.take_of_length_le (by rw [List.length_drop]; exact Nat.le_refl _), List.take_of_length_le (by rw [List.length_drop]; omega)]
  · rw [Nat.min_eq_right h, List.drop_of_length_le (Nat.le_refl _), List.drop_of_length_le h, List.take_nil, List.take_nil]
theorem cut_end {z : Str} {i : Nat} : TL.tl (cutS z none (some (i : Int))) = (TL.tl z).take i := by
  unfold cutS
  rw [TL.tl_mk, HT.sIx_nat, HT.sIx_none, TL.len_tl]
  show (((TL.tl z).drop 0).take (min i (TL.tl z).length - 0)) = _
  rw [List.drop_zero, Nat.sub_zero]
  rcases Nat.le_total i (TL.tl z).length with h | h
  · rw [Nat.min_eq_left h]
  · rw [Nat.min_eq_right h, List.take_length, List.take_of_length_le h]
theorem cut_begin {z : Str} {i : Nat} : TL.tl (cutS z (some (i : Int)) none) = (TL.tl z).drop i := by
  unfold cutS
  rw [TL.tl_mk, HT.sIx_nat, HT.sIx_none, TL.len_tl]
  show (((TL.tl z).drop (min i (TL.tl z).length)).take ((TL.tl z).length - min i (TL.tl z).length)) = _
  rcases Nat.le_total i (TL.tl z).length with h | h
  · rw [Nat.min_eq_left h, List.take_of_length_le (by rw [List.length_drop]; exact Nat.le_refl _)]
  · rw [Nat.min_eq_right h, List.drop_of_length_le (Nat.le_refl _), List.drop_of_length_le h, List.take_nil]
theorem cut_body {z : Str} {i : Nat} : TL.tl (cutS z (some (i : Int)) (some (-6))) = bodyOf i (TL.tl z) := by
  unfold cutS bodyOf
  rw [TL.tl_mk, HT.sIx_nat, TL.len_tl]
  show (((TL.tl z).drop (min i (TL.tl z).length)).take ((if (-6 : Int) < 0 then ((-6 : Int) + ((TL.tl z).length : Int)).toNat else min (-6 : Int).toNat (TL.tl z).length) - min i (TL.tl z).length)) = _
  rw [if_pos (by decide), show ((-6 : Int) + ((TL.tl z).length : Int)).toNat = (TL.tl z).length - 6 by omega]
  rcases Nat.le_total i (TL.tl z).length with h | h
  · rw [Nat.min_eq_left h]
  · rw [Nat.min_eq_right h, List.drop_of_length_le (Nat.le_refl _), List.drop_of_length_le h, List.take_nil, List.take_nil]
theorem len_le' {n m : Nat} (h : n ≤ m) (h2 : Nat.ble m 1000 = true) : n ≤ sizeLine := Nat.le_trans h (len_le h2)
/-- the newline from the place s on -/
theorem find_row (x : Str) (s : Nat) (hs : s ≤ x.length) : (Txt.find3 x "\n" (s : Int) = -1 ∧ rowOf ((TL.tl x).drop s) = []) ∨
    (∃ m : Nat, (rowOf ((TL.tl x).drop s)).length = m + 1 ∧ Txt.find3 x "\n" (s : Int) = ((s + m : Nat) : Int) ∧ rowOf ((TL.tl x).drop s) = ((TL.tl x).drop s).take (m + 1) ∧ s + m < x.length) := by
  have hf : PySem.fromIndex x.length (s : Int) = s := by
    unfold PySem.fromIndex
    rw [if_neg (by omega)]
    rfl
  have hlen := TL.len_tl x
  have gd : ∀ v, v < x.length → x.cps.getD v 0 = ((TL.tl x).drop s).getD (v - s) 0 ∨ v < s := by
    intro v hv
    by_cases h : v < s
    · exact .inr h
    · refine .inl ?_
      rw [List.getD_eq_getElem?_getD, List.getElem?_drop, show s + (v - s) = v by omega]
      have h2 : v < (TL.tl x).length := by omega
      rw [List.getElem?_eq_getElem h2]
      exact PySem.StrLaws.getD_of_getElem? (List.getElem?_eq_getElem h2)
  rcases PySem.StrLaws.find3_spec x 10 (s : Int) with ⟨h0, hn⟩ | ⟨k, hk, h1, h2, h3, h4⟩
  · left
    refine ⟨h0, rowOf_no fun z => ?_⟩
    obtain ⟨i, hi⟩ := List.mem_iff_getElem?.mp z
    have hil := (List.getElem?_eq_some_iff.mp hi).1
    rw [List.length_drop] at hil
    rw [hf] at hn
    refine hn (s + i) (by omega) (by omega) ?_
    rcases gd (s + i) (by omega) with e | e
    · rw [e, List.getD_eq_getElem?_getD, show s + i - s = i by omega, hi]
      rfl
    · omega
  · right
    rw [hf] at h1 h4
    have hdl : ((TL.tl x).drop s).length = x.length - s := by rw [List.length_drop, hlen]
    have hat : ((TL.tl x).drop s)[k - s]? = some 10 := by
      rcases gd k h2 with e | e
      · rw [h3, List.getD_eq_getElem?_getD] at e
        have hl : k - s < ((TL.tl x).drop s).length := by omega
        rw [List.getElem?_eq_getElem hl] at e ⊢
        rw [e]
        rfl
      · omega
    have hno : 10 ∉ ((TL.tl x).drop s).take (k - s) := fun z => by
      obtain ⟨i, hi⟩ := List.mem_iff_getElem?.mp z
      have hil := (List.getElem?_eq_some_iff.mp hi).1
      rw [List.length_take] at hil
      rw [List.getElem?_take_of_lt (by omega)] at hi
      refine h4 (s + i) (by omega) (by omega) ?_
      rcases gd (s + i) (by omega) with e | e
      · rw [e, List.getD_eq_getElem?_getD, show s + i - s = i by omega, hi]
        rfl
      · omega
    have hsp : (TL.tl x).drop s = ((TL.tl x).drop s).take (k - s) ++ 10 :: ((TL.tl x).drop s).drop (k - s + 1) := by
      have e1 := List.take_append_drop (k - s) ((TL.tl x).drop s)
      have e2 := List.drop_eq_getElem_cons (l := (TL.tl x).drop s) (i := k - s) (by omega)
      have e3 : ((TL.tl x).drop s)[k - s]'(by omega) = 10 := by
        rw [List.getElem?_eq_getElem (by omega)] at hat
        exact Option.some.inj hat
      rw [e3] at e2
      rw [← e2]
      exact e1.symm
    have hrow : rowOf ((TL.tl x).drop s) = ((TL.tl x).drop s).take (k - s) ++ [10] := by
      rw [hsp]
      have h5 : ((((TL.tl x).drop s).take (k - s) ++ 10 :: ((TL.tl x).drop s).drop (k - s + 1)).take (k - s)) = ((TL.tl x).drop s).take (k - s) := by
        rw [← hsp]
      rw [h5]
      exact rowOf_app hno
    refine ⟨k - s, ?_, ?_, ?_, by omega⟩
    · rw [hrow, List.length_append, List.length_take, List.length_singleton]
      omega
    · have : (Txt.find3 x "\n" (s : Int)) = (k : Int) := hk
      rw [this]
      omega
    · rw [hrow, take_succ hat]

/-! ### {x:04d} -/
theorem pad4 {n : Nat} (h : n < 10000) : List.replicate (4 - (TL.numL n).length) 48 ++ TL.numL n = dig4 n := by
  unfold dig4
  by_cases h1 : n < 10
  · rw [TL.numL_lt h1, show n / 1000 = 0 by omega, show n / 100 % 10 = 0 by omega, show n / 10 % 10 = 0 by omega, show n % 10 = n by omega] <;> rfl
  · rw [TL.numL_step (by omega)]
    by_cases h2 : n / 10 < 10
    · rw [TL.numL_lt h2, show n / 1000 = 0 by omega, show n / 100 % 10 = 0 by omega, show n / 10 % 10 = n / 10 by omega] <;> rfl
    · rw [TL.numL_step (n := n / 10) (by omega)]
      by_cases h3 : n / 10 / 10 < 10
      · rw [TL.numL_lt h3, show n / 1000 = 0 by omega, show n / 100 % 10 = n / 10 / 10 by omega] <;> rfl
      · rw [TL.numL_step (n := n / 10 / 10) (by omega), TL.numL_lt (n := n / 10 / 10 / 10) (by omega), show n / 1000 = n / 10 / 10 / 10 by omega, show n / 100 % 10 = n / 10 / 10 % 10 by omega] <;> rfl
theorem numL_4 {n : Nat} (h : n < 10000) : (TL.numL n).length ≤ 4 ∧ TL.numL n ≠ [] := ⟨TL.numL_len (by decide) (by omega), TL.numL_ne n⟩
section
open Builtin Builtin.Str Builtin.Int Builtin.Float
set_option maxHeartbeats 0 in
theorem fig4 {a : Int} (h0 : 0 ≤ a) (h1 : a < 9973) : ∀ {prog : Program} {w : World} {A : Around} {E : Value → Shared → Prop} {s : Shared} {t : Tok} {Q : Value → Shared → Prop},
    (∀ t' k, Q (.str ⟨(dig4 a.toNat).toArray⟩ t') { s with toks := k }) → wpAny (model prog w) A (formatField (.int a t) "04d") Q E s := by
  intro prog w A E s t Q h
  obtain ⟨n, rfl⟩ := Int.eq_ofNat_of_zero_le h0
  have hn : n < 9973 := by omega
  refine PySem.W.KXf.field_int (y := ⟨(dig4 n).toArray⟩) (spec' := "04d") rfl (by decide +kernel) (by decide +kernel) ?_ h
  intro _
  apply PySem.W.KPc.meets_of
  intro _ _ _ _ _ _ _
  unfold Builtin.«int.__format__»
  refine wpAny_bind (wpAny_of_eq (a := (_, _)) rfl ?_)
  refine wpAny_bind (wpAny_of_eq (a := _) rfl ?_)
  kxf_if
  refine wpAny_bind (wpAny_typeNameOf (T := "str") (typeIs_str _ _ _) (by decide) fun _ => ?_)
  refine wpAny_bind (wpAny_of_eq (a := some _) rfl ?_)
  kxf_if
  kxf_if
  refine wpAny_bind (wpAny_typeNameOfCut_int ?_)
  (repeat kxf_if)
  refine wpAny_bind (wpAny_of_eq (PySem.overDigitLimit_small (natAbs_log (k := 14) (by omega) (by decide) (by decide))) ?_)
  (repeat kxf_if)
  refine (fun e => PySem.W.KXf.ret_text (T := ⟨(dig4 n).toArray⟩) e (by rw [e]; show 4 ≤ sizeLine; decide) (by assumption)) ?_
  rw [show decide ((n : Int) < 0) = false from decide_eq_false (by omega)]
  rw [← pad4 (show n < 10000 by omega)]
  generalize hds : List.map _ (Nat.toDigits _ _) = ds
  have hds2 : ds = TL.numL n := hds.symm.trans (by rfl)
  obtain ⟨hl, hne⟩ := numL_4 (show n < 10000 by omega)
  rw [← hds2] at hl hne ⊢
  clear hds hds2
  rcases ds with _ | ⟨a, _ | ⟨b, _ | ⟨c, _ | ⟨d, _ | ⟨e, r⟩⟩⟩⟩⟩
  · exact absurd rfl hne
  · rfl
  · rfl
  · rfl
  · rfl
  · simp at hl
end
section
variable {X : Cx}
/-- {x:04d}, x from 0 to 9972 -/
def tFmt4 (te : TE) : TE := fun σ H Q => te σ H fun x H1 => ∃ i : Int, x = .int i ∧ 0 ≤ i ∧ i < 9973 ∧ Q (.str ⟨(dig4 i.toNat).toArray⟩) H1
theorem pe_fmt04 {e : Expr} {te : TE} {j : Nat} {p1 p2 pos : Pos} (he : PE X e te) : PE X (.FormattedValue e (-1) (some (.JoinedStr [.Constant (.str "04d") j p1] p2)) pos) (tFmt4 te) := by
  refine ⟨fun pins s σ H Q I h => ?_⟩
  refine wpAny_FormattedValue_spec (thn (he.run pins s σ H _ I h) fun v s1 hv => ?_)
  obtain ⟨x, H1, I1, r1, i, rfl, h0, h1, q⟩ := hv
  obtain ⟨t, rfl⟩ := r1
  refine thn ((pe_joined1 pe_str : PE X (.JoinedStr [.Constant (.str "04d") j p1] p2) (tC (.str "04d"))).run pins s1 σ H1 (fun v H2 => v = .str "04d" ∧ H2 = H1) I1 ⟨rfl, rfl⟩) fun v2 s2 hv2 => ?_
  obtain ⟨x2, H2, I2, r2, rfl, rfl⟩ := hv2
  obtain ⟨t2, rfl⟩ := r2
  exact ⟨_, t2, rfl, fig4 h0 h1 fun t' k => ⟨.str _, _, I2.tok k, ⟨t', rfl⟩, q⟩⟩
end

section
variable {P : Program} {w : World} {K : PySem.W.Frag} {mg : Str → Option Value} {base : Heap}
/-- a field of an instance, set and read -/
theorem setF {K : PySem.W.Frag} {C x dx : Addr} {fs : List (Str × V)} {f : Str} {y : V} {H : Hp} {W : Hp → Prop} (hx : H x = some (.ins C dx fs)) (c : Cls K C) (na : NoAttr K C f) (hl : Nat.ble (fs.length + 1) 1000 = true)
    (h : W (upd H x (.ins C dx (putF f y fs)))) : ∃ (a C : Addr) (dx : Addr) (fs : List (Str × V)), V.ref x = V.ref a ∧ H a = some (.ins C dx fs) ∧ Cls K C ∧ NoAttr K C f ∧ fs.length < 1000 ∧ W (upd H a (.ins C dx (putF f y fs))) :=
  ⟨x, C, dx, fs, rfl, hx, c, na, Nat.le_of_ble_eq_true hl, h⟩
theorem getF {K : PySem.W.Frag} {C x dx : Addr} {fs : List (Str × V)} {f : Str} {v : V} {H : Hp} {σ : L2.St} {Q : VK} (hx : H x = some (.ins C dx fs)) (c : Cls K C) (na : NoAttr K C f) (hl : fs.lookup f = some v) (h : Q v H) :
    tFld K (tC (.ref x)) f σ H Q := ⟨x, C, dx, fs, v, rfl, hx, c, na, hl, h⟩

/-! ### xs.remove(x), x an object at any place of xs: it is found by identity, the objects ahead of it are other ones (no own ==) -/
section
open PySem.SeqAt PySem.MeetsSeq PySem.AutoSeq1 PySem.W
theorem obj_bound {M : Model} {A : Around} {E : Value → Shared → Prop} {s : Shared} {K : Frag} {x C : Addr} {ox : Obj} {od : Option Obj} {name : Str} {id : String} {args : List Value} {Q : Option Value → Shared → Prop}
    (hX : K.In s.heap) (J : InstAt s.heap x ox C od) (hs : findIn K (.ref C) name = some (some (.builtin id))) (hbd : ∀ v, bindSpecial (.builtin id) v = pure (.builtin id, [v]))
    (h : wpAny M A (call (.builtin id) (.ref x :: args)) (fun v => Q (some v)) E s) : wpAny M A (callSpecialIfBound? (.ref x) name args) Q E s := by
  simp only [callSpecialIfBound?, bindSpecialIfBound?]
  refine wpAny_holding (wpAny_bind (wpAny_bind (wpAny_bind (J.type.here ((looks_findIn hX hs).here ?_)))))
  simp only [hbd]
  refine wpAny_bind (wpAny_askSetting (wpAny_ite ?_))
  have fin : wpAny M A (call (.builtin id) ([.ref x] ++ args) >>= fun v => pure (some v)) Q E s := wpAny_bind (wpAny_mono h (fun v s' h' => wpAny_pure h') fun _ _ h' => h')
  split
  · exact wpAny_bind (wpAny_pure (wpAny_pure fin))
  · exact wpAny_tryCatch (wpAny_bind (wpAny_pure (wpAny_pure fin)))
theorem obj_check {M : Model} {A : Around} {E : Value → Shared → Prop} {s : Shared} {K : Frag} {x C : Addr} {ox : Obj} {od : Option Obj} {id owner n : String} {rest : List Value} {Q : Unit → Shared → Prop}
    (hX : K.In s.heap) (J : InstAt s.heap x ox C od) (hk : builtinKind id = some .slot) (hs : splitId id = some (owner, n)) (ha : argsOk id ⟨.ref x :: rest, []⟩)
    (hm : mroIn K C (.type owner) = some true) (hq : Q () s) : wpAny M A (checkBuiltinCall id ⟨.ref x :: rest, []⟩) Q E s := by
  have hL := looks_mroIn (M := M) hX hm
  simp only [checkBuiltinCall, hk, hs]
  refine wpAny_bind ?_
  unfold isInstance
  refine wpAny_bind (J.type.here ?_)
  refine (hL.here ?_)
  simp only [Bool.not_true, Bool.false_eq_true, if_false]
  cases hsig : Manifest.signature? id with
  | none => exact wpAny_pure hq
  | some sig =>
    simp only [argsOk, hsig] at ha
    have h2 : Bind.checkArgs id sig ⟨.ref x :: rest, []⟩ = pure () := ha
    show wpAny M A (Bind.checkArgs id sig ⟨.ref x :: rest, []⟩) Q E _
    rw [h2]; exact wpAny_pure hq
theorem obj_try {prog : Program} {w : World} {A : Around} {E : Value → Shared → Prop} {s : Shared} {K : Frag} {x y C : Addr} {ox oy : Obj} {od : Option Obj} {Q : Option Value → Shared → Prop}
    (hX : K.In s.heap) (J : InstAt s.heap x ox C od) (hy : s.heap.get? y = some oy) (hxy : x ≠ y) (hs : findIn K (.ref C) "__eq__" = some (some (.builtin "object.__eq__")))
    (hm : mroIn K C (.type "object") = some true) (hq : Q none s) : wpAny (model prog w) A (tryCompare (.ref x) "__eq__" (.ref y)) Q E s := by
  have hnt : ox.cls ≠ .type "tuple" := by rw [J.cls]; intro e; cases e
  simp only [tryCompare]
  refine wpAny_bind (obj_bound hX J hs F.cmp_object.eq.bind (wpAny_call (codeAny_call_builtin F.cmp_object.eq.plain F.cmpEntry_eq (obj_check hX J F.cmpKind_eq F.cmpSplit_eq (F.cmpArgs_eq _ _) hm ?_))))
  refine objEq_entry_other hxy J.at_ hy hnt ?_
  exact wpAny_pure hq
theorem obj_rich {prog : Program} {w : World} {A : Around} {E : Value → Shared → Prop} {s : Shared} {K : Frag} {x y C : Addr} {ox oy : Obj} {od od' : Option Obj} {Q : Value → Shared → Prop}
    (hu : A.units < cLine) (hX : K.In s.heap) (J : InstAt s.heap x ox C od) (J' : InstAt s.heap y oy C od') (hxy : x ≠ y) (hs : findIn K (.ref C) "__eq__" = some (some (.builtin "object.__eq__")))
    (hm : mroIn K C (.type "object") = some true) (hq : Q (.bool false) s) : wpAny (model prog w) A (richCompare .Eq (.ref x) (.ref y)) Q E s := by
  have hnt : ox.cls ≠ .type "tuple" := by rw [J.cls]; intro e; cases e
  unfold richCompare
  simp only [oneThing_ref]
  refine wpAny_holding (wpAny_bind (wpAny_cRoomFor hu ?_))
  refine wpAny_bind (J.type.here (wpAny_bind (J'.type.here ?_)))
  rw [if_neg (by simp)]
  refine wpAny_bind (wpAny_pure ?_)
  simp only [Bool.false_eq_true, if_false, Bool.not_false, if_true]
  refine wpAny_bind (obj_try hX J J'.at_ hxy hs hm ?_)
  dsimp only
  refine wpAny_bind (obj_try hX J' J.at_ hxy.symm hs hm ?_)
  dsimp only
  refine wpAny_bind (wpAny_rule ?_)
  refine wpAny_bind (wpAny_isSame_ref_other hxy J.at_ J'.at_ hnt ?_)
  exact wpAny_pure hq
theorem obj_eqAt {A : Around} {s : Shared} {K : Frag} {x y C : Addr} {ox oy : Obj} {od od' : Option Obj} (hu : A.units < cLine) (hX : K.In s.heap) (J : InstAt s.heap x ox C od) (J' : InstAt s.heap y oy C od')
    (hs : findIn K (.ref C) "__eq__" = some (some (.builtin "object.__eq__"))) (hm : mroIn K C (.type "object") = some true) : EqAt A s (.ref x) (.ref y) (x == y) := by
  by_cases hxy : x = y
  · subst hxy
    rw [beq_self_eq_true]
    exact EqAt.same (A := A) (s := s) (.ref x)
  · rw [show (x == y) = false from beq_false_of_ne hxy]
    intro prog w E Q hq
    exact GQ.eqBool_refG hxy (obj_rich hu hX J J' hxy hs hm ⟨false, rfl, hq⟩)
end
theorem erase_mapR (a : Addr) : ∀ (as : List Addr), (as.map V.ref).eraseIdx (as.idxOf a) = (as.erase a).map V.ref
  | [] => rfl
  | b :: r => by
    have ih := erase_mapR a r
    by_cases h : b = a
    · subst h
      rw [List.idxOf_cons_self, List.erase_cons_head]
      rfl
    · rw [List.idxOf_cons, show (b == a) = false from beq_false_of_ne h, cond_false, List.erase_cons_tail (by simpa using h), List.map_cons, List.map_cons, List.eraseIdx_cons_succ, ih]
theorem vals_refs : ∀ {as : List Addr} {its : List Value}, Vals (as.map V.ref) its → its = as.map Value.ref
  | [], _, .nil => rfl
  | _ :: _, _, .cons h t => by
    cases h
    rw [vals_refs t]
    rfl
theorem hu_in {k : Nat} {A : Around} (hr : Room k A) : A.in1.units < cLine := by
  have := hr.units
  show A.units + 1 < cLine
  omega
section
open PySem.SeqAt
variable {X : Cx}
/-- one object of the class at C out of several -/
def rRemO (C : Addr) : V → List V → Hp → VK → Prop := fun x xs H Q => ∃ (l a : Addr) (as : List Addr), x = .ref l ∧ xs = [.ref a] ∧ H l = some (.lst (as.map V.ref)) ∧ a ∈ as ∧ (∀ b, b ∈ as → ∃ dx fs, H b = some (.ins C dx fs)) ∧ Q .non (upd H l (.lst ((as.erase a).map V.ref)))
theorem mt_removeO {k : Nat} {C : Addr} (hr : Room k X.A) (hs : PySem.W.findIn X.K (.ref C) "__eq__" = some (some (.builtin "object.__eq__"))) (hm : PySem.W.mroIn X.K C (.type "object") = some true) : MtM X "list.remove" (rRemO C) := by
  intro pins s σ H x xs v us Q I rx rxs h
  obtain ⟨l, a, as, rfl, rfl, hH, ha, hobj, q⟩ := h
  cases rx
  obtain ⟨u, rfl, ru⟩ := rxs.one
  cases ru
  obtain ⟨z, its, n, r, hl, e⟩ := I.lstM hH
  have hi := vals_refs r
  rw [List.length_map] at hl z
  have hj : as.idxOf a < as.length := List.idxOf_lt_length_iff.mpr ha
  have hjl : as.idxOf a < its.toArray.size := by rw [List.size_toArray]; omega
  have look : ∀ b, b ∈ as → ∃ ob od, PySem.W.InstAt s.heap b ob C od := by
    intro b hb
    obtain ⟨dx, fs, hb2⟩ := hobj b hb
    obtain ⟨mA, J, _⟩ := ins_get I.hok hb2
    obtain ⟨od, J, _⟩ := J.look
    exact ⟨_, _, J⟩
  have item : ∀ m (hm : m < its.toArray.size), ∃ hm2 : m < as.length, its.toArray[m] = .ref as[m] := by
    intro m hm
    subst hi
    have h2 : m < as.length := by simpa using hm
    exact ⟨h2, by simp⟩
  refine call_meets PySem.F.slot_list_remove ⟨_, e, rfl⟩ PySem.F.entry_list_remove (PySem.F.args_list_remove_2 _ _)
    (list_removeAt l its.toArray n none #[] (.ref a) (fun y => y == .ref a) (as.idxOf a) hjl ?_ ?_ (by rw [List.size_toArray]; omega)) ⟨e, ?_, ?_⟩
  · obtain ⟨h2, e2⟩ := item _ hjl
    show (its.toArray[as.idxOf a] == Value.ref a) = true
    rw [e2, List.getElem_idxOf]
    exact beq_self_eq_true _
  · intro m hm2 hmj
    obtain ⟨h2, e2⟩ := item _ hm2
    show (its.toArray[m] == Value.ref a) = false
    rw [e2]
    refine beq_eq_false_iff_ne.mpr fun e3 => ?_
    injection e3 with e3
    have e4 := List.not_of_lt_findIdx (p := (· == a)) hmj
    rw [e3] at e4
    simp at e4
  · intro y hy
    obtain ⟨m, hm2, e2⟩ := Array.getElem_of_mem hy
    obtain ⟨h2, e3⟩ := item m hm2
    rw [← e2, e3]
    obtain ⟨_, _, J⟩ := look _ (List.getElem_mem h2)
    obtain ⟨_, _, J'⟩ := look _ ha
    have q2 := obj_eqAt (A := X.A.in1) (s := s) (hu_in hr) I.kIn J J' hs hm
    have e4 : (Value.ref as[m] == Value.ref a) = (as[m] == a) := by
      by_cases h : as[m] = a
      · rw [h, beq_self_eq_true, beq_self_eq_true]
      · rw [beq_false_of_ne h]
        exact beq_eq_false_iff_ne.mpr fun e5 => h (by injection e5)
    rw [← e4] at q2
    exact q2
  · have rr := r.eraseIdx (as.idxOf a)
    rw [erase_mapR] at rr
    refine ⟨.non, _, I.lset (its' := its.eraseIdx (as.idxOf a)) (t' := s.toks) hH e ?_ rr ?_, rfl, q⟩
    · show its.toArray.eraseIdxIfInBounds (as.idxOf a) = (its.eraseIdx (as.idxOf a)).toArray
      rw [List.eraseIdxIfInBounds_toArray]
    · rw [List.length_map]
      have := (List.erase_sublist (a := a) (l := as)).length_le
      omega
end

/-- an order as the program keeps it -/
structure Ord where
  number : Int
  house : Str
  side : Str
  price : Option Int
  shown : Int
  left : Int
  visible : Int
def optV : Option Int → V
  | none => .non
  | some i => .int i
/-- its place in the heap -/
def ordO (C dx : Addr) (o : Ord) : HO := .ins C dx [("number", .int o.number), ("house", .str o.house), ("side", .str o.side), ("price", optV o.price), ("shown", .int o.shown), ("left", .int o.left), ("visible", .int o.visible)]
def buyS (s : Str) : Bool := decide (V.str s = V.str "buy")
/-- whether the limit takes the price -/
def takes (side : Str) (limit : Option Int) (p : Int) : Bool := match limit with
  | none => true
  | some l => if buyS side then decide (p ≤ l) else decide (l ≤ p)
def sp_accepts (K : PySem.W.Frag) : Sp := fun vs H Q _ => ∃ (s : Str) (l : Option Int) (p : Int), vs = [.str s, optV l, .int p] ∧ Q (.bl (takes s l p)) H
set_option maxHeartbeats 0 in
theorem ok_accepts (T : Txt K mg) : FnOk P w K mg base CX0 1 T.f_accepts T.d_accepts ["side", "limit", "price"] (sp_accepts K) := by
  refine T.F_accepts.ok sc_accepts (fun vs H Q E h => ?_) (fun cdv A outer s H vs Q E hr h => ?_)
  · obtain ⟨s, l, p, rfl, _⟩ := h
    rfl
  · obtain ⟨s, l, p, rfl, q⟩ := h
    refine ⟨_, (pss_cons (ps_if (pt_cmpR op_isN (pv 1) pe_non (nomark _))
      (pss_one (ps_ret pe_bl))
      pss_nil)
    (pss_one (ps_ret (pe_ifExp (pt_cmpR op_eq (pv 0) pe_str (nomark _)) (pe_cmpR op_le (pv 2) (pv 1) (nomark _)) (pe_cmpR op_ge (pv 2) (pv 1) (nomark _)))))), ?_⟩
    cases l with
    | none =>
      walk_at "st"
      exact q
    | some l =>
      walk_at "st"
      refine iteB (fun h => ?_) (fun h => ?_)
      · walk_at "st"
        have e : takes s (some l) p = decide (p ≤ l) := by
          show (if buyS s = true then _ else _) = _
          rw [show buyS s = true from h, if_pos rfl]
        rw [e] at q
        exact q
      · walk_at "st"
        have e : takes s (some l) p = decide (l ≤ p) := by
          show (if buyS s = true then _ else _) = _
          rw [show buyS s = false from h, if_neg Bool.false_ne_true]
        rw [e] at q
        exact q
def sp_Order_init (K : PySem.W.Frag) (C : Addr) : Sp := fun vs H Q _ => ∃ (x dx : Addr) (n : Int) (ho si : Str) (pr : Option Int) (qu sh : Int), vs = [.ref x, .int n, .str ho, .str si, optV pr, .int qu, .int sh] ∧
  H x = some (.ins C dx []) ∧ Q .non (upd H x (ordO C dx ⟨n, ho, si, pr, sh, qu, 0⟩))
set_option maxHeartbeats 0 in
theorem ok_Order_init (T : Txt K mg) : FnOk P w K mg base CX0 1 T.f_Order_init T.d_Order_init ["self", "number", "house", "side", "price", "quantity", "shown"] (sp_Order_init K T.c_Order) := by
  refine T.F_Order_init.ok sc_Order_init (fun vs H Q E h => ?_) (fun cdv A outer s H vs Q E hr h => ?_)
  · obtain ⟨x, dx, n, ho, si, pr, qu, sh, rfl, _⟩ := h
    rfl
  · obtain ⟨x, dx, n, ho, si, pr, qu, sh, rfl, hx, q⟩ := h
    refine ⟨_, (pss_cons (ps_fld (pv 0) (pv 1) rfl)
    (pss_cons (ps_fld (pv 0) (pv 2) rfl)
    (pss_cons (ps_fld (pv 0) (pv 3) rfl)
    (pss_cons (ps_fld (pv 0) (pv 4) rfl)
    (pss_cons (ps_fld (pv 0) (pv 6) rfl)
    (pss_cons (ps_fld (pv 0) (pv 5) rfl)
    (pss_one (ps_fld (pv 0) pe_int rfl)))))))), ?_⟩
    refine ⟨_, rfl, _, rfl, setF hx T.cl_Order T.na_Order_number rfl ?_⟩
    refine ⟨_, rfl, _, rfl, setF upd_same T.cl_Order T.na_Order_house rfl ?_⟩
    refine ⟨_, rfl, _, rfl, setF upd_same T.cl_Order T.na_Order_side rfl ?_⟩
    refine ⟨_, rfl, _, rfl, setF upd_same T.cl_Order T.na_Order_price rfl ?_⟩
    refine ⟨_, rfl, _, rfl, setF upd_same T.cl_Order T.na_Order_shown rfl ?_⟩
    refine ⟨_, rfl, _, rfl, setF upd_same T.cl_Order T.na_Order_left rfl ?_⟩
    refine ⟨_, rfl, setF upd_same T.cl_Order T.na_Order_visible rfl ?_⟩
    simp only [upd_upd]
    exact q
def sp_Order_accepts_price (K : PySem.W.Frag) (C : Addr) : Sp := fun vs H Q _ => ∃ (x dx : Addr) (o : Ord) (p : Int), vs = [.ref x, .int p] ∧ H x = some (ordO C dx o) ∧ Q (.bl (takes o.side o.price p)) H
set_option maxHeartbeats 0 in
theorem ok_Order_accepts_price (T : Txt K mg) : FnOk P w K mg base CX0 2 T.f_Order_accepts_price T.d_Order_accepts_price ["self", "price"] (sp_Order_accepts_price K T.c_Order) := by
  refine T.F_Order_accepts_price.ok sc_Order_accepts_price (fun vs H Q E h => ?_) (fun cdv A outer s H vs Q E hr h => ?_)
  · obtain ⟨x, dx, o, p, rfl, _⟩ := h
    rfl
  · obtain ⟨x, dx, o, p, rfl, hx, q⟩ := h
    have G_accepts : FnOk P w K mg base CX0 1 T.f_accepts T.d_accepts ["side", "limit", "price"] (sp_accepts K) := ok_accepts T
    refine ⟨_, (pss_one (ps_ret (pe_call G_accepts hr (by rfl) T.m_accepts T.F_accepts.kp T.b_accepts .nil pass0 (pa_cons (pe_fld (pv 0) rfl) (pa_cons (pe_fld (pv 0) rfl) (pa_cons (pv 1) pa_nil)))))), ?_⟩
    have fact_Order_0 := T.cl_Order; have fact_Order_1 := T.na_Order_number; have fact_Order_2 := T.na_Order_house; have fact_Order_3 := T.na_Order_side; have fact_Order_4 := T.na_Order_price; have fact_Order_5 := T.na_Order_shown; have fact_Order_6 := T.na_Order_left; have fact_Order_7 := T.na_Order_visible
    walk_at "st"
    exact ⟨_, _, rfl, q⟩
def Ord.showNext (o : Ord) : Ord := { o with visible := if o.shown = 0 then o.left else if o.left < o.shown then o.left else o.shown }
def sp_Order_show_next_part (K : PySem.W.Frag) (C : Addr) : Sp := fun vs H Q _ => ∃ (x dx : Addr) (o : Ord), vs = [.ref x] ∧ H x = some (ordO C dx o) ∧ Q .non (upd H x (ordO C dx o.showNext))
set_option maxHeartbeats 0 in
theorem ok_Order_show_next_part (T : Txt K mg) : FnOk P w K mg base CX0 1 T.f_Order_show_next_part T.d_Order_show_next_part ["self"] (sp_Order_show_next_part K T.c_Order) := by
  refine T.F_Order_show_next_part.ok sc_Order_show_next_part (fun vs H Q E h => ?_) (fun cdv A outer s H vs Q E hr h => ?_)
  · obtain ⟨x, dx, o, rfl, _⟩ := h
    rfl
  · obtain ⟨x, dx, o, rfl, hx, q⟩ := h
    refine ⟨_, (pss_one (ps_fld (pv 0) (pe_ifExp (pt_cmpR op_eq (pe_fld (pv 0) rfl) pe_int (nomark _)) (pe_fld (pv 0) rfl) (pe_callB (call_min2 rfl) (by rfl) T.z_min (by decide +kernel) (pa_cons (pe_fld (pv 0) rfl) (pa_cons (pe_fld (pv 0) rfl) pa_nil)))) rfl)), ?_⟩
    have fact_Order_0 := T.cl_Order; have fact_Order_1 := T.na_Order_number; have fact_Order_2 := T.na_Order_house; have fact_Order_3 := T.na_Order_side; have fact_Order_4 := T.na_Order_price; have fact_Order_5 := T.na_Order_shown; have fact_Order_6 := T.na_Order_left; have fact_Order_7 := T.na_Order_visible
    walk_at "st"
    refine iteB (fun h => ?_) (fun h => ?_)
    · have e : o.showNext = { o with visible := o.left } := by
        unfold Ord.showNext
        rw [if_pos (V.int.inj (dec_t h))]
      rw [e] at q
      walk_at "st"
      exact q
    · have e : o.showNext = { o with visible := if o.left < o.shown then o.left else o.shown } := by
        unfold Ord.showNext
        rw [if_neg (fun z => dec_f h (congrArg V.int z))]
      rw [e] at q
      walk_at "st"
      exact q
def sp_Order_trade_visible (K : PySem.W.Frag) (C : Addr) : Sp := fun vs H Q _ => ∃ (x dx : Addr) (o : Ord) (n : Int), vs = [.ref x, .int n] ∧ H x = some (ordO C dx o) ∧ Q .non (upd H x (ordO C dx { o with left := o.left - n, visible := o.visible - n }))
set_option maxHeartbeats 0 in
theorem ok_Order_trade_visible (T : Txt K mg) : FnOk P w K mg base CX0 1 T.f_Order_trade_visible T.d_Order_trade_visible ["self", "quantity"] (sp_Order_trade_visible K T.c_Order) := by
  refine T.F_Order_trade_visible.ok sc_Order_trade_visible (fun vs H Q E h => ?_) (fun cdv A outer s H vs Q E hr h => ?_)
  · obtain ⟨x, dx, o, n, rfl, _⟩ := h
    rfl
  · obtain ⟨x, dx, o, n, rfl, hx, q⟩ := h
    refine ⟨_, (pss_cons (ps_fldaug (pv 0) (pv 1) in_sub)
    (pss_one (ps_fldaug (pv 0) (pv 1) in_sub))), ?_⟩
    have fact_Order_0 := T.cl_Order; have fact_Order_1 := T.na_Order_number; have fact_Order_2 := T.na_Order_house; have fact_Order_3 := T.na_Order_side; have fact_Order_4 := T.na_Order_price; have fact_Order_5 := T.na_Order_shown; have fact_Order_6 := T.na_Order_left; have fact_Order_7 := T.na_Order_visible
    walk_at "st"
    rw [upd_upd]
    exact q

/-! ### one side of a book -/
abbrev Ent := Addr × Addr × Ord
def refs (es : List Ent) : List V := es.map fun e => V.ref e.1
structure SideAt (CO CB : Addr) (H : Hp) (b db l : Addr) (es : List Ent) : Prop where
  ob : H b = some (.ins CB db [("_orders", .ref l)])
  li : H l = some (.lst (refs es))
  en : ∀ e, e ∈ es → H e.1 = some (ordO CO e.2.1 e.2.2)
  nd : (es.map (·.1)).Nodup
  sm : es.length ≤ 1000
theorem SideAt.bl {CO CB : Addr} {H : Hp} {b db l : Addr} {es : List Ent} (S : SideAt CO CB H b db l es) : b ≠ l := fun e => by
  have := S.ob
  rw [e, S.li] at this
  cases this
theorem SideAt.be {CO CB : Addr} {H : Hp} {b db l : Addr} {es : List Ent} (S : SideAt CO CB H b db l es) {e : Ent} (h : e ∈ es) : e.1 ≠ b := fun q => by
  have := S.en e h
  rw [q, S.ob] at this
  unfold ordO at this
  injection this with this
  injection this with _ _ this
  injection this with h1 _
  injection h1 with h1 _
  exact absurd h1 (by decide)
theorem SideAt.le {CO CB : Addr} {H : Hp} {b db l : Addr} {es : List Ent} (S : SideAt CO CB H b db l es) {e : Ent} (h : e ∈ es) : e.1 ≠ l := fun q => by
  have := S.en e h
  rw [q, S.li] at this
  cases this
def sp_BookSide_init (K : PySem.W.Frag) (CO CB : Addr) : Sp := fun vs H Q _ => ∃ (x dx : Addr), vs = [.ref x] ∧ H x = some (.ins CB dx []) ∧ ∀ l, H l = none → Q .non (upd (upd H l (.lst [])) x (.ins CB dx [("_orders", .ref l)]))
set_option maxHeartbeats 0 in
theorem ok_BookSide_init (T : Txt K mg) : FnOk P w K mg base CX0 1 T.f_BookSide_init T.d_BookSide_init ["self"] (sp_BookSide_init K T.c_Order T.c_BookSide) := by
  refine T.F_BookSide_init.ok sc_BookSide_init (fun vs H Q E h => ?_) (fun cdv A outer s H vs Q E hr h => ?_)
  · obtain ⟨x, dx, rfl, _⟩ := h
    rfl
  · obtain ⟨x, dx, rfl, hx, q⟩ := h
    refine ⟨_, (pss_one (ps_fld (pv 0) (pe_lst pa_nil) rfl)), ?_⟩
    have fact_BookSide_0 := T.cl_BookSide; have fact_BookSide_1 := T.na_BookSide__orders
    walk_at "st"
    intro l nl
    have hx2 := (upd_ne (o := HO.lst []) (ne_of_none hx nl)).trans hx
    walk_at "st"
    exact q l nl
def sp_BookSide_first (K : PySem.W.Frag) (CO CB : Addr) : Sp := fun vs H Q _ => ∃ (b db l : Addr) (es : List Ent), vs = [.ref b] ∧ SideAt CO CB H b db l es ∧ Q (match es with | [] => .non | e :: _ => .ref e.1) H
set_option maxHeartbeats 0 in
theorem ok_BookSide_first (T : Txt K mg) : FnOk P w K mg base CX0 1 T.f_BookSide_first T.d_BookSide_first ["self"] (sp_BookSide_first K T.c_Order T.c_BookSide) := by
  refine T.F_BookSide_first.ok sc_BookSide_first (fun vs H Q E h => ?_) (fun cdv A outer s H vs Q E hr h => ?_)
  · obtain ⟨b, db, l, es, rfl, _⟩ := h
    rfl
  · obtain ⟨b, db, l, es, rfl, S, q⟩ := h
    refine ⟨_, (pss_one (ps_ret (pe_ifExp (pt_truth (pe_fld (pv 0) rfl) (by intro _; rfl)) (pe_ix ix_list (pe_fld (pv 0) rfl) pe_int (fun _ _ => rfl)) pe_non))), ?_⟩
    have fact_BookSide_0 := T.cl_BookSide; have fact_BookSide_1 := T.na_BookSide__orders
    have hob := S.ob
    have hli := S.li
    walk_at "st"
    refine ⟨.inl ⟨refs es, SqL.of hli, rfl⟩, ?_⟩
    cases es with
    | nil => exact q
    | cons e r =>
      refine iteT ?_
      walk_at "st"
      refine ⟨atI_nat (j := 0) rfl, ?_⟩
      exact q
theorem refs_map (es : List Ent) : refs es = (es.map (·.1)).map V.ref := by
  unfold refs
  rw [List.map_map]
  rfl
theorem erase_mid {pre post : List Ent} {e : Ent} (nd : ((pre ++ e :: post).map (·.1)).Nodup) : ((pre ++ e :: post).map (·.1)).erase e.1 = (pre ++ post).map (·.1) := by
  rw [List.map_append, List.map_cons] at nd ⊢
  have h := (List.nodup_append.mp nd).2.2
  rw [List.erase_append_right _ (fun z => h _ z _ List.mem_cons_self rfl), List.erase_cons_head, List.map_append]
def sp_BookSide_leave (K : PySem.W.Frag) (CO CB : Addr) : Sp := fun vs H Q _ => ∃ (b db l : Addr) (pre : List Ent) (e : Ent) (es : List Ent), vs = [.ref b, .ref e.1] ∧ SideAt CO CB H b db l (pre ++ e :: es) ∧ Q .non (upd H l (.lst (refs (pre ++ es))))
set_option maxHeartbeats 0 in
theorem ok_BookSide_leave (T : Txt K mg) : FnOk P w K mg base CX0 1 T.f_BookSide_leave T.d_BookSide_leave ["self", "order"] (sp_BookSide_leave K T.c_Order T.c_BookSide) := by
  refine T.F_BookSide_leave.ok sc_BookSide_leave (fun vs H Q E h => ?_) (fun cdv A outer s H vs Q E hr h => ?_)
  · obtain ⟨b, db, l, pre, e, es, rfl, _⟩ := h
    rfl
  · obtain ⟨b, db, l, pre, e, es, rfl, S, q⟩ := h
    refine ⟨_, (pss_one (ps_expr (pe_bm PySem.F.plainAttrs_list PySem.F.slot_list_remove PySem.F.type_list_remove (mt_removeO hr T.eq_Order T.mo_Order) (pe_fld (pv 0) rfl) (pa_cons (pv 1) pa_nil)))), ?_⟩
    have fact_BookSide_0 := T.cl_BookSide; have fact_BookSide_1 := T.na_BookSide__orders
    have hob := S.ob
    have hli := S.li
    rw [refs_map] at hli
    have hmem : e.1 ∈ (pre ++ e :: es).map (·.1) := List.mem_map.mpr ⟨e, List.mem_append_right _ List.mem_cons_self, rfl⟩
    have hobj : ∀ b, b ∈ (pre ++ e :: es).map (·.1) → ∃ dx fs, H b = some (.ins T.c_Order dx fs) := fun b hb => by
      obtain ⟨y, hy, rfl⟩ := List.mem_map.mp hb
      exact ⟨_, _, S.en y hy⟩
    walk_at "st"
    refine ⟨_, rfl, rfl, hli, hmem, hobj, ?_⟩
    rw [erase_mid S.nd, ← refs_map]
    exact q
theorem ents_at {es : List Ent} {i : Nat} {x : V} (h : (refs es)[i]? = some x) : ∃ e, es[i]? = some e ∧ x = .ref e.1 := by
  unfold refs at h
  rw [List.getElem?_map] at h
  cases e : es[i]? with
  | none => rw [e] at h; cases h
  | some z => rw [e] at h; exact ⟨z, rfl, (Option.some.inj h).symm⟩
theorem find_hit {α : Type} {p : α → Bool} {es : List α} {i : Nat} {e : α} (h : es[i]? = some e) (h0 : (es.take i).find? p = none) (hp : p e = true) : es.find? p = some e := by
  rw [← List.take_append_drop (i + 1) es, List.find?_append, take_succ h, List.find?_append, h0]
  simp [hp]
theorem find_miss {α : Type} {p : α → Bool} {es : List α} {i : Nat} {e : α} (h : es[i]? = some e) (h0 : (es.take i).find? p = none) (hp : p e = false) : (es.take (i + 1)).find? p = none := by
  rw [take_succ h, List.find?_append, h0]
  simp [hp]
def sp_BookSide_with_number (K : PySem.W.Frag) (CO CB : Addr) : Sp := fun vs H Q _ => ∃ (b db l : Addr) (es : List Ent) (n : Int), vs = [.ref b, .int n] ∧ SideAt CO CB H b db l es ∧
  Q (match es.find? (fun e => decide (e.2.2.number = n)) with | none => .non | some e => .ref e.1) H
def accE (p : Int) (e : Ent) : Bool := takes e.2.2.side e.2.2.price p
/-- behind all that take the price -/
def place (es : List Ent) (p : Int) : Nat := (es.takeWhile (accE p)).length
def Mono (es : List Ent) (p : Int) : Prop := ∀ (i j : Nat) (e e' : Ent), i ≤ j → es[i]? = some e → es[j]? = some e' → accE p e' = true → accE p e = true
theorem place_is {p : Int} : ∀ {es : List Ent} {k : Nat}, k ≤ es.length → (∀ i e, i < k → es[i]? = some e → accE p e = true) → (∀ e, es[k]? = some e → accE p e = false) → place es p = k
  | [], k, hk, _, _ => by
    simp at hk
    rw [hk]
    rfl
  | e :: r, 0, _, _, h2 => by
    unfold place
    rw [List.takeWhile_cons, if_neg (by rw [h2 e rfl]; exact Bool.false_ne_true)]
    rfl
  | e :: r, k + 1, hk, h1, h2 => by
    have ih := place_is (p := p) (es := r) (k := k) (by simpa using hk) (fun i e hi he => h1 (i + 1) e (by omega) he) (fun e he => h2 e he)
    unfold place at ih ⊢
    rw [List.takeWhile_cons, if_pos (h1 0 e (by omega) rfl), List.length_cons, ih]
theorem place_le (es : List Ent) (p : Int) : place es p ≤ es.length := by
  unfold place
  exact (List.takeWhile_prefix _).length_le
def sp_BookSideplace_behind (K : PySem.W.Frag) (CO CB : Addr) : Sp := fun vs H Q _ => ∃ (b db l x dx : Addr) (es : List Ent) (o : Ord) (p : Int), vs = [.ref b, .ref x] ∧ SideAt CO CB H b db l es ∧ H x = some (ordO CO dx o) ∧ o.price = some p ∧ Mono es p ∧
  Q (.int (place es p : Nat)) H
set_option maxHeartbeats 0 in
theorem ok_BookSideplace_behind (T : Txt K mg) : FnOk P w K mg base CX0 3 T.f_BookSideplace_behind T.d_BookSideplace_behind ["self", "order"] (sp_BookSideplace_behind K T.c_Order T.c_BookSide) := by
  refine T.F_BookSideplace_behind.ok sc_BookSideplace_behind (fun vs H Q E h => ?_) (fun cdv A outer s H vs Q E hr h => ?_)
  · obtain ⟨b, db, l, x, dx, es, o, p, rfl, _⟩ := h
    rfl
  · obtain ⟨b, db, l, x, dx, es, o, p, rfl, S, hx, hp, hm, q⟩ := h
    have G_Order_accepts_price : FnOk P w K mg base CX0 2 T.f_Order_accepts_price T.d_Order_accepts_price ["self", "price"] (sp_Order_accepts_price K T.c_Order) := ok_Order_accepts_price T
    refine ⟨_, (pss_cons (ps_set (i := 2) sc_BookSideplace_behind.nd rfl (Or.inl rfl) pe_int)
    (pss_cons (ps_set (i := 3) sc_BookSideplace_behind.nd rfl (Or.inl rfl) (pe_callB call_len_seq (by rfl) T.z_len PySem.boot_len (pa_cons (pe_fld (pv 0) rfl) pa_nil)))
    (pss_cons (ps_while PassesOwn.never (pt_cmpR op_lt (pv 2) (pv 3) (nomark _))
      (pss_cons (ps_set (i := 4) sc_BookSideplace_behind.nd rfl (Or.inl rfl) (pe_op op_fdiv (pe_op op_add (pv 2) (pv 3)) pe_int))
      (pss_one (ps_if (pt_val (pe_meth (pe_ix ix_list (pe_fld (pv 0) rfl) (pv 4) (fun _ _ => rfl)) T.cl_Order T.mt_Order_accepts_price G_Order_accepts_price hr T.b_Order_accepts_price .nil pass0 (pa_cons (pe_fld (pv 1) rfl) pa_nil)))
        (pss_one (ps_set (i := 2) sc_BookSideplace_behind.nd rfl (Or.inl rfl) (pe_op op_add (pv 4) pe_int)))
        (pss_one (ps_set (i := 3) sc_BookSideplace_behind.nd rfl (Or.inl rfl) (pv 4)))))))
    (pss_one (ps_ret (pv 2)))))), ?_⟩
    have fact_BookSide_0 := T.cl_BookSide; have fact_BookSide_1 := T.na_BookSide__orders; have fact_Order_0 := T.cl_Order; have fact_Order_1 := T.na_Order_number; have fact_Order_2 := T.na_Order_house; have fact_Order_3 := T.na_Order_side; have fact_Order_4 := T.na_Order_price; have fact_Order_5 := T.na_Order_shown; have fact_Order_6 := T.na_Order_left; have fact_Order_7 := T.na_Order_visible
    have hob := S.ob
    have hli := S.li
    have hsm := S.sm
    walk_at "st"
    have lenR : (refs es).length = es.length := List.length_map ..
    refine while_by (fun σ H' => H' = H ∧ ∃ (lo hi : Nat) (v : Option V), σ = [some (.ref b), some (.ref x), some (.int (lo : Int)), some (.int (hi : Int)), v] ∧ lo ≤ hi ∧ hi ≤ es.length ∧
        (∀ i e, i < lo → es[i]? = some e → accE p e = true) ∧ (∀ i e, hi ≤ i → es[i]? = some e → accE p e = false))
      (fun σ _ => match σ with | [_, _, some (.int lo), some (.int hi), _] => (hi - lo).toNat | _ => 0)
      ⟨rfl, 0, es.length, none, by rw [lenR]; rfl, Nat.zero_le _, Nat.le_refl _, fun i e h => absurd h (Nat.not_lt_zero _), fun i e h he => by rw [List.getElem?_eq_none h] at he; cases he⟩ ?_ ?_
    · rintro σ H' ⟨rfl, lo, hi, v, rfl, h1, h2, ha, hb⟩
      walk_at "st"
      refine iteD (fun h => ?_) (fun h => ?_)
      · have hmid : ((lo : Int) + hi) / 2 = (((lo + hi) / 2 : Nat) : Int) := by omega
        have hlt : (lo + hi) / 2 < es.length := by omega
        have he := List.getElem?_eq_getElem hlt
        have hen := S.en _ (List.mem_of_getElem? he)
        walk_at "st"
        rw [hmid]
        refine ⟨atI_nat (show (refs es)[(lo + hi) / 2]? = some (.ref (es[(lo + hi) / 2]).1) by unfold refs; rw [List.getElem?_map, he]; rfl), ?_⟩
        generalize hee : es[(lo + hi) / 2] = e0 at he hen
        generalize (lo + hi) / 2 = mid at *
        walk_at "st"
        refine ⟨e0.2.2, p, by rw [hp]; rfl, hen, ?_⟩
        walk_at "st"
        refine iteB (fun ht => ?_) (fun ht => ?_)
        · refine ⟨_, rfl, _, _, rfl, rfl, ⟨rfl, mid + 1, hi, some (.int (mid : Int)), ?_, by omega, h2, fun i e hi' he' => hm i mid e e0 (by omega) he' he ht, hb⟩, ?_⟩
          · show [some (V.ref b), some (V.ref x), some (V.int (((lo : Int) + hi) / 2 + 1)), some (V.int (hi : Int)), some (V.int (((lo : Int) + hi) / 2))] = _
            rw [hmid]
            rfl
          · show ((hi : Int) - (((lo : Int) + hi) / 2 + 1)).toNat < ((hi : Int) - (lo : Int)).toNat
            omega
        · refine ⟨_, rfl, ⟨rfl, lo, mid, some (.int (mid : Int)), ?_, by omega, by omega, ha, fun i e hi' he' => ?_⟩, ?_⟩
          · show [some (V.ref b), some (V.ref x), some (V.int (lo : Int)), some (V.int (((lo : Int) + hi) / 2)), some (V.int (((lo : Int) + hi) / 2))] = _
            rw [hmid]
          · cases ea : accE p e with
            | false => rfl
            | true =>
              have := hm mid i e0 e hi' he he' ea
              unfold accE at this
              rw [this] at ht
              cases ht
          · show ((((lo : Int) + hi) / 2) - (lo : Int)).toNat < ((hi : Int) - (lo : Int)).toNat
            omega
      · have e : lo = hi := by omega
        subst e
        have := place_is (p := p) h2 ha (fun e he => hb _ e (Nat.le_refl _) he)
        rw [this] at q
        walk_at "st"
        exact q
    · rintro σ H Q Q' h ⟨v1, e1, v2, e2, i, j, r1, r2, k, r3, q⟩
      exact ⟨v1, e1, v2, e2, i, j, r1, r2, k, r3, h _ _ q⟩
theorem SideAt.upd {CO CB : Addr} {H : Hp} {b db l x : Addr} {es : List Ent} {o : HO} (S : SideAt CO CB H b db l es) (hb : b ≠ x) (hl : l ≠ x) (hx : ∀ e, e ∈ es → e.1 ≠ x) : SideAt CO CB (upd H x o) b db l es :=
  ⟨(upd_ne hb).trans S.ob, (upd_ne hl).trans S.li, fun e he => (upd_ne (hx e he)).trans (S.en e he), S.nd, S.sm⟩
theorem SideAt.ord_ne {CO CB : Addr} {H : Hp} {b db l x dx : Addr} {es : List Ent} {o : Ord} (S : SideAt CO CB H b db l es) (hx : H x = some (ordO CO dx o)) : b ≠ x ∧ l ≠ x := by
  constructor
  · intro e
    have := S.ob
    rw [e, hx] at this
    unfold ordO at this
    injection this with this
    injection this with _ _ this
    injection this with h1 _
    injection h1 with h1 _
    exact absurd h1 (by decide)
  · intro e
    have := S.li
    rw [e, hx] at this
    cases this
/-- put in at a place -/
def insE (es : List Ent) (k : Nat) (e : Ent) : List Ent := es.take k ++ [e] ++ es.drop k
def sp_BookSide_enter (K : PySem.W.Frag) (CO CB : Addr) : Sp := fun vs H Q _ => ∃ (b db l x dx : Addr) (es : List Ent) (o : Ord) (p : Int), vs = [.ref b, .ref x] ∧ SideAt CO CB H b db l es ∧ H x = some (ordO CO dx o) ∧ (∀ e, e ∈ es → e.1 ≠ x) ∧ o.price = some p ∧ Mono es p ∧
  Q .non (upd (upd H x (ordO CO dx o.showNext)) l (.lst (refs (insE es (place es p) (x, dx, o.showNext)))))
set_option maxHeartbeats 0 in
theorem ok_BookSide_enter (T : Txt K mg) : FnOk P w K mg base CX0 4 T.f_BookSide_enter T.d_BookSide_enter ["self", "order"] (sp_BookSide_enter K T.c_Order T.c_BookSide) := by
  refine T.F_BookSide_enter.ok sc_BookSide_enter (fun vs H Q E h => ?_) (fun cdv A outer s H vs Q E hr h => ?_)
  · obtain ⟨b, db, l, x, dx, es, o, p, rfl, _⟩ := h
    rfl
  · obtain ⟨b, db, l, x, dx, es, o, p, rfl, S, hx, hne, hp, hm, q⟩ := h
    have G_Order_show_next_part : FnOk P w K mg base CX0 1 T.f_Order_show_next_part T.d_Order_show_next_part ["self"] (sp_Order_show_next_part K T.c_Order) := ok_Order_show_next_part T
    have G_BookSideplace_behind : FnOk P w K mg base CX0 3 T.f_BookSideplace_behind T.d_BookSideplace_behind ["self", "order"] (sp_BookSideplace_behind K T.c_Order T.c_BookSide) := ok_BookSideplace_behind T
    obtain ⟨nb, nl⟩ := S.ord_ne hx
    have S1 := S.upd (o := ordO T.c_Order dx o.showNext) nb nl hne
    have hx1 : (upd H x (ordO T.c_Order dx o.showNext)) x = some (ordO T.c_Order dx o.showNext) := upd_same
    refine ⟨_, (pss_cons (ps_expr (pe_meth0 (pv 1) T.cl_Order T.mt_Order_show_next_part G_Order_show_next_part (hr.mono (by decide)) T.b_Order_show_next_part .nil pass0))
    (pss_one (ps_expr (pe_bm PySem.F.plainAttrs_list PySem.F.slot_list_insert PySem.F.type_list_insert mt_insert (pe_fld (pv 0) rfl) (pa_cons (pe_meth (pv 0) T.cl_BookSide T.mt_BookSideplace_behind G_BookSideplace_behind hr T.b_BookSideplace_behind .nil pass0 (pa_cons (pv 1) pa_nil)) (pa_cons (pv 1) pa_nil)))))), ?_⟩
    have fact_BookSide_0 := T.cl_BookSide; have fact_BookSide_1 := T.na_BookSide__orders; have fact_Order_0 := T.cl_Order; have fact_Order_1 := T.na_Order_number; have fact_Order_2 := T.na_Order_house; have fact_Order_3 := T.na_Order_side; have fact_Order_4 := T.na_Order_price; have fact_Order_5 := T.na_Order_shown; have fact_Order_6 := T.na_Order_left; have fact_Order_7 := T.na_Order_visible
    have hob := S1.ob
    have hli := S1.li
    have hsm := S1.sm
    walk_at "st"
    refine ⟨o, rfl, hx, ?_⟩
    generalize upd H x (ordO T.c_Order dx o.showNext) = H1 at *
    walk_at "st"
    refine ⟨es, o.showNext, p, rfl, S1, hx1, hp, hm, ?_⟩
    have hpl := place_le es p
    have lenR : (refs es).length = es.length := List.length_map ..
    have hsz : (refs es).length < sizeLine := small1000 (by omega)
    refine ⟨_, rfl, l, refs es, ((place es p : Nat) : Int), .ref x, rfl, rfl, hli, hsz, by omega, by omega, ?_⟩
    have e : refs (insE es (place es p) (x, dx, o.showNext)) = (refs es).take ((place es p : Nat) : Int).toNat ++ [V.ref x] ++ (refs es).drop ((place es p : Nat) : Int).toNat := by
      unfold insE refs
      rw [Int.toNat_natCast, List.map_append, List.map_append, List.map_take, List.map_drop]
      rfl
    rw [e] at q
    exact q
theorem insE_mem {es : List Ent} {k : Nat} {e x : Ent} : x ∈ insE es k e ↔ x = e ∨ x ∈ es := by
  unfold insE
  rw [List.mem_append, List.mem_append, List.mem_singleton]
  constructor
  · rintro ((h | h) | h)
    · exact .inr (List.mem_of_mem_take h)
    · exact .inl h
    · exact .inr (List.mem_of_mem_drop h)
  · rintro (h | h)
    · exact .inl (.inr h)
    · rw [← List.take_append_drop k es] at h
      rcases List.mem_append.mp h with h | h
      · exact .inl (.inl h)
      · exact .inr h
theorem insE_perm (es : List Ent) (k : Nat) (e : Ent) : List.Perm (insE es k e) (e :: es) := by
  unfold insE
  have h : List.Perm (es.take k ++ [e] ++ es.drop k) (e :: (es.take k ++ es.drop k)) := by
    rw [List.append_assoc]
    exact List.perm_middle
  rw [List.take_append_drop] at h
  exact h
theorem SideAt.put {CO CB : Addr} {H : Hp} {b db l : Addr} {es es' : List Ent} (S : SideAt CO CB H b db l es) (he : ∀ e, e ∈ es' → H e.1 = some (ordO CO e.2.1 e.2.2)) (nd : (es'.map (·.1)).Nodup) (sm : es'.length ≤ 1000) :
    SideAt CO CB (L2.upd H l (.lst (refs es'))) b db l es' := by
  have hl : ∀ e, e ∈ es' → e.1 ≠ l := fun e h q => by
    have := he e h
    rw [q, S.li] at this
    cases this
  exact ⟨(upd_ne S.bl).trans S.ob, upd_same, fun e h => (upd_ne (hl e h)).trans (he e h), nd, sm⟩
theorem SideAt.insert {CO CB : Addr} {H : Hp} {b db l : Addr} {es : List Ent} {k : Nat} {e : Ent} (S : SideAt CO CB H b db l es) (hx : H e.1 = some (ordO CO e.2.1 e.2.2)) (hne : ∀ d, d ∈ es → d.1 ≠ e.1) (sm : es.length < 1000) :
    SideAt CO CB (L2.upd H l (.lst (refs (insE es k e)))) b db l (insE es k e) := by
  refine S.put (fun d hd => ?_) ?_ ?_
  · rcases insE_mem.mp hd with h | h
    · rw [h]
      exact hx
    · exact S.en d h
  · refine ((insE_perm es k e).map _).nodup_iff.mpr (List.nodup_cons.mpr ⟨fun hm => ?_, S.nd⟩)
    obtain ⟨d, hd, hq⟩ := List.mem_map.mp hm
    exact hne d hd hq
  · rw [(insE_perm es k e).length_eq]
    exact sm
/-- what a trade with the first leaves -/
def tradeF (e : Ent) (es : List Ent) (n p : Int) : List Ent :=
  let o := { e.2.2 with left := e.2.2.left - n, visible := e.2.2.visible - n }
  if o.visible = 0 then (if 0 < o.left then insE es (place es p) (e.1, e.2.1, o.showNext) else es) else (e.1, e.2.1, o) :: es
def sp_BookSide_trade_first (K : PySem.W.Frag) (CO CB : Addr) : Sp := fun vs H Q _ => ∃ (b db l : Addr) (e : Ent) (es : List Ent) (n p : Int), vs = [.ref b, .int n] ∧ SideAt CO CB H b db l (e :: es) ∧ e.2.2.price = some p ∧ Mono es p ∧
  ∀ H' o, SideAt CO CB H' b db l (tradeF e es n p) → H' e.1 = some (ordO CO e.2.1 o) → o.number = e.2.2.number → o.house = e.2.2.house → o.side = e.2.2.side → o.price = e.2.2.price → (∀ a, a ≠ l → a ≠ e.1 → H' a = H a) → Q .non H'
set_option maxHeartbeats 0 in
theorem ok_BookSide_trade_first (T : Txt K mg) : FnOk P w K mg base CX0 5 T.f_BookSide_trade_first T.d_BookSide_trade_first ["self", "quantity"] (sp_BookSide_trade_first K T.c_Order T.c_BookSide) := by
  refine T.F_BookSide_trade_first.ok sc_BookSide_trade_first (fun vs H Q E h => ?_) (fun cdv A outer s H vs Q E hr h => ?_)
  · obtain ⟨b, db, l, e, es, n, p, rfl, _⟩ := h
    rfl
  · obtain ⟨b, db, l, e, es, n, p, rfl, S, hp, hm, q⟩ := h
    have G_Order_trade_visible : FnOk P w K mg base CX0 1 T.f_Order_trade_visible T.d_Order_trade_visible ["self", "quantity"] (sp_Order_trade_visible K T.c_Order) := ok_Order_trade_visible T
    have G_BookSide_leave : FnOk P w K mg base CX0 1 T.f_BookSide_leave T.d_BookSide_leave ["self", "order"] (sp_BookSide_leave K T.c_Order T.c_BookSide) := ok_BookSide_leave T
    have G_BookSide_enter : FnOk P w K mg base CX0 4 T.f_BookSide_enter T.d_BookSide_enter ["self", "order"] (sp_BookSide_enter K T.c_Order T.c_BookSide) := ok_BookSide_enter T
    have hee := S.en e List.mem_cons_self
    have nd := List.nodup_cons.mp S.nd
    have hne : ∀ d, d ∈ es → d.1 ≠ e.1 := fun d hd hq => nd.1 (List.mem_map.mpr ⟨d, hd, hq⟩)
    obtain ⟨nb, nl⟩ := S.ord_ne hee
    refine ⟨_, (pss_cons (ps_set (i := 2) sc_BookSide_trade_first.nd rfl (Or.inl rfl) (pe_ix ix_list (pe_fld (pv 0) rfl) pe_int (fun _ _ => rfl)))
    (pss_cons (ps_expr (pe_meth (pv 2) T.cl_Order T.mt_Order_trade_visible G_Order_trade_visible (hr.mono (by decide)) T.b_Order_trade_visible .nil pass0 (pa_cons (pv 1) pa_nil)))
    (pss_one (ps_if (pt_cmpR op_eq (pe_fld (pv 2) rfl) pe_int (nomark _))
      (pss_cons (ps_expr (pe_meth (pv 0) T.cl_BookSide T.mt_BookSide_leave G_BookSide_leave (hr.mono (by decide)) T.b_BookSide_leave .nil pass0 (pa_cons (pv 2) pa_nil)))
      (pss_one (ps_if (pt_cmpR op_gt (pe_fld (pv 2) rfl) pe_int (nomark _))
        (pss_one (ps_expr (pe_meth (pv 0) T.cl_BookSide T.mt_BookSide_enter G_BookSide_enter hr T.b_BookSide_enter .nil pass0 (pa_cons (pv 2) pa_nil))))
        pss_nil)))
      pss_nil)))), ?_⟩
    have fact_BookSide_0 := T.cl_BookSide; have fact_BookSide_1 := T.na_BookSide__orders; have fact_Order_0 := T.cl_Order; have fact_Order_1 := T.na_Order_number; have fact_Order_2 := T.na_Order_house; have fact_Order_3 := T.na_Order_side; have fact_Order_4 := T.na_Order_price; have fact_Order_5 := T.na_Order_shown; have fact_Order_6 := T.na_Order_left; have fact_Order_7 := T.na_Order_visible
    have hob := S.ob
    have hli := S.li
    have hsm := S.sm
    have h0 : atI (refs (e :: es)) 0 = some (.ref e.1) := atI_nat (j := 0) rfl
    obtain ⟨o', ho'⟩ : ∃ o' : Ord, o' = { e.2.2 with left := e.2.2.left - n, visible := e.2.2.visible - n } := ⟨_, rfl⟩
    have hp' : o'.price = some p := by rw [ho']; exact hp
    have S1 : SideAt T.c_Order T.c_BookSide (upd H e.1 (ordO T.c_Order e.2.1 o')) b db l ((e.1, e.2.1, o') :: es) :=
      ⟨(upd_ne nb).trans S.ob, (upd_ne nl).trans S.li, fun d hd => by
        rcases List.mem_cons.mp hd with h | h
        · rw [h]
          exact upd_same
        · exact (upd_ne (hne d h)).trans (S.en d (List.mem_cons_of_mem _ h)), S.nd, S.sm⟩
    have fr1 : ∀ a, a ≠ e.1 → (upd H e.1 (ordO T.c_Order e.2.1 o')) a = H a := fun a h => upd_ne h
    have ht : tradeF e es n p = if o'.visible = 0 then (if 0 < o'.left then insE es (place es p) (e.1, e.2.1, o'.showNext) else es) else (e.1, e.2.1, o') :: es := by
      rw [ho']
      rfl
    walk_at "st"
    refine ⟨e.2.2, n, rfl, hee, ?_⟩
    rw [← ho']
    generalize upd H e.1 (ordO T.c_Order e.2.1 o') = H1 at S1 fr1
    have hob1 := S1.ob
    have hli1 := S1.li
    have hx1 := S1.en _ List.mem_cons_self
    have n1 : o'.number = e.2.2.number := by rw [ho']
    have n2 : o'.house = e.2.2.house := by rw [ho']
    have n3 : o'.side = e.2.2.side := by rw [ho']
    have n4 : o'.price = e.2.2.price := by rw [ho']
    have nd1 := List.nodup_cons.mp S1.nd
    have S2 : SideAt T.c_Order T.c_BookSide (upd H1 l (.lst (refs es))) b db l es := S1.put (fun d hd => S1.en d (List.mem_cons_of_mem _ hd)) nd1.2 (by simp at hsm; omega)
    have hx2 : (upd H1 l (.lst (refs es))) e.1 = some (ordO T.c_Order e.2.1 o') := (upd_ne (Ne.symm nl)).trans hx1
    walk_at "st"
    refine iteB (fun hv => ?_) (fun hv => ?_)
    · have hv0 : o'.visible = 0 := V.int.inj (dec_t hv)
      rw [if_pos hv0] at ht
      walk_at "st"
      refine ⟨[], (e.1, e.2.1, o'), es, rfl, S1, ?_⟩
      rw [List.nil_append]
      have fr2 : ∀ a, a ≠ l → a ≠ e.1 → (upd H1 l (.lst (refs es))) a = H a := fun a h1 h2 => (upd_ne h1).trans (fr1 a h2)
      generalize upd H1 l (.lst (refs es)) = H2 at S2 hx2 fr2
      have hob2 := S2.ob
      have hli2 := S2.li
      walk_at "st"
      refine iteD (fun hl => ?_) (fun hl => ?_)
      · rw [if_pos hl] at ht
        walk_at "st"
        refine ⟨es, o', p, rfl, S2, hx2, hne, hp', hm, ?_⟩
        have S3 := (S2.upd (o := ordO T.c_Order e.2.1 o'.showNext) nb nl hne).insert (k := place es p) (e := (e.1, e.2.1, o'.showNext)) upd_same hne (by simp at hsm; omega)
        rw [ht] at q
        refine q _ o'.showNext S3 ?_ n1 n2 n3 n4 fun a h1 h2 => ?_
        · exact (upd_ne (Ne.symm nl)).trans upd_same
        · exact (upd_ne h1).trans ((upd_ne h2).trans (fr2 a h1 h2))
      · rw [if_neg hl] at ht
        rw [ht] at q
        exact q H2 o' S2 hx2 n1 n2 n3 n4 fr2
    · have hv0 : ¬ o'.visible = 0 := fun z => dec_f hv (congrArg V.int z)
      rw [if_neg hv0] at ht
      rw [ht] at q
      exact q H1 o' S1 hx1 n1 n2 n3 n4 (fun a _ h => fr1 a h)
def rowV (o : Ord) : List V := [.int o.number, .str o.house, optV o.price, .int o.left, .int o.visible]
def sp_BookSide_rows (K : PySem.W.Frag) (CO CB : Addr) : Sp := fun vs H Q _ => ∃ (b db l : Addr) (es : List Ent), vs = [.ref b] ∧ SideAt CO CB H b db l es ∧
  ∀ D H' (ts : List (Addr × Ord)), Same H H' → H D = none → H' D = some (.lst (ts.map fun t => V.ref t.1)) → ts.map (·.2) = es.map (·.2.2) → (∀ t, t ∈ ts → H' t.1 = some (.tup (rowV t.2))) → Q (.ref D) H'
set_option maxHeartbeats 0 in
theorem ok_BookSide_rows (T : Txt K mg) : FnOk P w K mg base CX0 1 T.f_BookSide_rows T.d_BookSide_rows ["self"] (sp_BookSide_rows K T.c_Order T.c_BookSide) := by
  refine T.F_BookSide_rows.ok sc_BookSide_rows (fun vs H Q E h => ?_) (fun cdv A outer s H vs Q E hr h => ?_)
  · obtain ⟨b, db, l, es, rfl, _⟩ := h
    rfl
  · obtain ⟨b, db, l, es, rfl, S, q⟩ := h
    refine ⟨_, (pss_one (ps_ret (pe_lc (own := [("order", 1)]) (g := gName 1) (tt := tYes) rfl sc_BookSide_rows.nd (pi_list (pe_fld (pv 0) rfl)) (blkOk_by (own := [("order", 1)]) (N := N_BookSide_rows) (sc := defScope s_BookSide_rows) (by decide +kernel)) (fun _ _ _ _ _ => (pg_name (i := 1) sc_BookSide_rows.nd rfl (Or.inl rfl))) (fun _ _ _ _ _ => pts_nil) (fun _ _ _ _ _ => (pe_tup (pa_cons (show PE _ (Expr.Attribute _ "number" _) (tFld K _ "number") from pe_fld (pv 1) rfl) (pa_cons (show PE _ (Expr.Attribute _ "house" _) (tFld K _ "house") from pe_fld (pv 1) rfl) (pa_cons (show PE _ (Expr.Attribute _ "price" _) (tFld K _ "price") from pe_fld (pv 1) rfl) (pa_cons (show PE _ (Expr.Attribute _ "left" _) (tFld K _ "left") from pe_fld (pv 1) rfl) (pa_cons (show PE _ (Expr.Attribute _ "visible" _) (tFld K _ "visible") from pe_fld (pv 1) rfl) pa_nil)))))))))), ?_⟩
    have fact_BookSide_0 := T.cl_BookSide; have fact_BookSide_1 := T.na_BookSide__orders; have fact_Order_0 := T.cl_Order; have fact_Order_1 := T.na_Order_number; have fact_Order_2 := T.na_Order_house; have fact_Order_3 := T.na_Order_side; have fact_Order_4 := T.na_Order_price; have fact_Order_5 := T.na_Order_shown; have fact_Order_6 := T.na_Order_left; have fact_Order_7 := T.na_Order_visible
    have hob := S.ob
    have hli := S.li
    have hsm := S.sm
    have lenR : (refs es).length = es.length := List.length_map ..
    walk_at "st"
    intro D nD
    refine lc_list (K := K) (a := l) (xs := refs es) (fun i H' => ∃ ts : List (Addr × Ord), H' D = some (.lst (ts.map fun t => V.ref t.1)) ∧ (∀ t, t ∈ ts → H' t.1 = some (.tup (rowV t.2))) ∧ ts.map (·.2) = (es.take i).map (·.2.2) ∧ ts.length ≤ i ∧ Same H H')
      ⟨[], upd_same, (fun _ ht => by cases ht), rfl, Nat.le_refl _, same_upd nD⟩ (fun i H' _ ⟨_, _, _, _, _, e⟩ => e.seq (SqL.of hli)) ?_ ?_
    · rintro i x H' hx ⟨ts, hD, hts, hd, hlen, sa⟩
      obtain ⟨e, he, rfl⟩ := ents_at hx
      have hi := (List.getElem?_eq_some_iff.mp he).1
      have hen := sa _ _ (S.en e (List.mem_of_getElem? he))
      refine ⟨rfl, ?_⟩
      walk_at "st"
      intro p np
      have npD : D ≠ p := ne_of_none hD np
      refine ⟨_, (upd_ne npD).trans hD, ?_, ts ++ [(p, e.2.2)], ?_, fun t h => ?_, ?_, ?_, fun b' o' z => ?_⟩
      · rw [List.length_map]
        exact small1000 (by omega)
      · rw [upd_same, List.map_append]
        rfl
      · have hnD : t.1 ≠ D := fun e' => by
          rcases List.mem_append.mp h with h | h
          · have := hts t h
            rw [e', hD] at this
            cases this
          · rw [List.mem_singleton.mp h] at e'
            exact npD e'.symm
        rw [upd_ne hnD]
        rcases List.mem_append.mp h with h | h
        · rw [upd_ne (ne_of_none (hts t h) np)]
          exact hts t h
        · rw [List.mem_singleton.mp h, upd_same]
          rfl
      · rw [List.map_append, hd, take_succ he, List.map_append]
        rfl
      · rw [List.length_append]
        show ts.length + 1 ≤ i + 1
        omega
      · have hbD : b' ≠ D := fun e' => by rw [e'] at z; rw [z] at nD; cases nD
        rw [upd_ne hbD, upd_ne (ne_of_none (sa _ _ z) np)]
        exact sa _ _ z
    · rintro H' ⟨ts, hD, hts, hd, hlen, sa⟩
      rw [lenR, List.take_of_length_le (Nat.le_refl _)] at hd
      exact q D H' ts sa nD hD hd hts
/-- whether the taker could trade with it -/
def canT (t : Ord) (e : Ent) : Bool := decide (e.2.2.house ≠ t.house) && (match e.2.2.price with | some p => takes t.side t.price p | none => false)
def sp_BookSide_available (K : PySem.W.Frag) (CO CB : Addr) : Sp := fun vs H Q _ => ∃ (b db l x dx : Addr) (es : List Ent) (t : Ord), vs = [.ref b, .ref x] ∧ SideAt CO CB H b db l es ∧ H x = some (ordO CO dx t) ∧ (∀ e, e ∈ es → ∃ p, e.2.2.price = some p) ∧
  ∀ H', Same H H' → Q (.int ((es.filter (canT t)).map (fun e => e.2.2.left)).sum) H'
set_option maxHeartbeats 0 in
theorem ok_BookSide_available (T : Txt K mg) : FnOk P w K mg base CX0 3 T.f_BookSide_available T.d_BookSide_available ["self", "taker"] (sp_BookSide_available K T.c_Order T.c_BookSide) := by
  refine T.F_BookSide_available.ok sc_BookSide_available (fun vs H Q E h => ?_) (fun cdv A outer s H vs Q E hr h => ?_)
  · obtain ⟨b, db, l, x, dx, es, t, rfl, _⟩ := h
    rfl
  · obtain ⟨b, db, l, x, dx, es, t, rfl, S, hx, hp, q⟩ := h
    have G_Order_accepts_price : FnOk P w K mg base CX0 2 T.f_Order_accepts_price T.d_Order_accepts_price ["self", "price"] (sp_Order_accepts_price K T.c_Order) := ok_Order_accepts_price T
    refine ⟨_, (pss_cons (ps_setLc (i := 2) (own := [("order", 3)]) (g := gName 3) rfl sc_BookSide_available.nd rfl rfl (sw_true rfl rfl rfl (by decide +kernel)) (pi_list (pe_fld (pv 0) rfl)) (blkOk_by (own := [("order", 3)]) (N := N_BookSide_available) (sc := defScope s_BookSide_available) (by decide +kernel)) (fun _ _ _ _ _ => (pg_name (i := 3) sc_BookSide_available.nd rfl (Or.inl rfl))) (fun _ _ _ _ _ => pts_one (PW.pt (pw_and (pt_cmpR op_ne (show PE _ (Expr.Attribute _ "house" _) (tFld K _ "house") from pe_fld (pv 3) rfl) (show PE _ (Expr.Attribute _ "house" _) (tFld K _ "house") from pe_fld (pv 1) rfl) (nomark _)) (pw_and1 (pt_val (pe_meth (pv 1) T.cl_Order T.mt_Order_accepts_price G_Order_accepts_price hr T.b_Order_accepts_price .nil pass0 (pa_cons (show PE _ (Expr.Attribute _ "price" _) (tFld K _ "price") from pe_fld (pv 3) rfl) pa_nil))))))) (fun _ _ _ _ _ => (show PE _ (Expr.Attribute _ "left" _) (tFld K _ "left") from pe_fld (pv 3) rfl)))
    (pss_one (ps_ret (pe_callB (cr_sum rfl) (by rfl) T.z_sum (by decide +kernel) (pa_cons (pv 2) pa_nil))))), ?_⟩
    have fact_BookSide_0 := T.cl_BookSide; have fact_BookSide_1 := T.na_BookSide__orders; have fact_Order_0 := T.cl_Order; have fact_Order_1 := T.na_Order_number; have fact_Order_2 := T.na_Order_house; have fact_Order_3 := T.na_Order_side; have fact_Order_4 := T.na_Order_price; have fact_Order_5 := T.na_Order_shown; have fact_Order_6 := T.na_Order_left; have fact_Order_7 := T.na_Order_visible
    have hob := S.ob
    have hli := S.li
    have hsm := S.sm
    have lenR : (refs es).length = es.length := List.length_map ..
    walk_at "st"
    intro D nD
    refine lc_list (K := K) (a := l) (xs := refs es) (fun i H' => H' = upd H D (.lst ((((es.take i).filter (canT t)).map fun e => e.2.2.left).map V.int))) rfl (fun i H' _ e => by rw [e]; exact (same_upd nD).seq (SqL.of hli)) ?_ ?_
    · rintro i v H' hv rfl
      obtain ⟨e, he, rfl⟩ := ents_at hv
      have sD := same_upd (o := .lst ((((es.take i).filter (canT t)).map fun e => e.2.2.left).map V.int)) nD
      have hi := (List.getElem?_eq_some_iff.mp he).1
      have hen := sD _ _ (S.en e (List.mem_of_getElem? he))
      have hx1 := sD _ _ hx
      obtain ⟨p, hpe⟩ := hp e (List.mem_of_getElem? he)
      refine ⟨rfl, ?_⟩
      walk_at "st"
      have pos : canT t e = true → ((es.take (i + 1)).filter (canT t)) = ((es.take i).filter (canT t)) ++ [e] := fun h => by
        rw [take_succ he, List.filter_append, List.filter_cons_of_pos h, List.filter_nil]
      have neg : canT t e = false → ((es.take (i + 1)).filter (canT t)) = ((es.take i).filter (canT t)) := fun h => by
        rw [take_succ he, List.filter_append, List.filter_cons_of_neg (by rw [h]; exact Bool.false_ne_true), List.filter_nil, List.append_nil]
      refine iteB (fun h1 => ?_) (fun h1 => ?_)
      · have hh : e.2.2.house ≠ t.house := fun z => ndec_t h1 (congrArg V.str z)
        walk_at "st"
        refine ⟨t, p, by rw [hpe]; rfl, hx1, ?_⟩
        walk_at "st"
        refine iteB (fun h2 => ?_) (fun h2 => ?_)
        · have hc : canT t e = true := by
            unfold canT
            rw [hpe, decide_eq_true hh]
            exact h2
          rw [pos hc]
          have hll := List.length_filter_le (canT t) (es.take i)
          rw [List.length_take] at hll
          walk_at "st"
          rw [upd_upd, List.map_append, List.map_append]
          refine ⟨small1000 ?_, rfl⟩
          rw [List.length_map, List.length_map]
          omega
        · have hc : canT t e = false := by
            unfold canT
            rw [hpe, decide_eq_true hh]
            exact h2
          rw [neg hc]
      · have hh : e.2.2.house = t.house := V.str.inj (ndec_f h1)
        have hc : canT t e = false := by
          unfold canT
          rw [decide_eq_false (fun z => z hh)]
          rfl
        rw [neg hc]
        rfl
    · rintro H' rfl
      walk_at "st"
      rw [lenR, List.take_of_length_le (Nat.le_refl _)]
      exact q _ (same_upd nD)

/-! ### the book -/
def bookO (C dx : Addr) (last : Option Int) (next : Int) (sd st : Addr) : HO := .ins C dx [("last", optV last), ("_next_number", .int next), ("_sides", .ref sd), ("_stops", .ref st)]
def sidesO (b1 b2 : Addr) : HO := .dK [(Sum.inr "buy", .ref b1), (Sum.inr "sell", .ref b2)]
structure BookAt (CO CB CK : Addr) (H : Hp) (x dx sd st b1 d1 l1 b2 d2 l2 : Addr) (last : Option Int) (next : Int) (es1 es2 : List Ent) : Prop where
  ob : H x = some (bookO CK dx last next sd st)
  sd : H sd = some (sidesO b1 b2)
  st : H st = some (.lst [])
  s1 : SideAt CO CB H b1 d1 l1 es1
  s2 : SideAt CO CB H b2 d2 l2 es2
theorem SideAt.same {CO CB : Addr} {H H' : Hp} {b db l : Addr} {es : List Ent} (S : SideAt CO CB H b db l es) (e : Same H H') : SideAt CO CB H' b db l es :=
  ⟨e _ _ S.ob, e _ _ S.li, fun x hx => e _ _ (S.en x hx), S.nd, S.sm⟩
theorem side_new {CO CB : Addr} {H : Hp} {b d l : Addr} (nb : H b = none) (nd : H d = none) (hne : d ≠ b) (nl : upd (upd H d (.own b)) b (.ins CB d []) l = none) :
    SideAt CO CB (upd (upd (upd (upd H d (.own b)) b (.ins CB d [])) l (.lst [])) b (.ins CB d [("_orders", .ref l)])) b d l [] ∧ Same H (upd (upd (upd (upd H d (.own b)) b (.ins CB d [])) l (.lst [])) b (.ins CB d [("_orders", .ref l)])) := by
  have hlb : l ≠ b := fun z => by rw [z, upd_same] at nl; cases nl
  refine ⟨⟨upd_same, ?_, (fun e h => by cases h), List.nodup_nil, Nat.zero_le _⟩, fun c o e => ?_⟩
  · rw [upd_ne hlb, upd_same]
    rfl
  · have c1 : c ≠ b := ne_of_none e nb
    have c2 : c ≠ d := ne_of_none e nd
    have c3 : c ≠ l := fun z => by
      rw [← z, upd_ne c1, upd_ne c2, e] at nl
      cases nl
    rw [upd_ne c1, upd_ne c3, upd_ne c1, upd_ne c2]
    exact e
def sp_Book_init (K : PySem.W.Frag) (CO CB CK : Addr) : Sp := fun vs H Q _ => ∃ (x dx : Addr) (n : Int), vs = [.ref x, .int n] ∧ H x = some (.ins CK dx []) ∧ ∀ H' sd st b1 d1 l1 b2 d2 l2, BookAt CO CB CK H' x dx sd st b1 d1 l1 b2 d2 l2 none n [] [] → l1 ≠ l2 ∧ st ≠ l1 ∧ st ≠ l2 → H l1 = none ∧ H l2 = none → (∀ c o, c ≠ x → H c = some o → H' c = some o) → Q .non H'
set_option maxHeartbeats 0 in
theorem ok_Book_init (T : Txt K mg) : FnOk P w K mg base CX0 3 T.f_Book_init T.d_Book_init ["self", "first_number"] (sp_Book_init K T.c_Order T.c_BookSide T.c_Book) := by
  refine T.F_Book_init.ok sc_Book_init (fun vs H Q E h => ?_) (fun cdv A outer s H vs Q E hr h => ?_)
  · obtain ⟨x, dx, n, rfl, _⟩ := h
    rfl
  · obtain ⟨x, dx, n, rfl, hx, q⟩ := h
    have G_BookSide_init : FnOk P w K mg base CX0 1 T.f_BookSide_init T.d_BookSide_init ["self"] (sp_BookSide_init K T.c_Order T.c_BookSide) := ok_BookSide_init T
    refine ⟨_, (PSs.nox (pss_cons (ps_fld (pv 0) pe_non rfl)
    (pss_cons (ps_fld (pv 0) (pv 1) rfl)
    (pss_cons (ps_fld (pv 0) (pe_disp (pps_cons pe_str (pe_make0 T.mk_BookSide G_BookSide_init hr (by rfl) T.m_BookSide T.b_BookSide_init .nil pass0) (pps_cons pe_str (pe_make0 T.mk_BookSide G_BookSide_init hr (by rfl) T.m_BookSide T.b_BookSide_init .nil pass0) pps_nil)) (by rfl) (by rfl) (fun z => by cases z) (by decide)) rfl)
    (pss_one (ps_fld (pv 0) (pe_lst pa_nil) rfl)))))), ?_⟩
    have fact_BookSide_0 := T.cl_BookSide; have fact_BookSide_1 := T.na_BookSide__orders; have fact_Book_0 := T.cl_Book; have fact_Book_1 := T.na_Book_last; have fact_Book_2 := T.na_Book__next_number; have fact_Book_3 := T.na_Book__sides; have fact_Book_4 := T.na_Book__stops
    walk_at "st"
    rw [upd_upd, show putF "_next_number" (V.int n) (putF "last" V.non []) = ([("last", V.non), ("_next_number", .int n)] : List (Str × V)) from rfl]
    have hx1 : upd H x (.ins T.c_Book dx [("last", V.non), ("_next_number", .int n)]) x = some (.ins T.c_Book dx [("last", V.non), ("_next_number", .int n)]) := upd_same
    have fr1 : ∀ b o, b ≠ x → H b = some o → upd H x (.ins T.c_Book dx [("last", V.non), ("_next_number", .int n)]) b = some o := fun b o hb z => by rw [upd_ne hb]; exact z
    generalize upd H x (.ins T.c_Book dx [("last", V.non), ("_next_number", .int n)]) = H1 at *
    walk_at "st"
    intro D nD
    rw [tPairs]
    intro b1 d1 nb1 nd1 hne1
    walk_at "st"
    intro l1 nl1
    have nD1 : upd H1 D (.dK []) D = some (.dK []) := upd_same
    have sD : Same H1 (upd H1 D (.dK [])) := same_upd nD
    generalize upd H1 D (.dK []) = H2 at *
    have e0' : Same H2 (upd (upd H2 d1 (.own b1)) b1 (.ins T.c_BookSide d1 [])) := (same_upd nd1).trans (same_upd (by rw [upd_ne (Ne.symm hne1)]; exact nb1))
    obtain ⟨S1, e1⟩ := side_new (CO := T.c_Order) (CB := T.c_BookSide) nb1 nd1 hne1 nl1
    refine ⟨rfl, ?_⟩
    generalize upd (upd (upd (upd H2 d1 (.own b1)) b1 (.ins T.c_BookSide d1 [])) l1 (.lst [])) b1 (.ins T.c_BookSide d1 [("_orders", .ref l1)]) = H3 at *
    rw [tPairs]
    intro b2 d2 nb2 nd2 hne2
    walk_at "st"
    intro l2 nl2
    have e1' : Same H3 (upd (upd H3 d2 (.own b2)) b2 (.ins T.c_BookSide d2 [])) := (same_upd nd2).trans (same_upd (by rw [upd_ne (Ne.symm hne2)]; exact nb2))
    obtain ⟨S2, e2⟩ := side_new (CO := T.c_Order) (CB := T.c_BookSide) nb2 nd2 hne2 nl2
    refine ⟨rfl, ?_⟩
    generalize upd (upd (upd (upd H3 d2 (.own b2)) b2 (.ins T.c_BookSide d2 [])) l2 (.lst [])) b2 (.ins T.c_BookSide d2 [("_orders", .ref l2)]) = H4 at *
    have S1' := S1.same e2
    have hD4 := e2 _ _ (e1 _ _ nD1)
    rw [tPairs]
    refine ⟨hD4, [(Sum.inr "buy", .ref b1), (Sum.inr "sell", .ref b2)], rfl, (show 2 ≤ 15 by decide), ?_⟩
    rw [show mergeK [] ([(Sum.inr "buy", V.ref b1), (Sum.inr "sell", V.ref b2)] : List (Key × V)) = ([(Sum.inr "buy", V.ref b1), (Sum.inr "sell", V.ref b2)] : List (Key × V)) from rfl]
    have hxD : x ≠ D := ne_of_none hx1 nD
    have dif : ∀ {c : Addr} {o o' : HO}, H4 c = some o → o ≠ .dK [] → c ≠ D := fun e z w => by
      rw [w, hD4] at e
      exact z (Option.some.inj e).symm
    have hb1D : b1 ≠ D := fun w => by have := S1'.ob; rw [w, hD4] at this; cases this
    have hl1D : l1 ≠ D := fun w => by have := S1'.li; rw [w, hD4] at this; cases this
    have hb2D : b2 ≠ D := fun w => by have := S2.ob; rw [w, hD4] at this; cases this
    have hl2D : l2 ≠ D := fun w => by have := S2.li; rw [w, hD4] at this; cases this
    have S1a := S1'.upd (o := sidesO b1 b2) hb1D hl1D fun e h => by cases h
    have S2a := S2.upd (o := sidesO b1 b2) hb2D hl2D fun e h => by cases h
    have hx4 := e2 _ _ (e1 _ _ (sD _ _ hx1))
    have hx5 : upd H4 D (sidesO b1 b2) x = some (.ins T.c_Book dx [("last", V.non), ("_next_number", .int n)]) := (upd_ne hxD).trans hx4
    have hD5 : upd H4 D (sidesO b1 b2) D = some (sidesO b1 b2) := upd_same
    have fr5 : ∀ c o, c ≠ x → H c = some o → upd H4 D (sidesO b1 b2) c = some o := fun c o hc z => by
      have z1 := fr1 c o hc z
      rw [upd_ne (ne_of_none z1 nD)]
      exact e2 _ _ (e1 _ _ (sD _ _ z1))
    unfold sidesO at S1a S2a hx5 hD5 fr5
    generalize upd H4 D (.dK [(Sum.inr "buy", .ref b1), (Sum.inr "sell", .ref b2)]) = H5 at *
    walk_at "st"
    intro st nst
    have hxs : st ≠ x := fun z => by rw [z, upd_same] at nst; cases nst
    have nst5 : H5 st = none := by rw [← nst, upd_ne hxs]
    have nb1x : b1 ≠ x := fun w => by
      have := S1a.ob
      rw [w, hx5] at this
      injection (Option.some.inj this) with _ _ h3
      exact absurd (congrArg List.length h3) (show ¬ (2 = 1) by decide)
    have nl1x : l1 ≠ x := fun w => by have := S1a.li; rw [w, hx5] at this; cases this
    have nb2x : b2 ≠ x := fun w => by
      have := S2a.ob
      rw [w, hx5] at this
      injection (Option.some.inj this) with _ _ h3
      exact absurd (congrArg List.length h3) (show ¬ (2 = 1) by decide)
    have nl2x : l2 ≠ x := fun w => by have := S2a.li; rw [w, hx5] at this; cases this
    have hx6 : ∀ o, upd (upd H5 x o) st (.lst []) x = some o := fun o => by rw [upd_ne (Ne.symm hxs), upd_same]
    refine ⟨_, rfl, ?_⟩
    refine ⟨_, _, _, _, rfl, hx6 _, ‹_›, ‹_›, ?_, ?_⟩
    · show (3 : Nat) < 1000
      decide
    have g1 : ∀ {c : Addr} {o v w : HO}, c ≠ x → H5 c = some o → upd (upd (upd H5 x v) st (.lst [])) x w c = some o := fun hc hz => by
      rw [upd_ne hc, upd_ne (ne_of_none hz nst5), upd_ne hc]
      exact hz
    walk_at "st"
    have nst1 : st ≠ l1 := fun z => by rw [z, S1a.li] at nst5; cases nst5
    have nst2 : st ≠ l2 := fun z => by rw [z, S2a.li] at nst5; cases nst5
    have nll : l1 ≠ l2 := fun z => by
      have y := nl2
      have h1 := e1' _ _ S1.li
      rw [z] at h1
      rw [h1] at y
      cases y
    have nl10 : H l1 = none := by
      cases hh : H l1 with
      | none => rfl
      | some v =>
        have y := sD _ _ (fr1 _ _ nl1x hh)
        have z := nl1
        rw [e0' _ _ y] at z
        cases z
    have nl20 : H l2 = none := by
      cases hh : H l2 with
      | none => rfl
      | some v =>
        have y := e1 _ _ (sD _ _ (fr1 _ _ nl2x hh))
        have z := nl2
        rw [e1' _ _ y] at z
        cases z
    refine q _ D st b1 d1 l1 b2 d2 l2 ⟨?_, g1 (Ne.symm hxD) hD5, ?_, ⟨g1 nb1x S1a.ob, g1 nl1x S1a.li, (fun e h => by cases h), S1a.nd, S1a.sm⟩, ⟨g1 nb2x S2a.ob, g1 nl2x S2a.li, (fun e h => by cases h), S2a.nd, S2a.sm⟩⟩ ⟨nll, nst1, nst2⟩ ⟨nl10, nl20⟩ (fun c o hc z => g1 hc (fr5 c o hc z))
    · exact upd_same
    · rw [upd_ne hxs, upd_same]
theorem sides_buy {H : Hp} {sd b1 b2 : Addr} (h : H sd = some (sidesO b1 b2)) : DGet H sd (.str "buy") (some (.ref b1)) := DGet.k (k := Sum.inr "buy") h
theorem sides_sell {H : Hp} {sd b1 b2 : Addr} (h : H sd = some (sidesO b1 b2)) : DGet H sd (.str "sell") (some (.ref b2)) := DGet.k (k := Sum.inr "sell") h
/-- the order with the number, of the buyers first -/
def withNum (es1 es2 : List Ent) (n : Int) : Option Ent :=
  match es1.find? (fun e => decide (e.2.2.number = n)) with
  | some e => some e
  | none => es2.find? (fun e => decide (e.2.2.number = n))
def entV : Option Ent → V
  | none => .non
  | some e => .ref e.1
/-- a book's two sides -/
structure SidesAt (CO CB CK : Addr) (H : Hp) (x dx sd st b1 d1 l1 b2 d2 l2 : Addr) (last : Option Int) (next : Int) (es1 es2 : List Ent) : Prop where
  ob : H x = some (bookO CK dx last next sd st)
  sd : H sd = some (sidesO b1 b2)
  s1 : SideAt CO CB H b1 d1 l1 es1
  s2 : SideAt CO CB H b2 d2 l2 es2
def sp_Bookorder_with (K : PySem.W.Frag) (CO CB CK : Addr) : Sp := fun vs H Q _ => ∃ (x dx sd st b1 d1 l1 b2 d2 l2 : Addr) (last : Option Int) (next : Int) (es1 es2 : List Ent) (n : Int), vs = [.ref x, .int n] ∧ SidesAt CO CB CK H x dx sd st b1 d1 l1 b2 d2 l2 last next es1 es2 ∧
  Q (entV (withNum es1 es2 n)) H
/-- a book and its side of this name -/
structure BookSideAt (CO CB CK : Addr) (H : Hp) (x dx sd st : Addr) (last : Option Int) (next : Int) (s : Str) (b d l : Addr) (es : List Ent) : Prop where
  ob : H x = some (bookO CK dx last next sd st)
  sd : DGet H sd (.str s) (some (.ref b))
  sb : SideAt CO CB H b d l es
def sp_Book_orders (K : PySem.W.Frag) (CO CB CK : Addr) : Sp := fun vs H Q _ => ∃ (x dx sd st b d l : Addr) (last : Option Int) (next : Int) (es : List Ent) (s : Str), vs = [.ref x, .str s] ∧ BookSideAt CO CB CK H x dx sd st last next s b d l es ∧
  ∀ D H' (ts : List (Addr × Ord)), Same H H' → H D = none → H' D = some (.lst (ts.map fun t => V.ref t.1)) → ts.map (·.2) = es.map (·.2.2) → (∀ t, t ∈ ts → H' t.1 = some (.tup (rowV t.2))) → Q (.ref D) H'
set_option maxHeartbeats 0 in
theorem ok_Book_orders (T : Txt K mg) : FnOk P w K mg base CX0 2 T.f_Book_orders T.d_Book_orders ["self", "side"] (sp_Book_orders K T.c_Order T.c_BookSide T.c_Book) := by
  refine T.F_Book_orders.ok sc_Book_orders (fun vs H Q E h => ?_) (fun cdv A outer s H vs Q E hr h => ?_)
  · obtain ⟨x, dx, sd, st, b, d, l, last, next, es, s, rfl, _⟩ := h
    rfl
  · obtain ⟨x, dx, sd, st, b, d, l, last, next, es, s, rfl, B, q⟩ := h
    have G_BookSide_rows : FnOk P w K mg base CX0 1 T.f_BookSide_rows T.d_BookSide_rows ["self"] (sp_BookSide_rows K T.c_Order T.c_BookSide) := ok_BookSide_rows T
    refine ⟨_, (pss_one (ps_ret (pe_meth0 (pe_dget (hu_of hr) (pe_fld (pv 0) rfl) (pv 1) (fun _ _ => rfl)) T.cl_BookSide T.mt_BookSide_rows G_BookSide_rows hr T.b_BookSide_rows .nil pass0))), ?_⟩
    have fact_BookSide_0 := T.cl_BookSide; have fact_BookSide_1 := T.na_BookSide__orders; have fact_Book_0 := T.cl_Book; have fact_Book_1 := T.na_Book_last; have fact_Book_2 := T.na_Book__next_number; have fact_Book_3 := T.na_Book__sides; have fact_Book_4 := T.na_Book__stops; have fact_Order_0 := T.cl_Order; have fact_Order_1 := T.na_Order_number; have fact_Order_2 := T.na_Order_house; have fact_Order_3 := T.na_Order_side; have fact_Order_4 := T.na_Order_price; have fact_Order_5 := T.na_Order_shown; have fact_Order_6 := T.na_Order_left; have fact_Order_7 := T.na_Order_visible
    have hob := B.ob
    have hsd := B.sd
    have S := B.sb
    have hb := S.ob
    unfold bookO at hob
    walk_at "st"
    exact ⟨es, rfl, S, q⟩
def sp_Book_best (K : PySem.W.Frag) (CO CB CK : Addr) : Sp := fun vs H Q _ => ∃ (x dx sd st b d l : Addr) (last : Option Int) (next : Int) (es : List Ent) (s : Str), vs = [.ref x, .str s] ∧ BookSideAt CO CB CK H x dx sd st last next s b d l es ∧
  Q (match es with | [] => .non | e :: _ => optV e.2.2.price) H
set_option maxHeartbeats 0 in
theorem ok_Book_best (T : Txt K mg) : FnOk P w K mg base CX0 2 T.f_Book_best T.d_Book_best ["self", "side"] (sp_Book_best K T.c_Order T.c_BookSide T.c_Book) := by
  refine T.F_Book_best.ok sc_Book_best (fun vs H Q E h => ?_) (fun cdv A outer s H vs Q E hr h => ?_)
  · obtain ⟨x, dx, sd, st, b, d, l, last, next, es, s, rfl, _⟩ := h
    rfl
  · obtain ⟨x, dx, sd, st, b, d, l, last, next, es, s, rfl, B, q⟩ := h
    have G_BookSide_first : FnOk P w K mg base CX0 1 T.f_BookSide_first T.d_BookSide_first ["self"] (sp_BookSide_first K T.c_Order T.c_BookSide) := ok_BookSide_first T
    refine ⟨_, (pss_cons (ps_set (i := 2) sc_Book_best.nd rfl (Or.inl rfl) (pe_meth0 (pe_dget (hu_of hr) (pe_fld (pv 0) rfl) (pv 1) (fun _ _ => rfl)) T.cl_BookSide T.mt_BookSide_first G_BookSide_first hr T.b_BookSide_first .nil pass0))
    (pss_one (ps_ret (pe_ifExp (pt_cmpR op_isN (pv 2) pe_non (nomark _)) pe_non (pe_fld (pv 2) rfl))))), ?_⟩
    have fact_BookSide_0 := T.cl_BookSide; have fact_BookSide_1 := T.na_BookSide__orders; have fact_Book_0 := T.cl_Book; have fact_Book_1 := T.na_Book_last; have fact_Book_2 := T.na_Book__next_number; have fact_Book_3 := T.na_Book__sides; have fact_Book_4 := T.na_Book__stops; have fact_Order_0 := T.cl_Order; have fact_Order_1 := T.na_Order_number; have fact_Order_2 := T.na_Order_house; have fact_Order_3 := T.na_Order_side; have fact_Order_4 := T.na_Order_price; have fact_Order_5 := T.na_Order_shown; have fact_Order_6 := T.na_Order_left; have fact_Order_7 := T.na_Order_visible
    have hob := B.ob
    have hsd := B.sd
    have S := B.sb
    have hb := S.ob
    unfold bookO at hob
    cases es with
    | nil =>
      walk_at "st"
      refine ⟨[], rfl, S, ?_⟩
      walk_at "st"
      exact q
    | cons e r =>
      have he := S.en e (List.mem_cons_self ..)
      unfold ordO at he
      walk_at "st"
      refine ⟨e :: r, rfl, S, ?_⟩
      walk_at "st"
      exact q
def sp_Booktake_number (K : PySem.W.Frag) (CO CB CK : Addr) : Sp := fun vs H Q _ => ∃ (x dx sd st : Addr) (last : Option Int) (next : Int), vs = [.ref x] ∧ H x = some (bookO CK dx last next sd st) ∧ Q (.int next) (upd H x (bookO CK dx last (next + 1) sd st))
set_option maxHeartbeats 0 in
theorem ok_Booktake_number (T : Txt K mg) : FnOk P w K mg base CX0 1 T.f_Booktake_number T.d_Booktake_number ["self"] (sp_Booktake_number K T.c_Order T.c_BookSide T.c_Book) := by
  refine T.F_Booktake_number.ok sc_Booktake_number (fun vs H Q E h => ?_) (fun cdv A outer s H vs Q E hr h => ?_)
  · obtain ⟨x, dx, sd, st, last, next, rfl, _⟩ := h
    rfl
  · obtain ⟨x, dx, sd, st, last, next, rfl, hob, q⟩ := h
    
    refine ⟨_, (pss_cons (ps_set (i := 1) sc_Booktake_number.nd rfl (Or.inl rfl) (pe_fld (pv 0) rfl))
    (pss_cons (ps_fldaug (pv 0) pe_int in_add)
    (pss_one (ps_ret (pv 1))))), ?_⟩
    have fact_BookSide_0 := T.cl_BookSide; have fact_BookSide_1 := T.na_BookSide__orders; have fact_Book_0 := T.cl_Book; have fact_Book_1 := T.na_Book_last; have fact_Book_2 := T.na_Book__next_number; have fact_Book_3 := T.na_Book__sides; have fact_Book_4 := T.na_Book__stops; have fact_Order_0 := T.cl_Order; have fact_Order_1 := T.na_Order_number; have fact_Order_2 := T.na_Order_house; have fact_Order_3 := T.na_Order_side; have fact_Order_4 := T.na_Order_price; have fact_Order_5 := T.na_Order_shown; have fact_Order_6 := T.na_Order_left; have fact_Order_7 := T.na_Order_visible
    unfold bookO at hob q
    walk_at "st"
    exact q

/-! ### the order of a side, and what an order does to the other side -/
theorem takes_trans {s : Str} {a p p' : Int} (h1 : takes s (some a) p = true) (h2 : takes s (some p) p' = true) : takes s (some a) p' = true := by
  unfold takes at *
  dsimp only at *
  by_cases b : buyS s = true
  · rw [if_pos b] at *
    have := of_decide_eq_true h1
    have := of_decide_eq_true h2
    exact decide_eq_true (by omega)
  · rw [if_neg b] at *
    have := of_decide_eq_true h1
    have := of_decide_eq_true h2
    exact decide_eq_true (by omega)
theorem takes_step {s : Str} {d p p' : Int} (h1 : takes s (some d) p = false) (h2 : takes s (some d) p' = true) : takes s (some p) p' = true := by
  unfold takes at *
  dsimp only at *
  by_cases b : buyS s = true
  · rw [if_pos b] at *
    have := of_decide_eq_false h1
    have := of_decide_eq_true h2
    exact decide_eq_true (by omega)
  · rw [if_neg b] at *
    have := of_decide_eq_false h1
    have := of_decide_eq_true h2
    exact decide_eq_true (by omega)
theorem takes_self (s : Str) (p : Int) : takes s (some p) p = true := by
  unfold takes
  dsimp only
  split <;> exact decide_eq_true (by omega)
theorem mono_iff {es : List Ent} {p : Int} : Mono es p ↔ es.Pairwise fun a b => accE p b = true → accE p a = true := by
  rw [List.pairwise_iff_getElem]
  constructor
  · intro h i j hi hj hij
    exact h i j _ _ (by omega) (List.getElem?_eq_getElem hi) (List.getElem?_eq_getElem hj)
  · intro h i j e e' hij hi hj hp
    obtain ⟨hi1, hi2⟩ := List.getElem?_eq_some_iff.mp hi
    obtain ⟨hj1, hj2⟩ := List.getElem?_eq_some_iff.mp hj
    by_cases z : i = j
    · subst z
      rw [hi] at hj
      cases hj
      exact hp
    · have := h i j hi1 hj1 (by omega)
      rw [hi2, hj2] at this
      exact this hp
theorem place_split {p : Int} : ∀ {es : List Ent}, Mono es p → (∀ x, x ∈ es.take (place es p) → accE p x = true) ∧ ∀ x, x ∈ es.drop (place es p) → accE p x = false
  | [], _ => ⟨fun x h => (by rw [List.take_nil] at h; cases h), fun x h => (by rw [List.drop_nil] at h; cases h)⟩
  | e :: r, hm => by
    have hpw := List.pairwise_cons.mp (mono_iff.mp hm)
    have ih := place_split (mono_iff.mpr hpw.2)
    by_cases a : accE p e = true
    · have e1 : place (e :: r) p = place r p + 1 := by
        unfold place
        rw [List.takeWhile_cons, if_pos a, List.length_cons]
      rw [e1, List.take_succ_cons, List.drop_succ_cons]
      refine ⟨fun x h => ?_, ih.2⟩
      rcases List.mem_cons.mp h with h | h
      · rw [h]
        exact a
      · exact ih.1 x h
    · have e1 : place (e :: r) p = 0 := by
        unfold place
        rw [List.takeWhile_cons, if_neg a]
        rfl
      rw [e1, List.take_zero, List.drop_zero]
      refine ⟨fun x h => (by cases h), fun x h => ?_⟩
      cases c : accE p x with
      | false => rfl
      | true =>
        exfalso
        rcases List.mem_cons.mp h with h | h
        · rw [h] at c
          exact a c
        · exact a (hpw.1 x h c)
/-- one side in its order: sides and prices stand, each shows a part -/
structure Rank (s : Str) (es : List Ent) : Prop where
  side : ∀ e, e ∈ es → e.2.2.side = s
  price : ∀ e, e ∈ es → ∃ p, e.2.2.price = some p
  vis : ∀ e, e ∈ es → 1 ≤ e.2.2.visible ∧ e.2.2.visible ≤ e.2.2.left ∧ 0 ≤ e.2.2.shown
  mono : ∀ p, Mono es p
theorem Rank.nil (s : Str) : Rank s [] := ⟨fun _ h => (by cases h), fun _ h => (by cases h), fun _ h => (by cases h), fun p => mono_iff.mpr List.Pairwise.nil⟩
theorem Rank.tail {s : Str} {e : Ent} {es : List Ent} (h : Rank s (e :: es)) : Rank s es :=
  ⟨fun x hx => h.side x (List.mem_cons_of_mem _ hx), fun x hx => h.price x (List.mem_cons_of_mem _ hx), fun x hx => h.vis x (List.mem_cons_of_mem _ hx), fun p => mono_iff.mpr (List.pairwise_cons.mp (mono_iff.mp (h.mono p))).2⟩
theorem accE_of {p q : Int} {e : Ent} (h : e.2.2.price = some q) : accE p e = takes e.2.2.side (some q) p := by
  unfold accE
  rw [h]
theorem Rank.insert {s : Str} {e : Ent} {es : List Ent} {p : Int} (h : Rank s es) (hs : e.2.2.side = s) (hp : e.2.2.price = some p) (hv : 1 ≤ e.2.2.visible ∧ e.2.2.visible ≤ e.2.2.left ∧ 0 ≤ e.2.2.shown) : Rank s (insE es (place es p) e) := by
  have mem : ∀ {x}, x ∈ insE es (place es p) e → x = e ∨ x ∈ es := fun hx => insE_mem.mp hx
  obtain ⟨hb, ha⟩ := place_split (h.mono p)
  refine ⟨fun x hx => ?_, fun x hx => ?_, fun x hx => ?_, fun p' => mono_iff.mpr ?_⟩
  · rcases mem hx with z | z
    · rw [z]; exact hs
    · exact h.side x z
  · rcases mem hx with z | z
    · rw [z]; exact ⟨p, hp⟩
    · exact h.price x z
  · rcases mem hx with z | z
    · rw [z]; exact hv
    · exact h.vis x z
  · have hpw := mono_iff.mp (h.mono p')
    have hpw2 : (es.take (place es p) ++ es.drop (place es p)).Pairwise fun a b => accE p' b = true → accE p' a = true := by
      rw [List.take_append_drop]
      exact hpw
    rw [List.pairwise_append] at hpw2
    have before : ∀ x, x ∈ es.take (place es p) → accE p' e = true → accE p' x = true := fun x hx hz => by
      have hm := List.mem_of_mem_take hx
      obtain ⟨q, hq⟩ := h.price x hm
      have h1 := hb x hx
      rw [accE_of hq, h.side x hm] at h1 ⊢
      rw [accE_of hp, hs] at hz
      exact takes_trans h1 hz
    have after : ∀ x, x ∈ es.drop (place es p) → accE p' x = true → accE p' e = true := fun x hx hz => by
      have hm := List.mem_of_mem_drop hx
      obtain ⟨q, hq⟩ := h.price x hm
      have h1 := ha x hx
      rw [accE_of hq, h.side x hm] at h1 hz
      rw [accE_of hp, hs]
      exact takes_step h1 hz
    unfold insE
    rw [List.append_assoc, List.pairwise_append]
    refine ⟨hpw2.1, List.pairwise_cons.mpr ⟨fun x hx => after x hx, hpw2.2.1⟩, fun x hx y hy => ?_⟩
    rcases List.mem_cons.mp hy with z | z
    · rw [z]
      exact before x hx
    · exact hpw2.2.2 x hx y z
theorem showNext_vis {o : Ord} (h1 : 1 ≤ o.left) (h2 : 0 ≤ o.shown) : 1 ≤ o.showNext.visible ∧ o.showNext.visible ≤ o.showNext.left ∧ 0 ≤ o.showNext.shown := by
  unfold Ord.showNext
  dsimp only
  split
  · omega
  · split <;> omega
theorem Rank.trade {s : Str} {e : Ent} {es : List Ent} {n p : Int} (h : Rank s (e :: es)) (hp : e.2.2.price = some p) (hn : 1 ≤ n ∧ n ≤ e.2.2.visible) : Rank s (tradeF e es n p) := by
  have hv := h.vis e List.mem_cons_self
  have hs := h.side e List.mem_cons_self
  unfold tradeF
  dsimp only
  split
  · next z =>
    split
    · next z2 =>
      refine h.tail.insert (e := (e.1, e.2.1, Ord.showNext { e.2.2 with left := e.2.2.left - n, visible := e.2.2.visible - n })) ?_ ?_ ?_
      · exact hs
      · exact hp
      · exact showNext_vis (o := { e.2.2 with left := e.2.2.left - n, visible := e.2.2.visible - n }) (by dsimp only; omega) hv.2.2
    · exact h.tail
  · next z =>
    have ht := h.tail
    refine ⟨fun x hx => ?_, fun x hx => ?_, fun x hx => ?_, fun p' => mono_iff.mpr ?_⟩
    · rcases List.mem_cons.mp hx with c | c
      · rw [c]; exact hs
      · exact ht.side x c
    · rcases List.mem_cons.mp hx with c | c
      · rw [c]; exact ⟨p, hp⟩
      · exact ht.price x c
    · rcases List.mem_cons.mp hx with c | c
      · rw [c]; dsimp only; omega
      · exact ht.vis x c
    · have hpw := List.pairwise_cons.mp (mono_iff.mp (h.mono p'))
      refine List.pairwise_cons.mpr ⟨fun x hx => ?_, hpw.2⟩
      exact hpw.1 x hx
/-- how far an order has come -/
structure Mt where
  es : List Ent
  left : Int
  last : Option Int
  fills : List (Int × Str × Int × Int)
  gone : List Int
def prcE (e : Ent) : Int := e.2.2.price.getD 0
def goesM (t : Ord) (m : Mt) : Option Ent := match m.es with
  | [] => none
  | e :: _ => if 0 < m.left ∧ takes t.side t.price (prcE e) = true then some e else none
def qtyM (m : Mt) (e : Ent) : Int := if e.2.2.visible < m.left then e.2.2.visible else m.left
def stepM (t : Ord) (m : Mt) (e : Ent) : Mt := if e.2.2.house = t.house then { m with es := m.es.tail, gone := m.gone ++ [e.2.2.number] } else ⟨tradeF e m.es.tail (qtyM m e) (prcE e), m.left - qtyM m e, some (prcE e), m.fills ++ [(e.2.2.number, e.2.2.house, prcE e, qtyM m e)], m.gone⟩
def runM (t : Ord) : Nat → Mt → Mt
  | 0, m => m
  | k + 1, m => match goesM t m with
    | none => m
    | some e => runM t k (stepM t m e)
def sizeM (m : Mt) : Nat := m.left.toNat + m.es.length
theorem tradeF_len (e : Ent) (es : List Ent) (n p : Int) : (tradeF e es n p).length ≤ es.length + 1 := by
  unfold tradeF
  dsimp only
  split
  · split
    · rw [(insE_perm _ _ _).length_eq, List.length_cons]
      exact Nat.le_refl _
    · exact Nat.le_succ _
  · exact Nat.le_refl _
theorem goesM_some {t : Ord} {m : Mt} {e : Ent} (h : goesM t m = some e) : m.es = e :: m.es.tail ∧ 0 < m.left ∧ takes t.side t.price (prcE e) = true := by
  unfold goesM at h
  split at h
  · cases h
  · next e' r hes =>
    split at h
    · next z =>
      cases h
      rw [hes]
      exact ⟨rfl, z.1, z.2⟩
    · cases h
theorem stepM_less {t : Ord} {m : Mt} {e : Ent} {s : Str} (hr : Rank s m.es) (h : goesM t m = some e) : sizeM (stepM t m e) < sizeM m ∧ 0 ≤ (stepM t m e).left ∧ Rank s (stepM t m e).es := by
  obtain ⟨h1, h2, h3⟩ := goesM_some h
  rw [h1] at hr
  have hv := hr.vis e List.mem_cons_self
  obtain ⟨p, hp⟩ := hr.price e List.mem_cons_self
  have hpp : prcE e = p := by unfold prcE; rw [hp]; rfl
  have hl : m.es.length = m.es.tail.length + 1 := by rw [h1]; rfl
  unfold stepM sizeM
  split
  · dsimp only
    exact ⟨by omega, by omega, hr.tail⟩
  · dsimp only
    have hq : 1 ≤ qtyM m e ∧ qtyM m e ≤ e.2.2.visible ∧ qtyM m e ≤ m.left := by
      unfold qtyM
      split <;> omega
    have := tradeF_len e m.es.tail (qtyM m e) (prcE e)
    exact ⟨by omega, by omega, hr.trade (by rw [hpp]; exact hp) ⟨hq.1, hq.2.1⟩⟩
theorem runM_stop {t : Ord} {m : Mt} (h : goesM t m = none) : ∀ k, runM t k m = m
  | 0 => rfl
  | k + 1 => by
    show (match goesM t m with | none => m | some e => runM t k (stepM t m e)) = m
    rw [h]
theorem runM_go {t : Ord} {m : Mt} {e : Ent} (h : goesM t m = some e) (k : Nat) : runM t (k + 1) m = runM t k (stepM t m e) := by
  show (match goesM t m with | none => m | some e => runM t k (stepM t m e)) = _
  rw [h]
theorem runM_fuel {s : Str} {t : Ord} : ∀ (k : Nat) {m : Mt}, Rank s m.es → sizeM m ≤ k → ∀ j, sizeM m ≤ j → runM t k m = runM t j m := by
  intro k
  induction k with
  | zero =>
    intro m hr hk j hj
    cases h : goesM t m with
    | none => rw [runM_stop h, runM_stop h]
    | some e =>
      have := stepM_less hr h
      omega
  | succ k ih =>
    intro m hr hk j hj
    cases h : goesM t m with
    | none => rw [runM_stop h, runM_stop h]
    | some e =>
      have hs := stepM_less hr h
      obtain ⟨j', rfl⟩ : ∃ j', j = j' + 1 := ⟨j - 1, by omega⟩
      rw [runM_go h, runM_go h]
      exact ih hs.2.2 (by omega) j' (by omega)
theorem runM_next {s : Str} {t : Ord} {m : Mt} {e : Ent} (hr : Rank s m.es) (h : goesM t m = some e) : runM t (sizeM m) m = runM t (sizeM (stepM t m e)) (stepM t m e) := by
  have hs := stepM_less hr h
  obtain ⟨j, ej⟩ : ∃ j, sizeM m = j + 1 := ⟨sizeM m - 1, by omega⟩
  rw [ej, runM_go h]
  exact runM_fuel j hs.2.2 (by omega) _ (Nat.le_refl _)
def firstV : List Ent → V
  | [] => .non
  | e :: _ => .ref e.1

/-- all but one object stay -/
def KeepX (x : Addr) (H H' : Hp) : Prop := ∀ z o, z ≠ x → H z = some o → H' z = some o
theorem KeepX.then {x : Addr} {H H1 H2 : Hp} (h : KeepX x H H1) (e : Same H1 H2) : KeepX x H H2 := fun z o nz hz => e z o (h z o nz hz)
theorem KeepX.set {x : Addr} {H H1 : Hp} {o : HO} (h : KeepX x H H1) : KeepX x H (upd H1 x o) := fun z o nz hz => by
  rw [upd_ne nz]
  exact h z o nz hz
theorem keepX_of {x : Addr} {H H' : Hp} (e : Same H H') : KeepX x H H' := fun z o _ hz => e z o hz
theorem KeepX.lst {x : Addr} {H H' : Hp} (k : KeepX x H H') {c d : Addr} {l : List (Str × V)} (hx : H x = some (.ins c d l)) {a : Addr} {xs : List V} (h : H a = some (.lst xs)) : H' a = some (.lst xs) := k a _ (fun z => by rw [z, hx] at h; cases h) h

theorem smallM {n : Nat} (h : n ≤ 2000000) : n < sizeLine := Nat.lt_of_le_of_lt h (by decide)
def otherS (s : Str) : Str := if buyS s = true then "sell" else "buy"
def sp_other_side (K : PySem.W.Frag) : Sp := fun vs H Q _ => ∃ s : Str, vs = [.str s] ∧ Q (.str (otherS s)) H
set_option maxHeartbeats 0 in
theorem ok_other_side (T : Txt K mg) : FnOk P w K mg base CX0 1 T.f_other_side T.d_other_side ["side"] (sp_other_side K) := by
  refine T.F_other_side.ok sc_other_side (fun vs H Q E h => ?_) (fun cdv A outer s H vs Q E hr h => ?_)
  · obtain ⟨s, rfl, _⟩ := h
    rfl
  · obtain ⟨s, rfl, q⟩ := h
    refine ⟨_, (pss_one (ps_ret (pe_ifExp (pt_cmpR op_eq (pv 0) pe_str (nomark _)) pe_str pe_str))), ?_⟩
    unfold otherS at q
    walk_at "st"
    refine iteB (fun h => ?_) (fun h => ?_)
    · rw [if_pos (show buyS s = true from h)] at q
      exact q
    · rw [if_neg (by rw [show buyS s = false from h]; exact Bool.false_ne_true)] at q
      exact q
def repO (C dx : Addr) (n : Int) (ho si : Str) (fl rm : Addr) (rest : Int) : HO := .ins C dx [("number", .int n), ("house", .str ho), ("side", .str si), ("fills", .ref fl), ("removed", .ref rm), ("resting", .int rest)]
def sp_Report_init (K : PySem.W.Frag) (C : Addr) : Sp := fun vs H Q _ => ∃ (x dx : Addr) (n : Int) (ho si : Str), vs = [.ref x, .int n, .str ho, .str si] ∧ H x = some (.ins C dx []) ∧
  ∀ fl rm H', KeepX x H H' → H' x = some (repO C dx n ho si fl rm 0) → H' fl = some (.lst []) → H' rm = some (.lst []) → H fl = none → H rm = none → fl ≠ rm → Q .non H'
set_option maxHeartbeats 0 in
theorem ok_Report_init (T : Txt K mg) : FnOk P w K mg base CX0 1 T.f_Report_init T.d_Report_init ["self", "number", "house", "side"] (sp_Report_init K T.c_Report) := by
  refine T.F_Report_init.ok sc_Report_init (fun vs H Q E h => ?_) (fun cdv A outer s H vs Q E hr h => ?_)
  · obtain ⟨x, dx, n, ho, si, rfl, _⟩ := h
    rfl
  · obtain ⟨x, dx, n, ho, si, rfl, hx, q⟩ := h
    
    refine ⟨_, (pss_cons (ps_fld (pv 0) (pv 1) rfl)
    (pss_cons (ps_fld (pv 0) (pv 2) rfl)
    (pss_cons (ps_fld (pv 0) (pv 3) rfl)
    (pss_cons (ps_fld (pv 0) (pe_lst pa_nil) rfl)
    (pss_cons (ps_fld (pv 0) (pe_lst pa_nil) rfl)
    (pss_one (ps_fld (pv 0) pe_int rfl))))))), ?_⟩
    have fact_Report_0 := T.cl_Report; have fact_Report_1 := T.na_Report_number; have fact_Report_2 := T.na_Report_house; have fact_Report_3 := T.na_Report_side; have fact_Report_4 := T.na_Report_fills; have fact_Report_5 := T.na_Report_removed; have fact_Report_6 := T.na_Report_resting
    refine ⟨_, rfl, _, rfl, setF hx T.cl_Report T.na_Report_number rfl ?_⟩
    refine ⟨_, rfl, _, rfl, setF upd_same T.cl_Report T.na_Report_house rfl ?_⟩
    refine ⟨_, rfl, _, rfl, setF upd_same T.cl_Report T.na_Report_side rfl ?_⟩
    simp only [upd_upd]
    have k1 : KeepX x H (upd H x (.ins T.c_Report dx (putF "side" (.str si) (putF "house" (.str ho) (putF "number" (.int n) []))))) := (keepX_of (Same.refl H)).set
    have hx1 : upd H x (.ins T.c_Report dx (putF "side" (.str si) (putF "house" (.str ho) (putF "number" (.int n) [])))) x = some (.ins T.c_Report dx [("number", .int n), ("house", .str ho), ("side", .str si)]) := upd_same
    have fr1 : ∀ z, z ≠ x → upd H x (.ins T.c_Report dx (putF "side" (.str si) (putF "house" (.str ho) (putF "number" (.int n) [])))) z = H z := fun z hz => upd_ne hz
    generalize upd H x _ = H1 at *
    walk_at "st"
    intro fl nfl
    have nfx : fl ≠ x := fun z => by rw [z, hx1] at nfl; cases nfl
    have hx2 : upd H1 fl (.lst []) x = some (.ins T.c_Report dx [("number", .int n), ("house", .str ho), ("side", .str si)]) := (upd_ne nfx.symm).trans hx1
    refine ⟨_, rfl, setF hx2 T.cl_Report T.na_Report_fills rfl ?_⟩
    have nfl0 : H fl = none := by rw [← fr1 fl nfx]; exact nfl
    have k2 : KeepX x H (upd (upd H1 fl (.lst [])) x (.ins T.c_Report dx (putF "fills" (.ref fl) [("number", .int n), ("house", .str ho), ("side", .str si)]))) := (k1.then (same_upd nfl)).set
    have hx3 : upd (upd H1 fl (.lst [])) x (.ins T.c_Report dx (putF "fills" (.ref fl) [("number", .int n), ("house", .str ho), ("side", .str si)])) x = some (.ins T.c_Report dx [("number", .int n), ("house", .str ho), ("side", .str si), ("fills", .ref fl)]) := upd_same
    have hfl3 : upd (upd H1 fl (.lst [])) x (.ins T.c_Report dx (putF "fills" (.ref fl) [("number", .int n), ("house", .str ho), ("side", .str si)])) fl = some (.lst []) := (upd_ne nfx).trans upd_same
    have fr3 : ∀ z, z ≠ x → z ≠ fl → upd (upd H1 fl (.lst [])) x (.ins T.c_Report dx (putF "fills" (.ref fl) [("number", .int n), ("house", .str ho), ("side", .str si)])) z = H z := fun z hz hf => by rw [upd_ne hz, upd_ne hf, fr1 z hz]
    generalize upd (upd H1 fl _) x _ = H3 at *
    walk_at "st"
    intro rm nrm
    have nrx : rm ≠ x := fun z => by rw [z, hx3] at nrm; cases nrm
    have nrf : rm ≠ fl := fun z => by rw [z, hfl3] at nrm; cases nrm
    have hx4 : upd H3 rm (.lst []) x = some (.ins T.c_Report dx [("number", .int n), ("house", .str ho), ("side", .str si), ("fills", .ref fl)]) := (upd_ne nrx.symm).trans hx3
    refine ⟨_, rfl, setF hx4 T.cl_Report T.na_Report_removed rfl ?_⟩
    refine ⟨_, rfl, setF upd_same T.cl_Report T.na_Report_resting rfl ?_⟩
    rw [upd_upd]
    have nrm0 : H rm = none := by rw [← fr3 rm nrx nrf]; exact nrm
    refine q fl rm _ ((k2.then (same_upd nrm)).set) upd_same ?_ ?_ nfl0 nrm0 nrf.symm
    · rw [upd_ne nfx, upd_ne nrf.symm]
      exact hfl3
    · rw [upd_ne nrx]
      exact upd_same
def encFill (x : Int × Str × Int × Int) : List V := [.int x.1, .str x.2.1, .int x.2.2.1, .int x.2.2.2]
/-- what stays but for the places that a match may touch -/
def FrM (A : List Addr) (la o x fl rm : Addr) (H H' : Hp) : Prop := ∀ z v, z ∉ A → z ≠ la → z ≠ o → z ≠ x → z ≠ fl → z ≠ rm → H z = some v → H' z = some v
structure EnterIn (CO CB CK : Addr) (H : Hp) (x dx sd st b d l b2 d2 l2 o dxo : Addr) (last : Option Int) (next : Int) (es es2 : List Ent) (t : Ord) : Prop where
  ob : H x = some (bookO CK dx last next sd st)
  sdo : DGet H sd (.str (otherS t.side)) (some (.ref b))
  sds : DGet H sd (.str t.side) (some (.ref b2))
  s1 : SideAt CO CB H b d l es
  s2 : SideAt CO CB H b2 d2 l2 es2
  r1 : Rank (otherS t.side) es
  r2 : Rank t.side es2
  ho : H o = some (ordO CO dxo t)
  n1 : ∀ e, e ∈ es → e.1 ≠ o
  n2 : ∀ e, e ∈ es2 → e.1 ≠ o
  l0 : 1 ≤ t.left
  sh : 0 ≤ t.shown
  dj : ∀ e, e ∈ es → ∀ y, y ∈ es2 → e.1 ≠ y.1
  nll : l ≠ l2
  sdv : ∃ c1 c2, H sd = some (sidesO c1 c2)
theorem dget_keep {H H' : Hp} {a : Addr} {s : Str} {o : Option V} (h : DGet H a (.str s) o) (k : ∀ v, H a = some v → H' a = some v) : DGet H' a (.str s) o := by
  rcases h with ⟨kvs, y, h | ⟨z, h⟩, e1, e2⟩ | ⟨kvs, y, c, _, e1, _⟩
  · exact .inl ⟨kvs, y, .inl (k _ h), e1, e2⟩
  · exact .inl ⟨kvs, y, .inr ⟨z, k _ h⟩, e1, e2⟩
  · cases e1
theorem EnterIn.same {CO CB CK : Addr} {H H' : Hp} {x dx sd st b d l b2 d2 l2 o dxo : Addr} {last : Option Int} {next : Int} {es es2 : List Ent} {t : Ord} (E : EnterIn CO CB CK H x dx sd st b d l b2 d2 l2 o dxo last next es es2 t) (e : Same H H') : EnterIn CO CB CK H' x dx sd st b d l b2 d2 l2 o dxo last next es es2 t :=
  ⟨e _ _ E.ob, dget_keep E.sdo fun v => e _ v, dget_keep E.sds fun v => e _ v, E.s1.same e, E.s2.same e, E.r1, E.r2, e _ _ E.ho, E.n1, E.n2, E.l0, E.sh, E.dj, E.nll, E.sdv.elim fun c1 h => h.elim fun c2 h => ⟨c1, c2, e _ _ h⟩⟩
theorem Tups.frame {α : Type} {enc : α → List V} {H H' : Hp} {l : Addr} {ps : List Addr} {xs : List α} (h : Tups enc H l ps xs) (k1 : H' l = H l) (k2 : ∀ a ys, H a = some (.tup ys) → H' a = some (.tup ys)) : Tups enc H' l ps xs :=
  ⟨k1.trans h.lst, h.len, fun i p x a b => k2 _ _ (h.row i p x a b)⟩
theorem tradeF_mem {e y : Ent} {es : List Ent} {n p : Int} (h : y ∈ tradeF e es n p) : y.1 = e.1 ∨ y ∈ es := by
  unfold tradeF at h
  dsimp only at h
  split at h
  · split at h
    · rcases insE_mem.mp h with z | z
      · exact .inl (by rw [z])
      · exact .inr z
    · exact .inr h
  · rcases List.mem_cons.mp h with z | z
    · exact .inl (by rw [z])
    · exact .inr z
def muM (o l : Addr) (H : Hp) : Nat := match H o, H l with
  | some (.ins _ _ [_, _, _, _, _, (_, .int lf), _]), some (.lst xs) => lf.toNat + xs.length
  | _, _ => 0
theorem muM_eq {o l C dxo : Addr} {H : Hp} {t : Ord} {m : Mt} (h1 : H o = some (ordO C dxo { t with left := m.left })) (h2 : H l = some (.lst (refs m.es))) : muM o l H = sizeM m := by
  unfold muM
  rw [h1, h2]
  unfold ordO refs sizeM
  show m.left.toNat + (List.map _ m.es).length = _
  rw [List.length_map]
def availM (t : Ord) (es : List Ent) : Int := ((es.filter (canT t)).map (fun e => e.2.2.left)).sum
def restsM (kind : Str) (m : Mt) : Bool := decide (V.str kind = V.str "rest") && decide (m.left > 0)
def sp_Bookenter (K : PySem.W.Frag) (CO CB CK CR : Addr) : Sp := fun vs H Q _ => ∃ (_ : Unit) (x dx sd st b d l b2 d2 l2 o dxo : Addr) (last : Option Int) (next : Int) (es es2 : List Ent) (t : Ord) (kind : Str), vs = [.ref x, .ref o, .str kind] ∧ EnterIn CO CB CK H x dx sd st b d l b2 d2 l2 o dxo last next es es2 t ∧ (V.str kind = V.str "rest" → ∃ p, t.price = some p) ∧ es.length + es2.length ≤ 900 ∧ t.left ≤ 1000000 ∧
  (V.str kind = V.str "all" → availM t es < t.left → ∀ r dr fl rm H', Same H H' → H r = none → H fl = none → H rm = none → H' r = some (repO CR dr t.number t.house t.side fl rm 0) → H' fl = some (.lst []) → H' rm = some (.lst []) → Q (.ref r) H') ∧
  (¬ (V.str kind = V.str "all" ∧ availM t es < t.left) → ∀ (r dr fl rm : Addr) (fs : List Addr) (m : Mt) (H' : Hp), m = runM t (sizeM ⟨es, t.left, last, [], []⟩) ⟨es, t.left, last, [], []⟩ → H r = none → H fl = none → H rm = none → H' r = some (repO CR dr t.number t.house t.side fl rm (if restsM kind m = true then m.left else 0)) → Tups encFill H' fl fs m.fills → H' rm = some (.lst (m.gone.map V.int)) → H' x = some (bookO CK dx m.last next sd st) →
    SideAt CO CB H' b d l m.es → SideAt CO CB H' b2 d2 l2 (if restsM kind m = true then insE es2 (place es2 (t.price.getD 0)) (o, dxo, Ord.showNext { t with left := m.left }) else es2) → (∀ z v, z ∉ es.map (·.1) → z ≠ l → z ≠ l2 → z ≠ o → z ≠ x → H z = some v → H' z = some v) → Q (.ref r) H')
set_option maxHeartbeats 0 in
theorem ok_Bookenter (T : Txt K mg) : FnOk P w K mg base CX0 6 T.f_Bookenter T.d_Bookenter ["self", "order", "kind"] (sp_Bookenter K T.c_Order T.c_BookSide T.c_Book T.c_Report) := by
  refine T.F_Bookenter.ok sc_Bookenter (fun vs H Q E h => ?_) (fun cdv A outer s H vs Q E hr h => ?_)
  · obtain ⟨_, x, dx, sd, st, b, d, l, b2, d2, l2, o, dxo, last, next, es, es2, t, kind, rfl, _⟩ := h
    rfl
  · obtain ⟨_, x, dx, sd, st, b, d, l, b2, d2, l2, o, dxo, last, next, es, es2, t, kind, rfl, E, hkp, hsz, hszl, qall, qrun⟩ := h
    have G_Report_init : FnOk P w K mg base CX0 1 T.f_Report_init T.d_Report_init ["self", "number", "house", "side"] (sp_Report_init K T.c_Report) := ok_Report_init T
    have G_BookSide_first : FnOk P w K mg base CX0 1 T.f_BookSide_first T.d_BookSide_first ["self"] (sp_BookSide_first K T.c_Order T.c_BookSide) := ok_BookSide_first T
    have G_other_side : FnOk P w K mg base CX0 1 T.f_other_side T.d_other_side ["side"] (sp_other_side K) := ok_other_side T
    have G_Order_accepts_price : FnOk P w K mg base CX0 2 T.f_Order_accepts_price T.d_Order_accepts_price ["self", "price"] (sp_Order_accepts_price K T.c_Order) := ok_Order_accepts_price T
    have G_BookSide_enter : FnOk P w K mg base CX0 4 T.f_BookSide_enter T.d_BookSide_enter ["self", "order"] (sp_BookSide_enter K T.c_Order T.c_BookSide) := ok_BookSide_enter T
    have G_BookSide_available : FnOk P w K mg base CX0 3 T.f_BookSide_available T.d_BookSide_available ["self", "taker"] (sp_BookSide_available K T.c_Order T.c_BookSide) := ok_BookSide_available T
    have G_BookSide_leave : FnOk P w K mg base CX0 1 T.f_BookSide_leave T.d_BookSide_leave ["self", "order"] (sp_BookSide_leave K T.c_Order T.c_BookSide) := ok_BookSide_leave T
    have G_BookSide_trade_first : FnOk P w K mg base CX0 5 T.f_BookSide_trade_first T.d_BookSide_trade_first ["self", "quantity"] (sp_BookSide_trade_first K T.c_Order T.c_BookSide) := ok_BookSide_trade_first T
    refine ⟨_, (pss_cons (ps_set (i := 3) sc_Bookenter.nd rfl (Or.inl rfl) (pe_make T.mk_Report G_Report_init (hr.mono (by decide)) (by rfl) T.m_Report T.b_Report_init .nil pass0 (pa_cons (pe_fld (pv 1) rfl) (pa_cons (pe_fld (pv 1) rfl) (pa_cons (pe_fld (pv 1) rfl) pa_nil)))))
    (pss_cons (ps_set (i := 4) sc_Bookenter.nd rfl (Or.inl rfl) (pe_dget (hu_of hr) (pe_fld (pv 0) rfl) (pe_call G_other_side (hr.mono (by decide)) (by rfl) T.m_other_side T.F_other_side.kp T.b_other_side .nil pass0 (pa_cons (pe_fld (pv 1) rfl) pa_nil)) (fun _ _ => rfl)))
    (C8.pss_cut (ps_if (PW.pt (pw_and (pt_cmpR op_eq (pv 2) pe_str (nomark _)) (pw_and1 (pt_cmpR op_lt (pe_meth (pv 4) T.cl_BookSide T.mt_BookSide_available G_BookSide_available (hr.mono (by decide)) T.b_BookSide_available .nil pass0 (pa_cons (pv 1) pa_nil)) (pe_fld (pv 1) rfl) (nomark _)))))
      (pss_one (ps_ret (pv 3)))
      pss_nil)
    (pss_cons (ps_set (i := 5) sc_Bookenter.nd rfl (Or.inl rfl) (pe_meth0 (pv 4) T.cl_BookSide T.mt_BookSide_first G_BookSide_first (hr.mono (by decide)) T.b_BookSide_first .nil pass0))
    (C8.pss_cut (ps_while PassesOwn.never (PW.pt (pw_and (pt_cmpR op_gt (pe_fld (pv 1) rfl) pe_int (nomark _)) (pw_and (pt_cmpR op_notN (pv 5) pe_non (nomark _)) (pw_and1 (pt_val (pe_meth (pv 1) T.cl_Order T.mt_Order_accepts_price G_Order_accepts_price (hr.mono (by decide)) T.b_Order_accepts_price .nil pass0 (pa_cons (pe_fld (pv 5) rfl) pa_nil)))))))
      (pss_cons (ps_if (pt_cmpR op_eq (pe_fld (pv 5) rfl) (pe_fld (pv 1) rfl) (nomark _))
        (pss_cons (ps_expr (pe_meth (pv 4) T.cl_BookSide T.mt_BookSide_leave G_BookSide_leave (hr.mono (by decide)) T.b_BookSide_leave .nil pass0 (pa_cons (pv 5) pa_nil)))
        (pss_one (ps_expr (pe_bm PySem.F.plainAttrs_list PySem.F.slot_list_append PySem.F.type_list_append mt_append (pe_fld (pv 3) rfl) (pa_cons (pe_fld (pv 5) rfl) pa_nil)))))
        (pss_cons (ps_set (i := 6) sc_Bookenter.nd rfl (Or.inl rfl) (pe_callB (call_min2 rfl) (by rfl) T.z_min (by decide +kernel) (pa_cons (pe_fld (pv 1) rfl) (pa_cons (pe_fld (pv 5) rfl) pa_nil))))
        (pss_cons (ps_fldaug (pv 1) (pv 6) in_sub)
        (pss_cons (ps_expr (pe_meth (pv 4) T.cl_BookSide T.mt_BookSide_trade_first G_BookSide_trade_first hr T.b_BookSide_trade_first .nil pass0 (pa_cons (pv 6) pa_nil)))
        (pss_cons (ps_expr (pe_bm PySem.F.plainAttrs_list PySem.F.slot_list_append PySem.F.type_list_append mt_append (pe_fld (pv 3) rfl) (pa_cons (pe_tup (pa_cons (pe_fld (pv 5) rfl) (pa_cons (pe_fld (pv 5) rfl) (pa_cons (pe_fld (pv 5) rfl) (pa_cons (pv 6) pa_nil))))) pa_nil)))
        (pss_one (ps_fld (pv 0) (pe_fld (pv 5) rfl) rfl)))))))
      (pss_one (ps_set (i := 5) sc_Bookenter.nd rfl (Or.inl rfl) (pe_meth0 (pv 4) T.cl_BookSide T.mt_BookSide_first G_BookSide_first (hr.mono (by decide)) T.b_BookSide_first .nil pass0)))))
    (pss_cons (ps_if (PW.pt (pw_and (pt_cmpR op_eq (pv 2) pe_str (nomark _)) (pw_and1 (pt_cmpR op_gt (pe_fld (pv 1) rfl) pe_int (nomark _)))))
      (pss_cons (ps_expr (pe_meth (pe_dget (hu_of hr) (pe_fld (pv 0) rfl) (pe_fld (pv 1) rfl) (fun _ _ => rfl)) T.cl_BookSide T.mt_BookSide_enter G_BookSide_enter (hr.mono (by decide)) T.b_BookSide_enter .nil pass0 (pa_cons (pv 1) pa_nil)))
      (pss_one (ps_fld (pv 3) (pe_fld (pv 1) rfl) rfl)))
      pss_nil)
    (pss_one (ps_ret (pv 3))))))))), ?_⟩
    have fact_BookSide_0 := T.cl_BookSide; have fact_BookSide_1 := T.na_BookSide__orders; have fact_Book_0 := T.cl_Book; have fact_Book_1 := T.na_Book_last; have fact_Book_2 := T.na_Book__next_number; have fact_Book_3 := T.na_Book__sides; have fact_Book_4 := T.na_Book__stops; have fact_Order_0 := T.cl_Order; have fact_Order_1 := T.na_Order_number; have fact_Order_2 := T.na_Order_house; have fact_Order_3 := T.na_Order_side; have fact_Order_4 := T.na_Order_price; have fact_Order_5 := T.na_Order_shown; have fact_Order_6 := T.na_Order_left; have fact_Order_7 := T.na_Order_visible; have fact_Report_0 := T.cl_Report; have fact_Report_1 := T.na_Report_number; have fact_Report_2 := T.na_Report_house; have fact_Report_3 := T.na_Report_side; have fact_Report_4 := T.na_Report_fills; have fact_Report_5 := T.na_Report_removed; have fact_Report_6 := T.na_Report_resting
    have hob := E.ob
    unfold bookO at hob
    have ho := E.ho
    unfold ordO at ho
    have hsd := E.sdo
    have hb := E.s1.ob
    walk_at "st"
    intro r dr nr ndr hne
    have nr' : upd H dr (.own r) r = none := by
      first
        | (rw [upd_ne hne]; exact nr)
        | (rw [upd_ne (Ne.symm hne)]; exact nr)
    have sx : Same H (upd (upd H dr (.own r)) r (.ins T.c_Report dr [])) := (same_upd ndr).trans (same_upd nr')
    refine ⟨r, dr, t.number, t.house, t.side, rfl, upd_same, fun fl rm H1 kx hr hfl hrm nfl nrm hfr => ?_⟩
    have fresh0 : ∀ {z : Addr}, upd (upd H dr (.own r)) r (.ins T.c_Report dr []) z = none → H z = none := fun {z} hz => by
      cases hh : H z with
      | none => rfl
      | some v =>
        have := sx z v hh
        rw [hz] at this
        cases this
    have nfl0 := fresh0 nfl
    have nrm0 := fresh0 nrm
    have e1 : Same H H1 := fun z v hz => kx z v (ne_of_none hz nr) (sx z v hz)
    have E1 := E.same e1
    have hob1 := E1.ob
    unfold bookO at hob1
    have ho1 := E1.ho
    unfold ordO at ho1
    have hsd1 := E1.sdo
    have hb1 := E1.s1.ob
    refine ⟨rfl, ?_⟩
    walk_at "st"
    refine ⟨fun σ' H' => σ' = [some (.ref x), some (.ref o), some (.str kind), some (.ref r), some (.ref b), none, none] ∧ Same H1 H' ∧ ¬ (V.str kind = V.str "all" ∧ availM t es < t.left), ?_, ?_⟩
    · walk_at "st"
      dsimp only
      refine iteB (fun h => ?_) (fun h => ⟨rfl, Same.refl H1, fun z => of_decide_eq_false h z.1⟩)
      walk_at "st"
      refine ⟨es, t, rfl, E1.s1, E1.ho, E1.r1.price, fun H2 e2 => ?_⟩
      have ho2 := e2 _ _ ho1
      have hr2 := e2 _ _ hr
      unfold repO at hr2
      walk_at "st"
      refine iteB (fun h2 => ?_) (fun h2 => ⟨rfl, e2, fun z => of_decide_eq_false h2 z.2⟩)
      walk_at "st"
      exact qall (of_decide_eq_true h) (of_decide_eq_true h2) r dr fl rm H2 (e1.trans e2) nr nfl0 nrm0 (e2 _ _ hr) (e2 _ _ hfl) (e2 _ _ hrm)
    · rintro σ H2 ⟨rfl, e2, hna⟩
      have E2 := E1.same e2
      have e02 := e1.trans e2
      have S2 := E2.s1
      have hb2 := S2.ob
      walk_at "st"
      refine ⟨es, rfl, S2, ?_⟩
      refine ⟨fun σ H' => ∃ (_ : Unit) (v6 : Option V) (m : Mt) (fs : List Addr), m = runM t (sizeM ⟨es, t.left, last, [], []⟩) ⟨es, t.left, last, [], []⟩ ∧ σ = [some (.ref x), some (.ref o), some (.str kind), some (.ref r), some (.ref b), some (firstV m.es), v6] ∧
          0 ≤ m.left ∧ Rank (otherS t.side) m.es ∧ (∀ e, e ∈ m.es → e.1 ∈ es.map (·.1)) ∧ sizeM m + m.fills.length + m.gone.length ≤ 2000000 ∧
          H' r = some (repO T.c_Report dr t.number t.house t.side fl rm 0) ∧ H' o = some (ordO T.c_Order dxo { t with left := m.left }) ∧ Tups encFill H' fl fs m.fills ∧ H' rm = some (.lst (m.gone.map V.int)) ∧ H' x = some (bookO T.c_Book dx m.last next sd st) ∧ SideAt T.c_Order T.c_BookSide H' b d l m.es ∧ (∀ f, f ∈ fs → True) ∧
          ∀ z v, z ∉ es.map (·.1) → z ≠ l → z ≠ o → z ≠ x → H z = some v → H' z = some v, ?_, ?_⟩
      · refine while_by (fun σ H' => ∃ (_ : Unit) (v6 : Option V) (m : Mt) (fs : List Addr), runM t (sizeM m) m = runM t (sizeM ⟨es, t.left, last, [], []⟩) ⟨es, t.left, last, [], []⟩ ∧ σ = [some (.ref x), some (.ref o), some (.str kind), some (.ref r), some (.ref b), some (firstV m.es), v6] ∧
          0 ≤ m.left ∧ Rank (otherS t.side) m.es ∧ (∀ e, e ∈ m.es → e.1 ∈ es.map (·.1)) ∧ sizeM m + m.fills.length + m.gone.length ≤ 2000000 ∧
          H' r = some (repO T.c_Report dr t.number t.house t.side fl rm 0) ∧ H' o = some (ordO T.c_Order dxo { t with left := m.left }) ∧ Tups encFill H' fl fs m.fills ∧ H' rm = some (.lst (m.gone.map V.int)) ∧ H' x = some (bookO T.c_Book dx m.last next sd st) ∧ SideAt T.c_Order T.c_BookSide H' b d l m.es ∧ (∀ f, f ∈ fs → True) ∧
          ∀ z v, z ∉ es.map (·.1) → z ≠ l → z ≠ o → z ≠ x → H z = some v → H' z = some v)
          (fun _ H' => muM o l H')
          ⟨(), none, ⟨es, t.left, last, [], []⟩, [], rfl, rfl, ?_, E.r1, fun e he => List.mem_map.mpr ⟨e, he, rfl⟩, ?_, e2 _ _ hr, E2.ho, .nil (e2 _ _ hfl), e2 _ _ hrm, E2.ob, S2, fun _ _ => trivial, fun z v _ _ _ _ hz => e02 z v hz⟩ ?_ ?_
        · have := E.l0
          show 0 ≤ t.left
          omega
        · show t.left.toNat + es.length + 0 + 0 ≤ 2000000
          omega
        · rintro σ H3 ⟨_, v6, m, fs, hrun, rfl, hl0, hrank, hmem, hsz3, hr3, ho3, hf3, hg3, hx3, S3, hfn, hfr3⟩
          have ho3' : H3 o = some (.ins T.c_Order dxo [("number", .int t.number), ("house", .str t.house), ("side", .str t.side), ("price", optV t.price), ("shown", .int t.shown), ("left", .int m.left), ("visible", .int t.visible)]) := ho3
          have stop : goesM t m = none → m = runM t (sizeM ⟨es, t.left, last, [], []⟩) ⟨es, t.left, last, [], []⟩ := fun z => by rw [← hrun, runM_stop z]
          cases hes : m.es with
          | nil =>
            have hg : goesM t m = none := by
              unfold goesM
              rw [hes]
            have hE := stop hg
            rw [show firstV [] = V.non from rfl]
            have hst : ([some (.ref x), some (.ref o), some (.str kind), some (.ref r), some (.ref b), some V.non, v6] : L2.St) = [some (.ref x), some (.ref o), some (.str kind), some (.ref r), some (.ref b), some (firstV m.es), v6] := by rw [hes]; rfl
            walk_at "st"
            dsimp only
            refine iteB (fun h => ?_) (fun h => ⟨(), v6, m, fs, hE, hst, hl0, hrank, hmem, hsz3, hr3, ho3, hf3, hg3, hx3, S3, hfn, hfr3⟩)
            walk_at "st"
            exact ⟨(), v6, m, fs, hE, hst, hl0, hrank, hmem, hsz3, hr3, ho3, hf3, hg3, hx3, S3, hfn, hfr3⟩
          | cons e rest =>
            have hst : ([some (.ref x), some (.ref o), some (.str kind), some (.ref r), some (.ref b), some (V.ref e.1), v6] : L2.St) = [some (.ref x), some (.ref o), some (.str kind), some (.ref r), some (.ref b), some (firstV m.es), v6] := by rw [hes]; rfl
            have exi : goesM t m = none → ∃ (_ : Unit) (v6' : Option V) (m' : Mt) (fs' : List Addr), m' = runM t (sizeM ⟨es, t.left, last, [], []⟩) ⟨es, t.left, last, [], []⟩ ∧ ([some (.ref x), some (.ref o), some (.str kind), some (.ref r), some (.ref b), some (V.ref e.1), v6] : L2.St) = [some (.ref x), some (.ref o), some (.str kind), some (.ref r), some (.ref b), some (firstV m'.es), v6'] ∧
          0 ≤ m'.left ∧ Rank (otherS t.side) m'.es ∧ (∀ e, e ∈ m'.es → e.1 ∈ es.map (·.1)) ∧ sizeM m' + m'.fills.length + m'.gone.length ≤ 2000000 ∧
          H3 r = some (repO T.c_Report dr t.number t.house t.side fl rm 0) ∧ H3 o = some (ordO T.c_Order dxo { t with left := m'.left }) ∧ Tups encFill H3 fl fs' m'.fills ∧ H3 rm = some (.lst (m'.gone.map V.int)) ∧ H3 x = some (bookO T.c_Book dx m'.last next sd st) ∧ SideAt T.c_Order T.c_BookSide H3 b d l m'.es ∧ (∀ f, f ∈ fs' → True) ∧
          ∀ z v, z ∉ es.map (·.1) → z ≠ l → z ≠ o → z ≠ x → H z = some v → H3 z = some v := fun z => ⟨(), v6, m, fs, stop z, hst, hl0, hrank, hmem, hsz3, hr3, ho3, hf3, hg3, hx3, S3, hfn, hfr3⟩
            rw [show firstV (e :: rest) = V.ref e.1 from rfl]
            have S4 := S3
            rw [hes] at S4
            have hr4 := hrank
            rw [hes] at hr4
            obtain ⟨p, hp⟩ := hr4.price e List.mem_cons_self
            have hv := hr4.vis e List.mem_cons_self
            have hpp : prcE e = p := by unfold prcE; rw [hp]; rfl
            have hee := S4.en e List.mem_cons_self
            unfold ordO at hee
            rw [hp, show optV (some p) = V.int p from rfl] at hee
            walk_at "st"
            dsimp only
            refine iteB (fun h => ?_) (fun h => exi (by
              have := of_decide_eq_false h
              unfold goesM
              rw [hes]
              exact if_neg fun z => this z.1))
            have hlp := of_decide_eq_true h
            walk_at "st"
            refine ⟨{ t with left := m.left }, p, rfl, ho3, ?_⟩
            walk_at "st"
            refine iteB (fun h2 => ?_) (fun h2 => exi (by
              unfold goesM
              rw [hes]
              refine if_neg fun z => ?_
              have z2 := z.2
              rw [hpp] at z2
              rw [show takes t.side t.price p = false from h2] at z2
              cases z2))
            have hg : goesM t m = some e := by
              unfold goesM
              rw [hes]
              exact if_pos ⟨hlp, by rw [hpp]; exact h2⟩
            have hnx := runM_next hrank hg
            have hsl := stepM_less hrank hg
            have hli3 := S4.li
            have hb3 := S4.ob
            have ndl := List.nodup_cons.mp S4.nd
            have oldl : H l ≠ none := fun z => by rw [E.s1.li] at z; cases z
            have nrl : r ≠ l := fun z => by rw [z, hli3] at hr3; cases hr3
            have nol : o ≠ l := fun z => by rw [z, hli3] at ho3; cases ho3
            have nxl : x ≠ l := fun z => by rw [z, hli3] at hx3; cases hx3
            have nfll : fl ≠ l := fun z => oldl (by rw [← z]; exact nfl0)
            have nrml : rm ≠ l := fun z => oldl (by rw [← z]; exact nrm0)
            have nrmr : rm ≠ r := fun z => by rw [z, hr3] at hg3; cases hg3
            have nrmo : rm ≠ o := fun z => by rw [z, ho3] at hg3; cases hg3
            have nrmx : rm ≠ x := fun z => by rw [z, hx3] at hg3; cases hg3
            have nel : e.1 ≠ l := S4.le List.mem_cons_self
            walk_at "st"
            dsimp only
            refine iteB (fun hh => ?_) (fun hh => ?_)
            · have hh := V.str.inj (of_decide_eq_true hh)
              have hm' : stepM t m e = ⟨rest, m.left, m.last, m.fills, m.gone ++ [e.2.2.number]⟩ := by
                unfold stepM
                rw [if_pos hh, hes]
                rfl
              rw [hm'] at hnx hsl
              have S5 : SideAt T.c_Order T.c_BookSide (upd H3 l (.lst (refs rest))) b d l rest := S4.put (fun y hy => S4.en y (List.mem_cons_of_mem _ hy)) ndl.2 (by have := S4.sm; rw [List.length_cons] at this; omega)
              have hr5 : upd H3 l (.lst (refs rest)) r = _ := (upd_ne nrl).trans hr3
              unfold repO at hr5
              have hg5 : upd H3 l (.lst (refs rest)) rm = _ := (upd_ne nrml).trans hg3
              have he5 : upd H3 l (.lst (refs rest)) e.1 = _ := (upd_ne nel).trans hee
              walk_at "st"
              refine ⟨[], e, rest, rfl, S4, ?_⟩
              rw [List.nil_append]
              walk_at "st"
              have nbr : b ≠ rm := fun z => by rw [z, hg3] at hb3; cases hb3
              have her : ∀ y, y ∈ rest → y.1 ≠ rm := fun y hy z => by
                have := S4.en y (List.mem_cons_of_mem _ hy)
                rw [z, hg3] at this
                unfold ordO at this
                cases this
              have S6 := S5.upd (o := .lst (m.gone.map V.int ++ [V.int e.2.2.number])) nbr nrml.symm her
              have hb6 := S6.ob
              have hgs : (m.gone.map V.int).length < sizeLine := smallM (by rw [List.length_map]; omega)
              walk_at "st"
              refine ⟨rest, rfl, S6, ?_⟩
              refine ⟨⟨(), v6, ⟨rest, m.left, m.last, m.fills, m.gone ++ [e.2.2.number]⟩, fs, by rw [← hnx]; exact hrun, rfl, hl0, hsl.2.2, fun y hy => hmem y (by rw [hes]; exact List.mem_cons_of_mem _ hy), ?_, (upd_ne nrmr.symm).trans ((upd_ne nrl).trans hr3), (upd_ne nrmo.symm).trans ((upd_ne nol).trans ho3), (hf3.other hli3 nfll).other hg5 hfr, ?_, (upd_ne nrmx.symm).trans ((upd_ne nxl).trans hx3), S6, hfn, fun z v h1 h2 h3 h4 hz => ?_⟩, ?_⟩
              · have h1 := hsl.1
                show sizeM _ + m.fills.length + (m.gone ++ [e.2.2.number]).length ≤ 2000000
                rw [List.length_append]
                show _ + _ + (_ + 1) ≤ 2000000
                omega
              · rw [upd_same, List.map_append]
                rfl
              · rw [upd_ne (fun y => by rw [y, nrm0] at hz; cases hz), upd_ne h2]
                exact hfr3 z v h1 h2 h3 h4 hz
              · show muM o l _ < muM o l H3
                rw [muM_eq (m := m) ho3 (by rw [hes]; exact hli3), muM_eq (m := ⟨rest, m.left, m.last, m.fills, m.gone ++ [e.2.2.number]⟩) ((upd_ne nrmo.symm).trans ((upd_ne nol).trans ho3)) S6.li]
                exact hsl.1
            · have hh : ¬ e.2.2.house = t.house := fun z => of_decide_eq_false hh (congrArg V.str z)
              obtain ⟨qt, eqt⟩ : ∃ z, qtyM m e = z := ⟨_, rfl⟩
              have hqt : (if e.2.2.visible < m.left then e.2.2.visible else m.left) = qt := eqt
              have hm' : stepM t m e = ⟨tradeF e rest qt p, m.left - qt, some p, m.fills ++ [(e.2.2.number, e.2.2.house, p, qt)], m.gone⟩ := by
                unfold stepM
                rw [if_neg hh, hes, eqt, hpp]
                rfl
              rw [hm'] at hnx hsl
              have nro : r ≠ o := fun z => by
                rw [z, ho3] at hr3
                unfold ordO repO at hr3
                injection hr3 with hr3
                injection hr3 with _ _ h3
                exact absurd (congrArg List.length h3) (show ¬ 7 = 6 by decide)
              have nxo : x ≠ o := fun z => by
                rw [z, ho3] at hx3
                unfold ordO bookO at hx3
                injection hx3 with hx3
                injection hx3 with _ _ h3
                exact absurd (congrArg List.length h3) (show ¬ 7 = 4 by decide)
              have neo : ∀ y, y ∈ e :: rest → y.1 ≠ o := fun y hy => by
                obtain ⟨y2, hy2, hy3⟩ := List.mem_map.mp (hmem y (by rw [hes]; exact hy))
                rw [← hy3]
                exact E.n1 y2 hy2
              obtain ⟨nbo, nlo⟩ := S4.ord_ne ho3
              have hbA : upd H3 o (.ins T.c_Order dxo (putF "left" (.int (m.left - (if e.2.2.visible < m.left then e.2.2.visible else m.left))) [("number", .int t.number), ("house", .str t.house), ("side", .str t.side), ("price", optV t.price), ("shown", .int t.shown), ("left", .int m.left), ("visible", .int t.visible)])) b = _ := (upd_ne nbo).trans hb3
              have eO : HO.ins T.c_Order dxo (putF "left" (.int (m.left - qt)) [("number", .int t.number), ("house", .str t.house), ("side", .str t.side), ("price", optV t.price), ("shown", .int t.shown), ("left", .int m.left), ("visible", .int t.visible)]) = ordO T.c_Order dxo { t with left := m.left - qt } := rfl
              have SA := S4.upd (o := ordO T.c_Order dxo { t with left := m.left - qt }) nbo nlo neo
              walk_at "st"
              dsimp only
              rw [hqt, eO]
              have neos := neo e List.mem_cons_self
              refine ⟨e, rest, qt, p, rfl, SA, hp, (hr4.tail).mono p, fun HB ob SB heB hn1 hn2 hn3 hn4 hfB => ?_⟩
              have ner : r ≠ e.1 := fun z => by
                rw [z, hee] at hr3
                unfold repO at hr3
                injection hr3 with hr3
                injection hr3 with _ _ h3
                exact absurd (congrArg List.length h3) (show ¬ 7 = 6 by decide)
              have nex : x ≠ e.1 := fun z => by
                rw [z, hee] at hx3
                unfold bookO at hx3
                injection hx3 with hx3
                injection hx3 with _ _ h3
                exact absurd (congrArg List.length h3) (show ¬ 7 = 4 by decide)
              have hfl3 := hf3.lst
              have nefl : fl ≠ e.1 := fun z => by rw [z, hee] at hfl3; cases hfl3
              have nerm : rm ≠ e.1 := fun z => by rw [z, hee] at hg3; cases hg3
              have nflo : fl ≠ o := fun z => by rw [z, ho3] at hfl3; cases hfl3
              have nflx : fl ≠ x := fun z => by rw [z, hx3] at hfl3; cases hfl3
              have nflr : fl ≠ r := fun z => by rw [z, hr3] at hfl3; cases hfl3
              have nxr : x ≠ r := fun z => by
                rw [z, hr3] at hx3
                unfold repO bookO at hx3
                injection hx3 with hx3
                injection hx3 with _ _ h3
                exact absurd (congrArg List.length h3) (show ¬ 6 = 4 by decide)
              have hrB : HB r = _ := (hfB r nrl ner).trans ((upd_ne nro).trans hr3)
              have hxB : HB x = _ := (hfB x nxl nex).trans ((upd_ne nxo).trans hx3)
              have hoB : HB o = _ := (hfB o nol neos.symm).trans upd_same
              have hgB : HB rm = _ := (hfB rm nrml nerm).trans ((upd_ne nrmo).trans hg3)
              have hfB3 : Tups encFill HB fl fs m.fills := hf3.frame ((hfB fl nfll nefl).trans (upd_ne nflo)) fun a ys ha => (hfB a (fun z => by rw [z, hli3] at ha; cases ha) (fun z => by rw [z, hee] at ha; cases ha)).trans ((upd_ne (fun z => by rw [z, ho3] at ha; cases ha)).trans ha)
              have heB2 : HB e.1 = some (.ins T.c_Order e.2.1 [("number", .int e.2.2.number), ("house", .str e.2.2.house), ("side", .str ob.side), ("price", .int p), ("shown", .int ob.shown), ("left", .int ob.left), ("visible", .int ob.visible)]) := by
                have z := heB
                unfold ordO at z
                rw [hn1, hn2, hn4, hp] at z
                exact z
              have hrB2 := hrB
              unfold repO at hrB2
              have hxB2 := hxB
              unfold bookO at hxB2
              have hflB := hfB3.lst
              walk_at "st"
              intro TT nTT
              have sTT := same_upd (o := .tup [.int e.2.2.number, .str e.2.2.house, .int p, .int qt]) nTT
              have hTT : upd HB TT (.tup [.int e.2.2.number, .str e.2.2.house, .int p, .int qt]) TT = some (.tup (encFill (e.2.2.number, e.2.2.house, p, qt))) := upd_same
              have hfC := hfB3.push sTT nTT hTT
              have hrC := sTT _ _ hrB2
              have hxC := sTT _ _ hxB2
              have hflC := sTT _ _ hflB
              have heC := sTT _ _ heB2
              have SC := SB.same sTT
              have hsfl : (fs.map V.ref).length < sizeLine := smallM (by rw [List.length_map, hf3.len]; omega)
              generalize upd HB TT _ = HC at *
              have hxD : upd HC fl (.lst (fs.map V.ref ++ [.ref TT])) x = _ := (upd_ne nflx.symm).trans hxC
              have heD : upd HC fl (.lst (fs.map V.ref ++ [.ref TT])) e.1 = _ := (upd_ne nefl.symm).trans heC
              have nbfl : b ≠ fl := fun z => by have := SC.ob; rw [z, hflC] at this; cases this
              have enf : ∀ y, y ∈ tradeF e rest qt p → y.1 ≠ fl := fun y hy z => by
                have := SC.en y hy
                rw [z, hflC] at this
                unfold ordO at this
                cases this
              have enx : ∀ y, y ∈ tradeF e rest qt p → y.1 ≠ x := fun y hy z => by
                have := SC.en y hy
                rw [z, hxC] at this
                unfold ordO at this
                injection this with this
                injection this with _ _ h3
                exact absurd (congrArg List.length h3) (show ¬ 4 = 7 by decide)
              have nbx : b ≠ x := fun z => by
                have := SC.ob
                rw [z, hxC] at this
                injection this with this
                injection this with _ _ h3
                exact absurd (congrArg List.length h3) (show ¬ 4 = 1 by decide)
              have SD := SC.upd (o := .lst (fs.map V.ref ++ [.ref TT])) nbfl nfll.symm enf
              have SE := SD.upd (o := bookO T.c_Book dx (some p) next sd st) nbx nxl.symm enx
              have hbE := SE.ob
              have eB : HO.ins T.c_Book dx (putF "last" (.int p) [("last", optV m.last), ("_next_number", .int next), ("_sides", .ref sd), ("_stops", .ref st)]) = bookO T.c_Book dx (some p) next sd st := rfl
              have hbE2 : upd (upd HC fl (.lst (fs.map V.ref ++ [.ref TT]))) x (HO.ins T.c_Book dx (putF "last" (.int p) [("last", optV m.last), ("_next_number", .int next), ("_sides", .ref sd), ("_stops", .ref st)])) b = _ := hbE
              walk_at "st"
              rw [eB]
              refine ⟨tradeF e rest qt p, rfl, SE, ?_⟩
              have hoE : upd (upd HC fl (.lst (fs.map V.ref ++ [.ref TT]))) x (bookO T.c_Book dx (some p) next sd st) o = some (ordO T.c_Order dxo { t with left := m.left - qt }) := (upd_ne nxo.symm).trans ((upd_ne nflo.symm).trans (sTT _ _ hoB))
              refine ⟨⟨(), some (.int qt), ⟨tradeF e rest qt p, m.left - qt, some p, m.fills ++ [(e.2.2.number, e.2.2.house, p, qt)], m.gone⟩, fs ++ [TT], by rw [← hnx]; exact hrun, rfl, hsl.2.1, hsl.2.2, fun y hy => ?_, ?_, (upd_ne nxr.symm).trans ((upd_ne nflr.symm).trans (sTT _ _ hrB)), hoE, hfC.frame (upd_ne nflx) (fun a ys ha => (upd_ne (fun z => by rw [z, hxD] at ha; cases ha)).trans ha), (upd_ne nrmx).trans ((upd_ne hfr.symm).trans (sTT _ _ hgB)), upd_same, SE, fun _ _ => trivial, fun z v h1 h2 h3 h4 hz => ?_⟩, ?_⟩
              · rcases tradeF_mem hy with z | z
                · rw [z]
                  exact hmem e (by rw [hes]; exact List.mem_cons_self)
                · exact hmem y (by rw [hes]; exact List.mem_cons_of_mem _ z)
              · have h1 := hsl.1
                show sizeM _ + (m.fills ++ [_]).length + m.gone.length ≤ 2000000
                rw [List.length_append]
                show _ + (_ + 1) + _ ≤ 2000000
                omega
              · rw [upd_ne h4, upd_ne (fun y => by rw [y, nfl0] at hz; cases hz)]
                refine sTT _ _ ((hfB z h2 fun y => h1 (by rw [y]; exact hmem e (by rw [hes]; exact List.mem_cons_self))).trans ((upd_ne h3).trans (hfr3 z v h1 h2 h3 h4 hz)))
              · show muM o l _ < muM o l H3
                rw [muM_eq (m := m) ho3 (by rw [hes]; exact hli3), muM_eq (m := ⟨tradeF e rest qt p, m.left - qt, some p, m.fills ++ [(e.2.2.number, e.2.2.house, p, qt)], m.gone⟩) hoE SE.li]
                exact hsl.1
        · rintro σ H Q Q' h ⟨v, e1, a, C, dx, fs, v2, e2, e3, e4, e5, e6, i, j, e7, e8, k, e9, q⟩
          refine ⟨v, e1, a, C, dx, fs, v2, e2, e3, e4, e5, e6, i, j, e7, e8, k, e9, ?_⟩
          cases k with
          | false => exact h _ _ q
          | true =>
            obtain ⟨v3, f1, f2, k2, f3, q⟩ := q
            refine ⟨v3, f1, f2, k2, f3, ?_⟩
            cases k2 with
            | false => exact h _ _ q
            | true =>
              obtain ⟨v4, g1, a4, dx4, fs4, g2, g3, g4, v5, g5, a5, C5, dx5, fs5, v6, g6, g7, g8, g9, g10, x6, dx6, o6, p6, g11, g12, c, g13, q⟩ := q
              exact ⟨v4, g1, a4, dx4, fs4, g2, g3, g4, v5, g5, a5, C5, dx5, fs5, v6, g6, g7, g8, g9, g10, x6, dx6, o6, p6, g11, g12, c, g13, h _ _ q⟩
      · rintro σ H3 ⟨_, v6, m, fs, hrun, rfl, hl0, hrank, hmem, hsz3, hr3, ho3, hf3, hg3, hx3, S3, hfn, hfr3⟩
        have ho3' : H3 o = some (.ins T.c_Order dxo [("number", .int t.number), ("house", .str t.house), ("side", .str t.side), ("price", optV t.price), ("shown", .int t.shown), ("left", .int m.left), ("visible", .int t.visible)]) := ho3
        have hr3' := hr3
        unfold repO at hr3'
        walk_at "st"
        dsimp only
        have notE : ∀ {z : Addr} {v : HO}, H z = some v → (∀ y : Ent, v ≠ ordO T.c_Order y.2.1 y.2.2) → z ∉ es.map (·.1) := fun {z v} hz hv hm => by
          obtain ⟨y, hy, e⟩ := List.mem_map.mp hm
          have := E.s1.en y hy
          rw [e, hz] at this
          exact hv y (Option.some.inj this)
        have sep : ∀ {z : Addr} {v : HO}, H z = some v → (∀ y : Ent, v ≠ ordO T.c_Order y.2.1 y.2.2) → v ≠ bookO T.c_Book dx last next sd st → z ≠ l → H3 z = some v := fun {z v} hz hv hb hl => hfr3 z v (notE hz hv) hl (fun e => by rw [e, E.ho] at hz; exact hv (o, dxo, t) (Option.some.inj hz).symm) (fun e => by rw [e, E.ob] at hz; exact hb (Option.some.inj hz).symm) hz
        have S2 : SideAt T.c_Order T.c_BookSide H3 b2 d2 l2 es2 := by
          refine ⟨sep E.s2.ob (fun y z => ?_) (fun z => ?_) (fun z => ?_), sep E.s2.li (fun y z => ?_) (fun z => ?_) E.nll.symm, fun y hy => hfr3 y.1 _ (fun hm => ?_) (fun z => ?_) (E.n2 y hy) (fun z => ?_) (E.s2.en y hy), E.s2.nd, E.s2.sm⟩
          · unfold ordO at z
            injection z with _ _ h3
            exact absurd (congrArg List.length h3) (show ¬ 1 = 7 by decide)
          · unfold bookO at z
            injection z with _ _ h3
            exact absurd (congrArg List.length h3) (show ¬ 1 = 4 by decide)
          · have h1 := E.s2.ob
            rw [z, E.s1.li] at h1
            cases h1
          · unfold ordO at z
            cases z
          · unfold bookO at z
            cases z
          · obtain ⟨y2, hy2, e⟩ := List.mem_map.mp hm
            exact E.dj y2 hy2 y hy e
          · have h1 := E.s2.en y hy
            rw [z, E.s1.li] at h1
            unfold ordO at h1
            cases h1
          · have h1 := E.s2.en y hy
            rw [z, E.ob] at h1
            unfold ordO bookO at h1
            injection h1 with h1
            injection h1 with _ _ h3
            exact absurd (congrArg List.length h3) (show ¬ 4 = 7 by decide)
        have hds : DGet H3 sd (.str t.side) (some (.ref b2)) := by
          obtain ⟨c1, c2, hsd⟩ := E.sdv
          have h1 := sep hsd (fun y z => by unfold ordO sidesO at z; cases z) (fun z => by unfold bookO sidesO at z; cases z) (fun z => by rw [z, E.s1.li] at hsd; unfold sidesO at hsd; cases hsd)
          exact dget_keep E.sds fun v hv => by rw [hsd] at hv; cases hv; exact h1
        have hb2o := S2.ob
        have qn : restsM kind m = false → Q (.ref r) H3 := fun hz => by
          refine qrun hna r dr fl rm fs m H3 hrun nr nfl0 nrm0 (by rw [hz]; exact hr3) hf3 hg3 hx3 S3 ?_ (fun z v h1 h2 _ h4 h5 h6 => hfr3 z v h1 h2 h4 h5 h6)
          rw [hz]
          exact S2
        refine iteB (fun h => ?_) (fun h => ?_)
        · walk_at "st"
          refine iteB (fun h2 => ?_) (fun h2 => ?_)
          · have hrm : restsM kind m = true := by
              unfold restsM
              rw [show decide (V.str kind = V.str "rest") = true from h, show decide (m.left > 0) = true from h2]
              rfl
            obtain ⟨p, hp⟩ := hkp (of_decide_eq_true h)
            walk_at "st"
            refine ⟨es2, { t with left := m.left }, p, rfl, S2, ho3, E.n2, hp, E.r2.mono p, ?_⟩
            obtain ⟨o', eo'⟩ : ∃ o' : Ord, Ord.showNext { t with left := m.left } = o' := ⟨_, rfl⟩
            have hol : o'.left = m.left := by rw [← eo']; rfl
            rw [eo']
            obtain ⟨nb2o, nl2o⟩ := S2.ord_ne ho3
            obtain ⟨nbo, nlo⟩ := S3.ord_ne ho3
            have alr : ∀ {z : Addr} {v : HO}, H z = some v → z ≠ r := fun hz => ne_of_none hz nr
            have nrl2 : r ≠ l2 := (alr E.s2.li).symm
            have nro : r ≠ o := (alr E.ho).symm
            have hl2 := S2.li
            have hoF : upd (upd H3 o (ordO T.c_Order dxo o')) l2 (.lst (refs (insE es2 (place es2 p) (o, dxo, o')))) o = some (.ins T.c_Order dxo [("number", .int o'.number), ("house", .str o'.house), ("side", .str o'.side), ("price", optV o'.price), ("shown", .int o'.shown), ("left", .int o'.left), ("visible", .int o'.visible)]) := (upd_ne nl2o.symm).trans upd_same
            rw [hol] at hoF
            have hrF : upd (upd H3 o (ordO T.c_Order dxo o')) l2 (.lst (refs (insE es2 (place es2 p) (o, dxo, o')))) r = _ := (upd_ne nrl2).trans ((upd_ne nro).trans hr3')
            have neo : ∀ y, y ∈ m.es → y.1 ≠ o := fun y hy => by
              obtain ⟨y2, hy2, hy3⟩ := List.mem_map.mp (hmem y hy)
              rw [← hy3]
              exact E.n1 y2 hy2
            have nel2 : ∀ y, y ∈ m.es → y.1 ≠ l2 := fun y hy z => by
              have := S3.en y hy
              rw [z, hl2] at this
              unfold ordO at this
              cases this
            have ner : ∀ y, y ∈ m.es → y.1 ≠ r := fun y hy => by
              obtain ⟨y2, hy2, hy3⟩ := List.mem_map.mp (hmem y hy)
              rw [← hy3]
              exact alr (E.s1.en y2 hy2)
            have nbl2 : b ≠ l2 := fun z => by
              have := S3.ob
              rw [z, hl2] at this
              cases this
            have nxl2 : x ≠ l2 := fun z => by rw [z, hl2] at hx3; unfold bookO at hx3; cases hx3
            have nxo : x ≠ o := fun z => by
              rw [z, ho3] at hx3
              unfold ordO bookO at hx3
              injection hx3 with hx3
              injection hx3 with _ _ h3
              exact absurd (congrArg List.length h3) (show ¬ 7 = 4 by decide)
            have alf : ∀ {z : Addr} {v : HO}, H z = some v → z ≠ fl := fun hz => ne_of_none hz nfl0
            have alm : ∀ {z : Addr} {v : HO}, H z = some v → z ≠ rm := fun hz => ne_of_none hz nrm0
            have nflr : fl ≠ r := fun z => by have := hf3.lst; rw [z, hr3] at this; unfold repO at this; cases this
            have nrmr : rm ≠ r := fun z => by rw [z, hr3] at hg3; unfold repO at hg3; cases hg3
            have SO := (S2.upd (o := ordO T.c_Order dxo o') nb2o nl2o E.n2).insert (k := place es2 p) (e := (o, dxo, o')) upd_same E.n2 (by omega)
            walk_at "st"
            have eR : HO.ins T.c_Report dr (putF "resting" (.int m.left) [("number", .int t.number), ("house", .str t.house), ("side", .str t.side), ("fills", .ref fl), ("removed", .ref rm), ("resting", .int 0)]) = repO T.c_Report dr t.number t.house t.side fl rm m.left := rfl
            rw [eR]
            have g1 : ∀ {z : Addr} {w : HO}, z ≠ r → z ≠ l2 → z ≠ o → upd (upd (upd H3 o (ordO T.c_Order dxo o')) l2 (.lst (refs (insE es2 (place es2 p) (o, dxo, o'))))) r w z = H3 z := fun h1 h2 h3 => (upd_ne h1).trans ((upd_ne h2).trans (upd_ne h3))
            refine qrun hna r dr fl rm fs m _ hrun nr nfl0 nrm0 (by rw [hrm, if_pos rfl]; exact upd_same) (hf3.frame (g1 nflr (alf E.s2.li).symm (alf E.ho).symm) fun z ys hz => (g1 (fun y => by rw [y, hr3] at hz; unfold repO at hz; cases hz) (fun y => by rw [y, hl2] at hz; cases hz) (fun y => by rw [y, ho3] at hz; unfold ordO at hz; cases hz)).trans hz) ((g1 nrmr (alm E.s2.li).symm (alm E.ho).symm).trans hg3) ((g1 (alr E.ob) nxl2 nxo).trans hx3) (((S3.upd nbo nlo neo).upd nbl2 E.nll nel2).upd (alr E.s1.ob) (alr E.s1.li) ner) ?_ fun z v h1 h2 h3 h4 h5 h6 => (g1 (alr h6) h3 h4).trans (hfr3 z v h1 h2 h4 h5 h6)
            rw [hrm, if_pos rfl, eo', show t.price.getD 0 = p by rw [hp]; rfl]
            refine SO.upd (alr E.s2.ob) (alr E.s2.li) fun y hy => ?_
            rcases insE_mem.mp hy with z | z
            · rw [z]
              exact nro.symm
            · exact alr (E.s2.en y z)
          · walk_at "st"
            exact qn (by unfold restsM; rw [show decide (m.left > 0) = false from h2, Bool.and_false])
        · walk_at "st"
          exact qn (by unfold restsM; rw [show decide (V.str kind = V.str "rest") = false from h]; rfl)

theorem buyS_buy : buyS "buy" = true := by decide +kernel
theorem buyS_sell : buyS "sell" = false := by decide +kernel
/-! ### what an order does to a book -/
structure SubR where
  oth : List Ent
  own : List Ent
  last : Option Int
  fills : List (Int × Str × Int × Int)
  gone : List Int
  rest : Int
def startM (t : Ord) (last : Option Int) (oth : List Ent) : Mt := ⟨oth, t.left, last, [], []⟩
def endM (t : Ord) (last : Option Int) (oth : List Ent) : Mt := runM t (sizeM (startM t last oth)) (startM t last oth)
def heldM (kd : Str) (t : Ord) (oth : List Ent) : Bool := decide (V.str kd = V.str "all") && decide (availM t oth < t.left)
def subF (kd : Str) (t : Ord) (o dxo : Addr) (last : Option Int) (oth own : List Ent) : SubR :=
  if heldM kd t oth = true then ⟨oth, own, last, [], [], 0⟩
  else ⟨(endM t last oth).es, if restsM kd (endM t last oth) = true then insE own (place own (t.price.getD 0)) (o, dxo, Ord.showNext { t with left := (endM t last oth).left }) else own,
    (endM t last oth).last, (endM t last oth).fills, (endM t last oth).gone, if restsM kd (endM t last oth) = true then (endM t last oth).left else 0⟩
theorem tradeF_addr {e y : Ent} {es : List Ent} {n p : Int} (h : y ∈ tradeF e es n p) : y.1 = e.1 ∨ ∃ z, z ∈ es ∧ z.1 = y.1 := by
  rcases tradeF_mem h with z | z
  · exact .inl z
  · exact .inr ⟨y, z, rfl⟩
theorem runM_keeps {s : Str} {t : Ord} : ∀ (k : Nat) {m : Mt}, Rank s m.es → 0 ≤ m.left → Rank s (runM t k m).es ∧ 0 ≤ (runM t k m).left ∧ (runM t k m).left ≤ m.left ∧ ∀ y, y ∈ (runM t k m).es → ∃ e, e ∈ m.es ∧ e.1 = y.1
  | 0, m, hr, h0 => ⟨hr, h0, Int.le_refl _, fun y hy => ⟨y, hy, rfl⟩⟩
  | k + 1, m, hr, h0 => by
    cases h : goesM t m with
    | none =>
      rw [runM_stop h]
      exact ⟨hr, h0, Int.le_refl _, fun y hy => ⟨y, hy, rfl⟩⟩
    | some e =>
      rw [runM_go h]
      have hs := stepM_less hr h
      obtain ⟨h1, h2, h3⟩ := goesM_some h
      have ih := runM_keeps (s := s) (t := t) k (m := stepM t m e) hs.2.2 hs.2.1
      have hl : (stepM t m e).left ≤ m.left := by
        unfold stepM
        split
        · exact Int.le_refl _
        · show m.left - qtyM m e ≤ m.left
          rw [h1] at hr
          have hv := hr.vis e List.mem_cons_self
          unfold qtyM
          split <;> omega
      refine ⟨ih.1, ih.2.1, Int.le_trans ih.2.2.1 hl, fun y hy => ?_⟩
      obtain ⟨z, hz, ez⟩ := ih.2.2.2 y hy
      have hz2 : ∃ e', e' ∈ m.es ∧ e'.1 = z.1 := by
        rw [h1]
        unfold stepM at hz
        split at hz
        · exact ⟨z, List.mem_cons_of_mem _ hz, rfl⟩
        · rcases tradeF_mem hz with q | q
          · exact ⟨e, List.mem_cons_self, q.symm⟩
          · exact ⟨z, List.mem_cons_of_mem _ q, rfl⟩
      obtain ⟨e', he', ee⟩ := hz2
      exact ⟨e', he', ee.trans ez⟩
theorem sub_rank {kd : Str} {t : Ord} {o dxo : Addr} {last : Option Int} {oth own : List Ent} (h1 : Rank (otherS t.side) oth) (h2 : Rank t.side own) (hl : 1 ≤ t.left) (hs : 0 ≤ t.shown) (hkp : V.str kd = V.str "rest" → ∃ p, t.price = some p) :
    Rank (otherS t.side) (subF kd t o dxo last oth own).oth ∧ Rank t.side (subF kd t o dxo last oth own).own ∧ (∀ y, y ∈ (subF kd t o dxo last oth own).oth → ∃ e, e ∈ oth ∧ e.1 = y.1) ∧ ∀ y, y ∈ (subF kd t o dxo last oth own).own → y.1 = o ∨ y ∈ own := by
  unfold subF
  split
  · exact ⟨h1, h2, fun y hy => ⟨y, hy, rfl⟩, fun y hy => .inr hy⟩
  · have k := runM_keeps (t := t) (sizeM (startM t last oth)) (m := startM t last oth) h1 (by show 0 ≤ t.left; omega)
    refine ⟨k.1, ?_, k.2.2.2, ?_⟩
    · split
      · next hr =>
        unfold restsM at hr
        rw [Bool.and_eq_true] at hr
        obtain ⟨p, hp⟩ := hkp (of_decide_eq_true hr.1)
        have hl2 := of_decide_eq_true hr.2
        rw [show t.price.getD 0 = p by rw [hp]; rfl]
        refine h2.insert (p := p) rfl hp ?_
        exact showNext_vis (o := { t with left := (endM t last oth).left }) (by show 1 ≤ (endM t last oth).left; omega) hs
      · exact h2
    · intro y hy
      split at hy
      · rcases insE_mem.mp hy with z | z
        · exact .inl (by rw [z])
        · exact .inr z
      · exact .inr hy
def othE (si : Str) (es1 es2 : List Ent) : List Ent := if buyS si = true then es2 else es1
def ownE (si : Str) (es1 es2 : List Ent) : List Ent := if buyS si = true then es1 else es2

/-! ### stop orders that wait -/
structure Stp where
  number : Int
  house : Str
  side : Str
  trigger : Int
  price : Option Int
  quantity : Int
def stopO (C dx : Addr) (s : Stp) : HO := .ins C dx [("number", .int s.number), ("house", .str s.house), ("side", .str s.side), ("trigger", .int s.trigger), ("price", optV s.price), ("quantity", .int s.quantity)]
abbrev EntS := Addr × Addr × Stp
def refsS (ss : List EntS) : List V := ss.map fun e => V.ref e.1
def entVS : Option EntS → V
  | none => .non
  | some e => .ref e.1
structure StopsAt (CS : Addr) (H : Hp) (st : Addr) (ss : List EntS) : Prop where
  li : H st = some (.lst (refsS ss))
  en : ∀ e, e ∈ ss → H e.1 = some (stopO CS e.2.1 e.2.2)
  nd : (ss.map (·.1)).Nodup
  sm : ss.length ≤ 900
theorem StopsAt.same {CS : Addr} {H H' : Hp} {st : Addr} {ss : List EntS} (S : StopsAt CS H st ss) (e : Same H H') : StopsAt CS H' st ss := ⟨e _ _ S.li, fun y hy => e _ _ (S.en y hy), S.nd, S.sm⟩
def sp_Stop_init (K : PySem.W.Frag) (C : Addr) : Sp := fun vs H Q _ => ∃ (x dx : Addr) (n : Int) (ho si : Str) (tr : Int) (pr : Option Int) (qu : Int), vs = [.ref x, .int n, .str ho, .str si, .int tr, optV pr, .int qu] ∧
  H x = some (.ins C dx []) ∧ Q .non (upd H x (stopO C dx ⟨n, ho, si, tr, pr, qu⟩))
set_option maxHeartbeats 0 in
theorem ok_Stop_init (T : Txt K mg) : FnOk P w K mg base CX0 1 T.f_Stop_init T.d_Stop_init ["self", "number", "house", "side", "trigger", "price", "quantity"] (sp_Stop_init K T.c_Stop) := by
  refine T.F_Stop_init.ok sc_Stop_init (fun vs H Q E h => ?_) (fun cdv A outer s H vs Q E hr h => ?_)
  · obtain ⟨x, dx, n, ho, si, tr, pr, qu, rfl, _⟩ := h
    rfl
  · obtain ⟨x, dx, n, ho, si, tr, pr, qu, rfl, hx, q⟩ := h
    refine ⟨_, (pss_cons (ps_fld (pv 0) (pv 1) rfl)
    (pss_cons (ps_fld (pv 0) (pv 2) rfl)
    (pss_cons (ps_fld (pv 0) (pv 3) rfl)
    (pss_cons (ps_fld (pv 0) (pv 4) rfl)
    (pss_cons (ps_fld (pv 0) (pv 5) rfl)
    (pss_one (ps_fld (pv 0) (pv 6) rfl))))))), ?_⟩
    refine ⟨_, rfl, _, rfl, setF hx T.cl_Stop T.na_Stop_number rfl ?_⟩
    refine ⟨_, rfl, _, rfl, setF upd_same T.cl_Stop T.na_Stop_house rfl ?_⟩
    refine ⟨_, rfl, _, rfl, setF upd_same T.cl_Stop T.na_Stop_side rfl ?_⟩
    refine ⟨_, rfl, _, rfl, setF upd_same T.cl_Stop T.na_Stop_trigger rfl ?_⟩
    refine ⟨_, rfl, _, rfl, setF upd_same T.cl_Stop T.na_Stop_price rfl ?_⟩
    refine ⟨_, rfl, _, rfl, setF upd_same T.cl_Stop T.na_Stop_quantity rfl ?_⟩
    simp only [upd_upd]
    exact q
def reachedS (s : Stp) : Option Int → Bool
  | none => false
  | some p => if buyS s.side = true then decide (s.trigger ≤ p) else decide (p ≤ s.trigger)
def sp_Stop_is_reached (K : PySem.W.Frag) (C : Addr) : Sp := fun vs H Q _ => ∃ (x dx : Addr) (s : Stp) (p : Option Int), vs = [.ref x, optV p] ∧ H x = some (stopO C dx s) ∧ Q (.bl (reachedS s p)) H
set_option maxHeartbeats 0 in
theorem ok_Stop_is_reached (T : Txt K mg) : FnOk P w K mg base CX0 1 T.f_Stop_is_reached T.d_Stop_is_reached ["self", "last"] (sp_Stop_is_reached K T.c_Stop) := by
  refine T.F_Stop_is_reached.ok sc_Stop_is_reached (fun vs H Q E h => ?_) (fun cdv A outer s H vs Q E hr h => ?_)
  · obtain ⟨x, dx, s, p, rfl, _⟩ := h
    rfl
  · obtain ⟨x, dx, s, p, rfl, hx, q⟩ := h
    refine ⟨_, (pss_cons (ps_if (pt_cmpR op_isN (pv 1) pe_non (nomark _))
      (pss_one (ps_ret pe_bl))
      pss_nil)
    (pss_one (ps_ret (pe_ifExp (pt_cmpR op_eq (pe_fld (pv 0) rfl) pe_str (nomark _)) (pe_cmpR op_ge (pv 1) (pe_fld (pv 0) rfl) (nomark _)) (pe_cmpR op_le (pv 1) (pe_fld (pv 0) rfl) (nomark _)))))), ?_⟩
    have fact_Stop_0 := T.cl_Stop; have fact_Stop_1 := T.na_Stop_number; have fact_Stop_2 := T.na_Stop_house; have fact_Stop_3 := T.na_Stop_side; have fact_Stop_4 := T.na_Stop_trigger; have fact_Stop_5 := T.na_Stop_price; have fact_Stop_6 := T.na_Stop_quantity
    unfold stopO at hx
    cases p with
    | none =>
      walk_at "st"
      exact q
    | some p =>
      have e : reachedS s (some p) = if buyS s.side = true then decide (s.trigger ≤ p) else decide (p ≤ s.trigger) := rfl
      rw [e] at q
      walk_at "st"
      refine iteB (fun h => ?_) (fun h => ?_)
      · rw [if_pos (show buyS s.side = true from h)] at q
        walk_at "st"
        exact q
      · rw [if_neg (by rw [show buyS s.side = false from h]; exact Bool.false_ne_true)] at q
        walk_at "st"
        exact q
def rowS (s : Stp) : List V := [.int s.number, .str s.house, .str s.side, .int s.trigger, optV s.price, .int s.quantity]
def sp_Stop_row (K : PySem.W.Frag) (C : Addr) : Sp := fun vs H Q _ => ∃ (x dx : Addr) (s : Stp), vs = [.ref x] ∧ H x = some (stopO C dx s) ∧ ∀ p, H p = none → Q (.ref p) (upd H p (.tup (rowS s)))
set_option maxHeartbeats 0 in
theorem ok_Stop_row (T : Txt K mg) : FnOk P w K mg base CX0 1 T.f_Stop_row T.d_Stop_row ["self"] (sp_Stop_row K T.c_Stop) := by
  refine T.F_Stop_row.ok sc_Stop_row (fun vs H Q E h => ?_) (fun cdv A outer s H vs Q E hr h => ?_)
  · obtain ⟨x, dx, s, rfl, _⟩ := h
    rfl
  · obtain ⟨x, dx, s, rfl, hx, q⟩ := h
    refine ⟨_, (pss_one (ps_ret (pe_tup (pa_cons (pe_fld (pv 0) rfl) (pa_cons (pe_fld (pv 0) rfl) (pa_cons (pe_fld (pv 0) rfl) (pa_cons (pe_fld (pv 0) rfl) (pa_cons (pe_fld (pv 0) rfl) (pa_cons (pe_fld (pv 0) rfl) pa_nil))))))))), ?_⟩
    have fact_Stop_0 := T.cl_Stop; have fact_Stop_1 := T.na_Stop_number; have fact_Stop_2 := T.na_Stop_house; have fact_Stop_3 := T.na_Stop_side; have fact_Stop_4 := T.na_Stop_trigger; have fact_Stop_5 := T.na_Stop_price; have fact_Stop_6 := T.na_Stop_quantity
    unfold stopO at hx
    walk_at "st"
    exact ⟨len_le rfl, q⟩
theorem refsS_at {ss : List EntS} {i : Nat} {x : V} (h : (refsS ss)[i]? = some x) : ∃ e, ss[i]? = some e ∧ x = .ref e.1 := by
  unfold refsS at h
  rw [List.getElem?_map] at h
  cases e : ss[i]? with
  | none => rw [e] at h; cases h
  | some z => rw [e] at h; exact ⟨z, rfl, (Option.some.inj h).symm⟩
def sp_Bookstop_with (K : PySem.W.Frag) (CS CK : Addr) : Sp := fun vs H Q _ => ∃ (x dx sd st : Addr) (last : Option Int) (next : Int) (ss : List EntS) (n : Int), vs = [.ref x, .int n] ∧ H x = some (bookO CK dx last next sd st) ∧ StopsAt CS H st ss ∧
  Q (entVS (ss.find? fun e => decide (e.2.2.number = n))) H
def firstS (last : Option Int) (ss : List EntS) : Option EntS := ss.find? fun e => reachedS e.2.2 last
def sp_Bookfirst_reached (K : PySem.W.Frag) (CS CK : Addr) : Sp := fun vs H Q _ => ∃ (x dx sd st : Addr) (last : Option Int) (next : Int) (ss : List EntS), vs = [.ref x] ∧ H x = some (bookO CK dx last next sd st) ∧ StopsAt CS H st ss ∧ Q (entVS (firstS last ss)) H
set_option maxHeartbeats 0 in
theorem ok_Bookfirst_reached (T : Txt K mg) : FnOk P w K mg base CX0 2 T.f_Bookfirst_reached T.d_Bookfirst_reached ["self"] (sp_Bookfirst_reached K T.c_Stop T.c_Book) := by
  refine T.F_Bookfirst_reached.ok sc_Bookfirst_reached (fun vs H Q E h => ?_) (fun cdv A outer s H vs Q E hr h => ?_)
  · obtain ⟨x, dx, sd, st, last, next, ss, rfl, _⟩ := h
    rfl
  · obtain ⟨x, dx, sd, st, last, next, ss, rfl, hob, S, q⟩ := h
    have G_Stop_is_reached : FnOk P w K mg base CX0 1 T.f_Stop_is_reached T.d_Stop_is_reached ["self", "last"] (sp_Stop_is_reached K T.c_Stop) := ok_Stop_is_reached T
    refine ⟨_, (pss_cons (ps_for PassesOwn.never rfl (pi_list (pe_fld (pv 0) rfl)) (pg_name (i := 1) sc_Bookfirst_reached.nd rfl (Or.inl rfl))
      (pss_one (ps_if (pt_val (pe_meth (pv 1) T.cl_Stop T.mt_Stop_is_reached G_Stop_is_reached hr T.b_Stop_is_reached .nil pass0 (pa_cons (pe_fld (pv 0) rfl) pa_nil)))
        (pss_one (ps_ret (pv 1)))
        pss_nil)))
    (pss_one (ps_ret pe_non))), ?_⟩
    have fact_Book_0 := T.cl_Book; have fact_Book_1 := T.na_Book_last; have fact_Book_2 := T.na_Book__next_number; have fact_Book_3 := T.na_Book__sides; have fact_Book_4 := T.na_Book__stops; have fact_Stop_0 := T.cl_Stop; have fact_Stop_1 := T.na_Stop_number; have fact_Stop_2 := T.na_Stop_house; have fact_Stop_3 := T.na_Stop_side; have fact_Stop_4 := T.na_Stop_trigger; have fact_Stop_5 := T.na_Stop_price; have fact_Stop_6 := T.na_Stop_quantity
    unfold bookO at hob
    have hst := S.li
    walk_at "st"
    refine for_list (K := K) (a := st) (xs := refsS ss) (fun i σ H' => H' = H ∧ firstS last (ss.take i) = none ∧ ∃ v : Option V, σ = [some (.ref x), v]) ⟨rfl, rfl, none, rfl⟩ (fun i σ H' _ ⟨e, _⟩ => by rw [e]; exact SqL.of hst) ?_ ?_
    · rintro i y σ H' hy ⟨rfl, h0, v, rfl⟩
      obtain ⟨e, he, rfl⟩ := refsS_at hy
      have hen := S.en e (List.mem_of_getElem? he)
      have hen2 := hen
      unfold stopO at hen2
      walk_at "st"
      refine ⟨e.2.2, last, rfl, hen, ?_⟩
      walk_at "st"
      refine iteB (fun h => ?_) (fun h => ?_)
      · unfold firstS at q h0
        rw [find_hit (p := fun e : EntS => reachedS e.2.2 last) he h0 h] at q
        walk_at "st"
        exact q
      · exact ⟨rfl, find_miss (p := fun e : EntS => reachedS e.2.2 last) he h0 h, _, rfl⟩
    · rintro σ H' ⟨rfl, h0, v, rfl⟩
      rw [List.take_of_length_le (by unfold refsS; rw [List.length_map]; exact Nat.le_refl _)] at h0
      rw [h0] at q
      walk_at "st"
      exact q
def sp_Book_stops (K : PySem.W.Frag) (CS CK : Addr) : Sp := fun vs H Q _ => ∃ (x dx sd st : Addr) (last : Option Int) (next : Int) (ss : List EntS), vs = [.ref x] ∧ H x = some (bookO CK dx last next sd st) ∧ StopsAt CS H st ss ∧
  ∀ D ps H', Same H H' → H D = none → Tups rowS H' D ps (ss.map fun e => e.2.2) → Q (.ref D) H'
set_option maxHeartbeats 0 in
theorem ok_Book_stops (T : Txt K mg) : FnOk P w K mg base CX0 2 T.f_Book_stops T.d_Book_stops ["self"] (sp_Book_stops K T.c_Stop T.c_Book) := by
  refine T.F_Book_stops.ok sc_Book_stops (fun vs H Q E h => ?_) (fun cdv A outer s H vs Q E hr h => ?_)
  · obtain ⟨x, dx, sd, st, last, next, ss, rfl, _⟩ := h
    rfl
  · obtain ⟨x, dx, sd, st, last, next, ss, rfl, hob, S, q⟩ := h
    have G_Stop_row : FnOk P w K mg base CX0 1 T.f_Stop_row T.d_Stop_row ["self"] (sp_Stop_row K T.c_Stop) := ok_Stop_row T
    refine ⟨_, (pss_one (ps_ret (pe_lc (own := [("stop", 1)]) (g := gName 1) (tt := tYes) rfl sc_Book_stops.nd (pi_list (pe_fld (pv 0) rfl)) (blkOk_by (own := [("stop", 1)]) (N := N_Book_stops) (sc := defScope s_Book_stops) (by decide +kernel)) (fun _ _ _ _ _ => (pg_name (i := 1) sc_Book_stops.nd rfl (Or.inl rfl))) (fun _ _ _ _ _ => pts_nil) (fun _ _ _ _ _ => (pe_meth0 (pv 1) T.cl_Stop T.mt_Stop_row G_Stop_row hr T.b_Stop_row .nil pass0))))), ?_⟩
    have fact_Book_0 := T.cl_Book; have fact_Book_1 := T.na_Book_last; have fact_Book_2 := T.na_Book__next_number; have fact_Book_3 := T.na_Book__sides; have fact_Book_4 := T.na_Book__stops; have fact_Stop_0 := T.cl_Stop; have fact_Stop_1 := T.na_Stop_number; have fact_Stop_2 := T.na_Stop_house; have fact_Stop_3 := T.na_Stop_side; have fact_Stop_4 := T.na_Stop_trigger; have fact_Stop_5 := T.na_Stop_price; have fact_Stop_6 := T.na_Stop_quantity
    unfold bookO at hob
    have hst := S.li
    have hsm := S.sm
    have lenR : (refsS ss).length = ss.length := List.length_map ..
    walk_at "st"
    intro D nD
    refine lc_list (K := K) (a := st) (xs := refsS ss) (fun i H' => ∃ ps : List Addr, Tups rowS H' D ps ((ss.take i).map fun e => e.2.2) ∧ Same H H')
      ⟨[], Tups.nil upd_same, same_upd nD⟩ (fun i H' _ ⟨_, _, e⟩ => e.seq (SqL.of hst)) ?_ ?_
    · rintro i y H' hy ⟨ps, hT, sa⟩
      obtain ⟨e, he, rfl⟩ := refsS_at hy
      have hi := (List.getElem?_eq_some_iff.mp he).1
      have hen := sa _ _ (S.en e (List.mem_of_getElem? he))
      have hen2 := hen
      unfold stopO at hen2
      refine ⟨rfl, ?_⟩
      walk_at "st"
      refine ⟨e.2.2, rfl, hen, fun p np => ?_⟩
      have sp := same_upd (o := .tup (rowS e.2.2)) np
      have hp : upd H' p (.tup (rowS e.2.2)) p = some (.tup (rowS e.2.2)) := upd_same
      generalize upd H' p _ = H2 at *
      refine ⟨_, sp _ _ hT.lst, small1000 (by have := hT.len; rw [List.length_map, List.length_take] at this; rw [List.length_map]; omega), ps ++ [p], ?_, fun b' o' z => ?_⟩
      · rw [take_succ he, List.map_append]
        exact hT.push sp np hp
      · rw [upd_ne (fun e' => by rw [e', nD] at z; cases z)]
        exact sp _ _ (sa _ _ z)
    · rintro H' ⟨ps, hT, sa⟩
      rw [lenR, List.take_of_length_le (Nat.le_refl _)] at hT
      exact q D ps H' sa nD hT

/-! ### a book with stop orders that wait -/
structure BA where
  x : Addr
  dx : Addr
  sd : Addr
  st : Addr
  b1 : Addr
  d1 : Addr
  l1 : Addr
  b2 : Addr
  d2 : Addr
  l2 : Addr
structure BC where
  CO : Addr
  CB : Addr
  CK : Addr
  CS : Addr
  CR : Addr
structure BS where
  last : Option Int
  next : Int
  es1 : List Ent
  es2 : List Ent
  ss : List EntS
structure BookW (C : BC) (H : Hp) (a : BA) (s : BS) : Prop where
  ob : H a.x = some (bookO C.CK a.dx s.last s.next a.sd a.st)
  sd : H a.sd = some (sidesO a.b1 a.b2)
  sp : StopsAt C.CS H a.st s.ss
  s1 : SideAt C.CO C.CB H a.b1 a.d1 a.l1 s.es1
  s2 : SideAt C.CO C.CB H a.b2 a.d2 a.l2 s.es2
  r1 : Rank "buy" s.es1
  r2 : Rank "sell" s.es2
  dj : ∀ e, e ∈ s.es1 → ∀ y, y ∈ s.es2 → e.1 ≠ y.1
  nll : a.l1 ≠ a.l2
  n1 : a.st ≠ a.l1
  n2 : a.st ≠ a.l2
  gs : ∀ e, e ∈ s.ss → (e.2.2.side = "buy" ∨ e.2.2.side = "sell") ∧ 1 ≤ e.2.2.quantity ∧ e.2.2.quantity ≤ 1000000
  sz : s.es1.length + s.es2.length + s.ss.length ≤ 900
/-- what a book's commands may write -/
def foot (a : BA) (s : BS) : List Addr := [a.x, a.l1, a.l2, a.st] ++ (s.es1.map (·.1) ++ s.es2.map (·.1))
theorem foot_iff {a : BA} {s : BS} {z : Addr} : z ∈ foot a s ↔ z = a.x ∨ z = a.l1 ∨ z = a.l2 ∨ z = a.st ∨ z ∈ s.es1.map (·.1) ∨ z ∈ s.es2.map (·.1) := by
  unfold foot
  rw [List.mem_append, List.mem_append]
  simp only [List.mem_cons, List.not_mem_nil, or_false, or_assoc]
/-- the kinds of object that a command may write -/
def Mov (v : HO) : Prop := (∃ xs, v = .lst xs) ∨ ∃ C dx fs, v = .ins C dx fs ∧ (fs.length = 7 ∨ fs.length = 4)
theorem BookW.kind {C : BC} {H : Hp} {a : BA} {s : BS} (B : BookW C H a s) {z : Addr} (h : z ∈ foot a s) : ∃ v, H z = some v ∧ Mov v := by
  rcases foot_iff.mp h with rfl | rfl | rfl | rfl | h | h
  · exact ⟨_, B.ob, .inr ⟨_, _, _, rfl, .inr rfl⟩⟩
  · exact ⟨_, B.s1.li, .inl ⟨_, rfl⟩⟩
  · exact ⟨_, B.s2.li, .inl ⟨_, rfl⟩⟩
  · exact ⟨_, B.sp.li, .inl ⟨_, rfl⟩⟩
  · obtain ⟨e, he, rfl⟩ := List.mem_map.mp h
    exact ⟨_, B.s1.en e he, .inr ⟨_, _, _, rfl, .inl rfl⟩⟩
  · obtain ⟨e, he, rfl⟩ := List.mem_map.mp h
    exact ⟨_, B.s2.en e he, .inr ⟨_, _, _, rfl, .inl rfl⟩⟩
theorem BookW.out {C : BC} {H : Hp} {a : BA} {s : BS} (B : BookW C H a s) {z : Addr} {v : HO} (h : H z = some v) (hv : ¬ Mov v) : z ∉ foot a s := fun hz => by
  obtain ⟨w, hw, m⟩ := B.kind hz
  rw [h] at hw
  cases hw
  exact hv m
theorem BookW.fresh {C : BC} {H : Hp} {a : BA} {s : BS} (B : BookW C H a s) {z : Addr} (h : H z = none) : z ∉ foot a s := fun hz => by
  obtain ⟨w, hw, m⟩ := B.kind hz
  rw [h] at hw
  cases hw
theorem nomov_tup (xs : List V) : ¬ Mov (.tup xs) := fun h => by
  rcases h with ⟨_, h⟩ | ⟨_, _, _, h, _⟩ <;> cases h
theorem nomov_rep {C dx : Addr} {n : Int} {ho si : Str} {fl rm : Addr} {rest : Int} : ¬ Mov (repO C dx n ho si fl rm rest) := fun h => by
  rcases h with ⟨_, h⟩ | ⟨_, _, _, h, e⟩
  · unfold repO at h
    cases h
  · unfold repO at h
    cases h
    simp only [List.length_cons, List.length_nil] at e
    omega
theorem nomov_stop {C dx : Addr} {s : Stp} : ¬ Mov (stopO C dx s) := fun h => by
  rcases h with ⟨_, h⟩ | ⟨_, _, _, h, e⟩
  · unfold stopO at h
    cases h
  · unfold stopO at h
    cases h
    simp only [List.length_cons, List.length_nil] at e
    omega
theorem nomov_sides {b1 b2 : Addr} : ¬ Mov (sidesO b1 b2) := fun h => by
  unfold sidesO at h
  rcases h with ⟨_, h⟩ | ⟨_, _, _, h, e⟩ <;> cases h
theorem nomov_side {C dx l : Addr} : ¬ Mov (.ins C dx [("_orders", .ref l)]) := fun h => by
  rcases h with ⟨_, h⟩ | ⟨_, _, _, h, e⟩
  · cases h
  · cases h
    simp only [List.length_cons, List.length_nil] at e
    omega
/-- one command, or a part of one: what else stands is kept, what is new in its reach was nothing before -/
structure StepW (a : BA) (s s' : BS) (H H' : Hp) : Prop where
  fr : ∀ z v, z ∉ foot a s → H z = some v → H' z = some v
  nw : ∀ z, z ∈ foot a s' → z ∈ foot a s ∨ H z = none
theorem StepW.refl {a : BA} {s : BS} {H : Hp} : StepW a s s H H := ⟨fun _ _ _ h => h, fun _ h => .inl h⟩
theorem StepW.trans {a : BA} {s s1 s2 : BS} {H H1 H2 : Hp} (p : StepW a s s1 H H1) (q : StepW a s1 s2 H1 H2) : StepW a s s2 H H2 := by
  refine ⟨fun z v hz h => q.fr z v (fun m => ?_) (p.fr z v hz h), fun z hz => ?_⟩
  · rcases p.nw z m with k | k
    · exact hz k
    · rw [h] at k; cases k
  · rcases q.nw z hz with k | k
    · exact p.nw z k
    · by_cases hm : z ∈ foot a s
      · exact .inl hm
      · refine .inr ?_
        cases e : H z with
        | none => rfl
        | some v => rw [p.fr z v hm e] at k; cases k
theorem StepW.pre {a : BA} {s s' : BS} {H H1 H' : Hp} (e : Same H H1) (p : StepW a s s' H1 H') : StepW a s s' H H' := by
  refine ⟨fun z v hz h => p.fr z v hz (e _ _ h), fun z hz => ?_⟩
  rcases p.nw z hz with k | k
  · exact .inl k
  · refine .inr ?_
    cases h : H z with
    | none => rfl
    | some v => rw [e _ _ h] at k; cases k
theorem StepW.post {a : BA} {s s' : BS} {H H1 H' : Hp} (p : StepW a s s' H H1) (e : Same H1 H') : StepW a s s' H H' := ⟨fun z v hz h => e _ _ (p.fr z v hz h), p.nw⟩
theorem StepW.out {a : BA} {s s' : BS} {H H' : Hp} (p : StepW a s s' H H') {z : Addr} {v : HO} (h : H z = some v) (hz : z ∉ foot a s) : z ∉ foot a s' := fun m => by
  rcases p.nw z m with k | k
  · exact hz k
  · rw [h] at k; cases k
theorem BookW.same {C : BC} {H H' : Hp} {a : BA} {s : BS} (B : BookW C H a s) (e : Same H H') : BookW C H' a s :=
  ⟨e _ _ B.ob, e _ _ B.sd, B.sp.same e, B.s1.same e, B.s2.same e, B.r1, B.r2, B.dj, B.nll, B.n1, B.n2, B.gs, B.sz⟩
structure RepT where
  number : Int
  house : Str
  side : Str
  fills : List (Int × Str × Int × Int)
  gone : List Int
  rest : Int
/-- a report, out of the reach F of a book -/
def RepAt (CR : Addr) (H : Hp) (F : List Addr) (r : Addr) (t : RepT) : Prop := ∃ (dr fl rm : Addr) (fs : List Addr), H r = some (repO CR dr t.number t.house t.side fl rm t.rest) ∧ Tups encFill H fl fs t.fills ∧ H rm = some (.lst (t.gone.map V.int)) ∧ fl ∉ F ∧ rm ∉ F
theorem RepAt.same {CR : Addr} {H H' : Hp} {F : List Addr} {r : Addr} {t : RepT} (R : RepAt CR H F r t) (e : Same H H') : RepAt CR H' F r t := by
  obtain ⟨dr, fl, rm, fs, h1, h2, h3, h4, h5⟩ := R
  exact ⟨dr, fl, rm, fs, e _ _ h1, h2.same e, e _ _ h3, h4, h5⟩
theorem RepAt.step {C : BC} {H H' : Hp} {a : BA} {s s' : BS} {r : Addr} {t : RepT} (R : RepAt C.CR H (foot a s) r t) (B : BookW C H a s) (p : StepW a s s' H H') : RepAt C.CR H' (foot a s') r t := by
  obtain ⟨dr, fl, rm, fs, h1, h2, h3, h4, h5⟩ := R
  refine ⟨dr, fl, rm, fs, p.fr _ _ (B.out h1 nomov_rep) h1, ⟨p.fr _ _ h4 h2.lst, h2.len, fun i q x hq hx => ?_⟩, p.fr _ _ h5 h3, p.out h2.lst h4, p.out h3 h5⟩
  have := h2.row i q x hq hx
  exact p.fr _ _ (B.out this (nomov_tup _)) this
theorem RepAt.mono {CR : Addr} {H : Hp} {F F' : List Addr} {r : Addr} {t : RepT} (R : RepAt CR H F r t) (h : ∀ z, z ∈ F' → z ∈ F ∨ ∃ v, H z = some v ∧ ∀ xs, v ≠ .lst xs) : RepAt CR H F' r t := by
  obtain ⟨dr, fl, rm, fs, h1, h2, h3, h4, h5⟩ := R
  refine ⟨dr, fl, rm, fs, h1, h2, h3, fun m => ?_, fun m => ?_⟩
  · rcases h _ m with k | ⟨v, k, n⟩
    · exact h4 k
    · rw [h2.lst] at k; cases k; exact n _ rfl
  · rcases h _ m with k | ⟨v, k, n⟩
    · exact h5 k
    · rw [h3] at k; cases k; exact n _ rfl
theorem RepAt.stepD {C : BC} {H H' : Hp} {a : BA} {s s' : BS} {D r : Addr} {t : RepT} (R : RepAt C.CR H (D :: foot a s) r t) (B : BookW C H a s) (p : StepW a s s' H H') : RepAt C.CR H' (D :: foot a s') r t := by
  obtain ⟨dr, fl, rm, fs, h1, h2, h3, h4, h5⟩ := R
  have g4 := List.not_mem_of_not_mem_cons h4
  have g5 := List.not_mem_of_not_mem_cons h5
  refine ⟨dr, fl, rm, fs, p.fr _ _ (B.out h1 nomov_rep) h1, ⟨p.fr _ _ g4 h2.lst, h2.len, fun i q x hq hx => ?_⟩, p.fr _ _ g5 h3, fun m => ?_, fun m => ?_⟩
  · have := h2.row i q x hq hx
    exact p.fr _ _ (B.out this (nomov_tup _)) this
  · rcases List.mem_cons.mp m with k | k
    · exact h4 (k ▸ List.mem_cons_self)
    · exact p.out h2.lst g4 k
  · rcases List.mem_cons.mp m with k | k
    · exact h5 (k ▸ List.mem_cons_self)
    · exact p.out h3 g5 k
/-- a list of ours outside of the report is written -/
theorem RepAt.write {CR : Addr} {H : Hp} {F : List Addr} {D r : Addr} {t : RepT} {xs ys : List V} (R : RepAt CR H F r t) (hD : H D = some (.lst xs)) (m : D ∈ F) : RepAt CR (upd H D (.lst ys)) F r t := by
  obtain ⟨dr, fl, rm, fs, h1, h2, h3, h4, h5⟩ := R
  have ne : ∀ {z v}, H z = some v → (∀ xs, v ≠ .lst xs) → z ≠ D := fun {z v} h hv e => by
    rw [e, hD] at h
    cases h
    exact hv _ rfl
  refine ⟨dr, fl, rm, fs, (upd_ne (ne h1 fun xs h => by unfold repO at h; cases h)).trans h1, ⟨(upd_ne fun e => h4 (by rw [e]; exact m)).trans h2.lst, h2.len, fun i q x hq hx => ?_⟩, (upd_ne fun e => h5 (by rw [e]; exact m)).trans h3, h4, h5⟩
  have := h2.row i q x hq hx
  exact (upd_ne (ne this fun xs h => by cases h)).trans this
theorem BookW.write {C : BC} {H : Hp} {a : BA} {s : BS} {D : Addr} {xs ys : List V} (B : BookW C H a s) (hD : H D = some (.lst xs)) (m : D ∉ foot a s) : BookW C (upd H D (.lst ys)) a s := by
  have ne : ∀ {z v}, H z = some v → (∀ xs, v ≠ .lst xs) → z ≠ D := fun {z v} h hv e => by
    rw [e, hD] at h
    cases h
    exact hv _ rfl
  have nf : ∀ {z}, z ∈ foot a s → z ≠ D := fun {z} hz e => m (e ▸ hz)
  have ns : a.st ≠ D := nf (foot_iff.mpr (.inr (.inr (.inr (.inl rfl)))))
  have n1 : a.l1 ≠ D := nf (foot_iff.mpr (.inr (.inl rfl)))
  have n2 : a.l2 ≠ D := nf (foot_iff.mpr (.inr (.inr (.inl rfl))))
  refine ⟨(upd_ne (nf (foot_iff.mpr (.inl rfl)))).trans B.ob, (upd_ne (ne B.sd fun xs h => by unfold sidesO at h; cases h)).trans B.sd, ⟨(upd_ne ns).trans B.sp.li, fun e he => (upd_ne (ne (B.sp.en e he) fun xs h => by unfold stopO at h; cases h)).trans (B.sp.en e he), B.sp.nd, B.sp.sm⟩,
    B.s1.upd (ne B.s1.ob fun xs h => by cases h) n1 (fun e he => ne (B.s1.en e he) fun xs h => by unfold ordO at h; cases h), B.s2.upd (ne B.s2.ob fun xs h => by cases h) n2 (fun e he => ne (B.s2.en e he) fun xs h => by unfold ordO at h; cases h), B.r1, B.r2, B.dj, B.nll, B.n1, B.n2, B.gs, B.sz⟩
/-- an order enters: the book behind it and its report -/
def enterB (s : BS) (o dxo : Addr) (t : Ord) (kd : Str) : BS × RepT :=
  (⟨(subF kd t o dxo s.last (othE t.side s.es1 s.es2) (ownE t.side s.es1 s.es2)).last, s.next,
    if buyS t.side = true then (subF kd t o dxo s.last (othE t.side s.es1 s.es2) (ownE t.side s.es1 s.es2)).own else (subF kd t o dxo s.last (othE t.side s.es1 s.es2) (ownE t.side s.es1 s.es2)).oth,
    if buyS t.side = true then (subF kd t o dxo s.last (othE t.side s.es1 s.es2) (ownE t.side s.es1 s.es2)).oth else (subF kd t o dxo s.last (othE t.side s.es1 s.es2) (ownE t.side s.es1 s.es2)).own, s.ss⟩,
   ⟨t.number, t.house, t.side, (subF kd t o dxo s.last (othE t.side s.es1 s.es2) (ownE t.side s.es1 s.es2)).fills, (subF kd t o dxo s.last (othE t.side s.es1 s.es2) (ownE t.side s.es1 s.es2)).gone, (subF kd t o dxo s.last (othE t.side s.es1 s.es2) (ownE t.side s.es1 s.es2)).rest⟩)
theorem runM_len {s : Str} {t : Ord} : ∀ (k : Nat) {m : Mt}, Rank s m.es → (runM t k m).es.length ≤ m.es.length
  | 0, m, _ => Nat.le_refl _
  | k + 1, m, hr => by
    cases h : goesM t m with
    | none => rw [runM_stop h]; exact Nat.le_refl _
    | some e =>
      rw [runM_go h]
      have hs := stepM_less hr h
      have ih := runM_len (s := s) (t := t) k (m := stepM t m e) hs.2.2
      obtain ⟨h1, _, _⟩ := goesM_some h
      have hl : m.es.length = m.es.tail.length + 1 := by rw [h1]; rfl
      have : (stepM t m e).es.length ≤ m.es.length := by
        unfold stepM
        split
        · show m.es.tail.length ≤ _
          omega
        · have := tradeF_len e m.es.tail (qtyM m e) (prcE e)
          show (tradeF e m.es.tail (qtyM m e) (prcE e)).length ≤ _
          omega
      omega
theorem sub_len {kd : Str} {t : Ord} {o dxo : Addr} {last : Option Int} {oth own : List Ent} (hr : Rank (otherS t.side) oth) : (subF kd t o dxo last oth own).oth.length + (subF kd t o dxo last oth own).own.length ≤ oth.length + own.length + 1 := by
  unfold subF
  split
  · show oth.length + own.length ≤ _
    omega
  · have h1 : (endM t last oth).es.length ≤ oth.length := runM_len (s := otherS t.side) _ (m := startM t last oth) hr
    dsimp only
    split
    · rw [(insE_perm _ _ _).length_eq, List.length_cons]
      omega
    · omega

def EnterQW (C : BC) (H : Hp) (a : BA) (s : BS) (o dxo : Addr) (t : Ord) (kd : Str) (Q : VK) : Prop := ∀ (r : Addr) (H' : Hp), H r = none → (∀ F : List Addr, (∀ z, z ∈ F → z ∈ foot a (enterB s o dxo t kd).1 ∨ ∃ v, H z = some v) → RepAt C.CR H' F r (enterB s o dxo t kd).2) → BookW C H' a (enterB s o dxo t kd).1 →
  (∀ z v, z ∉ foot a s → z ≠ o → H z = some v → H' z = some v) → (∀ z, z ∈ foot a (enterB s o dxo t kd).1 → z ∈ foot a s ∨ z = o) → Q (.ref r) H'
theorem enter_w {C : BC} {H : Hp} {a : BA} {s : BS} {o dxo : Addr} {t : Ord} {kd : Str} {Q} {E} (B : BookW C H a s) (hs : t.side = "buy" ∨ t.side = "sell") (ho : H o = some (ordO C.CO dxo t)) (no : o ∉ foot a s)
    (g6 : 1 ≤ t.left) (g6b : t.left ≤ 1000000) (g7 : 0 ≤ t.shown) (hkp : V.str kd = V.str "rest" → ∃ p, t.price = some p) (hsz : s.es1.length + s.es2.length + s.ss.length ≤ 899)
    (q : EnterQW C H a s o dxo t kd Q) : sp_Bookenter K C.CO C.CB C.CK C.CR [.ref a.x, .ref o, .str kd] H Q E := by
  have n1 : ∀ e, e ∈ s.es1 → e.1 ≠ o := fun e he z => no (foot_iff.mpr (.inr (.inr (.inr (.inr (.inl (List.mem_map.mpr ⟨e, he, z⟩)))))))
  have n2 : ∀ e, e ∈ s.es2 → e.1 ≠ o := fun e he z => no (foot_iff.mpr (.inr (.inr (.inr (.inr (.inr (List.mem_map.mpr ⟨e, he, z⟩)))))))
  have key : ∀ (r dr fl rm : Addr) (fs : List Addr) (H' : Hp), H r = none → H fl = none → H rm = none → H' r = some (repO C.CR dr t.number t.house t.side fl rm (enterB s o dxo t kd).2.rest) → Tups encFill H' fl fs (enterB s o dxo t kd).2.fills → H' rm = some (.lst ((enterB s o dxo t kd).2.gone.map V.int)) →
      H' a.x = some (bookO C.CK a.dx (enterB s o dxo t kd).1.last s.next a.sd a.st) → SideAt C.CO C.CB H' a.b1 a.d1 a.l1 (enterB s o dxo t kd).1.es1 → SideAt C.CO C.CB H' a.b2 a.d2 a.l2 (enterB s o dxo t kd).1.es2 → Rank "buy" (enterB s o dxo t kd).1.es1 → Rank "sell" (enterB s o dxo t kd).1.es2 →
      (∀ z v, z ∉ foot a s → z ≠ o → H z = some v → H' z = some v) → H' a.st = H a.st →
      (∀ y, y ∈ (enterB s o dxo t kd).1.es1 → y.1 = o ∨ y.1 ∈ s.es1.map (·.1)) → (∀ y, y ∈ (enterB s o dxo t kd).1.es2 → y.1 = o ∨ y.1 ∈ s.es2.map (·.1)) → (o ∉ (enterB s o dxo t kd).1.es1.map (·.1) ∨ o ∉ (enterB s o dxo t kd).1.es2.map (·.1)) →
      (enterB s o dxo t kd).1.es1.length + (enterB s o dxo t kd).1.es2.length ≤ s.es1.length + s.es2.length + 1 → Q (.ref r) H' := by
    intro r dr fl rm fs H' nr nfl nrm hr hf hg hx h1 h2 k1 k2 fr hst m1 m2 mo hl
    have sdo : a.sd ≠ o := fun z => by have h1 := B.sd; rw [z, ho] at h1; unfold ordO sidesO at h1; cases h1
    have nw : ∀ z, z ∈ foot a (enterB s o dxo t kd).1 → z ∈ foot a s ∨ z = o := fun z hz => by
      rcases foot_iff.mp hz with e | e | e | e | e | e
      · exact .inl (foot_iff.mpr (.inl e))
      · exact .inl (foot_iff.mpr (.inr (.inl e)))
      · exact .inl (foot_iff.mpr (.inr (.inr (.inl e))))
      · exact .inl (foot_iff.mpr (.inr (.inr (.inr (.inl e)))))
      · obtain ⟨y, hy, rfl⟩ := List.mem_map.mp e
        rcases m1 y hy with k | k
        · exact .inr k
        · exact .inl (foot_iff.mpr (.inr (.inr (.inr (.inr (.inl k))))))
      · obtain ⟨y, hy, rfl⟩ := List.mem_map.mp e
        rcases m2 y hy with k | k
        · exact .inr k
        · exact .inl (foot_iff.mpr (.inr (.inr (.inr (.inr (.inr k))))))
    have frs : ∀ {z v}, H z = some v → ¬ Mov v → H' z = some v := fun {z v} hz hv => fr z v (B.out hz hv) (fun e => by
      rw [e, ho] at hz
      cases hz
      exact hv (.inr ⟨_, _, _, rfl, .inl rfl⟩)) hz
    have nf : ∀ {z}, H z = none → z ∉ foot a (enterB s o dxo t kd).1 := fun {z} hz m => by
      rcases nw z m with k | k
      · exact B.fresh hz k
      · rw [k, ho] at hz; cases hz
    refine q r H' nr (fun F hF => ⟨dr, fl, rm, fs, hr, hf, hg, fun m => ?_, fun m => ?_⟩) ?_ fr nw
    · rcases hF _ m with k | ⟨v, k⟩
      · exact nf nfl k
      · rw [nfl] at k; cases k
    · rcases hF _ m with k | ⟨v, k⟩
      · exact nf nrm k
      · rw [nrm] at k; cases k
    refine ⟨hx, frs B.sd nomov_sides, ⟨hst.trans B.sp.li, fun e he => frs (B.sp.en e he) nomov_stop, B.sp.nd, B.sp.sm⟩, h1, h2, k1, k2, ?_, B.nll, B.n1, B.n2, B.gs, ?_⟩
    · intro e he y hy z
      rcases m1 e he with c | c
      · rcases m2 y hy with d | d
        · rcases mo with g | g
          · exact g (List.mem_map.mpr ⟨e, he, c⟩)
          · exact g (List.mem_map.mpr ⟨y, hy, d⟩)
        · obtain ⟨y2, hy2, ey⟩ := List.mem_map.mp d
          exact n2 y2 hy2 (ey.trans (z.symm.trans c))
      · obtain ⟨e2, he2, ee⟩ := List.mem_map.mp c
        rcases m2 y hy with d | d
        · exact n1 e2 he2 (ee.trans (z.trans d))
        · obtain ⟨y2, hy2, ey⟩ := List.mem_map.mp d
          exact B.dj e2 he2 y2 hy2 (ee.trans (z.trans ey.symm))
    · show (enterB s o dxo t kd).1.es1.length + (enterB s o dxo t kd).1.es2.length + s.ss.length ≤ 900
      omega
  have footN : ∀ {z}, z ∉ foot a s → z ≠ a.x ∧ z ≠ a.l1 ∧ z ≠ a.l2 ∧ z ≠ a.st ∧ z ∉ s.es1.map (·.1) ∧ z ∉ s.es2.map (·.1) := fun {z} hz => by
    refine ⟨fun e => hz (foot_iff.mpr (.inl e)), fun e => hz (foot_iff.mpr (.inr (.inl e))), fun e => hz (foot_iff.mpr (.inr (.inr (.inl e)))), fun e => hz (foot_iff.mpr (.inr (.inr (.inr (.inl e))))), fun e => hz (foot_iff.mpr (.inr (.inr (.inr (.inr (.inl e)))))), fun e => hz (foot_iff.mpr (.inr (.inr (.inr (.inr (.inr e))))))⟩
  have sto : a.st ≠ o := fun z => no (foot_iff.mpr (.inr (.inr (.inr (.inl z.symm)))))
  have stx : a.st ≠ a.x := fun z => by have h1 := B.sp.li; rw [z, B.ob] at h1; unfold bookO at h1; cases h1
  have stE : a.st ∉ s.es1.map (·.1) ∧ a.st ∉ s.es2.map (·.1) := by
    refine ⟨fun h => ?_, fun h => ?_⟩
    · obtain ⟨e, he, z⟩ := List.mem_map.mp h
      have h1 := B.s1.en e he
      rw [z, B.sp.li] at h1
      unfold ordO at h1
      cases h1
    · obtain ⟨e, he, z⟩ := List.mem_map.mp h
      have h1 := B.s2.en e he
      rw [z, B.sp.li] at h1
      unfold ordO at h1
      cases h1
  rcases hs with hs | hs
  · have hoth : othE t.side s.es1 s.es2 = s.es2 := by rw [hs]; exact if_pos buyS_buy
    have hown : ownE t.side s.es1 s.es2 = s.es1 := by rw [hs]; exact if_pos buyS_buy
    have hb : buyS t.side = true := by rw [hs]; exact buyS_buy
    have hos : otherS t.side = "sell" := by rw [hs]; exact if_pos buyS_buy
    have hrk := sub_rank (kd := kd) (t := t) (o := o) (dxo := dxo) (last := s.last) (oth := s.es2) (own := s.es1) (by rw [hos]; exact B.r2) (by rw [hs]; exact B.r1) g6 g7 hkp
    have hln := sub_len (kd := kd) (t := t) (o := o) (dxo := dxo) (last := s.last) (oth := s.es2) (own := s.es1) (by rw [hos]; exact B.r2)
    unfold enterB at key
    simp only [hoth, hown, if_pos hb] at key
    obtain ⟨k1, k2, k3, k4⟩ := hrk
    rw [hos] at k1
    rw [hs] at k2
    have m1 : ∀ y, y ∈ (subF kd t o dxo s.last s.es2 s.es1).own → y.1 = o ∨ y.1 ∈ s.es1.map (·.1) := fun y hy => (k4 y hy).imp id fun h => List.mem_map.mpr ⟨y, h, rfl⟩
    have m2 : ∀ y, y ∈ (subF kd t o dxo s.last s.es2 s.es1).oth → y.1 = o ∨ y.1 ∈ s.es2.map (·.1) := fun y hy => by
      obtain ⟨e, he, ee⟩ := k3 y hy
      exact .inr (List.mem_map.mpr ⟨e, he, ee⟩)
    have mo : o ∉ (subF kd t o dxo s.last s.es2 s.es1).oth.map (·.1) := fun h => by
      obtain ⟨y, hy, z⟩ := List.mem_map.mp h
      obtain ⟨e, he, ee⟩ := k3 y hy
      exact n2 e he (ee.trans z)
    refine ⟨(), a.x, a.dx, a.sd, a.st, a.b2, a.d2, a.l2, a.b1, a.d1, a.l1, o, dxo, s.last, s.next, s.es2, s.es1, t, kd, rfl, ?_, hkp, by omega, g6b, ?_, ?_⟩
    · refine ⟨B.ob, ?_, ?_, B.s2, B.s1, ?_, ?_, ho, n2, n1, g6, g7, fun e he y hy z => B.dj y hy e he z.symm, B.nll.symm, ⟨_, _, B.sd⟩⟩
      · rw [hos]; exact sides_sell B.sd
      · rw [hs]; exact sides_buy B.sd
      · rw [hos]; exact B.r2
      · rw [hs]; exact B.r1
    · intro hk ha r dr fl rm H3 e3 nr nfl nrm hr hfl hrm
      have hheld : heldM kd t s.es2 = true := by
        unfold heldM
        rw [decide_eq_true hk, decide_eq_true ha]
        rfl
      have hR : subF kd t o dxo s.last s.es2 s.es1 = ⟨s.es2, s.es1, s.last, [], [], 0⟩ := if_pos hheld
      rw [hR] at key hln k1 k2 m1 m2 mo
      exact key r dr fl rm [] H3 nr nfl nrm hr ⟨hfl, rfl, fun i p x h => by cases h⟩ hrm (e3 _ _ B.ob) (B.s1.same e3) (B.s2.same e3) k2 k1 (fun z v _ _ h => e3 _ _ h) ((e3 _ _ B.sp.li).trans B.sp.li.symm) m1 m2 (.inr mo) (by dsimp only at hln ⊢; omega)
    · intro hk r dr fl rm fs m H3 hm nr nfl nrm hr hfl hrm hx3 hs1 hs2 hfr
      have hheld : ¬ heldM kd t s.es2 = true := fun z => by
        unfold heldM at z
        rw [Bool.and_eq_true] at z
        exact hk ⟨of_decide_eq_true z.1, of_decide_eq_true z.2⟩
      have hR : subF kd t o dxo s.last s.es2 s.es1 = ⟨m.es, if restsM kd m = true then insE s.es1 (place s.es1 (t.price.getD 0)) (o, dxo, Ord.showNext { t with left := m.left }) else s.es1, m.last, m.fills, m.gone, if restsM kd m = true then m.left else 0⟩ := by
        rw [hm]
        exact if_neg hheld
      rw [hR] at key hln k1 k2 m1 m2 mo
      exact key r dr fl rm fs H3 nr nfl nrm hr hfl hrm hx3 hs2 hs1 k2 k1 (fun z v hz h7 h => by
        obtain ⟨f1, f2, f3, f4, f5, f6⟩ := footN hz
        exact hfr z v f6 f3 f2 h7 f1 h) ((hfr _ _ stE.2 B.n2 B.n1 sto stx B.sp.li).trans B.sp.li.symm) m1 m2 (.inr mo) (by dsimp only at hln ⊢; omega)
  · have hb : ¬ buyS t.side = true := by rw [hs, buyS_sell]; exact Bool.false_ne_true
    have hoth : othE t.side s.es1 s.es2 = s.es1 := if_neg hb
    have hown : ownE t.side s.es1 s.es2 = s.es2 := if_neg hb
    have hos : otherS t.side = "buy" := if_neg hb
    have hrk := sub_rank (kd := kd) (t := t) (o := o) (dxo := dxo) (last := s.last) (oth := s.es1) (own := s.es2) (by rw [hos]; exact B.r1) (by rw [hs]; exact B.r2) g6 g7 hkp
    have hln := sub_len (kd := kd) (t := t) (o := o) (dxo := dxo) (last := s.last) (oth := s.es1) (own := s.es2) (by rw [hos]; exact B.r1)
    unfold enterB at key
    simp only [hoth, hown, if_neg hb] at key
    obtain ⟨k1, k2, k3, k4⟩ := hrk
    rw [hos] at k1
    rw [hs] at k2
    have m2 : ∀ y, y ∈ (subF kd t o dxo s.last s.es1 s.es2).own → y.1 = o ∨ y.1 ∈ s.es2.map (·.1) := fun y hy => (k4 y hy).imp id fun h => List.mem_map.mpr ⟨y, h, rfl⟩
    have m1 : ∀ y, y ∈ (subF kd t o dxo s.last s.es1 s.es2).oth → y.1 = o ∨ y.1 ∈ s.es1.map (·.1) := fun y hy => by
      obtain ⟨e, he, ee⟩ := k3 y hy
      exact .inr (List.mem_map.mpr ⟨e, he, ee⟩)
    have mo : o ∉ (subF kd t o dxo s.last s.es1 s.es2).oth.map (·.1) := fun h => by
      obtain ⟨y, hy, z⟩ := List.mem_map.mp h
      obtain ⟨e, he, ee⟩ := k3 y hy
      exact n1 e he (ee.trans z)
    refine ⟨(), a.x, a.dx, a.sd, a.st, a.b1, a.d1, a.l1, a.b2, a.d2, a.l2, o, dxo, s.last, s.next, s.es1, s.es2, t, kd, rfl, ?_, hkp, by omega, g6b, ?_, ?_⟩
    · refine ⟨B.ob, ?_, ?_, B.s1, B.s2, ?_, ?_, ho, n1, n2, g6, g7, B.dj, B.nll, ⟨_, _, B.sd⟩⟩
      · rw [hos]; exact sides_buy B.sd
      · rw [hs]; exact sides_sell B.sd
      · rw [hos]; exact B.r1
      · rw [hs]; exact B.r2
    · intro hk ha r dr fl rm H3 e3 nr nfl nrm hr hfl hrm
      have hheld : heldM kd t s.es1 = true := by
        unfold heldM
        rw [decide_eq_true hk, decide_eq_true ha]
        rfl
      have hR : subF kd t o dxo s.last s.es1 s.es2 = ⟨s.es1, s.es2, s.last, [], [], 0⟩ := if_pos hheld
      rw [hR] at key hln k1 k2 m1 m2 mo
      exact key r dr fl rm [] H3 nr nfl nrm hr ⟨hfl, rfl, fun i p x h => by cases h⟩ hrm (e3 _ _ B.ob) (B.s1.same e3) (B.s2.same e3) k1 k2 (fun z v _ _ h => e3 _ _ h) ((e3 _ _ B.sp.li).trans B.sp.li.symm) m1 m2 (.inl mo) (by dsimp only at hln ⊢; omega)
    · intro hk r dr fl rm fs m H3 hm nr nfl nrm hr hfl hrm hx3 hs1 hs2 hfr
      have hheld : ¬ heldM kd t s.es1 = true := fun z => by
        unfold heldM at z
        rw [Bool.and_eq_true] at z
        exact hk ⟨of_decide_eq_true z.1, of_decide_eq_true z.2⟩
      have hR : subF kd t o dxo s.last s.es1 s.es2 = ⟨m.es, if restsM kd m = true then insE s.es2 (place s.es2 (t.price.getD 0)) (o, dxo, Ord.showNext { t with left := m.left }) else s.es2, m.last, m.fills, m.gone, if restsM kd m = true then m.left else 0⟩ := by
        rw [hm]
        exact if_neg hheld
      rw [hR] at key hln k1 k2 m1 m2 mo
      exact key r dr fl rm fs H3 nr nfl nrm hr hfl hrm hx3 hs1 hs2 k1 k2 (fun z v hz h7 h => by
        obtain ⟨f1, f2, f3, f4, f5, f6⟩ := footN hz
        exact hfr z v f5 f2 f3 h7 f1 h) ((hfr _ _ stE.1 B.n1 B.n2 sto stx B.sp.li).trans B.sp.li.symm) m1 m2 (.inl mo) (by dsimp only at hln ⊢; omega)

/-! ### the stop orders that are reached enter, one at a time -/
def ordS (e : Stp) : Ord := ⟨e.number, e.house, e.side, e.price, 0, e.quantity, 0⟩
def kdS (e : Stp) : Str := match e.price with
  | none => "now"
  | some _ => "rest"
def dropS (a : Addr) (ss : List EntS) : List EntS := ss.filter fun y => decide (y.1 ≠ a)
def offS (s : BS) (a : Addr) : BS := { s with ss := dropS a s.ss }
inductive TrigS : BS → BS → List RepT → Prop
  | nil (s : BS) : TrigS s s []
  | snoc {s s1 : BS} {reps : List RepT} {e : EntS} (o dxo : Addr) : TrigS s s1 reps → firstS s1.last s1.ss = some e → TrigS s (enterB (offS s1 e.1) o dxo (ordS e.2.2) (kdS e.2.2)).1 (reps ++ [(enterB (offS s1 e.1) o dxo (ordS e.2.2) (kdS e.2.2)).2])
theorem refsS_map (ss : List EntS) : refsS ss = (ss.map (·.1)).map V.ref := by
  unfold refsS
  rw [List.map_map]
  rfl
theorem eraseS {a : Addr} {ss : List EntS} (nd : (ss.map (·.1)).Nodup) : (ss.map (·.1)).erase a = (dropS a ss).map (·.1) := by
  rw [nd.erase_eq_filter, List.filter_map]
  unfold dropS
  congr 1
  refine List.filter_congr fun y _ => ?_
  show (y.1 != a) = decide (y.1 ≠ a)
  by_cases h : y.1 = a <;> simp [h]
theorem BookW.put {C : BC} {H : Hp} {a : BA} {s : BS} (B : BookW C H a s) {ss : List EntS} (en : ∀ e, e ∈ ss → H e.1 = some (stopO C.CS e.2.1 e.2.2)) (nd : (ss.map (·.1)).Nodup)
    (gs : ∀ e, e ∈ ss → (e.2.2.side = "buy" ∨ e.2.2.side = "sell") ∧ 1 ≤ e.2.2.quantity ∧ e.2.2.quantity ≤ 1000000) (sz : s.es1.length + s.es2.length + ss.length ≤ 900) : BookW C (upd H a.st (.lst (refsS ss))) a { s with ss := ss } := by
  have hl := B.sp.li
  have ne : ∀ {z v}, H z = some v → (∀ xs, v ≠ .lst xs) → z ≠ a.st := fun {z v} h hv e => by
    rw [e, hl] at h
    cases h
    exact hv _ rfl
  have hx : a.x ≠ a.st := ne B.ob fun xs h => by unfold bookO at h; cases h
  have hs : a.sd ≠ a.st := ne B.sd fun xs h => by unfold sidesO at h; cases h
  have hb1 : a.b1 ≠ a.st := ne B.s1.ob fun xs h => by cases h
  have hb2 : a.b2 ≠ a.st := ne B.s2.ob fun xs h => by cases h
  refine ⟨(upd_ne hx).trans B.ob, (upd_ne hs).trans B.sd, ⟨upd_same, fun e he => (upd_ne (ne (en e he) fun xs h => by unfold stopO at h; cases h)).trans (en e he), nd, by dsimp only at sz ⊢; omega⟩, B.s1.upd hb1 B.n1.symm (fun e he => ne (B.s1.en e he) fun xs h => by unfold ordO at h; cases h),
    B.s2.upd hb2 B.n2.symm (fun e he => ne (B.s2.en e he) fun xs h => by unfold ordO at h; cases h), B.r1, B.r2, B.dj, B.nll, B.n1, B.n2, gs, sz⟩
theorem StepW.put {a : BA} {s : BS} {H : Hp} {ss : List EntS} {v : HO} : StepW a s { s with ss := ss } H (upd H a.st v) :=
  ⟨fun z w hz h => (upd_ne fun e => hz (foot_iff.mpr (.inr (.inr (.inr (.inl e)))))).trans h, fun z hz => .inl hz⟩
theorem dropS_mem {a : Addr} {ss : List EntS} {y : EntS} (h : y ∈ dropS a ss) : y ∈ ss := (List.mem_filter.mp h).1
theorem dropS_len {e : EntS} {ss : List EntS} (h : e ∈ ss) : (dropS e.1 ss).length + 1 ≤ ss.length := by
  have h1 := List.length_filter_lt_length_iff_exists (p := fun y : EntS => decide (y.1 ≠ e.1)) (l := ss) |>.mpr ⟨e, h, by simp⟩
  exact h1
theorem dropS_eq {e : EntS} {ss : List EntS} (nd : (ss.map (·.1)).Nodup) (h : e ∈ ss) : (dropS e.1 ss).length + 1 = ss.length := by
  have h1 := eraseS (a := e.1) nd
  have h2 := congrArg List.length h1
  rw [List.length_erase_of_mem (List.mem_map.mpr ⟨e, h, rfl⟩), List.length_map, List.length_map] at h2
  have h3 := List.length_pos_of_mem h
  omega
theorem BookW.off {C : BC} {H : Hp} {a : BA} {s : BS} (B : BookW C H a s) {e : EntS} (h : e ∈ s.ss) : BookW C (upd H a.st (.lst (refsS (dropS e.1 s.ss)))) a (offS s e.1) :=
  B.put (fun y hy => B.sp.en y (dropS_mem hy)) ((List.filter_sublist.map _).nodup B.sp.nd) (fun y hy => B.gs y (dropS_mem hy)) (by have := dropS_len h; have := B.sz; omega)
/-- a list of reports -/
def RepsAt (CR : Addr) (H : Hp) (F : List Addr) (D : Addr) (reps : List RepT) : Prop := ∃ rs : List Addr, H D = some (.lst (rs.map V.ref)) ∧ D ∉ F ∧ rs.length = reps.length ∧ ∀ (i : Nat) (r : Addr) (t : RepT), rs[i]? = some r → reps[i]? = some t → RepAt CR H (D :: F) r t
theorem RepsAt.step {C : BC} {H H' : Hp} {a : BA} {s s' : BS} {D : Addr} {reps : List RepT} (R : RepsAt C.CR H (foot a s) D reps) (B : BookW C H a s) (p : StepW a s s' H H') : RepsAt C.CR H' (foot a s') D reps := by
  obtain ⟨rs, h1, h2, h3, h4⟩ := R
  exact ⟨rs, p.fr _ _ h2 h1, p.out h1 h2, h3, fun i r t hr ht => (h4 i r t hr ht).stepD B p⟩
theorem RepAt.stepX {C : BC} {H H' : Hp} {a : BA} {s s' : BS} {D r : Addr} {X : List Addr} {t : RepT} (R : RepAt C.CR H (D :: (X ++ foot a s)) r t) (B : BookW C H a s) (p : StepW a s s' H H') : RepAt C.CR H' (D :: (X ++ foot a s')) r t := by
  obtain ⟨dr, fl, rm, fs, h1, h2, h3, h4, h5⟩ := R
  have out : ∀ {z : Addr}, z ∉ D :: (X ++ foot a s) → z ≠ D ∧ z ∉ X ∧ z ∉ foot a s := fun h => ⟨fun e => h (by rw [e]; exact List.mem_cons_self), fun e => h (List.mem_cons_of_mem _ (List.mem_append_left _ e)), fun e => h (List.mem_cons_of_mem _ (List.mem_append_right _ e))⟩
  have back : ∀ {z : Addr} {v : HO}, H z = some v → z ∉ D :: (X ++ foot a s) → z ∉ D :: (X ++ foot a s') := fun {z v} hz h m => by
    obtain ⟨o1, o2, o3⟩ := out h
    rcases List.mem_cons.mp m with k | k
    · exact o1 k
    · rcases List.mem_append.mp k with k | k
      · exact o2 k
      · exact p.out hz o3 k
  refine ⟨dr, fl, rm, fs, p.fr _ _ (B.out h1 nomov_rep) h1, ⟨p.fr _ _ (out h4).2.2 h2.lst, h2.len, fun i q x hq hx => ?_⟩, p.fr _ _ (out h5).2.2 h3, back h2.lst h4, back h3 h5⟩
  have := h2.row i q x hq hx
  exact p.fr _ _ (B.out this (nomov_tup _)) this
/-- lists of others, out of the book's reach -/
def Others (H : Hp) (a : BA) (s : BS) (X : List Addr) : Prop := ∀ z, z ∈ X → z ∉ foot a s ∧ ∃ v, H z = some v
theorem Others.step {a : BA} {s s' : BS} {H H' : Hp} {X : List Addr} (h : Others H a s X) (p : StepW a s s' H H') : Others H' a s' X := fun z hz => by
  obtain ⟨h1, v, h2⟩ := h z hz
  exact ⟨p.out h2 h1, v, p.fr z v h1 h2⟩
theorem RepAt.stepY {C : BC} {H H' : Hp} {a : BA} {s s' : BS} {r : Addr} {X : List Addr} {t : RepT} (R : RepAt C.CR H (X ++ foot a s) r t) (B : BookW C H a s) (p : StepW a s s' H H') : RepAt C.CR H' (X ++ foot a s') r t := by
  cases X with
  | nil => exact RepAt.step R B p
  | cons D X => exact RepAt.stepX R B p
theorem Others.new {H : Hp} {a : BA} {s : BS} {X : List Addr} {z : Addr} (h : Others H a s X) (n : H z = none) (f : z ∉ foot a s) : z ∉ X ++ foot a s := fun m => by
  rcases List.mem_append.mp m with k | k
  · obtain ⟨v, hv⟩ := (h z k).2
    rw [n] at hv
    cases hv
  · exact f k
theorem reps_snoc {CR : Addr} {H : Hp} {F : List Addr} {r : Addr} {reps : List RepT} {rs : List Addr} {t : RepT} (h3 : rs.length = reps.length) (h4 : ∀ (i : Nat) (r : Addr) (t : RepT), rs[i]? = some r → reps[i]? = some t → RepAt CR H F r t) (hr : RepAt CR H F r t) :
    (rs ++ [r]).length = (reps ++ [t]).length ∧ ∀ (i : Nat) (q : Addr) (y : RepT), (rs ++ [r])[i]? = some q → (reps ++ [t])[i]? = some y → RepAt CR H F q y := by
  refine ⟨?_, fun i q y hq hy => ?_⟩
  · rw [List.length_append, List.length_append, h3]
    rfl
  · by_cases hi : i < rs.length
    · rw [List.getElem?_append_left hi] at hq
      rw [List.getElem?_append_left (by omega)] at hy
      exact h4 i q y hq hy
    · rw [List.getElem?_append_right (by omega)] at hq
      rw [List.getElem?_append_right (by omega)] at hy
      have h5 := (List.getElem?_eq_some_iff.mp hq).1
      rw [List.length_singleton] at h5
      have e0 : i - rs.length = 0 := by omega
      have e1 : i - reps.length = 0 := by omega
      rw [e0] at hq
      rw [e1] at hy
      cases hq
      cases hy
      exact hr
def lenL (H : Hp) (l : Addr) : Nat := match H l with
  | some (.lst xs) => xs.length
  | _ => 0
theorem lenL_eq {H : Hp} {l : Addr} {xs : List V} (h : H l = some (.lst xs)) : lenL H l = xs.length := by
  unfold lenL
  rw [h]
theorem firstS_mem {last : Option Int} {ss : List EntS} {e : EntS} (h : firstS last ss = some e) : e ∈ ss ∧ reachedS e.2.2 last = true := ⟨List.mem_of_find?_eq_some h, List.find?_some (p := fun e : EntS => reachedS e.2.2 last) h⟩
def sp_Booktrigger_stops (K : PySem.W.Frag) (CO CB CK CS CR : Addr) : Sp := fun vs H Q _ => ∃ (_ : Unit) (a : BA) (s : BS) (X : List Addr), vs = [.ref a.x] ∧ BookW ⟨CO, CB, CK, CS, CR⟩ H a s ∧ Others H a s X ∧
  ∀ s' reps D H', TrigS s s' reps → firstS s'.last s'.ss = none → BookW ⟨CO, CB, CK, CS, CR⟩ H' a s' → StepW a s s' H H' → H D = none → RepsAt CR H' (X ++ foot a s') D reps → Q (.ref D) H'
set_option maxHeartbeats 0 in
theorem ok_Booktrigger_stops (T : Txt K mg) : FnOk P w K mg base CX0 7 T.f_Booktrigger_stops T.d_Booktrigger_stops ["self"] (sp_Booktrigger_stops K T.c_Order T.c_BookSide T.c_Book T.c_Stop T.c_Report) := by
  refine T.F_Booktrigger_stops.ok sc_Booktrigger_stops (fun vs H Q E h => ?_) (fun cdv A outer s H vs Q E hr h => ?_)
  · obtain ⟨_, a, s, X, rfl, _⟩ := h
    rfl
  · obtain ⟨_, a, s, X, rfl, B, hX, q⟩ := h
    have G_Bookfirst_reached : FnOk P w K mg base CX0 2 T.f_Bookfirst_reached T.d_Bookfirst_reached ["self"] (sp_Bookfirst_reached K T.c_Stop T.c_Book) := ok_Bookfirst_reached T
    have G_Order_init : FnOk P w K mg base CX0 1 T.f_Order_init T.d_Order_init ["self", "number", "house", "side", "price", "quantity", "shown"] (sp_Order_init K T.c_Order) := ok_Order_init T
    have G_Bookenter : FnOk P w K mg base CX0 6 T.f_Bookenter T.d_Bookenter ["self", "order", "kind"] (sp_Bookenter K T.c_Order T.c_BookSide T.c_Book T.c_Report) := ok_Bookenter T
    refine ⟨_, (pss_cons (ps_set (i := 1) sc_Booktrigger_stops.nd rfl (Or.inl rfl) (pe_lst pa_nil))
    (pss_cons (ps_set (i := 2) sc_Booktrigger_stops.nd rfl (Or.inl rfl) (pe_meth0 (pv 0) T.cl_Book T.mt_Bookfirst_reached G_Bookfirst_reached (hr.mono (by decide)) T.b_Bookfirst_reached .nil pass0))
    (pss_cons (ps_while PassesOwn.never (pt_cmpR op_notN (pv 2) pe_non (nomark _))
      (pss_cons (ps_expr (pe_bm PySem.F.plainAttrs_list PySem.F.slot_list_remove PySem.F.type_list_remove (mt_removeO hr T.eq_Stop T.mo_Stop) (pe_fld (pv 0) rfl) (pa_cons (pv 2) pa_nil)))
      (pss_cons (ps_set (i := 3) sc_Booktrigger_stops.nd rfl (Or.inl rfl) (pe_ifExp (pt_cmpR op_isN (pe_fld (pv 2) rfl) pe_non (nomark _)) pe_str pe_str))
      (pss_cons (ps_set (i := 4) sc_Booktrigger_stops.nd rfl (Or.inl rfl) (pe_make T.mk_Order G_Order_init (hr.mono (by decide)) (by rfl) T.m_Order T.b_Order_init .nil pass0 (pa_cons (pe_fld (pv 2) rfl) (pa_cons (pe_fld (pv 2) rfl) (pa_cons (pe_fld (pv 2) rfl) (pa_cons (pe_fld (pv 2) rfl) (pa_cons (pe_fld (pv 2) rfl) (pa_cons pe_int pa_nil))))))))
      (pss_cons (ps_expr (pe_bm PySem.F.plainAttrs_list PySem.F.slot_list_append PySem.F.type_list_append mt_append (pv 1) (pa_cons (pe_meth (pv 0) T.cl_Book T.mt_Bookenter G_Bookenter hr T.b_Bookenter .nil pass0 (pa_cons (pv 4) (pa_cons (pv 3) pa_nil))) pa_nil)))
      (pss_one (ps_set (i := 2) sc_Booktrigger_stops.nd rfl (Or.inl rfl) (pe_meth0 (pv 0) T.cl_Book T.mt_Bookfirst_reached G_Bookfirst_reached (hr.mono (by decide)) T.b_Bookfirst_reached .nil pass0))))))))
    (pss_one (ps_ret (pv 1)))))), ?_⟩
    have fact_BookSide_0 := T.cl_BookSide; have fact_BookSide_1 := T.na_BookSide__orders; have fact_Book_0 := T.cl_Book; have fact_Book_1 := T.na_Book_last; have fact_Book_2 := T.na_Book__next_number; have fact_Book_3 := T.na_Book__sides; have fact_Book_4 := T.na_Book__stops; have fact_Order_0 := T.cl_Order; have fact_Order_1 := T.na_Order_number; have fact_Order_2 := T.na_Order_house; have fact_Order_3 := T.na_Order_side; have fact_Order_4 := T.na_Order_price; have fact_Order_5 := T.na_Order_shown; have fact_Order_6 := T.na_Order_left; have fact_Order_7 := T.na_Order_visible; have fact_Report_0 := T.cl_Report; have fact_Report_1 := T.na_Report_number; have fact_Report_2 := T.na_Report_house; have fact_Report_3 := T.na_Report_side; have fact_Report_4 := T.na_Report_fills; have fact_Report_5 := T.na_Report_removed; have fact_Report_6 := T.na_Report_resting; have fact_Stop_0 := T.cl_Stop; have fact_Stop_1 := T.na_Stop_number; have fact_Stop_2 := T.na_Stop_house; have fact_Stop_3 := T.na_Stop_side; have fact_Stop_4 := T.na_Stop_trigger; have fact_Stop_5 := T.na_Stop_price; have fact_Stop_6 := T.na_Stop_quantity
    have hob := B.ob
    unfold bookO at hob
    walk_at "st"
    intro D nD
    have sD := same_upd (o := .lst []) nD
    have hD : upd H D (.lst []) D = some (.lst []) := upd_same
    have fD := B.fresh nD
    have B1 := B.same sD
    have st1 : StepW a s s H (upd H D (.lst [])) := StepW.refl.post sD
    generalize upd H D _ = H1 at *
    have hob1 := B1.ob
    unfold bookO at hob1
    walk_at "st"
    refine ⟨s.last, s.next, s.ss, rfl, B1.ob, B1.sp, ?_⟩
    refine while_by (fun σ H' => ∃ (_ : Unit) (v3 v4 : Option V) (s' : BS) (reps : List RepT) (rs : List Addr), σ = [some (.ref a.x), some (.ref D), some (entVS (firstS s'.last s'.ss)), v3, v4] ∧ TrigS s s' reps ∧ BookW ⟨T.c_Order, T.c_BookSide, T.c_Book, T.c_Stop, T.c_Report⟩ H' a s' ∧ StepW a s s' H H' ∧
        H' D = some (.lst (rs.map V.ref)) ∧ D ∉ foot a s' ∧ rs.length = reps.length ∧ (∀ (i : Nat) (r : Addr) (t : RepT), rs[i]? = some r → reps[i]? = some t → RepAt T.c_Report H' (D :: (X ++ foot a s')) r t) ∧ rs.length + s'.ss.length = s.ss.length)
      (fun _ H' => lenL H' a.st) ⟨(), none, none, s, [], [], rfl, .nil s, B1, st1, hD, fD, rfl, (fun i r t h => by rw [List.getElem?_nil] at h; cases h), by rw [List.length_nil]; omega⟩ ?_ ?_
    · rintro σ H2 ⟨_, v3, v4, s', reps, rs, rfl, hT, B2, S2, hD2, fD2, hlr, hreps, hsum⟩
      cases hf : firstS s'.last s'.ss with
      | none =>
        walk_at "st"
        exact q s' reps D H2 hT hf B2 S2 nD ⟨rs, hD2, fun m => (List.mem_append.mp m).elim (fun k => (by obtain ⟨v, hv⟩ := (hX D k).2; rw [nD] at hv; cases hv)) fD2, hlr, hreps⟩
      | some e =>
        obtain ⟨hmem, hreach⟩ := firstS_mem hf
        have hen := B2.sp.en e hmem
        have hen2 := hen
        unfold stopO at hen2
        have hob2 := B2.ob
        unfold bookO at hob2
        have hst2 := B2.sp.li
        walk_at "st"
        refine ⟨s'.ss.map (·.1), rfl, rfl, by rw [← refsS_map]; exact hst2, List.mem_map.mpr ⟨e, hmem, rfl⟩, fun b hb => ?_, ?_⟩
        · obtain ⟨y, hy, rfl⟩ := List.mem_map.mp hb
          exact ⟨_, _, B2.sp.en y hy⟩
        rw [eraseS B2.sp.nd, ← refsS_map]
        have B3 := B2.off hmem
        have S3 : StepW a s (offS s' e.1) H (upd H2 a.st (.lst (refsS (dropS e.1 s'.ss)))) := S2.trans StepW.put
        have nest : e.1 ≠ a.st := fun z => by rw [z, hst2] at hen; unfold stopO at hen; cases hen
        have hen3 : upd H2 a.st (.lst (refsS (dropS e.1 s'.ss))) e.1 = some (stopO T.c_Stop e.2.1 e.2.2) := (upd_ne nest).trans hen
        have hD3 : upd H2 a.st (.lst (refsS (dropS e.1 s'.ss))) D = some (.lst (rs.map V.ref)) := (upd_ne fun z => fD2 (foot_iff.mpr (.inr (.inr (.inr (.inl z)))))).trans hD2
        have hr3 : ∀ (i : Nat) (r : Addr) (t : RepT), rs[i]? = some r → reps[i]? = some t → RepAt T.c_Report (upd H2 a.st (.lst (refsS (dropS e.1 s'.ss)))) (D :: (X ++ foot a (offS s' e.1))) r t := fun i r t h1 h2 => (hreps i r t h1 h2).stepX B2 StepW.put
        have fD3 : D ∉ foot a (offS s' e.1) := fD2
        have hlen : (dropS e.1 s'.ss).length + 1 ≤ s'.ss.length := dropS_len hmem
        have hgs := B2.gs e hmem
        generalize hH3 : upd H2 a.st _ = H3 at B3 S3 hen3 hD3 hr3
        have hen4 := hen3
        unfold stopO at hen4
        have hob3 := B3.ob
        unfold bookO at hob3
        have hkk : ∀ {kv : Str}, kv = kdS e.2.2 → V.str kv = V.str "rest" → ∃ p, e.2.2.price = some p := fun {kv} hk h => by
          rw [hk] at h
          unfold kdS at h
          split at h
          · exact absurd h (by decide +kernel)
          · next p hp => exact ⟨p, hp⟩
        obtain ⟨pr, hp⟩ : ∃ pr, e.2.2.price = pr := ⟨_, rfl⟩
        cases pr
        all_goals
          simp only [hp, optV] at hen4
          first
            | (have hkd : ("now" : Str) = kdS e.2.2 := by unfold kdS; rw [hp])
            | (have hkd : ("rest" : Str) = kdS e.2.2 := by unfold kdS; rw [hp])
          walk_at "st"
          intro o dxo no ndo hne
          have no' : upd H3 dxo (.own o) o = none := by
            first
              | (rw [upd_ne hne]; exact no)
              | (rw [upd_ne (Ne.symm hne)]; exact no)
          refine ⟨o, dxo, e.2.2.number, e.2.2.house, e.2.2.side, e.2.2.price, e.2.2.quantity, 0, by rw [hp]; rfl, upd_same, ?_⟩
          rw [upd_upd]
          refine ⟨rfl, ?_⟩
          have so2 : ∀ v, Same H3 (upd (upd H3 dxo (.own o)) o v) := fun v => (same_upd ndo).trans (same_upd no')
          generalize hH4 : upd (upd H3 dxo _) o _ = H4
          have s4 : Same H3 H4 := hH4 ▸ so2 _
          have hoo : H4 o = some (ordO T.c_Order dxo (ordS e.2.2)) := (congrFun hH4 o).symm.trans upd_same
          have B4 := B3.same s4
          have hD4 := s4 _ _ hD3
          have hob4 := s4 _ _ hob3
          walk_at "st"
          rw [hkd]
          have hsz := B2.sz
          delta tNil
          refine enter_w (K := K) (E := E0) (C := ⟨T.c_Order, T.c_BookSide, T.c_Book, T.c_Stop, T.c_Report⟩) (a := a) (s := offS s' e.1) (dxo := dxo) (t := ordS e.2.2) (kd := kdS e.2.2) B4 hgs.1 hoo (B3.fresh no) hgs.2.1 hgs.2.2 (Int.le_refl 0) (hkk rfl) (by show s'.es1.length + s'.es2.length + (dropS e.1 s'.ss).length ≤ 899; omega) ?_
          intro r H5 nr hR B5 fr5 nw5
          have noD : D ≠ o := fun z => by rw [z, no] at hD3; cases hD3
          have hD5 := fr5 _ _ fD3 noD hD4
          have p45 : StepW a (offS s' e.1) (enterB (offS s' e.1) o dxo (ordS e.2.2) (kdS e.2.2)).1 H3 H5 := by
            refine ⟨fun z v hz h => fr5 z v hz (fun q => by rw [q, no] at h; cases h) (s4 _ _ h), fun z hz => ?_⟩
            rcases nw5 z hz with k | k
            · exact .inl k
            · exact .inr (by rw [k]; exact no)
          have fD5 := p45.out hD3 fD3
          have hlen5 : (rs.map V.ref).length < sizeLine := small1000 (by rw [List.length_map]; have := B.sp.sm; omega)
          have hrep5 : ∀ (i : Nat) (q : Addr) (y : RepT), rs[i]? = some q → reps[i]? = some y → RepAt T.c_Report H5 (D :: (X ++ foot a (enterB (offS s' e.1) o dxo (ordS e.2.2) (kdS e.2.2)).1)) q y := fun i q y h1 h2 => (hr3 i q y h1 h2).stepX (C := ⟨T.c_Order, T.c_BookSide, T.c_Book, T.c_Stop, T.c_Report⟩) B3 p45
          have hnew := hR (D :: (X ++ foot a (enterB (offS s' e.1) o dxo (ordS e.2.2) (kdS e.2.2)).1)) fun z hz => by
            rcases List.mem_cons.mp hz with k | k
            · exact .inr ⟨_, k ▸ hD4⟩
            · rcases List.mem_append.mp k with k | k
              · obtain ⟨v, hv⟩ := ((hX.step S3) z k).2
                exact .inr ⟨v, s4 _ _ hv⟩
              · exact .inl k
          have B6 := B5.write (ys := rs.map V.ref ++ [.ref r]) hD5 fD5
          have hob6 := B6.ob
          have hob7 := hob6
          unfold bookO at hob7
          obtain ⟨hl6, hrep6⟩ := reps_snoc hlr hrep5 hnew
          have hrep7 : ∀ (i : Nat) (q : Addr) (y : RepT), (rs ++ [r])[i]? = some q → (reps ++ [(enterB (offS s' e.1) o dxo (ordS e.2.2) (kdS e.2.2)).2])[i]? = some y → RepAt T.c_Report (upd H5 D (.lst (rs.map V.ref ++ [.ref r]))) (D :: (X ++ foot a (enterB (offS s' e.1) o dxo (ordS e.2.2) (kdS e.2.2)).1)) q y := fun i q y h1 h2 => (hrep6 i q y h1 h2).write hD5 List.mem_cons_self
          have p46 : StepW a (offS s' e.1) (enterB (offS s' e.1) o dxo (ordS e.2.2) (kdS e.2.2)).1 H3 H5 := p45
          have S5 := S3.trans p45
          have S6 : StepW a s (enterB (offS s' e.1) o dxo (ordS e.2.2) (kdS e.2.2)).1 H (upd H5 D (.lst (rs.map V.ref ++ [.ref r]))) :=
            ⟨fun z v hz h => (upd_ne (fun q => by rw [q, nD] at h; cases h)).trans (S5.fr z v hz h), S5.nw⟩
          have hst6 : lenL (upd H5 D (.lst (rs.map V.ref ++ [.ref r]))) a.st < lenL H2 a.st := by
            rw [lenL_eq B6.sp.li, lenL_eq hst2]
            unfold refsS
            rw [List.length_map, List.length_map]
            exact hlen
          walk_at "st"
          refine ⟨_, _, _, rfl, hob6, B6.sp, ?_⟩
          refine ⟨⟨(), _, _, _, _, rs ++ [r], rfl, .snoc o dxo hT hf, B6, S6, ?_, fD5, hl6, hrep7, ?_⟩, hst6⟩
          · rw [upd_same, List.map_append]
            rfl
          · rw [List.length_append, List.length_singleton]
            show rs.length + 1 + (dropS e.1 s'.ss).length = s.ss.length
            have hd : (dropS e.1 s'.ss).length + 1 = s'.ss.length := dropS_eq B2.sp.nd hmem
            omega
    · rintro σ H Q Q' h ⟨v, e1, k, b, e2, q⟩
      exact ⟨v, e1, k, b, e2, h _ _ q⟩

/-- an order that may be handed in -/
structure GoodOrd (ho si : Str) (pr : Option Int) (qu : Int) (kd : Str) (sh : Int) : Prop where
  h1 : ¬ V.str ho = V.str ""
  h2 : V.str si = V.str "buy" ∨ V.str si = V.str "sell"
  h3 : V.str kd = V.str "rest" ∨ V.str kd = V.str "now" ∨ V.str kd = V.str "all"
  h4 : ∀ p, pr = some p → 1 ≤ p ∧ p ≤ 1000000
  h5 : pr = none → ¬ V.str kd = V.str "rest"
  h6 : 1 ≤ qu ∧ qu ≤ 1000000
  h7 : 0 ≤ sh ∧ sh ≤ qu
  h8 : 0 < sh → V.str kd = V.str "rest"
def sp_is_integral (K : PySem.W.Frag) : Sp := fun vs H Q _ => ∃ x : Int, vs = [.int x] ∧ Q (.bl true) H
set_option maxHeartbeats 0 in
theorem ok_is_integral (T : Txt K mg) : FnOk P w K mg base CX0 1 T.f_is_integral T.d_is_integral ["value"] (sp_is_integral K) := by
  refine T.F_is_integral.ok sc_is_integral (fun vs H Q E h => ?_) (fun cdv A outer s H vs Q E hr h => ?_)
  · obtain ⟨x, rfl, _⟩ := h
    rfl
  · obtain ⟨x, rfl, q⟩ := h
    refine ⟨_, (pss_one (ps_ret (pe_and (pe_callB call_isi (by rfl) T.z_isinstance (by decide +kernel) (pa_cons (pv 0) (pa_cons (pe_bltn (v := .ty "int") (u := .type "int") (by rfl) T.z_int (by decide +kernel) rfl) pa_nil))) (pe_one (pe_not (pe_callB call_isi (by rfl) T.z_isinstance (by decide +kernel) (pa_cons (pv 0) (pa_cons (pe_bltn (v := .ty "bool") (u := .type "bool") (by rfl) T.z_bool (by decide +kernel) rfl) pa_nil)))))))), ?_⟩
    refine ⟨_, rfl, ?_⟩
    refine ⟨_, _, _, _, true, rfl, .ty _, .base (.int _), kit_ty (by decide +kernel), ?_⟩
    refine ⟨true, rfl, iteT ?_⟩
    refine ⟨_, rfl, ?_⟩
    refine ⟨_, _, _, _, false, rfl, .ty _, .base (.int _), kit_ty (by decide +kernel), ?_⟩
    refine ⟨false, rfl, ?_⟩
    exact q
def sp_is_within (K : PySem.W.Frag) : Sp := fun vs H Q _ => ∃ a b x : Int, vs = [.int a, .int b, .int x] ∧ Q (.bl (decide (a ≤ x ∧ x ≤ b))) H
set_option maxHeartbeats 0 in
theorem ok_is_within (T : Txt K mg) : FnOk P w K mg base CX0 2 T.f_is_within T.d_is_within ["least", "most", "value"] (sp_is_within K) := by
  refine T.F_is_within.ok sc_is_within (fun vs H Q E h => ?_) (fun cdv A outer s H vs Q E hr h => ?_)
  · obtain ⟨a, b, x, rfl, _⟩ := h
    rfl
  · obtain ⟨a, b, x, rfl, q⟩ := h
    have G_is_integral : FnOk P w K mg base CX0 1 T.f_is_integral T.d_is_integral ["value"] (sp_is_integral K) := ok_is_integral T
    refine ⟨_, (pss_one (ps_ret (pe_and (pe_call G_is_integral hr (by rfl) T.m_is_integral T.F_is_integral.kp T.b_is_integral .nil pass0 (pa_cons (pv 2) pa_nil)) (pe_one (pe_chain op_le op_le (pv 0) (pv 2) (pv 1)))))), ?_⟩
    walk_at "st"
    refine iteB (fun h => ?_) (fun h => ?_)
    · walk_at "st"
      rw [show (decide (a ≤ x ∧ x ≤ b)) = decide (x ≤ b) from decide_eq_decide.mpr ⟨fun z => z.2, fun z => ⟨dec_t h, z⟩⟩] at q
      exact q
    · rw [decide_eq_false (fun z => dec_f h z.1)] at q
      exact q

def sp_check_house (K : PySem.W.Frag) (C : Addr) : Sp := fun vs H Q E => ∃ s : Str, vs = [.str s] ∧ (¬ V.str s = V.str "" → Q .non H) ∧ (V.str s = V.str "" → E (.ref C) none H)
set_option maxHeartbeats 0 in
theorem ok_check_house (T : Txt K mg) : FnOk P w K mg base (L2.CX P w) 1 T.f_check_house T.d_check_house ["house"] (sp_check_house K T.c_InvalidOrder) := by
  refine T.F_check_house.okX sc_check_house (fun vs H Q E h => ?_) (fun cdv A outer s H vs Q E hr h => ?_)
  · obtain ⟨s, rfl, _⟩ := h
    rfl
  · obtain ⟨s, rfl, q, qe⟩ := h
    refine ⟨_, (pss_one (ps_if (pt_cmpR op_eq (pv 0) pe_str (nomark _))
      (pss_one (ps_raise rfl (takes_of rfl rfl rfl rfl) (pmk_own PySem.F.excBase_ValueError T.x_InvalidOrder T.m_InvalidOrder T.k_InvalidOrder (raises_own T.b_InvalidOrder T.t_InvalidOrder) (by rfl))))
      pss_nil)), ?_⟩
    walk_at "st"
    refine iteB (fun h => ?_) (fun h => ?_)
    · walk_at "st"
      exact qe (of_decide_eq_true h)
    · exact q (of_decide_eq_false h)
def sp_check_side (K : PySem.W.Frag) (C : Addr) : Sp := fun vs H Q E => ∃ s : Str, vs = [.str s] ∧ ((V.str s = V.str "buy" ∨ V.str s = V.str "sell") → Q .non H) ∧ (¬ (V.str s = V.str "buy" ∨ V.str s = V.str "sell") → E (.ref C) none H)
set_option maxHeartbeats 0 in
theorem ok_check_side (T : Txt K mg) : FnOk P w K mg base (L2.CX P w) 1 T.f_check_side T.d_check_side ["side"] (sp_check_side K T.c_InvalidOrder) := by
  refine T.F_check_side.okX sc_check_side (fun vs H Q E h => ?_) (fun cdv A outer s H vs Q E hr h => ?_)
  · obtain ⟨s, rfl, _⟩ := h
    rfl
  · obtain ⟨s, rfl, q, qe⟩ := h
    
    refine ⟨_, (pss_one (ps_if (pt_cmpR op_notIn_seq (pv 0) (pe_glob (v := .ref T.c_SIDES) rfl T.m_SIDES rfl) rfl)
      (pss_one (ps_raise rfl (takes_of rfl rfl rfl rfl) (pmk_own PySem.F.excBase_ValueError T.x_InvalidOrder T.m_InvalidOrder T.k_InvalidOrder (raises_own T.b_InvalidOrder T.t_InvalidOrder) (by rfl))))
      pss_nil)), ?_⟩
    have hq := T.q_SIDES H
    have hin : inV (V.str s) [.str "buy", .str "sell"] = true ↔ (V.str s = V.str "buy" ∨ V.str s = V.str "sell") := by
      unfold inV
      rw [List.any_cons, List.any_cons, List.any_nil, Bool.or_false, Bool.or_eq_true]
      have e : ∀ a b : Str, eqV (.str a) (.str b) = true ↔ V.str b = V.str a := fun a b => by
        show (a == b) = true ↔ _
        rw [beq_iff_eq]
        exact ⟨fun h => by rw [h], fun h => (V.str.inj h).symm⟩
      rw [e, e]
    walk_at "st"
    rw [if_pos (show true = true from rfl)]
    by_cases h : V.str s = V.str "buy" ∨ V.str s = V.str "sell"
    · rw [hin.mpr h]
      exact q h
    · rw [show inV (V.str s) [.str "buy", .str "sell"] = false from Bool.eq_false_iff.mpr fun e => h (hin.mp e)]
      exact qe h
def sp_check_number (K : PySem.W.Frag) (C : Addr) : Sp := fun vs H Q E => ∃ n a b : Int, vs = [.int n, .int a, .int b] ∧ (a ≤ n ∧ n ≤ b → Q .non H) ∧ (¬ (a ≤ n ∧ n ≤ b) → E (.ref C) none H)
set_option maxHeartbeats 0 in
theorem ok_check_number (T : Txt K mg) : FnOk P w K mg base (L2.CX P w) 3 T.f_check_number T.d_check_number ["number", "least", "most"] (sp_check_number K T.c_InvalidOrder) := by
  refine T.F_check_number.okX sc_check_number (fun vs H Q E h => ?_) (fun cdv A outer s H vs Q E hr h => ?_)
  · obtain ⟨n, a, b, rfl, _⟩ := h
    rfl
  · obtain ⟨n, a, b, rfl, q, qe⟩ := h
    have G_is_within : FnOk P w K mg base CX0 2 T.f_is_within T.d_is_within ["least", "most", "value"] (sp_is_within K) := ok_is_within T
    refine ⟨_, (pss_one (ps_if (pt_not (pt_val (pe_call G_is_within hr (by rfl) T.m_is_within T.F_is_within.kp T.b_is_within .nil pass0 (pa_cons (pv 1) (pa_cons (pv 2) (pa_cons (pv 0) pa_nil))))))
      (pss_one (ps_raise rfl (takes_of rfl rfl rfl rfl) (pmk_own PySem.F.excBase_ValueError T.x_InvalidOrder T.m_InvalidOrder T.k_InvalidOrder (raises_own T.b_InvalidOrder T.t_InvalidOrder) (by rfl))))
      pss_nil)), ?_⟩
    walk_at "st"
    by_cases h : a ≤ n ∧ n ≤ b
    · rw [decide_eq_true h]
      exact q h
    · rw [decide_eq_false h]
      exact qe h
def sp_check_price (K : PySem.W.Frag) (C : Addr) : Sp := fun vs H Q E => ∃ n : Int, vs = [.int n] ∧ (1 ≤ n ∧ n ≤ 1000000 → Q .non H) ∧ (¬ (1 ≤ n ∧ n ≤ 1000000) → E (.ref C) none H)
set_option maxHeartbeats 0 in
theorem ok_check_price (T : Txt K mg) : FnOk P w K mg base (L2.CX P w) 4 T.f_check_price T.d_check_price ["price"] (sp_check_price K T.c_InvalidOrder) := by
  refine T.F_check_price.okX sc_check_price (fun vs H Q E h => ?_) (fun cdv A outer s H vs Q E hr h => ?_)
  · obtain ⟨n, rfl, _⟩ := h
    rfl
  · obtain ⟨n, rfl, q, qe⟩ := h
    have G_check_number : FnOk P w K mg base (L2.CX P w) 3 T.f_check_number T.d_check_number ["number", "least", "most"] (sp_check_number K T.c_InvalidOrder) := ok_check_number T
    refine ⟨_, (pss_one (ps_expr (pe_callS G_check_number hr (by rfl) T.m_check_number T.F_check_number.kp T.b_check_number (fun σ => passAt (takes_of rfl rfl rfl rfl) σ) (pa_cons (pv 0) (pa_cons pe_int (pa_cons (pe_glob (v := .int 1000000) rfl T.m_MOST ⟨_, rfl⟩) pa_nil)))))), ?_⟩
    walk_at "st"
    exact fun h => qe h
def sp_check_quantity (K : PySem.W.Frag) (C : Addr) : Sp := fun vs H Q E => ∃ n : Int, vs = [.int n] ∧ (1 ≤ n ∧ n ≤ 1000000 → Q .non H) ∧ (¬ (1 ≤ n ∧ n ≤ 1000000) → E (.ref C) none H)
set_option maxHeartbeats 0 in
theorem ok_check_quantity (T : Txt K mg) : FnOk P w K mg base (L2.CX P w) 4 T.f_check_quantity T.d_check_quantity ["quantity"] (sp_check_quantity K T.c_InvalidOrder) := by
  refine T.F_check_quantity.okX sc_check_quantity (fun vs H Q E h => ?_) (fun cdv A outer s H vs Q E hr h => ?_)
  · obtain ⟨n, rfl, _⟩ := h
    rfl
  · obtain ⟨n, rfl, q, qe⟩ := h
    have G_check_number : FnOk P w K mg base (L2.CX P w) 3 T.f_check_number T.d_check_number ["number", "least", "most"] (sp_check_number K T.c_InvalidOrder) := ok_check_number T
    refine ⟨_, (pss_one (ps_expr (pe_callS G_check_number hr (by rfl) T.m_check_number T.F_check_number.kp T.b_check_number (fun σ => passAt (takes_of rfl rfl rfl rfl) σ) (pa_cons (pv 0) (pa_cons pe_int (pa_cons (pe_glob (v := .int 1000000) rfl T.m_MOST ⟨_, rfl⟩) pa_nil)))))), ?_⟩
    walk_at "st"
    exact fun h => qe h
def sp_check_order (K : PySem.W.Frag) (C : Addr) : Sp := fun vs H Q E => ∃ (ho si : Str) (pr : Option Int) (qu : Int) (kd : Str) (sh : Int), vs = [.str ho, .str si, optV pr, .int qu, .str kd, .int sh] ∧ (GoodOrd ho si pr qu kd sh → Q .non H) ∧ (¬ GoodOrd ho si pr qu kd sh → E (.ref C) none H)
set_option maxHeartbeats 0 in
theorem ok_check_order (T : Txt K mg) : FnOk P w K mg base (L2.CX P w) 5 T.f_check_order T.d_check_order ["house", "side", "price", "quantity", "kind", "shown"] (sp_check_order K T.c_InvalidOrder) := by
  refine T.F_check_order.okX sc_check_order (fun vs H Q E h => ?_) (fun cdv A outer s H vs Q E hr h => ?_)
  · obtain ⟨ho, si, pr, qu, kd, sh, rfl, _⟩ := h
    rfl
  · obtain ⟨ho, si, pr, qu, kd, sh, rfl, q, qe⟩ := h
    have G_check_house : FnOk P w K mg base (L2.CX P w) 1 T.f_check_house T.d_check_house ["house"] (sp_check_house K T.c_InvalidOrder) := ok_check_house T
    have G_check_side : FnOk P w K mg base (L2.CX P w) 1 T.f_check_side T.d_check_side ["side"] (sp_check_side K T.c_InvalidOrder) := ok_check_side T
    have G_check_quantity : FnOk P w K mg base (L2.CX P w) 4 T.f_check_quantity T.d_check_quantity ["quantity"] (sp_check_quantity K T.c_InvalidOrder) := ok_check_quantity T
    have G_check_number : FnOk P w K mg base (L2.CX P w) 3 T.f_check_number T.d_check_number ["number", "least", "most"] (sp_check_number K T.c_InvalidOrder) := ok_check_number T
    have G_check_price : FnOk P w K mg base (L2.CX P w) 4 T.f_check_price T.d_check_price ["price"] (sp_check_price K T.c_InvalidOrder) := ok_check_price T
    refine ⟨_, (pss_cons (ps_expr (pe_callS G_check_house (hr.mono (by decide)) (by rfl) T.m_check_house T.F_check_house.kp T.b_check_house (fun σ => passAt (takes_of rfl rfl rfl rfl) σ) (pa_cons (pv 0) pa_nil)))
    (pss_cons (ps_expr (pe_callS G_check_side (hr.mono (by decide)) (by rfl) T.m_check_side T.F_check_side.kp T.b_check_side (fun σ => passAt (takes_of rfl rfl rfl rfl) σ) (pa_cons (pv 1) pa_nil)))
    (pss_cons (ps_if (pt_cmpR op_notIn_seq (pv 4) (pe_glob (v := .ref T.c_KINDS) rfl T.m_KINDS rfl) rfl)
      (pss_one (ps_raise rfl (takes_of rfl rfl rfl rfl) (pmk_own PySem.F.excBase_ValueError T.x_InvalidOrder T.m_InvalidOrder T.k_InvalidOrder (raises_own T.b_InvalidOrder T.t_InvalidOrder) (by rfl))))
      pss_nil)
    (pss_cons (ps_if (pt_cmpR op_notN (pv 2) pe_non (nomark _))
      (pss_one (ps_expr (pe_callS G_check_price hr (by rfl) T.m_check_price T.F_check_price.kp T.b_check_price (fun σ => passAt (takes_of rfl rfl rfl rfl) σ) (pa_cons (pv 2) pa_nil))))
      (pss_one (ps_if (pt_cmpR op_eq (pv 4) pe_str (nomark _))
        (pss_one (ps_raise rfl (takes_of rfl rfl rfl rfl) (pmk_own PySem.F.excBase_ValueError T.x_InvalidOrder T.m_InvalidOrder T.k_InvalidOrder (raises_own T.b_InvalidOrder T.t_InvalidOrder) (by rfl))))
        pss_nil)))
    (pss_cons (ps_expr (pe_callS G_check_quantity hr (by rfl) T.m_check_quantity T.F_check_quantity.kp T.b_check_quantity (fun σ => passAt (takes_of rfl rfl rfl rfl) σ) (pa_cons (pv 3) pa_nil)))
    (pss_cons (ps_expr (pe_callS G_check_number (hr.mono (by decide)) (by rfl) T.m_check_number T.F_check_number.kp T.b_check_number (fun σ => passAt (takes_of rfl rfl rfl rfl) σ) (pa_cons (pv 5) (pa_cons pe_int (pa_cons (pv 3) pa_nil)))))
    (pss_one (ps_if (PW.pt (pw_and (pt_cmpR op_gt (pv 5) pe_int (nomark _)) (pw_and1 (pt_cmpR op_ne (pv 4) pe_str (nomark _)))))
      (pss_one (ps_raise rfl (takes_of rfl rfl rfl rfl) (pmk_own PySem.F.excBase_ValueError T.x_InvalidOrder T.m_InvalidOrder T.k_InvalidOrder (raises_own T.b_InvalidOrder T.t_InvalidOrder) (by rfl))))
      pss_nil)))))))), ?_⟩
    have hq := T.q_KINDS H
    have hin : inV (V.str kd) [.str "rest", .str "now", .str "all"] = true ↔ (V.str kd = V.str "rest" ∨ V.str kd = V.str "now" ∨ V.str kd = V.str "all") := by
      unfold inV
      rw [List.any_cons, List.any_cons, List.any_cons, List.any_nil, Bool.or_false, Bool.or_eq_true, Bool.or_eq_true]
      have e : ∀ a b : Str, eqV (.str a) (.str b) = true ↔ V.str b = V.str a := fun a b => by
        show (a == b) = true ↔ _
        rw [beq_iff_eq]
        exact ⟨fun h => by rw [h], fun h => (V.str.inj h).symm⟩
      rw [e, e, e]
    walk_at "st"
    refine ⟨fun h1 => ?_, fun h1 => qe fun g => g.h1 h1⟩
    walk_at "st"
    refine ⟨fun h2 => ?_, fun h2 => qe fun g => h2 g.h2⟩
    walk_at "st"
    rw [if_pos (show true = true from rfl)]
    by_cases h3 : V.str kd = V.str "rest" ∨ V.str kd = V.str "now" ∨ V.str kd = V.str "all"
    · rw [hin.mpr h3]
      cases pr with
      | none =>
        walk_at "st"
        refine iteD (fun h5 => qe fun g => g.h5 rfl h5) (fun h5 => ?_)
        walk_at "st"
        refine ⟨fun h6 => ?_, fun h6 => qe fun g => h6 g.h6⟩
        walk_at "st"
        refine ⟨fun h7 => ?_, fun h7 => qe fun g => h7 g.h7⟩
        walk_at "st"
        refine iteD (fun h8 => ?_) (fun h8 => ?_)
        · walk_at "st"
          refine iteDN (fun h9 => qe fun g => h9 (g.h8 h8)) (fun h9 => ?_)
          exact q ⟨h1, h2, h3, (fun p e => by cases e), fun _ => h5, h6, h7, fun _ => h9⟩
        · exact q ⟨h1, h2, h3, (fun p e => by cases e), fun _ => h5, h6, h7, fun z => absurd z h8⟩
      | some p =>
        walk_at "st"
        refine ⟨fun h4 => ?_, fun h4 => qe fun g => h4 (g.h4 p rfl)⟩
        walk_at "st"
        refine ⟨fun h6 => ?_, fun h6 => qe fun g => h6 g.h6⟩
        walk_at "st"
        refine ⟨fun h7 => ?_, fun h7 => qe fun g => h7 g.h7⟩
        walk_at "st"
        refine iteD (fun h8 => ?_) (fun h8 => ?_)
        · walk_at "st"
          refine iteDN (fun h9 => qe fun g => h9 (g.h8 h8)) (fun h9 => ?_)
          exact q ⟨h1, h2, h3, (fun y e => by obtain rfl := Option.some.inj e; exact h4), (fun e => by cases e), h6, h7, fun _ => h9⟩
        · exact q ⟨h1, h2, h3, (fun y e => by obtain rfl := Option.some.inj e; exact h4), (fun e => by cases e), h6, h7, fun z => absurd z h8⟩
    · rw [show inV (V.str kd) [.str "rest", .str "now", .str "all"] = false from Bool.eq_false_iff.mpr fun e => h3 (hin.mp e)]
      exact qe fun g => h3 g.h3

/-! ### the commands of a book with waiting stops -/
def nxtS (s : BS) : BS := { s with next := s.next + 1 }
theorem BookW.setX {C : BC} {H : Hp} {a : BA} {s : BS} (B : BookW C H a s) (last : Option Int) (next : Int) : BookW C (upd H a.x (bookO C.CK a.dx last next a.sd a.st)) a { s with last := last, next := next } := by
  have hb := B.ob
  have ne : ∀ {z v}, H z = some v → (∀ C dx fs, v = .ins C dx fs → fs.length ≠ 4) → z ≠ a.x := fun {z v} h hv e => by
    rw [e, hb] at h
    cases h
    exact hv _ _ _ rfl rfl
  have nl : ∀ {z xs}, H z = some (.lst xs) → z ≠ a.x := fun h => ne h fun C dx fs e => by cases e
  have no : ∀ {z dx} {t : Ord}, H z = some (ordO C.CO dx t) → z ≠ a.x := fun h => ne h fun C dx fs e => by unfold ordO at e; cases e; exact (show (7 : Nat) ≠ 4 by decide)
  have nb : ∀ {z dx l}, H z = some (.ins C.CB dx [("_orders", .ref l)]) → z ≠ a.x := fun h => ne h fun C dx fs e => by cases e; exact (show (1 : Nat) ≠ 4 by decide)
  refine ⟨upd_same, (upd_ne (ne B.sd fun C dx fs e => by unfold sidesO at e; cases e)).trans B.sd, ⟨(upd_ne (nl B.sp.li)).trans B.sp.li, fun e he => (upd_ne (ne (B.sp.en e he) fun C dx fs e => by unfold stopO at e; cases e; exact (show (6 : Nat) ≠ 4 by decide))).trans (B.sp.en e he), B.sp.nd, B.sp.sm⟩,
    B.s1.upd (nb B.s1.ob) (nl B.s1.li) (fun e he => no (B.s1.en e he)), B.s2.upd (nb B.s2.ob) (nl B.s2.li) (fun e he => no (B.s2.en e he)), B.r1, B.r2, B.dj, B.nll, B.n1, B.n2, B.gs, B.sz⟩
theorem StepW.setX {a : BA} {s : BS} {H : Hp} {last : Option Int} {next : Int} {v : HO} : StepW a s { s with last := last, next := next } H (upd H a.x v) :=
  ⟨fun z w hz h => (upd_ne fun e => hz (foot_iff.mpr (.inl e))).trans h, fun z hz => .inl hz⟩
theorem RepAt.more {CR : Addr} {H : Hp} {F : List Addr} {p r : Addr} {t : RepT} (R : RepAt CR H F r t) (hp : H p = none) : RepAt CR H (p :: F) r t := by
  obtain ⟨dr, fl, rm, fs, h1, h2, h3, h4, h5⟩ := R
  refine ⟨dr, fl, rm, fs, h1, h2, h3, fun m => ?_, fun m => ?_⟩
  · rcases List.mem_cons.mp m with k | k
    · rw [← k, h2.lst] at hp; cases hp
    · exact h4 k
  · rcases List.mem_cons.mp m with k | k
    · rw [← k, h3] at hp; cases hp
    · exact h5 k
theorem RepAt.less {CR : Addr} {H : Hp} {F : List Addr} {p r : Addr} {t : RepT} (R : RepAt CR H (p :: F) r t) : RepAt CR H F r t := R.mono fun z hz => .inl (List.mem_cons_of_mem _ hz)
/-- the first report ahead of the others, in a new list -/
theorem reps_cons {CR : Addr} {H : Hp} {F : List Addr} {p r : Addr} {rs : List Addr} {reps : List RepT} {t : RepT} (hp : H p = none) (hpF : p ∉ F) (hr : RepAt CR H F r t) (hl : rs.length = reps.length) (hs : ∀ (i : Nat) (q : Addr) (y : RepT), rs[i]? = some q → reps[i]? = some y → RepAt CR H F q y) :
    RepsAt CR (upd H p (.lst ([.ref r] ++ rs.map V.ref))) F p (t :: reps) := by
  refine ⟨r :: rs, upd_same, hpF, by rw [List.length_cons, List.length_cons, hl], fun i q y hq hy => ?_⟩
  cases i with
  | zero =>
    rw [List.getElem?_cons_zero] at hq hy
    cases hq
    cases hy
    exact (hr.more hp).same (same_upd hp)
  | succ i =>
    rw [List.getElem?_cons_succ] at hq hy
    exact ((hs i q y hq hy).more hp).same (same_upd hp)
theorem trigS_len {s s' : BS} {reps : List RepT} (h : TrigS s s' reps) : reps.length + s'.ss.length ≤ s.ss.length := by
  induction h with
  | nil => exact Nat.le_of_eq (Nat.zero_add _)
  | snoc o dxo h hf ih =>
    have h1 := dropS_len (firstS_mem hf).1
    rw [List.length_append, List.length_singleton]
    show _ + 1 + (dropS _ _).length ≤ _
    omega
def newO (s : BS) (ho si : Str) (pr : Option Int) (qu sh : Int) : Ord := ⟨s.next, ho, si, pr, sh, qu, 0⟩
def sp_Book_submit (K : PySem.W.Frag) (CI CO CB CK CS CR : Addr) : Sp := fun vs H Q E => ∃ (_ : Unit) (a : BA) (s : BS) (X : List Addr) (ho si : Str) (pr : Option Int) (qu : Int) (kd : Str) (sh : Int), vs = [.ref a.x, .str ho, .str si, optV pr, .int qu, .str kd, .int sh] ∧ BookW ⟨CO, CB, CK, CS, CR⟩ H a s ∧ Others H a s X ∧ s.es1.length + s.es2.length + s.ss.length ≤ 899 ∧
  (GoodOrd ho si pr qu kd sh → ∀ s' reps p o dxo H', TrigS (enterB (nxtS s) o dxo (newO s ho si pr qu sh) kd).1 s' reps → firstS s'.last s'.ss = none → BookW ⟨CO, CB, CK, CS, CR⟩ H' a s' → StepW a s s' H H' → RepsAt CR H' (X ++ foot a s') p ((enterB (nxtS s) o dxo (newO s ho si pr qu sh) kd).2 :: reps) → Q (.ref p) H') ∧
  (¬ GoodOrd ho si pr qu kd sh → E (.ref CI) none H)
set_option maxHeartbeats 0 in
theorem ok_Book_submit (T : Txt K mg) : FnOk P w K mg base (L2.CX P w) 8 T.f_Book_submit T.d_Book_submit ["self", "house", "side", "price", "quantity", "kind", "shown"] (sp_Book_submit K T.c_InvalidOrder T.c_Order T.c_BookSide T.c_Book T.c_Stop T.c_Report) := by
  refine T.F_Book_submit.ok sc_Book_submit (fun vs H Q E h => ?_) (fun cdv A outer s H vs Q E hr h => ?_)
  · obtain ⟨_, a, s, X, ho, si, pr, qu, kd, sh, rfl, _⟩ := h
    rfl
  · obtain ⟨_, a, s, X, ho, si, pr, qu, kd, sh, rfl, B, hX, hsz, q, qe⟩ := h
    have G_check_order : FnOk P w K mg base (L2.CX P w) 5 T.f_check_order T.d_check_order ["house", "side", "price", "quantity", "kind", "shown"] (sp_check_order K T.c_InvalidOrder) := ok_check_order T
    have G_Order_init : FnOk P w K mg base CX0 1 T.f_Order_init T.d_Order_init ["self", "number", "house", "side", "price", "quantity", "shown"] (sp_Order_init K T.c_Order) := ok_Order_init T
    have G_Bookenter : FnOk P w K mg base CX0 6 T.f_Bookenter T.d_Bookenter ["self", "order", "kind"] (sp_Bookenter K T.c_Order T.c_BookSide T.c_Book T.c_Report) := ok_Bookenter T
    have G_Booktake_number : FnOk P w K mg base CX0 1 T.f_Booktake_number T.d_Booktake_number ["self"] (sp_Booktake_number K T.c_Order T.c_BookSide T.c_Book) := ok_Booktake_number T
    have G_Booktrigger_stops : FnOk P w K mg base CX0 7 T.f_Booktrigger_stops T.d_Booktrigger_stops ["self"] (sp_Booktrigger_stops K T.c_Order T.c_BookSide T.c_Book T.c_Stop T.c_Report) := ok_Booktrigger_stops T
    refine ⟨_, (pss_cons (ps_expr (pe_callS G_check_order (hr.mono (by decide)) (by rfl) T.m_check_order T.F_check_order.kp T.b_check_order (fun σ => passAt (takes_of rfl rfl rfl rfl) σ) (pa_cons (pv 1) (pa_cons (pv 2) (pa_cons (pv 3) (pa_cons (pv 4) (pa_cons (pv 5) (pa_cons (pv 6) pa_nil))))))))
    (pss_cons (ps_set (i := 7) sc_Book_submit.nd rfl (Or.inl rfl) (pe_make T.mk_Order G_Order_init (hr.mono (by decide)) (by rfl) T.m_Order T.b_Order_init .nil pass0 (pa_cons (pe_meth0 (pv 0) T.cl_Book T.mt_Booktake_number G_Booktake_number (hr.mono (by decide)) T.b_Booktake_number .nil pass0) (pa_cons (pv 1) (pa_cons (pv 2) (pa_cons (pv 3) (pa_cons (pv 4) (pa_cons (pv 6) pa_nil))))))))
    (pss_cons (ps_set (i := 8) sc_Book_submit.nd rfl (Or.inl rfl) (pe_meth (pv 0) T.cl_Book T.mt_Bookenter G_Bookenter (hr.mono (by decide)) T.b_Bookenter .nil pass0 (pa_cons (pv 7) (pa_cons (pv 5) pa_nil))))
    (pss_one (ps_ret (pe_op op_cat (pe_lst (pa_cons (pv 8) pa_nil)) (pe_meth0 (pv 0) T.cl_Book T.mt_Booktrigger_stops G_Booktrigger_stops hr T.b_Booktrigger_stops .nil pass0))))))), ?_⟩
    have fact_BookSide_0 := T.cl_BookSide; have fact_BookSide_1 := T.na_BookSide__orders; have fact_Book_0 := T.cl_Book; have fact_Book_1 := T.na_Book_last; have fact_Book_2 := T.na_Book__next_number; have fact_Book_3 := T.na_Book__sides; have fact_Book_4 := T.na_Book__stops; have fact_Order_0 := T.cl_Order; have fact_Order_1 := T.na_Order_number; have fact_Order_2 := T.na_Order_house; have fact_Order_3 := T.na_Order_side; have fact_Order_4 := T.na_Order_price; have fact_Order_5 := T.na_Order_shown; have fact_Order_6 := T.na_Order_left; have fact_Order_7 := T.na_Order_visible; have fact_Report_0 := T.cl_Report; have fact_Report_1 := T.na_Report_number; have fact_Report_2 := T.na_Report_house; have fact_Report_3 := T.na_Report_side; have fact_Report_4 := T.na_Report_fills; have fact_Report_5 := T.na_Report_removed; have fact_Report_6 := T.na_Report_resting
    have hob := B.ob
    have hob2 := hob
    unfold bookO at hob2
    walk_at "st"
    refine ⟨pr, qu, kd, sh, rfl, fun G => ?_, fun h => qe h⟩
    walk_at "st"
    refine ⟨s.last, s.next, rfl, hob, ?_⟩
    have B1 := B.setX s.last (s.next + 1)
    have S1 : StepW a s (nxtS s) H (upd H a.x (bookO T.c_Book a.dx s.last (s.next + 1) a.sd a.st)) := StepW.setX
    generalize upd H a.x _ = H1 at *
    have B1 : BookW ⟨T.c_Order, T.c_BookSide, T.c_Book, T.c_Stop, T.c_Report⟩ H1 a (nxtS s) := B1
    have hob3 := B1.ob
    walk_at "st"
    intro o dxo no ndo hne
    have no' : upd H1 dxo (.own o) o = none := by
      first
        | (rw [upd_ne hne]; exact no)
        | (rw [upd_ne (Ne.symm hne)]; exact no)
    refine ⟨o, dxo, s.next, ho, si, pr, qu, sh, rfl, upd_same, ?_⟩
    rw [upd_upd]
    refine ⟨rfl, ?_⟩
    have so2 : ∀ v, Same H1 (upd (upd H1 dxo (.own o)) o v) := fun v => (same_upd ndo).trans (same_upd no')
    generalize hH2 : upd (upd H1 dxo _) o _ = H2
    have s2 : Same H1 H2 := hH2 ▸ so2 _
    have hoo : H2 o = some (ordO T.c_Order dxo (newO s ho si pr qu sh)) := (congrFun hH2 o).symm.trans upd_same
    have B2 := B1.same s2
    have hob4 := s2 _ _ hob3
    unfold bookO at hob4
    have hkp : V.str kd = V.str "rest" → ∃ p, pr = some p := fun z => by
      cases pr with
      | none => exact absurd z (G.h5 rfl)
      | some p => exact ⟨p, rfl⟩
    walk_at "st"
    delta tNil
    refine enter_w (K := K) (E := E0) (C := ⟨T.c_Order, T.c_BookSide, T.c_Book, T.c_Stop, T.c_Report⟩) (a := a) (s := nxtS s) (dxo := dxo) (t := newO s ho si pr qu sh) (kd := kd) B2 (G.h2.imp V.str.inj V.str.inj) hoo (B1.fresh no) G.h6.1 G.h6.2 G.h7.1 hkp hsz ?_
    intro r H3 nr hR B3 fr3 nw3
    have p23 : StepW a (nxtS s) (enterB (nxtS s) o dxo (newO s ho si pr qu sh) kd).1 H1 H3 := by
      refine ⟨fun z v hz h => fr3 z v hz (fun q => by rw [q, no] at h; cases h) (s2 _ _ h), fun z hz => ?_⟩
      rcases nw3 z hz with k | k
      · exact .inl k
      · exact .inr (by rw [k]; exact no)
    have hR3 := hR (X ++ foot a (enterB (nxtS s) o dxo (newO s ho si pr qu sh) kd).1) fun z hz => by
      rcases List.mem_append.mp hz with k | k
      · obtain ⟨v, hv⟩ := ((hX.step S1) z k).2
        exact .inr ⟨v, s2 _ _ hv⟩
      · exact .inl k
    have hob5 := B3.ob
    unfold bookO at hob5
    walk_at "st"
    intro p1 np1
    generalize hH4 : upd H3 p1 _ = H4
    have s4 : Same H3 H4 := hH4 ▸ same_upd np1
    have hp1 := (congrFun hH4 p1).symm.trans upd_same
    have B4 := B3.same s4
    have fp1 := B3.fresh np1
    have hob6 := B4.ob
    unfold bookO at hob6
    walk_at "st"
    refine ⟨(), a, _, X, rfl, B4, hX.step ((S1.trans p23).post s4), fun s' reps D H5 hT hf B5 S5 nD hReps => ?_⟩
    obtain ⟨rs, hD5, fD5, hlr, hreps⟩ := hReps
    have hp5 := S5.fr _ _ fp1 hp1
    have hlen : rs.length ≤ 900 := by
      have h1 := trigS_len hT
      have h2 := B4.sp.sm
      omega
    refine ⟨p1, D, [.ref r], rs.map V.ref, rfl, rfl, hp5, hD5, Nat.le_of_lt (small1000 (by show 1 + _ ≤ 1000; rw [List.length_map]; omega)), fun p np => ?_⟩
    · have S05 := ((S1.trans p23).post s4).trans S5
      refine q G s' reps p o dxo _ hT hf (B5.same (same_upd np)) (S05.post (same_upd np)) ?_
      exact reps_cons np ((hX.step S05).new np (B5.fresh np)) ((hR3.same s4).stepY (C := ⟨T.c_Order, T.c_BookSide, T.c_Book, T.c_Stop, T.c_Report⟩) B4 S5) hlr fun i q y h1 h2 => (hreps i q y h1 h2).less
/-- what makes a stop order -/
structure GoodStp (ho si : Str) (tr : Int) (pr : Option Int) (qu : Int) : Prop where
  h1 : ¬ V.str ho = V.str ""
  h2 : V.str si = V.str "buy" ∨ V.str si = V.str "sell"
  h3 : 1 ≤ tr ∧ tr ≤ 1000000
  h4 : ∀ p, pr = some p → 1 ≤ p ∧ p ≤ 1000000
  h6 : 1 ≤ qu ∧ qu ≤ 1000000
def sp_check_stop (K : PySem.W.Frag) (C : Addr) : Sp := fun vs H Q E => ∃ (ho si : Str) (tr : Int) (pr : Option Int) (qu : Int), vs = [.str ho, .str si, .int tr, optV pr, .int qu] ∧ (GoodStp ho si tr pr qu → Q .non H) ∧ (¬ GoodStp ho si tr pr qu → E (.ref C) none H)
set_option maxHeartbeats 0 in
theorem ok_check_stop (T : Txt K mg) : FnOk P w K mg base (L2.CX P w) 5 T.f_check_stop T.d_check_stop ["house", "side", "trigger", "price", "quantity"] (sp_check_stop K T.c_InvalidOrder) := by
  refine T.F_check_stop.okX sc_check_stop (fun vs H Q E h => ?_) (fun cdv A outer s H vs Q E hr h => ?_)
  · obtain ⟨ho, si, tr, pr, qu, rfl, _⟩ := h
    rfl
  · obtain ⟨ho, si, tr, pr, qu, rfl, q, qe⟩ := h
    have G_check_house : FnOk P w K mg base (L2.CX P w) 1 T.f_check_house T.d_check_house ["house"] (sp_check_house K T.c_InvalidOrder) := ok_check_house T
    have G_check_side : FnOk P w K mg base (L2.CX P w) 1 T.f_check_side T.d_check_side ["side"] (sp_check_side K T.c_InvalidOrder) := ok_check_side T
    have G_check_price : FnOk P w K mg base (L2.CX P w) 4 T.f_check_price T.d_check_price ["price"] (sp_check_price K T.c_InvalidOrder) := ok_check_price T
    have G_check_quantity : FnOk P w K mg base (L2.CX P w) 4 T.f_check_quantity T.d_check_quantity ["quantity"] (sp_check_quantity K T.c_InvalidOrder) := ok_check_quantity T
    refine ⟨_, (pss_cons (ps_expr (pe_callS G_check_house (hr.mono (by decide)) (by rfl) T.m_check_house T.F_check_house.kp T.b_check_house (fun σ => passAt (takes_of rfl rfl rfl rfl) σ) (pa_cons (pv 0) pa_nil)))
    (pss_cons (ps_expr (pe_callS G_check_side (hr.mono (by decide)) (by rfl) T.m_check_side T.F_check_side.kp T.b_check_side (fun σ => passAt (takes_of rfl rfl rfl rfl) σ) (pa_cons (pv 1) pa_nil)))
    (pss_cons (ps_expr (pe_callS G_check_price hr (by rfl) T.m_check_price T.F_check_price.kp T.b_check_price (fun σ => passAt (takes_of rfl rfl rfl rfl) σ) (pa_cons (pv 2) pa_nil)))
    (pss_cons (ps_if (pt_cmpR op_notN (pv 3) pe_non (nomark _))
      (pss_one (ps_expr (pe_callS G_check_price hr (by rfl) T.m_check_price T.F_check_price.kp T.b_check_price (fun σ => passAt (takes_of rfl rfl rfl rfl) σ) (pa_cons (pv 3) pa_nil))))
      pss_nil)
    (pss_one (ps_expr (pe_callS G_check_quantity hr (by rfl) T.m_check_quantity T.F_check_quantity.kp T.b_check_quantity (fun σ => passAt (takes_of rfl rfl rfl rfl) σ) (pa_cons (pv 4) pa_nil)))))))), ?_⟩
    walk_at "st"
    refine ⟨fun h1 => ?_, fun h1 => qe fun G => G.h1 h1⟩
    walk_at "st"
    refine ⟨fun h2 => ?_, fun h2 => qe fun G => h2 G.h2⟩
    walk_at "st"
    refine ⟨fun h3 => ?_, fun h3 => qe fun G => h3 G.h3⟩
    cases pr with
    | none =>
      walk_at "st"
      refine ⟨fun h6 => ?_, fun h6 => qe fun G => h6 G.h6⟩
      exact q ⟨h1, h2, h3, (fun p hp => by cases hp), h6⟩
    | some p =>
      walk_at "st"
      refine ⟨fun h4 => ?_, fun h4 => qe fun G => h4 (G.h4 p rfl)⟩
      walk_at "st"
      refine ⟨fun h6 => ?_, fun h6 => qe fun G => h6 G.h6⟩
      exact q ⟨h1, h2, h3, (fun p' hp => by cases hp; exact h4), h6⟩
def newS (s : BS) (q dq : Addr) (ho si : Str) (tr : Int) (pr : Option Int) (qu : Int) : BS := { nxtS s with ss := s.ss ++ [(q, dq, ⟨s.next, ho, si, tr, pr, qu⟩)] }
def sp_Book_submit_stop (K : PySem.W.Frag) (CI CO CB CK CS CR : Addr) : Sp := fun vs H Q E => ∃ (_ : Unit) (a : BA) (s : BS) (X : List Addr) (ho si : Str) (tr : Int) (pr : Option Int) (qu : Int), vs = [.ref a.x, .str ho, .str si, .int tr, optV pr, .int qu] ∧ BookW ⟨CO, CB, CK, CS, CR⟩ H a s ∧ Others H a s X ∧ s.es1.length + s.es2.length + s.ss.length ≤ 899 ∧
  (GoodStp ho si tr pr qu → ∀ s' reps p y dy H', ((newS s y dy ho si tr pr qu).ss.map (·.1)).Nodup → TrigS (newS s y dy ho si tr pr qu) s' reps → firstS s'.last s'.ss = none → BookW ⟨CO, CB, CK, CS, CR⟩ H' a s' → StepW a s s' H H' → RepsAt CR H' (X ++ foot a s') p (⟨s.next, ho, si, [], [], 0⟩ :: reps) → Q (.ref p) H') ∧
  (¬ GoodStp ho si tr pr qu → E (.ref CI) none H)
set_option maxHeartbeats 0 in
theorem ok_Book_submit_stop (T : Txt K mg) : FnOk P w K mg base (L2.CX P w) 8 T.f_Book_submit_stop T.d_Book_submit_stop ["self", "house", "side", "trigger", "price", "quantity"] (sp_Book_submit_stop K T.c_InvalidOrder T.c_Order T.c_BookSide T.c_Book T.c_Stop T.c_Report) := by
  refine T.F_Book_submit_stop.okX sc_Book_submit_stop (fun vs H Q E h => ?_) (fun cdv A outer s H vs Q E hr h => ?_)
  · obtain ⟨_, a, s, X, ho, si, tr, pr, qu, rfl, _⟩ := h
    rfl
  · obtain ⟨_, a, s, X, ho, si, tr, pr, qu, rfl, B, hX, hsz, q, qe⟩ := h
    have G_check_stop : FnOk P w K mg base (L2.CX P w) 5 T.f_check_stop T.d_check_stop ["house", "side", "trigger", "price", "quantity"] (sp_check_stop K T.c_InvalidOrder) := ok_check_stop T
    have G_Stop_init : FnOk P w K mg base CX0 1 T.f_Stop_init T.d_Stop_init ["self", "number", "house", "side", "trigger", "price", "quantity"] (sp_Stop_init K T.c_Stop) := ok_Stop_init T
    have G_Booktake_number : FnOk P w K mg base CX0 1 T.f_Booktake_number T.d_Booktake_number ["self"] (sp_Booktake_number K T.c_Order T.c_BookSide T.c_Book) := ok_Booktake_number T
    have G_Booktrigger_stops : FnOk P w K mg base CX0 7 T.f_Booktrigger_stops T.d_Booktrigger_stops ["self"] (sp_Booktrigger_stops K T.c_Order T.c_BookSide T.c_Book T.c_Stop T.c_Report) := ok_Booktrigger_stops T
    have G_Report_init : FnOk P w K mg base CX0 1 T.f_Report_init T.d_Report_init ["self", "number", "house", "side"] (sp_Report_init K T.c_Report) := ok_Report_init T
    refine ⟨_, (pss_cons (ps_expr (pe_callS G_check_stop (hr.mono (by decide)) (by rfl) T.m_check_stop T.F_check_stop.kp T.b_check_stop (fun σ => passAt (takes_of rfl rfl rfl rfl) σ) (pa_cons (pv 1) (pa_cons (pv 2) (pa_cons (pv 3) (pa_cons (pv 4) (pa_cons (pv 5) pa_nil)))))))
    (pss_cons (ps_set (i := 6) sc_Book_submit_stop.nd rfl (Or.inl rfl) (pe_make T.mk_Stop G_Stop_init (hr.mono (by decide)) (by rfl) T.m_Stop T.b_Stop_init .nil pass0 (pa_cons (pe_meth0 (pv 0) T.cl_Book T.mt_Booktake_number G_Booktake_number (hr.mono (by decide)) T.b_Booktake_number .nil pass0) (pa_cons (pv 1) (pa_cons (pv 2) (pa_cons (pv 3) (pa_cons (pv 4) (pa_cons (pv 5) pa_nil))))))))
    (pss_cons (ps_expr (pe_bm PySem.F.plainAttrs_list PySem.F.slot_list_append PySem.F.type_list_append mt_append (pe_fld (pv 0) rfl) (pa_cons (pv 6) pa_nil)))
    (pss_one (ps_ret (pe_op op_cat (pe_lst (pa_cons (pe_make T.mk_Report G_Report_init (hr.mono (by decide)) (by rfl) T.m_Report T.b_Report_init .nil pass0 (pa_cons (pe_fld (pv 6) rfl) (pa_cons (pv 1) (pa_cons (pv 2) pa_nil)))) pa_nil)) (pe_meth0 (pv 0) T.cl_Book T.mt_Booktrigger_stops G_Booktrigger_stops hr T.b_Booktrigger_stops .nil pass0))))))), ?_⟩
    have fact_BookSide_0 := T.cl_BookSide; have fact_BookSide_1 := T.na_BookSide__orders; have fact_Book_0 := T.cl_Book; have fact_Book_1 := T.na_Book_last; have fact_Book_2 := T.na_Book__next_number; have fact_Book_3 := T.na_Book__sides; have fact_Book_4 := T.na_Book__stops; have fact_Order_0 := T.cl_Order; have fact_Order_1 := T.na_Order_number; have fact_Order_2 := T.na_Order_house; have fact_Order_3 := T.na_Order_side; have fact_Order_4 := T.na_Order_price; have fact_Order_5 := T.na_Order_shown; have fact_Order_6 := T.na_Order_left; have fact_Order_7 := T.na_Order_visible; have fact_Report_0 := T.cl_Report; have fact_Report_1 := T.na_Report_number; have fact_Report_2 := T.na_Report_house; have fact_Report_3 := T.na_Report_side; have fact_Report_4 := T.na_Report_fills; have fact_Report_5 := T.na_Report_removed; have fact_Report_6 := T.na_Report_resting; have fact_Stop_0 := T.cl_Stop; have fact_Stop_1 := T.na_Stop_number; have fact_Stop_2 := T.na_Stop_house; have fact_Stop_3 := T.na_Stop_side; have fact_Stop_4 := T.na_Stop_trigger; have fact_Stop_5 := T.na_Stop_price; have fact_Stop_6 := T.na_Stop_quantity
    have hob := B.ob
    have hob2 := hob
    unfold bookO at hob2
    walk_at "st"
    refine ⟨pr, qu, rfl, fun G => ?_, fun h => qe h⟩
    walk_at "st"
    refine ⟨s.last, s.next, rfl, hob, ?_⟩
    have B1 := B.setX s.last (s.next + 1)
    have S1 : StepW a s (nxtS s) H (upd H a.x (bookO T.c_Book a.dx s.last (s.next + 1) a.sd a.st)) := StepW.setX
    generalize upd H a.x _ = H1 at *
    have B1 : BookW ⟨T.c_Order, T.c_BookSide, T.c_Book, T.c_Stop, T.c_Report⟩ H1 a (nxtS s) := B1
    have hob3 := B1.ob
    walk_at "st"
    intro y dy no ndo hne
    have no' : upd H1 dy (.own y) y = none := by
      first
        | (rw [upd_ne hne]; exact no)
        | (rw [upd_ne (Ne.symm hne)]; exact no)
    refine ⟨y, dy, s.next, ho, si, tr, pr, qu, rfl, upd_same, ?_⟩
    rw [upd_upd]
    refine ⟨rfl, ?_⟩
    have so2 : ∀ v, Same H1 (upd (upd H1 dy (.own y)) y v) := fun v => (same_upd ndo).trans (same_upd no')
    generalize hH2 : upd (upd H1 dy _) y _ = H2
    have s2 : Same H1 H2 := hH2 ▸ so2 _
    have hyy : H2 y = some (stopO T.c_Stop dy ⟨s.next, ho, si, tr, pr, qu⟩) := (congrFun hH2 y).symm.trans upd_same
    have B2 := B1.same s2
    have hob4 := B2.ob
    unfold bookO at hob4
    have hst2 := B2.sp.li
    have hy2 := hyy
    unfold stopO at hy2
    have hsm : (refsS (nxtS s).ss).length < sizeLine := by
      unfold refsS
      rw [List.length_map]
      exact small1000 (by show s.ss.length ≤ 1000; omega)
    have nys : y ≠ a.st := fun z => by rw [z, hst2] at hyy; unfold stopO at hyy; cases hyy
    have hy3 : upd H2 a.st (.lst (refsS (nxtS s).ss ++ [.ref y])) y = _ := (upd_ne nys).trans hy2
    have B3 : BookW ⟨T.c_Order, T.c_BookSide, T.c_Book, T.c_Stop, T.c_Report⟩ (upd H2 a.st (.lst (refsS (newS s y dy ho si tr pr qu).ss))) a (newS s y dy ho si tr pr qu) := by
      refine B2.put (fun e he => ?_) ?_ (fun e he => ?_) ?_
      · rcases List.mem_append.mp he with h | h
        · exact B2.sp.en e h
        · rw [List.mem_singleton.mp h]
          exact hyy
      · show ((s.ss ++ [((y, dy, ⟨s.next, ho, si, tr, pr, qu⟩) : EntS)]).map (·.1)).Nodup
        rw [List.map_append]
        refine List.nodup_append.mpr ⟨B.sp.nd, List.nodup_cons.mpr ⟨List.not_mem_nil, List.nodup_nil⟩, fun u hu v hv e => ?_⟩
        rw [List.mem_singleton.mp hv] at e
        obtain ⟨z, hz, rfl⟩ := List.mem_map.mp hu
        have := B1.sp.en z hz
        rw [e, no] at this
        cases this
      · rcases List.mem_append.mp he with h | h
        · exact B.gs e h
        · rw [List.mem_singleton.mp h]
          exact ⟨G.h2.imp V.str.inj V.str.inj, G.h6⟩
      · show s.es1.length + s.es2.length + (s.ss ++ [_]).length ≤ 900
        rw [List.length_append, List.length_singleton]
        omega
    have S3 : StepW a (nxtS s) (newS s y dy ho si tr pr qu) H2 (upd H2 a.st (.lst (refsS (newS s y dy ho si tr pr qu).ss))) := StepW.put
    have eL : refsS (nxtS s).ss ++ [V.ref y] = refsS (newS s y dy ho si tr pr qu).ss := by
      show refsS s.ss ++ [V.ref y] = refsS (s.ss ++ [_])
      unfold refsS
      rw [List.map_append]
      rfl
    walk_at "st"
    rw [eL]
    generalize hH3 : upd H2 a.st (.lst (refsS (newS s y dy ho si tr pr qu).ss)) = H3 at *
    have hob5 := B3.ob
    unfold bookO at hob5
    intro r dr nr ndr hne
    have nr' : upd H3 dr (.own r) r = none := by
      first
        | (rw [upd_ne hne]; exact nr)
        | (rw [upd_ne (Ne.symm hne)]; exact nr)
    have sx : Same H3 (upd (upd H3 dr (.own r)) r (.ins T.c_Report dr [])) := (same_upd ndr).trans (same_upd nr')
    refine ⟨r, dr, s.next, ho, si, rfl, upd_same, fun fl rm H4 kx hr hfl hrm nfl nrm hfr => ?_⟩
    have e1 : Same H3 H4 := fun z v hz => kx z v (ne_of_none hz nr) (sx z v hz)
    have fresh0 : ∀ {z : Addr}, upd (upd H3 dr (.own r)) r (.ins T.c_Report dr []) z = none → H3 z = none := fun {z} hz => by
      cases hh : H3 z with
      | none => rfl
      | some v =>
        have := sx z v hh
        rw [hz] at this
        cases this
    refine ⟨rfl, ?_⟩
    have B4 := B3.same e1
    have hX3 := hX.step (S1.trans (S3.pre s2))
    have hR4 : RepAt T.c_Report H4 (X ++ foot a (newS s y dy ho si tr pr qu)) r ⟨s.next, ho, si, [], [], 0⟩ := ⟨dr, fl, rm, [], hr, Tups.nil hfl, hrm, hX3.new (fresh0 nfl) (B3.fresh (fresh0 nfl)), hX3.new (fresh0 nrm) (B3.fresh (fresh0 nrm))⟩
    have hob6 := B4.ob
    unfold bookO at hob6
    have p14 : StepW a (nxtS s) (newS s y dy ho si tr pr qu) H1 H4 := (S3.pre s2).post e1
    walk_at "st"
    intro p1 np1
    generalize hH5 : upd H4 p1 _ = H5
    have s5 : Same H4 H5 := hH5 ▸ same_upd np1
    have hp1 := (congrFun hH5 p1).symm.trans upd_same
    have B5 := B4.same s5
    have fp1 := B4.fresh np1
    have hob7 := B5.ob
    unfold bookO at hob7
    walk_at "st"
    refine ⟨(), a, _, X, rfl, B5, hX.step ((S1.trans p14).post s5), fun s' reps D H6 hT hf B6 S6 nD hReps => ?_⟩
    obtain ⟨rs, hD6, fD6, hlr, hreps⟩ := hReps
    have hp6 := S6.fr _ _ fp1 hp1
    have hlen : rs.length ≤ 900 := by
      have h1 := trigS_len hT
      have h2 := B5.sp.sm
      omega
    refine ⟨p1, D, [.ref r], rs.map V.ref, rfl, rfl, hp6, hD6, Nat.le_of_lt (small1000 (by show 1 + _ ≤ 1000; rw [List.length_map]; omega)), fun p np => ?_⟩
    have S06 := ((S1.trans p14).post s5).trans S6
    refine q G s' reps p y dy _ B3.sp.nd hT hf (B6.same (same_upd np)) (S06.post (same_upd np)) ?_
    exact reps_cons np ((hX.step S06).new np (B6.fresh np)) ((hR4.same s5).stepY (C := ⟨T.c_Order, T.c_BookSide, T.c_Book, T.c_Stop, T.c_Report⟩) B5 S6) hlr fun i q y h1 h2 => (hreps i q y h1 h2).less

/-! ### what the trigger loop keeps -/
structure PureR (s : BS) : Prop where
  r1 : Rank "buy" s.es1
  r2 : Rank "sell" s.es2
  gs : ∀ e, e ∈ s.ss → (e.2.2.side = "buy" ∨ e.2.2.side = "sell") ∧ 1 ≤ e.2.2.quantity ∧ e.2.2.quantity ≤ 1000000
theorem BookW.pure {C : BC} {H : Hp} {a : BA} {s : BS} (B : BookW C H a s) : PureR s := ⟨B.r1, B.r2, B.gs⟩
def sizeS (s : BS) : Nat := s.es1.length + s.es2.length + s.ss.length
theorem enter_pure {s : BS} {o dxo : Addr} {t : Ord} {kd : Str} (P : PureR s) (hs : t.side = "buy" ∨ t.side = "sell") (hl : 1 ≤ t.left) (h0 : 0 ≤ t.shown) (hkp : V.str kd = V.str "rest" → ∃ p, t.price = some p) :
    PureR (enterB s o dxo t kd).1 ∧ sizeS (enterB s o dxo t kd).1 ≤ sizeS s + 1 := by
  rcases hs with hs | hs
  · have hoth : othE t.side s.es1 s.es2 = s.es2 := by rw [hs]; exact if_pos buyS_buy
    have hown : ownE t.side s.es1 s.es2 = s.es1 := by rw [hs]; exact if_pos buyS_buy
    have hb : buyS t.side = true := by rw [hs]; exact buyS_buy
    have hos : otherS t.side = "sell" := by rw [hs]; exact if_pos buyS_buy
    have hrk := sub_rank (kd := kd) (t := t) (o := o) (dxo := dxo) (last := s.last) (oth := s.es2) (own := s.es1) (by rw [hos]; exact P.r2) (by rw [hs]; exact P.r1) hl h0 hkp
    have hln := sub_len (kd := kd) (t := t) (o := o) (dxo := dxo) (last := s.last) (oth := s.es2) (own := s.es1) (by rw [hos]; exact P.r2)
    obtain ⟨k1, k2, _, _⟩ := hrk
    rw [hos] at k1
    rw [hs] at k2
    unfold enterB sizeS
    simp only [hoth, hown, if_pos hb]
    exact ⟨⟨k2, k1, P.gs⟩, by omega⟩
  · have hb : ¬ buyS t.side = true := by rw [hs, buyS_sell]; exact Bool.false_ne_true
    have hoth : othE t.side s.es1 s.es2 = s.es1 := if_neg hb
    have hown : ownE t.side s.es1 s.es2 = s.es2 := if_neg hb
    have hos : otherS t.side = "buy" := if_neg hb
    have hrk := sub_rank (kd := kd) (t := t) (o := o) (dxo := dxo) (last := s.last) (oth := s.es1) (own := s.es2) (by rw [hos]; exact P.r1) (by rw [hs]; exact P.r2) hl h0 hkp
    have hln := sub_len (kd := kd) (t := t) (o := o) (dxo := dxo) (last := s.last) (oth := s.es1) (own := s.es2) (by rw [hos]; exact P.r1)
    obtain ⟨k1, k2, _, _⟩ := hrk
    rw [hos] at k1
    rw [hs] at k2
    unfold enterB sizeS
    simp only [hoth, hown, if_neg hb]
    exact ⟨⟨k1, k2, P.gs⟩, by omega⟩
theorem kdS_price {e : Stp} (h : V.str (kdS e) = V.str "rest") : ∃ p, e.price = some p := by
  unfold kdS at h
  split at h
  · exact absurd h (by decide +kernel)
  · next p hp => exact ⟨p, hp⟩
theorem off_pure {s : BS} {z : Addr} (P : PureR s) : PureR (offS s z) := ⟨P.r1, P.r2, fun e he => P.gs e (dropS_mem he)⟩
theorem trig_pure {s s' : BS} {reps : List RepT} (h : TrigS s s' reps) : PureR s → PureR s' ∧ sizeS s' ≤ sizeS s ∧ s'.next = s.next := by
  induction h with
  | nil => exact fun P => ⟨P, Nat.le_refl _, rfl⟩
  | @snoc s1 reps e o dxo h hf ih =>
    intro P
    obtain ⟨P1, h1, h2⟩ := ih P
    obtain ⟨hm, _⟩ := firstS_mem hf
    have g := P1.gs e hm
    have hE := enter_pure (o := o) (dxo := dxo) (kd := kdS e.2.2) (off_pure (z := e.1) P1) (t := ordS e.2.2) g.1 g.2.1 (Int.le_refl 0) kdS_price
    have hd := dropS_len hm
    have hsz : sizeS (offS s1 e.1) + 1 ≤ sizeS s1 := by
      unfold sizeS offS
      dsimp only
      omega
    exact ⟨hE.1, by omega, h2⟩
/-- the last price behind fills -/
def lastF (last : Option Int) (fills : List (Int × Str × Int × Int)) : Option Int := fills.foldl (fun _ f => some f.2.2.1) last
def lastR (last : Option Int) (reps : List RepT) : Option Int := reps.foldl (fun l r => lastF l r.fills) last
theorem lastF_snoc (last : Option Int) (fs : List (Int × Str × Int × Int)) (f : Int × Str × Int × Int) : lastF last (fs ++ [f]) = some f.2.2.1 := by
  unfold lastF
  rw [List.foldl_append]
  rfl
theorem runM_last {t : Ord} {l0 : Option Int} : ∀ (k : Nat) {m : Mt}, m.last = lastF l0 m.fills → (runM t k m).last = lastF l0 (runM t k m).fills
  | 0, m, h => h
  | k + 1, m, h => by
    cases hg : goesM t m with
    | none => rw [runM_stop hg]; exact h
    | some e =>
      rw [runM_go hg]
      refine runM_last k ?_
      unfold stepM
      split
      · exact h
      · exact (lastF_snoc l0 m.fills (e.2.2.number, e.2.2.house, prcE e, qtyM m e)).symm
theorem enter_last {s : BS} {o dxo : Addr} {t : Ord} {kd : Str} : (enterB s o dxo t kd).1.last = lastF s.last (enterB s o dxo t kd).2.fills := by
  unfold enterB
  dsimp only
  generalize othE t.side s.es1 s.es2 = oth
  generalize ownE t.side s.es1 s.es2 = own
  unfold subF
  split
  · rfl
  · exact runM_last (l0 := s.last) _ (m := startM t s.last oth) rfl
theorem trig_last {s s' : BS} {reps : List RepT} (h : TrigS s s' reps) : s'.last = lastR s.last reps := by
  induction h with
  | nil => rfl
  | snoc o dxo h hf ih =>
    unfold lastR at ih ⊢
    rw [List.foldl_append, ← ih]
    exact enter_last
theorem dropS_perm {e : EntS} {ss : List EntS} (nd : (ss.map (·.1)).Nodup) (h : e ∈ ss) : ss.Perm (e :: dropS e.1 ss) := by
  obtain ⟨pre, post, rfl⟩ := List.append_of_mem h
  rw [List.map_append, List.map_cons] at nd
  obtain ⟨_, n2, n3⟩ := List.nodup_append.mp nd
  have h1 : dropS e.1 pre = pre := List.filter_eq_self.mpr fun y hy => decide_eq_true fun z => n3 _ (List.mem_map.mpr ⟨y, hy, rfl⟩) _ List.mem_cons_self z
  have h2 : dropS e.1 post = post := List.filter_eq_self.mpr fun y hy => decide_eq_true fun z => (List.nodup_cons.mp n2).1 (List.mem_map.mpr ⟨y, hy, z⟩)
  have h3 : dropS e.1 (pre ++ e :: post) = pre ++ post := by
    unfold dropS at h1 h2 ⊢
    rw [List.filter_append, List.filter_cons, if_neg (by simp), h1, h2]
  rw [h3]
  exact List.perm_middle
def numS (ss : List EntS) : List Int := ss.map fun e => e.2.2.number
theorem trig_perm {s s' : BS} {reps : List RepT} (h : TrigS s s' reps) : (s.ss.map (·.1)).Nodup → (numS s.ss).Perm (reps.map (·.number) ++ numS s'.ss) ∧ (s'.ss.map (·.1)).Nodup ∧ s'.ss.Sublist s.ss := by
  induction h with
  | nil => exact fun nd => ⟨List.Perm.refl _, nd, List.Sublist.refl _⟩
  | @snoc s1 reps e o dxo h hf ih =>
    intro nd
    obtain ⟨h1, h2, h3⟩ := ih nd
    obtain ⟨hm, _⟩ := firstS_mem hf
    refine ⟨h1.trans ?_, ((List.filter_sublist (p := fun y : EntS => decide (y.1 ≠ e.1)) (l := s1.ss)).map _).nodup h2, List.filter_sublist.trans h3⟩
    have hp : (numS s1.ss).Perm (e.2.2.number :: numS (dropS e.1 s1.ss)) := (dropS_perm h2 hm).map _
    rw [List.map_append, List.append_assoc]
    exact (List.Perm.append_left _ hp)

/-! ### told rows -/
abbrev RowT := Int × Str × Option Int × Int × Int
def rowT (o : Ord) : RowT := (o.number, o.house, o.price, o.left, o.visible)
def layP : Option Int → PyData
  | none => .none
  | some k => .int k
theorem layD_P : LayD layP 0 (fun _ => True) := by
  refine ⟨fun x _ => ?_, fun x => ?_, fun x y => ?_⟩
  · cases x <;> rfl
  · cases x <;> exact Nat.le_refl _
  · cases x with
    | none => cases y with
      | none => simp [layP, PyData.eqv]
      | some y => simp [layP, PyData.eqv]
    | some x => cases y with
      | none => simp [layP, PyData.eqv]
      | some y =>
        simp only [layP, PyData.eqv, Option.some.injEq]
        rw [Bool.beq_eq_decide_eq]
def layRow (x : RowT) : PyData := .tuple [.int x.1, .str x.2.1, layP x.2.2.1, .int x.2.2.2.1, .int x.2.2.2.2]
theorem layD_Row : LayD layRow 1 (fun x => PyData.strOk x.2.1 = true) := by
  refine ⟨fun x a => ?_, fun x => ?_, fun x y => ?_⟩
  · unfold layRow
    simp only [PyData.canLay0, PyData.canLayAll0, layD_P.lay _ trivial, Bool.and_true, Bool.true_and]
    exact a
  · unfold layRow
    simp only [PyData.depth, PyData.depthAll]
    have := layD_P.dep x.2.2.1
    omega
  · unfold layRow
    simp only [PyData.eqv, PyData.eqvAll, layD_P.eqv, Bool.and_true, Bool.beq_eq_decide_eq]
    rw [decide_and2 (r := x.2.2.2 = y.2.2.2) (by rw [Prod.ext_iff]), decide_and2 (r := x.2.2 = y.2.2) (by rw [Prod.ext_iff]), decide_and2 (r := x.2 = y.2) (by rw [Prod.ext_iff])]
    exact decide_and2 (by rw [Prod.ext_iff])
theorem dpP {K : PySem.W.Frag} {H : Hp} : ∀ x : Option Int, Dp K H (optV x) (layP x)
  | none => .non
  | some k => .int _
theorem rows_dp {K : PySem.W.Frag} {H : Hp} {D : Addr} {ts : List (Addr × Ord)} {es : List Ent} (hD : H D = some (.lst (ts.map fun t => V.ref t.1))) (hts : ts.map (·.2) = es.map (·.2.2)) (hrow : ∀ t, t ∈ ts → H t.1 = some (.tup (rowV t.2))) :
    Dp K H (.ref D) (.list ((es.map fun e => rowT e.2.2).map layRow)) := by
  have e1 : (ts.map fun t => V.ref t.1) = (ts.map (·.1)).map V.ref := by rw [List.map_map]; rfl
  have e2 : (es.map fun e => rowT e.2.2) = ts.map fun t => rowT t.2 := by
    have := congrArg (List.map rowT) hts
    rw [List.map_map, List.map_map] at this
    exact this.symm
  rw [e1] at hD
  rw [e2]
  refine .lst (SqL.of hD) (dpAll_refs (by rw [List.length_map, List.length_map]) fun i p x h1 h2 => ?_)
  rw [List.getElem?_map] at h1 h2
  cases het : ts[i]? with
  | none => rw [het] at h1; cases h1
  | some t =>
    rw [het] at h1 h2
    have ep : t.1 = p := Option.some.inj h1
    have ex : rowT t.2 = x := Option.some.inj h2
    rw [← ep, ← ex]
    have hr := hrow t (List.mem_of_getElem? het)
    unfold rowV at hr
    exact .tup (SqT.of hr) (.cons (.int _) (.cons (.str _) (.cons (dpP _) (.cons (.int _) (.cons (.int _) .nil)))))
theorem rows_eq {K : PySem.W.Frag} {H : Hp} {D D' : Addr} {ts ts' : List (Addr × Ord)} {es : List Ent} {Q : VK} (hok : ∀ e, e ∈ es → PyData.strOk e.2.2.house = true) (hD : H D = some (.lst (ts.map fun t => V.ref t.1))) (hts : ts.map (·.2) = es.map (·.2.2)) (hrow : ∀ t, t ∈ ts → H t.1 = some (.tup (rowV t.2)))
    (hD' : H D' = some (.lst (ts'.map fun t => V.ref t.1))) (hts' : ts'.map (·.2) = es.map (·.2.2)) (hrow' : ∀ t, t ∈ ts' → H t.1 = some (.tup (rowV t.2))) (q : Q (.bl true) H) : rEqD K (.ref D) (.ref D') H Q := by
  have hG : ∀ x, x ∈ (es.map fun e => rowT e.2.2) → PyData.strOk x.2.1 = true := fun x hx => by
    obtain ⟨e, he, rfl⟩ := List.mem_map.mp hx
    exact hok e he
  refine eqL layD_Row.list (by decide) (a := es.map fun e => rowT e.2.2) (b := es.map fun e => rowT e.2.2) hG hG (rows_dp hD hts hrow) (rows_dp hD' hts' hrow') ?_
  rw [decide_eq_true rfl]
  exact q

/-! ### told rows of stop orders -/
theorem stp_ext {a b : Stp} : (a.number = b.number ∧ a.house = b.house ∧ a.side = b.side ∧ a.trigger = b.trigger ∧ a.price = b.price ∧ a.quantity = b.quantity) ↔ a = b := by
  cases a
  cases b
  simp only [Stp.mk.injEq]
instance stpEq : DecidableEq Stp := fun _ _ => decidable_of_iff _ stp_ext
def layQ (s : Stp) : PyData := .tuple [.int s.number, .str s.house, .str s.side, .int s.trigger, layP s.price, .int s.quantity]
theorem layD_Q : LayD layQ 1 (fun s => PyData.strOk s.house = true ∧ PyData.strOk s.side = true) := by
  refine ⟨fun x a => ?_, fun x => ?_, fun x y => ?_⟩
  · unfold layQ
    simp only [PyData.canLay0, PyData.canLayAll0, layD_P.lay _ trivial, Bool.and_true, Bool.true_and]
    rw [a.1, a.2]
    rfl
  · unfold layQ
    simp only [PyData.depth, PyData.depthAll]
    have := layD_P.dep x.price
    omega
  · unfold layQ
    simp only [PyData.eqv, PyData.eqvAll, layD_P.eqv, Bool.and_true, Bool.beq_eq_decide_eq]
    rw [decide_and2 (p := x.price = y.price) (q := x.quantity = y.quantity) Iff.rfl, decide_and2 (p := x.trigger = y.trigger) Iff.rfl, decide_and2 (p := x.side = y.side) Iff.rfl, decide_and2 (p := x.house = y.house) Iff.rfl]
    exact decide_and2 stp_ext.symm
theorem tups_dp {α : Type} {enc : α → List V} {lay : α → PyData} {K : PySem.W.Frag} {H : Hp} {l : Addr} {ps : List Addr} {xs : List α} (h : Tups enc H l ps xs) (hd : ∀ x p, x ∈ xs → H p = some (.tup (enc x)) → Dp K H (.ref p) (lay x)) : Dp K H (.ref l) (.list (xs.map lay)) :=
  .lst (SqL.of h.lst) (dpAll_refs h.len fun i p x h1 h2 => hd x p (List.mem_of_getElem? h2) (h.row i p x h1 h2))
theorem rowS_dp {K : PySem.W.Frag} {H : Hp} {p : Addr} {s : Stp} (h : H p = some (.tup (rowS s))) : Dp K H (.ref p) (layQ s) :=
  .tup (SqT.of h) (.cons (.int _) (.cons (.str _) (.cons (.str _) (.cons (.int _) (.cons (dpP _) (.cons (.int _) .nil))))))
theorem trig_stuck {s s' : BS} {reps : List RepT} (h : TrigS s s' reps) : firstS s.last s.ss = none → s' = s ∧ reps = [] := by
  induction h with
  | nil => exact fun _ => ⟨rfl, rfl⟩
  | snoc o dxo h hf ih =>
    intro hn
    obtain ⟨rfl, _⟩ := ih hn
    rw [hn] at hf
    cases hf
theorem first_none (ss : List EntS) : firstS none ss = none := List.find?_eq_none.mpr fun x _ => by simp [reachedS]
theorem iteSelf {x : V} {A B : Prop} (h : B) : if (!decide (x = x)) = true then A else B := by
  rw [decide_eq_true rfl]
  exact iteF h

def sgnS (s : Str) : Int := if buyS s = true then -1 else 1
theorem Rank.sorted {s : Str} {es : List Ent} (h : Rank s es) : (es.map fun e => sgnS s * prcE e).Pairwise (· ≤ ·) := by
  rw [List.pairwise_map, List.pairwise_iff_getElem]
  intro i j hi hj hij
  have ha := List.getElem_mem hi
  have hb := List.getElem_mem hj
  obtain ⟨pa, hpa⟩ := h.price _ ha
  obtain ⟨pb, hpb⟩ := h.price _ hb
  have hp := mono_iff.mp (h.mono pb)
  have := List.pairwise_iff_getElem.mp hp i j hi hj hij (by
    rw [accE_of hpb]
    exact takes_self _ _)
  rw [accE_of hpa, h.side _ ha] at this
  have e1 : prcE es[i] = pa := by
    unfold prcE
    rw [hpa]
    rfl
  have e2 : prcE es[j] = pb := by
    unfold prcE
    rw [hpb]
    rfl
  rw [e1, e2]
  change (if buyS s = true then decide (pb ≤ pa) else decide (pa ≤ pb)) = true at this
  unfold sgnS
  split at this
  · next hb =>
    rw [if_pos hb]
    have := of_decide_eq_true this
    omega
  · next hb =>
    rw [if_neg hb]
    have := of_decide_eq_true this
    omega

namespace DI
/-! a dict from texts to whole numbers -/
def encD (d : List (Int × Int)) : List (Key × V) := d.map fun x => (Sum.inl x.1, V.int x.2)
def getS (d : List (Int × Int)) (s : Int) : Option Int := (d.find? fun x => decide (x.1 = s)).map (·.2)
def keysS (d : List (Int × Int)) : List Int := d.map (·.1)
def putS (d : List (Int × Int)) (s : Int) (v : Int) : List (Int × Int) := if s ∈ keysS d then d.map (fun x => if x.1 = s then (x.1, v) else x) else d ++ [(s, v)]
def gD (d : List (Int × Int)) (s : Int) : Int := (getS d s).getD 0
theorem inl_eq {a b : Int} : ((Sum.inl a : Key) = Sum.inl b) ↔ a = b := ⟨fun h => Sum.inl.inj h, fun h => by rw [h]⟩
theorem valV_enc (s : Int) : ∀ d : List (Int × Int), valV (encD d) (Sum.inl s) = (getS d s).map V.int
  | [] => rfl
  | x :: d => by
    unfold encD getS
    rw [List.map_cons, List.find?_cons]
    by_cases h : x.1 = s
    · rw [valV_pos (by rw [h]), decide_eq_true h]; rfl
    · rw [valV_neg (fun z => h (Sum.inl.inj z)), decide_eq_false h]
      exact valV_enc s d
theorem any_enc (s : Int) : ∀ d : List (Int × Int), ((encD d).any fun kv => decide (kv.1 = Sum.inl s)) = decide (s ∈ keysS d)
  | [] => rfl
  | x :: d => by
    have ih := any_enc s d
    unfold encD at ih ⊢
    rw [List.map_cons, List.any_cons, ih]
    unfold keysS
    rw [List.map_cons]
    by_cases h : x.1 = s
    · have hm : s ∈ x.1 :: List.map (fun x => x.1) d := by rw [← h]; exact List.mem_cons_self
      rw [decide_eq_true (show ((Sum.inl x.1 : Key) = Sum.inl s) by rw [h]), decide_eq_true hm]; rfl
    · rw [decide_eq_false (fun z => h (Sum.inl.inj z)), Bool.false_or]
      exact decide_eq_decide.mpr ⟨fun z => List.mem_cons_of_mem _ z, fun z => (List.mem_cons.mp z).resolve_left fun e => h e.symm⟩
theorem putK_enc (d : List (Int × Int)) (s : Int) (v : Int) : putK (encD d) (Sum.inl s) (V.int v) = encD (putS d s v) := by
  unfold putK putS
  rw [any_enc]
  by_cases h : s ∈ keysS d
  · rw [if_pos (decide_eq_true h), if_pos h]
    unfold encD
    rw [List.map_map, List.map_map]
    refine List.map_congr_left fun x _ => ?_
    show (if (Sum.inl x.1 : Key) = Sum.inl s then ((Sum.inl x.1 : Key), V.int v) else (Sum.inl x.1, V.int x.2)) = _
    by_cases z : x.1 = s
    · rw [if_pos (by rw [z])]
      show _ = ((Sum.inl (if x.1 = s then (x.1, v) else x).1 : Key), V.int (if x.1 = s then (x.1, v) else x).2)
      rw [if_pos z]
    · rw [if_neg (fun e => z (Sum.inl.inj e))]
      show _ = ((Sum.inl (if x.1 = s then (x.1, v) else x).1 : Key), V.int (if x.1 = s then (x.1, v) else x).2)
      rw [if_neg z]
  · rw [if_neg (by rw [decide_eq_false h]; exact Bool.false_ne_true), if_neg h]
    unfold encD
    rw [List.map_append]
    rfl
def addK (ks : List Int) (s : Int) : List Int := if s ∈ ks then ks else ks ++ [s]
theorem keys_put (d : List (Int × Int)) (s : Int) (v : Int) : keysS (putS d s v) = addK (keysS d) s := by
  unfold putS addK
  by_cases h : s ∈ keysS d
  · rw [if_pos h, if_pos h]
    unfold keysS
    rw [List.map_map]
    refine List.map_congr_left fun x _ => ?_
    show (if x.1 = s then (x.1, v) else x).1 = x.1
    split <;> rfl
  · rw [if_neg h, if_neg h]
    unfold keysS
    rw [List.map_append]
    rfl
theorem get_mem (s : Int) : ∀ d : List (Int × Int), (getS d s).isSome = decide (s ∈ keysS d)
  | [] => rfl
  | x :: d => by
    have ih := get_mem s d
    unfold getS keysS at ih ⊢
    rw [List.find?_cons, List.map_cons]
    by_cases h : x.1 = s
    · rw [decide_eq_true h, decide_eq_true (by rw [h]; exact List.mem_cons_self)]; rfl
    · rw [decide_eq_false h]
      refine ih.trans (decide_eq_decide.mpr ⟨fun z => List.mem_cons_of_mem _ z, fun z => (List.mem_cons.mp z).resolve_left fun e => h e.symm⟩)
theorem get_some {d : List (Int × Int)} {s : Int} (h : s ∈ keysS d) : getS d s = some (gD d s) := by
  have e := get_mem s d
  rw [decide_eq_true h] at e
  unfold gD
  cases w : getS d s with
  | none => rw [w] at e; cases e
  | some x => rfl
theorem get_map (s t : Int) (v : Int) : ∀ d : List (Int × Int), getS (d.map fun x => if x.1 = s then (x.1, v) else x) t = (getS d t).map fun w => if t = s then v else w
  | [] => rfl
  | x :: d => by
    have ih := get_map s t v d
    unfold getS at ih ⊢
    rw [List.map_cons, List.find?_cons, List.find?_cons]
    have e1 : (if x.1 = s then (x.1, v) else x).1 = x.1 := by split <;> rfl
    rw [e1]
    by_cases h : x.1 = t
    · rw [decide_eq_true h]
      show some (if x.1 = s then (x.1, v) else x).2 = some (if t = s then v else x.2)
      by_cases z : x.1 = s
      · rw [if_pos z, if_pos (h.symm.trans z)]
      · rw [if_neg z, if_neg fun e => z (h.trans e)]
    · rw [decide_eq_false h]
      exact ih
theorem gD_put (d : List (Int × Int)) (s t : Int) (v : Int) : gD (putS d s v) t = if t = s then v else gD d t := by
  unfold gD putS
  by_cases h : s ∈ keysS d
  · rw [if_pos h, get_map]
    by_cases z : t = s
    · have := get_some h
      rw [z, this, if_pos rfl]
      show (if s = s then v else gD d s) = v
      rw [if_pos rfl]
    · rw [if_neg z]
      cases getS d t with
      | none => rfl
      | some w => show (if t = s then v else w) = w; rw [if_neg z]
  · rw [if_neg h]
    unfold getS
    rw [List.find?_append]
    by_cases z : t = s
    · have e := get_mem s d
      rw [decide_eq_false h] at e
      unfold getS at e
      rw [z, if_pos rfl]
      cases w : d.find? fun x => decide (x.1 = s) with
      | none => rw [Option.none_or, List.find?_cons, decide_eq_true rfl]; rfl
      | some x => rw [w] at e; cases e
    · rw [if_neg z]
      have : List.find? (fun x : Int × Int => decide (x.1 = t)) [(s, v)] = none := by
        rw [List.find?_cons, decide_eq_false fun e : s = t => z e.symm]
        rfl
      rw [this, Option.or_none]
theorem dget_go {H : Hp} {a : Addr} {s : Int} {d : List (Int × Int)} {R : Option V → Prop} (h : H a = some (.dK (encD d))) (q : R ((getS d s).map V.int)) : ∃ o, DGet H a (.int s) o ∧ R o := by
  refine ⟨_, ?_, q⟩
  have := DGet.k (k := Sum.inl s) h
  rw [valV_enc] at this
  exact this
theorem dget_at {H : Hp} {a : Addr} {s : Int} {d : List (Int × Int)} (h : H a = some (.dK (encD d))) (k : s ∈ keysS d) : DGet H a (.int s) (some (.int (gD d s))) := by
  have := DGet.k (k := Sum.inl s) h
  rw [valV_enc, get_some k] at this
  exact this
theorem dput_go {H : Hp} {a : Addr} {s : Int} {v : Int} {d : List (Int × Int)} {R : Hp → Prop} (h : H a = some (.dK (encD d))) (hl : d.length ≤ 1000) (q : R (upd H a (.dK (encD (putS d s v))))) : ∃ H', V.ref a = V.ref a ∧ DPut H a (.int s) (.int v) H' ∧ R H' := by
  refine ⟨_, rfl, ?_, q⟩
  rw [← putK_enc]
  refine DPut.k (k := Sum.inl s) h ?_
  unfold encD
  rw [List.length_map]
  exact small1000 (by omega)
theorem getD_int (d : List (Int × Int)) (s : Int) : ((getS d s).map V.int).getD (.int 0) = .int (gD d s) := by
  unfold gD
  cases getS d s <;> rfl
theorem isD_enc {H : Hp} {a : Addr} {d : List (Int × Int)} (h : H a = some (.dK (encD d))) : IsD H a := .inl ⟨_, .inl h⟩
theorem addK_mem {ks : List Int} {s t : Int} : t ∈ addK ks s ↔ t ∈ ks ∨ t = s := by
  unfold addK
  split
  · exact ⟨.inl, fun h => h.elim id fun e => by rw [e]; assumption⟩
  · rw [List.mem_append, List.mem_singleton]
theorem addK_nodup {ks : List Int} {s : Int} (h : ks.Nodup) : (addK ks s).Nodup := by
  unfold addK
  split
  · exact h
  · rename_i n
    rw [List.nodup_append]
    exact ⟨h, List.nodup_cons.mpr ⟨fun z => (by cases z), List.nodup_nil⟩, fun a ha b hb e => n (by rw [List.mem_singleton] at hb; rw [← hb, ← e]; exact ha)⟩
theorem addK_len (ks : List Int) (s : Int) : (addK ks s).length ≤ ks.length + 1 := by
  unfold addK
  split
  · omega
  · rw [List.length_append]; exact Nat.le_refl _
theorem keys_enc (d : List (Int × Int)) : (encD d).map (·.1) = (keysS d).map Sum.inl := by
  unfold encD keysS
  rw [List.map_map, List.map_map]
  rfl

/-! ### the depth of a side -/
def levStep (ls : List (Int × Int)) (p v : Int) : List (Int × Int) := match ls.getLast? with
  | some q => if q.1 = p then ls.dropLast ++ [(p, q.2 + v)] else ls ++ [(p, v)]
  | none => [(p, v)]
def levF (es : List Ent) : List (Int × Int) := es.foldl (fun ls e => levStep ls (prcE e) e.2.2.visible) []
theorem levF_snoc (es : List Ent) (e : Ent) : levF (es ++ [e]) = levStep (levF es) (prcE e) e.2.2.visible := by
  unfold levF
  rw [List.foldl_append]
  rfl
theorem levStep_some {ls : List (Int × Int)} {q : Int × Int} {p v : Int} (h : ls.getLast? = some q) (hq : q.1 = p) : levStep ls p v = ls.dropLast ++ [(p, q.2 + v)] := by
  unfold levStep
  rw [h]
  exact if_pos hq
theorem levStep_new {ls : List (Int × Int)} {p v : Int} (h : ∀ q, ls.getLast? = some q → q.1 ≠ p) : levStep ls p v = ls ++ [(p, v)] := by
  unfold levStep
  split
  · next q hq => exact if_neg (h q hq)
  · next hq =>
    rw [List.getLast?_eq_none_iff] at hq
    rw [hq]
    rfl

theorem paired_of {α β γ : Type} {F : α → γ → Prop} {g : β → γ} : ∀ {xs : List α} {ys : List β}, Paired F xs (ys.map g) → Paired (fun a b => F a (g b)) xs ys
  | [], [], _ => .nil
  | _ :: _, _ :: _, .cons h t => .cons h (paired_of t)
  | [], _ :: _, h => by cases h
  | _ :: _, [], h => by cases h
theorem last_split {α : Type} {ls : List α} {q : α} (h : ls.getLast? = some q) : ls = ls.dropLast ++ [q] := by
  obtain ⟨ys, e⟩ := List.getLast?_eq_some_iff.mp h
  subst e
  rw [List.dropLast_concat]
/-- a dict grows as the levels do -/
theorem putS_last {ls : List (Int × Int)} {q : Int × Int} {p v : Int} (hn : (keysS ls).Nodup) (h : ls.getLast? = some q) (hq : q.1 = p) : putS ls p (gD ls p + v) = ls.dropLast ++ [(p, q.2 + v)] := by
  have hl : ls = ls.dropLast ++ [q] := last_split h
  generalize ls.dropLast = pre at *
  subst hl
  subst hq
  have hk : keysS (pre ++ [q]) = keysS pre ++ [q.1] := by unfold keysS; rw [List.map_append]; rfl
  rw [hk] at hn
  have hni : q.1 ∉ keysS pre := fun z => (List.nodup_append.mp hn).2.2 _ z _ (List.mem_singleton_self _) rfl
  have hg : gD (pre ++ [q]) q.1 = q.2 := by
    unfold gD getS
    rw [List.find?_append]
    have e := get_mem q.1 pre
    rw [decide_eq_false hni] at e
    unfold getS at e
    cases w : pre.find? fun x => decide (x.1 = q.1) with
    | none => rw [Option.none_or, List.find?_cons, decide_eq_true rfl]; rfl
    | some x => rw [w] at e; cases e
  rw [hg]
  unfold putS
  rw [if_pos (by rw [hk]; exact List.mem_append_right _ (List.mem_singleton_self _)), List.map_append]
  congr 1
  · conv => rhs; rw [← List.map_id pre]
    refine List.map_congr_left fun x hx => ?_
    rw [if_neg fun z => hni (by rw [← z]; exact List.mem_map.mpr ⟨x, hx, rfl⟩)]
    rfl
  · show [if q.1 = q.1 then (q.1, q.2 + v) else q] = _
    rw [if_pos rfl]
/-- the prices that have been told are those ahead; the last of them is the last told -/
structure LevOk (ls : List (Int × Int)) (ps : List Int) : Prop where
  nd : (keysS ls).Nodup
  keys : ∀ k, k ∈ keysS ls ↔ k ∈ ps
  last : (ls.getLast?.map (·.1)) = ps.getLast?
  len : ls.length ≤ ps.length
theorem lev_step {ls : List (Int × Int)} {ps : List Int} {p v g : Int} (h : LevOk ls ps) (hs : ((ps ++ [p]).map fun x => g * x).Pairwise (· ≤ ·)) (hg : g = 1 ∨ g = -1) : putS ls p (gD ls p + v) = levStep ls p v ∧ LevOk (levStep ls p v) (ps ++ [p]) := by
  by_cases hl : ∃ q, ls.getLast? = some q ∧ q.1 = p
  · obtain ⟨q, h1, h2⟩ := hl
    have hne : ls = ls.dropLast ++ [q] := last_split h1
    have hkk : keysS ls = keysS ls.dropLast ++ [p] := by
      rw [← h2]
      conv => lhs; rw [hne]
      unfold keysS
      rw [List.map_append]
      rfl
    have hk2 : keysS (ls.dropLast ++ [(p, q.2 + v)]) = keysS ls := by
      rw [hkk]
      unfold keysS
      rw [List.map_append]
      rfl
    have hpm : p ∈ ps := (h.keys p).mp (by rw [hkk]; exact List.mem_append_right _ (List.mem_singleton_self _))
    rw [levStep_some h1 h2]
    refine ⟨putS_last h.nd h1 h2, by rw [hk2]; exact h.nd, fun k => ?_, ?_, ?_⟩
    · rw [hk2, h.keys, List.mem_append, List.mem_singleton]
      exact ⟨.inl, fun z => z.elim id fun z => by rw [z]; exact hpm⟩
    · rw [List.getLast?_concat, List.getLast?_concat]
      rfl
    · have h3 := congrArg List.length hne
      rw [List.length_append] at h3 ⊢
      rw [List.length_append]
      have h4 := h.len
      have h5 : [q].length = 1 := rfl
      have h6 : [(p, q.2 + v)].length = 1 := rfl
      omega
  · have hno : ∀ q, ls.getLast? = some q → q.1 ≠ p := fun q a b => hl ⟨q, a, b⟩
    have hpn : p ∉ ps := fun z => by
      rw [List.map_append, List.pairwise_append] at hs
      cases hls : ls.getLast? with
      | none =>
        have := h.last
        rw [hls] at this
        rw [List.getLast?_eq_none_iff.mp this.symm] at z
        cases z
      | some q =>
        have hq := h.last
        rw [hls] at hq
        have hq : some q.1 = ps.getLast? := hq
        have hps : ps = ps.dropLast ++ [q.1] := last_split hq.symm
        rw [hps] at z
        rcases List.mem_append.mp z with z | z
        · rw [hps] at hs
          have a1 := hs.2.2 (g * q.1) (List.mem_map.mpr ⟨q.1, List.mem_append_right _ (List.mem_singleton_self _), rfl⟩) (g * p) (List.mem_singleton_self _)
          have hs1 := hs.1
          rw [List.map_append, List.pairwise_append] at hs1
          have a2 := hs1.2.2 (g * p) (List.mem_map.mpr ⟨p, z, rfl⟩) (g * q.1) (List.mem_singleton_self _)
          have hqp := hno q hls
          rcases hg with e | e <;> subst e <;> omega
        · exact hno q hls (List.mem_singleton.mp z).symm
    have hkn : p ∉ keysS ls := fun z => hpn ((h.keys p).mp z)
    have hg0 : gD ls p = 0 := by
      have e := get_mem p ls
      rw [decide_eq_false hkn] at e
      unfold gD
      cases w : getS ls p with
      | none => rfl
      | some x => rw [w] at e; cases e
    rw [levStep_new hno]
    have hk2 : keysS (ls ++ [(p, v)]) = keysS ls ++ [p] := by
      unfold keysS
      rw [List.map_append]
      rfl
    refine ⟨?_, ?_, fun k => ?_, ?_, ?_⟩
    · unfold putS
      rw [if_neg hkn, hg0, Int.zero_add]
    · rw [hk2, List.nodup_append]
      exact ⟨h.nd, List.nodup_cons.mpr ⟨fun z => (by cases z), List.nodup_nil⟩, fun a ha b hb e => hkn (by rw [List.mem_singleton] at hb; rw [← hb, ← e]; exact ha)⟩
    · rw [hk2, List.mem_append, List.mem_append, h.keys]
    · rw [List.getLast?_concat, List.getLast?_concat]
      rfl
    · have h4 := h.len
      rw [List.length_append, List.length_append]
      have h6 : [(p, v)].length = 1 := rfl
      have h7 : [p].length = 1 := rfl
      omega
theorem LevOk.nil : LevOk [] [] := ⟨List.nodup_nil, fun _ => Iff.rfl, rfl, Nat.le_refl _⟩
theorem sgn_one (s : Str) : sgnS s = 1 ∨ sgnS s = -1 := by
  unfold sgnS
  split
  · exact .inr rfl
  · exact .inl rfl
def sp_BookSide_depth (K : PySem.W.Frag) (CO CB : Addr) : Sp := fun vs H Q _ => ∃ (b db l : Addr) (es : List Ent) (s : Str), vs = [.ref b] ∧ SideAt CO CB H b db l es ∧ Rank s es ∧
  ∀ D H' ts, Same H H' → H D = none → H' D = some (.lst (ts.map V.ref)) → Paired (fun (t : Addr) (q : Int × Int) => H' t = some (.tup [.int q.1, .int q.2])) ts (levF es) → Q (.ref D) H'
set_option maxHeartbeats 0 in
theorem ok_BookSide_depth (T : Txt K mg) : FnOk P w K mg base CX0 1 T.f_BookSide_depth T.d_BookSide_depth ["self"] (sp_BookSide_depth K T.c_Order T.c_BookSide) := by
  refine T.F_BookSide_depth.ok sc_BookSide_depth (fun vs H Q E h => ?_) (fun cdv A outer s H vs Q E hr h => ?_)
  · obtain ⟨b, db, l, es, s, rfl, _⟩ := h
    rfl
  · obtain ⟨b, db, l, es, s, rfl, S, r, q⟩ := h
    
    refine ⟨_, (pss_cons (ps_set (i := 1) sc_BookSide_depth.nd rfl (Or.inl rfl) pe_dnewK)
    (pss_cons (ps_for PassesOwn.never rfl (pi_list (pe_fld (pv 0) rfl)) (pg_name (i := 2) sc_BookSide_depth.nd rfl (Or.inl rfl))
      (pss_one (ps_dput (hu_of hr) (pv 1) (pe_fld (pv 2) rfl) (pe_op op_add (pe_dget2 (hu_of hr) (pv 1) (pe_fld (pv 2) rfl) pe_int ⟨rfl, rfl, rfl, rfl⟩) (pe_fld (pv 2) rfl)) rfl)))
    (pss_one (ps_ret (LiI.pe_listItems rfl (pv 1) (by rfl) T.z_list (by decide +kernel)))))), ?_⟩
    have fact_BookSide_0 := T.cl_BookSide; have fact_BookSide_1 := T.na_BookSide__orders; have fact_Order_0 := T.cl_Order; have fact_Order_1 := T.na_Order_number; have fact_Order_2 := T.na_Order_house; have fact_Order_3 := T.na_Order_side; have fact_Order_4 := T.na_Order_price; have fact_Order_5 := T.na_Order_shown; have fact_Order_6 := T.na_Order_left; have fact_Order_7 := T.na_Order_visible
    have hob := S.ob
    have hli := S.li
    have hsm := S.sm
    have lenR : (refs es).length = es.length := List.length_map ..
    have hso := r.sorted
    walk_at "st"
    intro D nD
    generalize hH1 : upd H D _ = H1
    have s1 : Same H H1 := hH1 ▸ same_upd nD
    have hD : H1 D = some (.dK (encD [])) := (congrFun hH1 D).symm.trans upd_same
    have hob1 := s1 _ _ hob
    have hli1 := s1 _ _ hli
    have lD : l ≠ D := ne_of_none hli nD
    walk_at "st"
    refine for_list (K := K) (a := l) (xs := refs es) (fun i σ H' => ∃ v2 : Option V, σ = [some (.ref b), some (.ref D), v2] ∧ H' = upd H1 D (.dK (encD (levF (es.take i)))) ∧ LevOk (levF (es.take i)) ((es.take i).map prcE))
      ⟨none, rfl, funext fun z => ?_, LevOk.nil⟩ (fun i σ H' _ ⟨_, _, e, _⟩ => by rw [e]; exact SqL.of ((upd_ne lD).trans hli1)) ?_ ?_
    · by_cases h : z = D
      · rw [h, hD]
        exact upd_same.symm
      · exact (upd_ne h).symm
    · rintro i y σ H' hy ⟨v2, rfl, rfl, hlv⟩
      obtain ⟨e, he, rfl⟩ := ents_at hy
      have hi := (List.getElem?_eq_some_iff.mp he).1
      have hem := List.mem_of_getElem? he
      have hen := S.en e hem
      have heD : e.1 ≠ D := ne_of_none hen nD
      have hen1 := (upd_ne (o := HO.dK (encD (levF (es.take i)))) heD).trans (s1 _ _ hen)
      obtain ⟨pe, hpe⟩ := r.price e hem
      have hpc : prcE e = pe := by
        unfold prcE
        rw [hpe]
        rfl
      unfold ordO at hen1
      rw [hpe] at hen1
      have hll : (levF (es.take i)).length ≤ 1000 := by
        have := hlv.len
        rw [List.length_map, List.length_take] at this
        omega
      have hdD := isD_enc (H := upd H1 D (.dK (encD (levF (es.take i))))) (a := D) upd_same
      have hst := lev_step (p := pe) (v := e.2.2.visible) hlv (by
        have h1 : (es.take (i + 1)).map (fun e => sgnS s * prcE e) = ((es.take i).map prcE ++ [pe]).map fun x => sgnS s * x := by
          rw [take_succ he, List.map_append, List.map_append, List.map_map, ← hpc]
          rfl
        rw [← h1]
        exact hso.sublist ((List.take_sublist _ _).map _)) (sgn_one s)
      have hsn : levF (es.take (i + 1)) = levStep (levF (es.take i)) pe e.2.2.visible := by rw [take_succ he, levF_snoc, hpc]
      walk_at "st"
      refine dget_go (s := pe) upd_same ?_
      rw [getD_int]
      walk_at "st"
      refine dput_go (s := pe) upd_same hll ?_
      rw [upd_upd]
      refine ⟨_, rfl, ?_, ?_⟩
      · rw [hsn, ← hst.1]
      · rw [hsn, take_succ he, List.map_append]
        show LevOk _ (_ ++ [prcE e])
        rw [hpc]
        exact hst.2
    · rintro σ H' ⟨v2, rfl, rfl, hlv⟩
      rw [lenR, List.take_of_length_le (Nat.le_refl _)]
      walk_at "st"
      refine ⟨_, rfl, upd_same, fun H' p ts e np nts npts hp pr => q p H' ts (fun z o hz => ?_) ?_ hp (paired_of (F := fun (t : Addr) (q : Key × V) => H' t = some (.tup [kV q.1, q.2])) (g := fun x : Int × Int => ((Sum.inl x.1 : Key), V.int x.2)) pr)⟩
      · refine e z o ?_
        rw [upd_ne (ne_of_none hz nD)]
        exact s1 _ _ hz
      · cases hh : H p with
        | none => rfl
        | some w =>
          rw [upd_ne (ne_of_none hh nD), s1 _ _ hh] at np
          cases np
def sp_Book_depth (K : PySem.W.Frag) (CO CB CK : Addr) : Sp := fun vs H Q _ => ∃ (x dx sd st b d l : Addr) (last : Option Int) (next : Int) (es : List Ent) (s : Str), vs = [.ref x, .str s] ∧ BookSideAt CO CB CK H x dx sd st last next s b d l es ∧ Rank s es ∧
  ∀ D H' ts, Same H H' → H D = none → H' D = some (.lst (ts.map V.ref)) → Paired (fun (t : Addr) (q : Int × Int) => H' t = some (.tup [.int q.1, .int q.2])) ts (levF es) → Q (.ref D) H'
set_option maxHeartbeats 0 in
theorem ok_Book_depth (T : Txt K mg) : FnOk P w K mg base CX0 2 T.f_Book_depth T.d_Book_depth ["self", "side"] (sp_Book_depth K T.c_Order T.c_BookSide T.c_Book) := by
  refine T.F_Book_depth.ok sc_Book_depth (fun vs H Q E h => ?_) (fun cdv A outer s H vs Q E hr h => ?_)
  · obtain ⟨x, dx, sd, st, b, d, l, last, next, es, s, rfl, _⟩ := h
    rfl
  · obtain ⟨x, dx, sd, st, b, d, l, last, next, es, s, rfl, B, r, q⟩ := h
    have G_BookSide_depth : FnOk P w K mg base CX0 1 T.f_BookSide_depth T.d_BookSide_depth ["self"] (sp_BookSide_depth K T.c_Order T.c_BookSide) := ok_BookSide_depth T
    refine ⟨_, (pss_one (ps_ret (pe_meth0 (pe_dget (hu_of hr) (pe_fld (pv 0) rfl) (pv 1) (fun _ _ => rfl)) T.cl_BookSide T.mt_BookSide_depth G_BookSide_depth hr T.b_BookSide_depth .nil pass0))), ?_⟩
    have fact_BookSide_0 := T.cl_BookSide; have fact_BookSide_1 := T.na_BookSide__orders; have fact_Book_0 := T.cl_Book; have fact_Book_1 := T.na_Book_last; have fact_Book_2 := T.na_Book__next_number; have fact_Book_3 := T.na_Book__sides; have fact_Book_4 := T.na_Book__stops; have fact_Order_0 := T.cl_Order; have fact_Order_1 := T.na_Order_number; have fact_Order_2 := T.na_Order_house; have fact_Order_3 := T.na_Order_side; have fact_Order_4 := T.na_Order_price; have fact_Order_5 := T.na_Order_shown; have fact_Order_6 := T.na_Order_left; have fact_Order_7 := T.na_Order_visible
    have hob := B.ob
    have hsd := B.sd
    have S := B.sb
    have hb := S.ob
    unfold bookO at hob
    walk_at "st"
    exact ⟨es, s, rfl, S, r, q⟩

end DI
namespace LD
/-! ### a ledger -/
def genD {α : Type} (g : α → V) (l : List (Str × α)) : List (Key × V) := l.map fun y => (Sum.inr y.1, g y.2)
theorem val_gen {α : Type} (g : α → V) (s : Str) : ∀ l : List (Str × α), valV (genD g l) (Sum.inr s) = (l.find? fun y => decide (y.1 = s)).map fun y => g y.2
  | [] => rfl
  | y :: l => by
    unfold genD
    rw [List.map_cons, List.find?_cons]
    by_cases h : y.1 = s
    · rw [valV_pos (by rw [h]), decide_eq_true h]; rfl
    · rw [valV_neg (fun z => h (Sum.inr.inj z)), decide_eq_false h]
      exact val_gen g s l
theorem find_key {α : Type} {s : Str} : ∀ {l : List (Str × α)}, s ∈ l.map (·.1) → ∃ y, y ∈ l ∧ y.1 = s ∧ (l.find? fun y => decide (y.1 = s)) = some y
  | y :: l, h => by
    rw [List.find?_cons]
    by_cases z : y.1 = s
    · rw [decide_eq_true z]
      exact ⟨y, List.mem_cons_self, z, rfl⟩
    · rw [decide_eq_false z]
      rw [List.map_cons] at h
      obtain ⟨w, w1, w2, w3⟩ := find_key ((List.mem_cons.mp h).resolve_left fun e => z e.symm)
      exact ⟨w, List.mem_cons_of_mem _ w1, w2, w3⟩
theorem find_nokey {α : Type} {s : Str} : ∀ {l : List (Str × α)}, s ∉ l.map (·.1) → (l.find? fun y => decide (y.1 = s)) = none
  | [], _ => rfl
  | y :: l, h => by
    rw [List.map_cons] at h
    rw [List.find?_cons, decide_eq_false fun z => h (by rw [z]; exact List.mem_cons_self)]
    exact find_nokey fun z => h (List.mem_cons_of_mem _ z)
theorem put_gen {α : Type} (g : α → V) {l : List (Str × α)} {s : Str} (v : α) (h : s ∉ l.map (·.1)) : putK (genD g l) (Sum.inr s) (g v) = genD g (l ++ [(s, v)]) := by
  unfold putK
  have hn : ((genD g l).any fun kv => decide (kv.1 = Sum.inr s)) = false := by
    rw [List.any_eq_false]
    intro kv hkv
    obtain ⟨y, hy, rfl⟩ := List.mem_map.mp hkv
    intro z
    have z2 : (Sum.inr y.1 : Key) = Sum.inr s := of_decide_eq_true z
    exact h (List.mem_map.mpr ⟨y, hy, Sum.inr.inj z2⟩)
  rw [if_neg (by rw [hn]; exact Bool.false_ne_true)]
  unfold genD
  rw [List.map_append]
  rfl
def mayF (ms : List (Str × Bool)) (s : Str) : Bool := ((ms.find? fun y => decide (y.1 = s)).map (·.2)).getD false
theorem nodup_fst {α : Type} : ∀ {l : List (Str × α)} {a b : Str × α}, (l.map (·.1)).Nodup → a ∈ l → b ∈ l → a.1 = b.1 → a = b
  | y :: r, a, b, h, ha, hb, e => by
    rw [List.map_cons] at h
    obtain ⟨n1, n2⟩ := List.nodup_cons.mp h
    rcases List.mem_cons.mp ha with za | za
    · rcases List.mem_cons.mp hb with zb | zb
      · rw [za, zb]
      · exact absurd (List.mem_map.mpr ⟨b, zb, by rw [← e, za]⟩) n1
    · rcases List.mem_cons.mp hb with zb | zb
      · exact absurd (List.mem_map.mpr ⟨a, za, by rw [e, zb]⟩) n1
      · exact nodup_fst n2 za zb e
theorem nodup_snd {α β : Type} : ∀ {l : List (β × α)} {a b : β × α}, (l.map (·.2)).Nodup → a ∈ l → b ∈ l → a.2 = b.2 → a = b
  | y :: r, a, b, h, ha, hb, e => by
    rw [List.map_cons] at h
    obtain ⟨n1, n2⟩ := List.nodup_cons.mp h
    rcases List.mem_cons.mp ha with za | za
    · rcases List.mem_cons.mp hb with zb | zb
      · rw [za, zb]
      · exact absurd (List.mem_map.mpr ⟨b, zb, by rw [← e, za]⟩) n1
    · rcases List.mem_cons.mp hb with zb | zb
      · exact absurd (List.mem_map.mpr ⟨a, za, by rw [e, zb]⟩) n1
      · exact nodup_snd n2 za zb e
structure Led (C : Addr) (H : Hp) (x dx D1 D2 D3 L : Addr) (bs : List (Str × Int)) (ms : List (Str × Bool)) (ss : List (Str × Addr)) (rs : Str → List V) (en : List V) : Prop where
  ob : H x = some (.ins C dx [("_balances", .ref D1), ("_may_owe", .ref D2), ("_statements", .ref D3), ("_entries", .ref L)])
  b : H D1 = some (.dK (encD bs))
  m : H D2 = some (.dK (genD V.bl ms))
  s : H D3 = some (.dK (genD V.ref ss))
  e : H L = some (.lst en)
  st : ∀ y, y ∈ ss → H y.2 = some (.lst (rs y.1))
  km : ms.map (·.1) = keysS bs
  ks : ss.map (·.1) = keysS bs
  nd : (keysS bs).Nodup
  na : (ss.map (·.2)).Nodup
  nl : ∀ y, y ∈ ss → y.2 ≠ L
  ap : D1 ≠ D2 ∧ D1 ≠ D3 ∧ D2 ≠ D3
  sz : ∀ n, (rs n).length ≤ en.length
section
variable {C : Addr} {H H' : Hp} {x dx D1 D2 D3 L : Addr} {bs : List (Str × Int)} {ms : List (Str × Bool)} {ss : List (Str × Addr)} {rs : Str → List V} {en : List V}
/-- what of the heap a ledger is -/
def OutL (S x D1 D2 D3 L : Addr) (ss : List (Str × Addr)) : Prop := S ≠ x ∧ S ≠ D1 ∧ S ≠ D2 ∧ S ≠ D3 ∧ S ≠ L ∧ ∀ y, y ∈ ss → y.2 ≠ S
theorem Led.out (h : Led C H x dx D1 D2 D3 L bs ms ss rs en) {S : Addr} (n : H S = none) : OutL S x D1 D2 D3 L ss :=
  ⟨(ne_of_none h.ob n).symm, (ne_of_none h.b n).symm, (ne_of_none h.m n).symm, (ne_of_none h.s n).symm, (ne_of_none h.e n).symm, fun y hy => ne_of_none (h.st y hy) n⟩
theorem Led.keep (h : Led C H x dx D1 D2 D3 L bs ms ss rs en) {S : Addr} (o : OutL S x D1 D2 D3 L ss) (k : KeepX S H H') : Led C H' x dx D1 D2 D3 L bs ms ss rs en :=
  ⟨k _ _ o.1.symm h.ob, k _ _ o.2.1.symm h.b, k _ _ o.2.2.1.symm h.m, k _ _ o.2.2.2.1.symm h.s, k _ _ o.2.2.2.2.1.symm h.e, fun y hy => k _ _ (o.2.2.2.2.2 y hy) (h.st y hy), h.km, h.ks, h.nd, h.na, h.nl, h.ap, h.sz⟩
theorem Led.same (h : Led C H x dx D1 D2 D3 L bs ms ss rs en) (e : Same H H') : Led C H' x dx D1 D2 D3 L bs ms ss rs en :=
  ⟨e _ _ h.ob, e _ _ h.b, e _ _ h.m, e _ _ h.s, e _ _ h.e, fun y hy => e _ _ (h.st y hy), h.km, h.ks, h.nd, h.na, h.nl, h.ap, h.sz⟩
/-- a balance is set -/
theorem Led.bal (h : Led C H x dx D1 D2 D3 L bs ms ss rs en) {n : Str} {v : Int} (hn : n ∈ keysS bs) : Led C (upd H D1 (.dK (encD (putS bs n v)))) x dx D1 D2 D3 L (putS bs n v) ms ss rs en := by
  have hk : keysS (putS bs n v) = keysS bs := by rw [keys_put]; unfold addK; rw [if_pos hn]
  refine ⟨(upd_ne fun z => ?_).trans h.ob, upd_same, (upd_ne h.ap.1.symm).trans h.m, (upd_ne h.ap.2.1.symm).trans h.s, (upd_ne fun z => ?_).trans h.e, fun y hy => (upd_ne fun z => ?_).trans (h.st y hy), by rw [hk]; exact h.km, by rw [hk]; exact h.ks, by rw [hk]; exact h.nd, h.na, h.nl, h.ap, h.sz⟩
  · have := h.ob; rw [z, h.b] at this; cases this
  · have := h.e; rw [z, h.b] at this; cases this
  · have := h.st y hy; rw [z, h.b] at this; cases this
/-- a row is written behind a statement -/
theorem Led.row (h : Led C H x dx D1 D2 D3 L bs ms ss rs en) {y : Str × Addr} (hy : y ∈ ss) {v : V} (hl : (rs y.1).length + 1 ≤ en.length) : Led C (upd H y.2 (.lst (rs y.1 ++ [v]))) x dx D1 D2 D3 L bs ms ss (fun n => if n = y.1 then rs n ++ [v] else rs n) en := by
  have hst := h.st y hy
  refine ⟨(upd_ne fun z => ?_).trans h.ob, (upd_ne fun z => ?_).trans h.b, (upd_ne fun z => ?_).trans h.m, (upd_ne fun z => ?_).trans h.s, (upd_ne fun z => (h.nl y hy z.symm)).trans h.e, fun w hw => ?_, h.km, h.ks, h.nd, h.na, h.nl, h.ap, fun n => ?_⟩
  · have := h.ob; rw [z, hst] at this; cases this
  · have := h.b; rw [z, hst] at this; cases this
  · have := h.m; rw [z, hst] at this; cases this
  · have := h.s; rw [z, hst] at this; cases this
  · by_cases e : w.1 = y.1
    · have ew : w = y := by
        have hnd : (ss.map (·.1)).Nodup := by rw [h.ks]; exact h.nd
        exact nodup_fst hnd hw hy e
      rw [ew, if_pos rfl]
      exact upd_same
    · rw [if_neg e]
      refine (upd_ne fun z => e ?_).trans (h.st w hw)
      exact congrArg Prod.fst (nodup_snd h.na hw hy z)
  · show (if n = y.1 then rs n ++ [v] else rs n).length ≤ _
    split
    · next e => rw [e, List.length_append]; exact hl
    · exact h.sz n
/-- an entry is written -/
theorem Led.entry (h : Led C H x dx D1 D2 D3 L bs ms ss rs en) (v : V) : Led C (upd H L (.lst (en ++ [v]))) x dx D1 D2 D3 L bs ms ss rs (en ++ [v]) := by
  refine ⟨(upd_ne fun z => ?_).trans h.ob, (upd_ne fun z => ?_).trans h.b, (upd_ne fun z => ?_).trans h.m, (upd_ne fun z => ?_).trans h.s, upd_same, fun y hy => (upd_ne (h.nl y hy)).trans (h.st y hy), h.km, h.ks, h.nd, h.na, h.nl, h.ap, fun n => ?_⟩
  · have := h.ob; rw [z, h.e] at this; cases this
  · have := h.b; rw [z, h.e] at this; cases this
  · have := h.m; rw [z, h.e] at this; cases this
  · have := h.s; rw [z, h.e] at this; cases this
  · rw [List.length_append]
    exact Nat.le_succ_of_le (h.sz n)
end
/-! ### the sums of an entry -/
def encMv (m : Str × V) : List V := [.str m.1, m.2]
def stepS (ks : List Str) (d : List (Str × Int)) (m : Str × V) : Except Bool (List (Str × Int)) := if m.1 ∈ ks then (match m.2 with | .int i => .ok (putS d m.1 (gD d m.1 + i)) | _ => .error true) else .error false
def scanS (ks : List Str) : List (Str × V) → List (Str × Int) → Except Bool (List (Str × Int))
  | [], d => .ok d
  | m :: r, d => match stepS ks d m with
    | .ok d' => scanS ks r d'
    | .error e => .error e
theorem scanS_app (ks : List Str) : ∀ (a b : List (Str × V)) (d : List (Str × Int)), scanS ks (a ++ b) d = match scanS ks a d with | .ok d' => scanS ks b d' | .error e => .error e
  | [], b, d => rfl
  | m :: a, b, d => by
    show (match stepS ks d m with | .ok d' => scanS ks (a ++ b) d' | .error e => .error e) = match (match stepS ks d m with | .ok d' => scanS ks a d' | .error e => .error e) with | .ok d' => scanS ks b d' | .error e => .error e
    cases stepS ks d m with
    | ok d' => exact scanS_app ks a b d'
    | error e => rfl
theorem scanS_keys {ks : List Str} : ∀ {mv : List (Str × V)} {d d' : List (Str × Int)}, scanS ks mv d = .ok d' → (∀ k, k ∈ keysS d → k ∈ ks) → (keysS d).Nodup → (∀ k, k ∈ keysS d' → k ∈ ks) ∧ (keysS d').Nodup ∧ d'.length ≤ d.length + mv.length
  | [], d, d', h, h1, h2 => by
    cases h
    exact ⟨h1, h2, Nat.le_refl _⟩
  | m :: r, d, d', h, h1, h2 => by
    change (match stepS ks d m with | .ok d' => scanS ks r d' | .error e => .error e) = _ at h
    unfold stepS at h
    by_cases hm : m.1 ∈ ks
    · rw [if_pos hm] at h
      split at h
      · next e he =>
        split at he
        · next i hi =>
          cases he
          have hk := keys_put d m.1 (gD d m.1 + i)
          have ih := scanS_keys h (fun k hk2 => by
            rw [hk] at hk2
            rcases addK_mem.mp hk2 with z | z
            · exact h1 k z
            · rw [z]
              exact hm) (by rw [hk]; exact addK_nodup h2)
          refine ⟨ih.1, ih.2.1, ?_⟩
          have l1 : (putS d m.1 (gD d m.1 + i)).length ≤ d.length + 1 := by
            have := addK_len (keysS d) m.1
            rw [← hk] at this
            unfold keysS at this
            rw [List.length_map, List.length_map] at this
            exact this
          have := ih.2.2
          rw [List.length_cons]
          omega
        · cases he
      · cases h
    · rw [if_neg hm] at h
      cases h

theorem paired_snoc {α β : Type} {F : α → β → Prop} : ∀ {xs : List α} {ys : List β} {x : α} {y : β}, Paired F xs ys → F x y → Paired F (xs ++ [x]) (ys ++ [y])
  | [], [], _, _, _, h => .cons h .nil
  | _ :: _, _ :: _, _, _, .cons a b, h => .cons a (paired_snoc b h)
  | [], _ :: _, _, _, h, _ => by cases h
  | _ :: _, [], _, _, h, _ => by cases h
theorem paired_imp {α β : Type} {F G : α → β → Prop} (k : ∀ a b, F a b → G a b) : ∀ {xs : List α} {ys : List β}, Paired F xs ys → Paired G xs ys
  | [], [], _ => .nil
  | _ :: _, _ :: _, .cons a b => .cons (k _ _ a) (paired_imp k b)
  | [], _ :: _, h => by cases h
  | _ :: _, [], h => by cases h
theorem KeepX.free {x z : Addr} {H H' : Hp} (k : KeepX x H H') (nz : z ≠ x) (n : H' z = none) : H z = none := by
  cases h : H z with
  | none => rfl
  | some v => rw [k z v nz h] at n; cases n
def sp_is_integral (K : PySem.W.Frag) : Sp := fun vs H Q _ => ∃ v : V, vs = [v] ∧ (∀ i : Int, v = .int i → Q (.bl true) H) ∧ (∀ b : Bool, v = .bl b → Q (.bl false) H) ∧ ((∃ i : Int, v = .int i) ∨ ∃ b : Bool, v = .bl b)
set_option maxHeartbeats 0 in
theorem ok_is_integral (T : Txt K mg) : FnOk P w K mg base CX0 1 T.f_is_integral T.d_is_integral ["value"] (sp_is_integral K) := by
  refine T.F_is_integral.ok sc_is_integral (fun vs H Q E h => ?_) (fun cdv A outer s H vs Q E hr h => ?_)
  · obtain ⟨v, rfl, _⟩ := h
    rfl
  · obtain ⟨v, rfl, qi, qb, hv⟩ := h
    refine ⟨_, (pss_one (ps_ret (pe_and (pe_callB call_isi (by rfl) T.z_isinstance (by decide +kernel) (pa_cons (pv 0) (pa_cons (pe_bltn (v := .ty "int") (u := .type "int") (by rfl) T.z_int (by decide +kernel) rfl) pa_nil))) (pe_one (pe_not (pe_callB call_isi (by rfl) T.z_isinstance (by decide +kernel) (pa_cons (pv 0) (pa_cons (pe_bltn (v := .ty "bool") (u := .type "bool") (by rfl) T.z_bool (by decide +kernel) rfl) pa_nil)))))))), ?_⟩
    rcases hv with ⟨i, rfl⟩ | ⟨b, rfl⟩
    · refine ⟨_, rfl, ?_⟩
      refine ⟨_, _, _, _, true, rfl, .ty _, .base (.int _), kit_ty (by decide +kernel), ?_⟩
      refine ⟨true, rfl, iteT ?_⟩
      refine ⟨_, rfl, ?_⟩
      refine ⟨_, _, _, _, false, rfl, .ty _, .base (.int _), kit_ty (by decide +kernel), ?_⟩
      refine ⟨false, rfl, ?_⟩
      exact qi i rfl
    · refine ⟨_, rfl, ?_⟩
      refine ⟨_, _, _, _, true, rfl, .ty _, .base (.bl _), kit_ty (by decide +kernel), ?_⟩
      refine ⟨true, rfl, iteT ?_⟩
      refine ⟨_, rfl, ?_⟩
      refine ⟨_, _, _, _, true, rfl, .ty _, .base (.bl _), kit_ty (by decide +kernel), ?_⟩
      refine ⟨true, rfl, ?_⟩
      exact qb b rfl
def sp_Ledger_init (K : PySem.W.Frag) (C : Addr) : Sp := fun vs H Q _ => ∃ x dx : Addr, vs = [.ref x] ∧ H x = some (.ins C dx []) ∧ ∀ D1 D2 D3 L H', Led C H' x dx D1 D2 D3 L [] [] [] (fun _ => []) [] → KeepX x H H' → (H D1 = none ∧ H D2 = none ∧ H D3 = none) → H L = none → Q .non H'
set_option maxHeartbeats 0 in
theorem ok_Ledger_init (T : Txt K mg) : FnOk P w K mg base CX0 1 T.f_Ledger_init T.d_Ledger_init ["self"] (sp_Ledger_init K T.c_Ledger) := by
  refine T.F_Ledger_init.ok sc_Ledger_init (fun vs H Q E h => ?_) (fun cdv A outer s H vs Q E hr h => ?_)
  · obtain ⟨x, dx, rfl, _⟩ := h
    rfl
  · obtain ⟨x, dx, rfl, hx, q⟩ := h
    
    refine ⟨_, (pss_cons (ps_fld (pv 0) pe_dnewK rfl)
    (pss_cons (ps_fld (pv 0) pe_dnewK rfl)
    (pss_cons (ps_fld (pv 0) pe_dnewK rfl)
    (pss_one (ps_fld (pv 0) (pe_lst pa_nil) rfl))))), ?_⟩
    have fact_Ledger_0 := T.cl_Ledger; have fact_Ledger_1 := T.na_Ledger__balances; have fact_Ledger_2 := T.na_Ledger__may_owe; have fact_Ledger_3 := T.na_Ledger__statements; have fact_Ledger_4 := T.na_Ledger__entries
    walk_at "st"
    intro D1 n1
    have x1 : x ≠ D1 := ne_of_none hx n1
    have k1 := keepX_of (x := x) (same_upd (o := .dK []) n1)
    have hx1 : upd H D1 (.dK []) x = some (.ins T.c_Ledger dx []) := (upd_ne x1).trans hx
    have d1 : upd H D1 (.dK []) D1 = some (.dK (encD [])) := upd_same
    generalize upd H D1 (.dK []) = H1 at *
    refine ⟨_, rfl, setF hx1 T.cl_Ledger T.na_Ledger__balances rfl ?_⟩
    have k2 := k1.set (o := .ins T.c_Ledger dx (putF "_balances" (.ref D1) []))
    have hx2 : upd H1 x (.ins T.c_Ledger dx (putF "_balances" (.ref D1) [])) x = some (.ins T.c_Ledger dx [("_balances", .ref D1)]) := upd_same
    have d1' := (upd_ne (o := .ins T.c_Ledger dx (putF "_balances" (.ref D1) [])) x1.symm).trans d1
    generalize upd H1 x _ = H2 at *
    walk_at "st"
    intro D2 n2
    have x2 : x ≠ D2 := ne_of_none hx2 n2
    have d12 : D1 ≠ D2 := ne_of_none d1' n2
    have k3 := k2.then (same_upd (o := .dK []) n2)
    have hx3 : upd H2 D2 (.dK []) x = some (.ins T.c_Ledger dx [("_balances", .ref D1)]) := (upd_ne x2).trans hx2
    have d13 := (upd_ne (o := .dK []) d12).trans d1'
    have d23 : upd H2 D2 (.dK []) D2 = some (.dK (genD V.bl [])) := upd_same
    generalize upd H2 D2 (.dK []) = H3 at *
    refine ⟨_, rfl, setF hx3 T.cl_Ledger T.na_Ledger__may_owe rfl ?_⟩
    have k4 := k3.set (o := .ins T.c_Ledger dx (putF "_may_owe" (.ref D2) [("_balances", .ref D1)]))
    have hx4 : upd H3 x (.ins T.c_Ledger dx (putF "_may_owe" (.ref D2) [("_balances", .ref D1)])) x = some (.ins T.c_Ledger dx [("_balances", .ref D1), ("_may_owe", .ref D2)]) := upd_same
    have d14 := (upd_ne (o := .ins T.c_Ledger dx (putF "_may_owe" (.ref D2) [("_balances", .ref D1)])) x1.symm).trans d13
    have d24 := (upd_ne (o := .ins T.c_Ledger dx (putF "_may_owe" (.ref D2) [("_balances", .ref D1)])) x2.symm).trans d23
    generalize upd H3 x _ = H4 at *
    walk_at "st"
    intro D3 n3
    have x3 : x ≠ D3 := ne_of_none hx4 n3
    have e13 : D1 ≠ D3 := ne_of_none d14 n3
    have e23 : D2 ≠ D3 := ne_of_none d24 n3
    have k5 := k4.then (same_upd (o := .dK []) n3)
    have hx5 : upd H4 D3 (.dK []) x = some (.ins T.c_Ledger dx [("_balances", .ref D1), ("_may_owe", .ref D2)]) := (upd_ne x3).trans hx4
    have d15 := (upd_ne (o := .dK []) e13).trans d14
    have d25 := (upd_ne (o := .dK []) e23).trans d24
    have d35 : upd H4 D3 (.dK []) D3 = some (.dK (genD V.ref [])) := upd_same
    generalize upd H4 D3 (.dK []) = H5 at *
    refine ⟨_, rfl, setF hx5 T.cl_Ledger T.na_Ledger__statements rfl ?_⟩
    have k6 := k5.set (o := .ins T.c_Ledger dx (putF "_statements" (.ref D3) [("_balances", .ref D1), ("_may_owe", .ref D2)]))
    have hx6 : upd H5 x (.ins T.c_Ledger dx (putF "_statements" (.ref D3) [("_balances", .ref D1), ("_may_owe", .ref D2)])) x = some (.ins T.c_Ledger dx [("_balances", .ref D1), ("_may_owe", .ref D2), ("_statements", .ref D3)]) := upd_same
    have d16 := (upd_ne (o := .ins T.c_Ledger dx (putF "_statements" (.ref D3) [("_balances", .ref D1), ("_may_owe", .ref D2)])) x1.symm).trans d15
    have d26 := (upd_ne (o := .ins T.c_Ledger dx (putF "_statements" (.ref D3) [("_balances", .ref D1), ("_may_owe", .ref D2)])) x2.symm).trans d25
    have d36 := (upd_ne (o := .ins T.c_Ledger dx (putF "_statements" (.ref D3) [("_balances", .ref D1), ("_may_owe", .ref D2)])) x3.symm).trans d35
    generalize upd H5 x _ = H6 at *
    walk_at "st"
    intro L nL
    have xL : x ≠ L := ne_of_none hx6 nL
    have k7 := k6.then (same_upd (o := .lst []) nL)
    have sL := same_upd (o := .lst []) nL
    have hx7 := sL _ _ hx6
    have d17 := sL _ _ d16
    have d27 := sL _ _ d26
    have d37 := sL _ _ d36
    have l7 : upd H6 L (.lst []) L = some (.lst []) := upd_same
    generalize upd H6 L (.lst []) = H7 at *
    refine ⟨_, rfl, setF hx7 T.cl_Ledger T.na_Ledger__entries rfl ?_⟩
    refine q D1 D2 D3 L _ ⟨upd_same, (upd_ne x1.symm).trans d17, (upd_ne x2.symm).trans d27, (upd_ne x3.symm).trans d37, (upd_ne xL.symm).trans l7, fun y hy => (by cases hy), rfl, rfl, List.nodup_nil, List.nodup_nil, fun y hy => (by cases hy), ⟨d12, e13, e23⟩, fun _ => Nat.le_refl _⟩ k7.set ⟨n1, LD.KeepX.free k2 x2.symm n2, LD.KeepX.free k4 x3.symm n3⟩ (LD.KeepX.free k6 xL.symm nL)
def sp_Ledgercheck_account (K : PySem.W.Frag) (CU C : Addr) : Sp := fun vs H Q E => ∃ (x dx D1 D2 D3 L : Addr) (bs : List (Str × Int)) (ms : List (Str × Bool)) (ss : List (Str × Addr)) (rs : Str → List V) (en : List V) (n : Str), vs = [.ref x, .str n] ∧ Led C H x dx D1 D2 D3 L bs ms ss rs en ∧ (n ∈ keysS bs → Q .non H) ∧ (n ∉ keysS bs → E (.ref CU) none H)
set_option maxHeartbeats 0 in
theorem ok_Ledgercheck_account (T : Txt K mg) : FnOk P w K mg base (L2.CX P w) 1 T.f_Ledgercheck_account T.d_Ledgercheck_account ["self", "name"] (sp_Ledgercheck_account K T.c_UnknownName T.c_Ledger) := by
  refine T.F_Ledgercheck_account.okX sc_Ledgercheck_account (fun vs H Q E h => ?_) (fun cdv A outer s H vs Q E hr h => ?_)
  · obtain ⟨x, dx, D1, D2, D3, L, bs, ms, ss, rs, en, n, rfl, _⟩ := h
    rfl
  · obtain ⟨x, dx, D1, D2, D3, L, bs, ms, ss, rs, en, n, rfl, B, q, qu⟩ := h
    
    refine ⟨_, (pss_one (ps_if (pt_cmp (pc_dnotin (hu_of hr) (pv 1) (pe_fld (pv 0) rfl)))
      (pss_one (ps_raise rfl (takes_of rfl rfl rfl rfl) (pmk_own PySem.F.excBase_ValueError T.x_UnknownName T.m_UnknownName T.k_UnknownName (raises_own T.b_UnknownName T.t_UnknownName) (by rfl))))
      pss_nil)), ?_⟩
    have fact_Ledger_0 := T.cl_Ledger; have fact_Ledger_1 := T.na_Ledger__balances; have fact_Ledger_2 := T.na_Ledger__may_owe; have fact_Ledger_3 := T.na_Ledger__statements; have fact_Ledger_4 := T.na_Ledger__entries
    have hob := B.ob
    walk_at "st"
    refine ⟨_, rfl, DGet.k (k := Sum.inr n) B.b, ?_⟩
    rw [valV_enc]
    have hm := get_mem n bs
    cases hg : getS bs n with
    | none =>
      rw [hg] at hm
      have hn : n ∉ keysS bs := fun z => by rw [decide_eq_true z] at hm; cases hm
      walk_at "st"
      exact qu hn
    | some i =>
      rw [hg] at hm
      have hn : n ∈ keysS bs := of_decide_eq_true hm.symm
      walk_at "st"
      exact q hn
def sp_Ledgersums (K : PySem.W.Frag) (CU CA C : Addr) : Sp := fun vs H Q E => ∃ (x dx D1 D2 D3 L a : Addr) (bs : List (Str × Int)) (ms : List (Str × Bool)) (ss : List (Str × Addr)) (rs : Str → List V) (en : List V) (ps : List Addr) (mv : List (Str × V)), vs = [.ref x, .ref a] ∧ Led C H x dx D1 D2 D3 L bs ms ss rs en ∧ Tups encMv H a ps mv ∧ (∀ m, m ∈ mv → (∃ i : Int, m.2 = .int i) ∨ ∃ b : Bool, m.2 = .bl b) ∧ mv.length ≤ 800 ∧
  (scanS (keysS bs) mv [] = .error false → ∀ H', Same H H' → E (.ref CU) none H') ∧ (scanS (keysS bs) mv [] = .error true → ∀ H', Same H H' → E (.ref CA) none H') ∧ (∀ d S H', scanS (keysS bs) mv [] = .ok d → Same H H' → H S = none → H' S = some (.dK (encD d)) → Q (.ref S) H')
set_option maxHeartbeats 0 in
theorem ok_Ledgersums (T : Txt K mg) : FnOk P w K mg base (L2.CX P w) 2 T.f_Ledgersums T.d_Ledgersums ["self", "moves"] (sp_Ledgersums K T.c_UnknownName T.c_InvalidAmount T.c_Ledger) := by
  refine T.F_Ledgersums.okX sc_Ledgersums (fun vs H Q E h => ?_) (fun cdv A outer s H vs Q E hr h => ?_)
  · obtain ⟨x, dx, D1, D2, D3, L, a, bs, ms, ss, rs, en, ps, mv, rfl, _⟩ := h
    rfl
  · obtain ⟨x, dx, D1, D2, D3, L, a, bs, ms, ss, rs, en, ps, mv, rfl, B, hT, hfl, hln, qu, qa, q⟩ := h
    have G_Ledgercheck_account : FnOk P w K mg base (L2.CX P w) 1 T.f_Ledgercheck_account T.d_Ledgercheck_account ["self", "name"] (sp_Ledgercheck_account K T.c_UnknownName T.c_Ledger) := ok_Ledgercheck_account T
    have G_is_integral : FnOk P w K mg base CX0 1 T.f_is_integral T.d_is_integral ["value"] (sp_is_integral K) := ok_is_integral T
    refine ⟨_, (pss_cons (ps_set (i := 2) sc_Ledgersums.nd rfl (Or.inl rfl) pe_dnewK)
    (pss_cons (ps_for (passes_of rfl) rfl (pi_list (pv 1)) (pg_tup rfl (pgs_cons (pg_name (i := 3) sc_Ledgersums.nd rfl (Or.inl rfl)) (pgs_cons (pg_name (i := 4) sc_Ledgersums.nd rfl (Or.inl rfl)) pgs_nil)))
      (pss_cons (ps_expr (pe_mx (pv 0) T.cl_Ledger T.mt_Ledgercheck_account G_Ledgercheck_account hr T.b_Ledgercheck_account .nil (fun σ => passAt (takes_of rfl rfl rfl rfl) σ) (pa_cons (pv 3) pa_nil)))
      (pss_cons (ps_if (pt_not (pt_val (pe_call G_is_integral hr (by rfl) T.m_is_integral T.F_is_integral.kp T.b_is_integral .nil pass0 (pa_cons (pv 4) pa_nil))))
        (pss_one (ps_raise rfl (takes_of rfl rfl rfl rfl) (pmk_own PySem.F.excBase_ValueError T.x_InvalidAmount T.m_InvalidAmount T.k_InvalidAmount (raises_own T.b_InvalidAmount T.t_InvalidAmount) (by rfl))))
        pss_nil)
      (pss_one (ps_dput (hu_of hr) (pv 2) (pv 3) (pe_op op_add (pe_dget2 (hu_of hr) (pv 2) (pv 3) pe_int ⟨rfl, rfl, rfl, rfl⟩) (pv 4)) rfl)))))
    (pss_one (ps_ret (pv 2))))), ?_⟩
    have fact_Ledger_0 := T.cl_Ledger; have fact_Ledger_1 := T.na_Ledger__balances; have fact_Ledger_2 := T.na_Ledger__may_owe; have fact_Ledger_3 := T.na_Ledger__statements; have fact_Ledger_4 := T.na_Ledger__entries
    walk_at "st"
    intro S nS
    generalize hH1 : upd H S _ = H1
    have s1 : Same H H1 := hH1 ▸ same_upd nS
    have hS : H1 S = some (.dK (encD [])) := (congrFun hH1 S).symm.trans upd_same
    have B1 := B.same s1
    have hT1 := hT.same s1
    have ha1 := SqL.of (K := K) hT1.lst
    have oS := B.out nS
    walk_at "st"
    have key : ∀ i, i ≤ mv.length → ∀ d, scanS (keysS bs) (mv.take i) [] = .ok d → d.length ≤ 800 := fun i hi d hd => by
      have := (scanS_keys hd (fun k hk => by cases hk) List.nodup_nil).2.2
      rw [List.length_take] at this
      have h0 : ([] : List (Str × Int)).length = 0 := rfl
      omega
    refine for_list (K := K) (a := a) (xs := ps.map V.ref) (fun i σ H' => ∃ (v3 v4 : Option V) (d : List (Str × Int)), σ = [some (.ref x), some (.ref a), some (.ref S), v3, v4] ∧ Same H H' ∧ H' S = some (.dK (encD d)) ∧ scanS (keysS bs) (mv.take i) [] = .ok d)
      ⟨none, none, [], rfl, s1, hS, rfl⟩ (fun i σ H' _ ⟨_, _, _, _, e, _⟩ => e.seq (SqL.of hT.lst)) ?_ ?_
    · rintro i y σ H' hy ⟨v3, v4, d, rfl, e1, hS', hsc⟩
      obtain ⟨p, m, hp, hmi, rfl, hpr⟩ := (hT.same e1).item hy
      have hi := (List.getElem?_eq_some_iff.mp hmi).1
      have hps : SqT K H' p [.str m.1, m.2] := SqT.of hpr
      have B' := B.same e1
      have hob' := B'.ob
      have hap := scanS_app (keysS bs) (mv.take i) (mv.drop i) []
      have hdr : mv.drop i = m :: mv.drop (i + 1) := by rw [List.drop_eq_getElem_cons hi, (List.getElem?_eq_some_iff.mp hmi).2]
      rw [List.take_append_drop, hsc, hdr] at hap
      change scanS (keysS bs) mv [] = (match stepS (keysS bs) d m with | .ok d' => scanS (keysS bs) (mv.drop (i + 1)) d' | .error e => .error e) at hap
      have hap2 := scanS_app (keysS bs) (mv.take i) [m] []
      rw [hsc] at hap2
      change scanS (keysS bs) (mv.take i ++ [m]) [] = (match stepS (keysS bs) d m with | .ok d' => .ok d' | .error e => .error e) at hap2
      have hdl := key i (by omega) d hsc
      have hdD := isD_enc hS'
      have hmf := hfl m (List.mem_of_getElem? hmi)
      have htk := take_succ hmi
      obtain ⟨mn, mval⟩ := m
      unfold encMv at hps
      unfold stepS at hap hap2
      dsimp only at hmf hps hap hap2
      walk_at "st"
      refine ⟨bs, ms, ss, rs, en, mn, rfl, B', fun hn => ?_, fun hn => ?_⟩
      · rw [if_pos hn] at hap hap2
        walk_at "st"
        rcases hmf with ⟨z, rfl⟩ | ⟨b, rfl⟩
        · refine ⟨fun i' e => ?_, fun b e => (by cases e), .inl ⟨z, rfl⟩⟩
          obtain rfl := V.int.inj e
          walk_at "st"
          refine dget_go hS' ?_
          rw [getD_int]
          walk_at "st"
          refine dput_go hS' (by omega) ?_
          refine ⟨_, _, putS d mn (gD d mn + z), rfl, fun w o hw => ?_, upd_same, ?_⟩
          · rw [upd_ne (ne_of_none hw nS)]
            exact e1 _ _ hw
          · rw [htk]
            exact hap2
        · refine ⟨fun i' e => (by cases e), fun b e => ?_, .inr ⟨b, rfl⟩⟩
          walk_at "st"
          exact qa hap _ e1
      · rw [if_neg hn] at hap
        exact qu hap _ e1
    · rintro σ H' ⟨v3, v4, d, rfl, e1, hS', hsc⟩
      rw [List.length_map, hT.len, List.take_of_length_le (Nat.le_refl _)] at hsc
      walk_at "st"
      exact q d S H' hsc e1 nS hS'
/-! ### what an entry may do -/
def overF (bs : List (Str × Int)) (ms : List (Str × Bool)) (d : List (Str × Int)) : Bool := d.any fun y => decide (gD bs y.1 + y.2 < 0) && !mayF ms y.1
theorem items_at {d : List (Str × Int)} {i : Nat} {k : Key} {v : V} (h : (encD d)[i]? = some (k, v)) : ∃ y, d[i]? = some y ∧ k = Sum.inr y.1 ∧ v = .int y.2 := by
  unfold encD at h
  rw [List.getElem?_map] at h
  cases e : d[i]? with
  | none => rw [e] at h; cases h
  | some y =>
    rw [e] at h
    have h2 := Option.some.inj h
    exact ⟨y, rfl, (congrArg Prod.fst h2).symm, (congrArg Prod.snd h2).symm⟩
theorem Led.mayat {C : Addr} {H : Hp} {x dx D1 D2 D3 L : Addr} {bs : List (Str × Int)} {ms : List (Str × Bool)} {ss : List (Str × Addr)} {rs : Str → List V} {en : List V} (h : Led C H x dx D1 D2 D3 L bs ms ss rs en) {n : Str} (hn : n ∈ keysS bs) : DGet H D2 (.str n) (some (.bl (mayF ms n))) := by
  obtain ⟨y, y1, y2, y3⟩ := find_key (s := n) (l := ms) (by rw [h.km]; exact hn)
  have := DGet.k (k := Sum.inr n) h.m
  rw [val_gen, y3] at this
  unfold mayF
  rw [y3]
  exact this
theorem Led.stat {C : Addr} {H : Hp} {x dx D1 D2 D3 L : Addr} {bs : List (Str × Int)} {ms : List (Str × Bool)} {ss : List (Str × Addr)} {rs : Str → List V} {en : List V} (h : Led C H x dx D1 D2 D3 L bs ms ss rs en) {n : Str} (hn : n ∈ keysS bs) : ∃ y, y ∈ ss ∧ y.1 = n ∧ DGet H D3 (.str n) (some (.ref y.2)) := by
  obtain ⟨y, y1, y2, y3⟩ := find_key (s := n) (l := ss) (by rw [h.ks]; exact hn)
  have := DGet.k (k := Sum.inr n) h.s
  rw [val_gen, y3] at this
  exact ⟨y, y1, y2, this⟩
def sp_Ledgercheck_sums (K : PySem.W.Frag) (CB CO C : Addr) : Sp := fun vs H Q E => ∃ (x dx D1 D2 D3 L S : Addr) (bs : List (Str × Int)) (ms : List (Str × Bool)) (ss : List (Str × Addr)) (rs : Str → List V) (en : List V) (d : List (Str × Int)), vs = [.ref x, .ref S] ∧ Led C H x dx D1 D2 D3 L bs ms ss rs en ∧ H S = some (.dK (encD d)) ∧ OutL S x D1 D2 D3 L ss ∧ (∀ k, k ∈ keysS d → k ∈ keysS bs) ∧
  ((d.map (·.2)).sum ≠ 0 → E (.ref CB) none H) ∧ ((d.map (·.2)).sum = 0 → overF bs ms d = true → ∀ H', KeepX S H H' → E (.ref CO) none H') ∧ ((d.map (·.2)).sum = 0 → overF bs ms d = false → ∀ H', Same H H' → Q .non H')
set_option maxHeartbeats 0 in
theorem ok_Ledgercheck_sums (T : Txt K mg) : FnOk P w K mg base (L2.CX P w) 1 T.f_Ledgercheck_sums T.d_Ledgercheck_sums ["self", "sums"] (sp_Ledgercheck_sums K T.c_Unbalanced T.c_Overdrawn T.c_Ledger) := by
  refine T.F_Ledgercheck_sums.okX sc_Ledgercheck_sums (fun vs H Q E h => ?_) (fun cdv A outer s H vs Q E hr h => ?_)
  · obtain ⟨x, dx, D1, D2, D3, L, S, bs, ms, ss, rs, en, d, rfl, _⟩ := h
    rfl
  · obtain ⟨x, dx, D1, D2, D3, L, S, bs, ms, ss, rs, en, d, rfl, B, hS, oS, hks, qb, qo, q⟩ := h
    
    refine ⟨_, (pss_cons (ps_if (pt_cmpR op_ne (pe_sumVals rfl (by rfl) T.z_sum (pv 1)) pe_int (nomark _))
      (pss_one (ps_raise rfl (takes_of rfl rfl rfl rfl) (pmk_own PySem.F.excBase_ValueError T.x_Unbalanced T.m_Unbalanced T.k_Unbalanced (raises_own T.b_Unbalanced T.t_Unbalanced) (by rfl))))
      pss_nil)
    (pss_one (ps_lock (ps_for (passes_of rfl) rfl (pi_items (pv 1)) (pg_tup rfl (pgs_cons (pg_name (i := 2) sc_Ledgercheck_sums.nd rfl (Or.inl rfl)) (pgs_cons (pg_name (i := 3) sc_Ledgercheck_sums.nd rfl (Or.inl rfl)) pgs_nil)))
      (pss_one (ps_if (PW.pt (pw_and (pt_cmpR op_lt (pe_op op_add (pe_dget (hu_of hr) (pe_fld (pv 0) rfl) (pv 2) (fun _ _ => rfl)) (pv 3)) pe_int (nomark _)) (pw_and1 (pt_not (pt_val (pe_dget (hu_of hr) (pe_fld (pv 0) rfl) (pv 2) (fun _ _ => rfl)))))))
        (pss_one (ps_raise rfl (takes_of rfl rfl rfl rfl) (pmk_own PySem.F.excBase_ValueError T.x_Overdrawn T.m_Overdrawn T.k_Overdrawn (raises_own T.b_Overdrawn T.t_Overdrawn) (by rfl))))
        pss_nil)))))), ?_⟩
    have fact_Ledger_0 := T.cl_Ledger; have fact_Ledger_1 := T.na_Ledger__balances; have fact_Ledger_2 := T.na_Ledger__may_owe; have fact_Ledger_3 := T.na_Ledger__statements; have fact_Ledger_4 := T.na_Ledger__entries
    have hsv : (encD d).map (·.2) = (d.map (·.2)).map V.int := by
      unfold encD
      rw [List.map_map, List.map_map]
      rfl
    walk_at "st"
    refine ⟨encD d, d.map (·.2), rfl, hS, hsv, ?_⟩
    walk_at "st"
    refine iteB (fun h => qb fun z => ?_) (fun h => ?_)
    · rw [z] at h
      cases h
    · have hz : (d.map (·.2)).sum = 0 := V.int.inj (ndec_f h)
      walk_at "st"
      refine ⟨_, hS, trivial, fun od => ?_⟩
      walk_at "st"
      refine ⟨_, _, rfl, upd_same, ?_⟩
      refine for_it (walk_items (d := S) (o := od) (kvs := encD d)) (fun i σ H' => (∃ (v2 v3 : Option V), σ = [some (.ref x), some (.ref S), v2, v3]) ∧ KeepX S H H' ∧ H' S = some (.frz od (.dK (encD d))) ∧ ∀ j y, j < i → d[j]? = some y → (decide (gD bs y.1 + y.2 < 0) && !mayF ms y.1) = false)
        ⟨⟨_, _, rfl⟩, (keepX_of (Same.refl H)).set, upd_same, fun j y hj => by omega⟩ (fun i σ H' _ ⟨_, _, e, _⟩ => e) ?_ ?_
      · rintro i v σ H6 H7 hi ⟨⟨v2, v3, rfl⟩, k6, hF, hno⟩ ⟨U, kk, vv, rfl, nU, rfl, e1, e2⟩
        dsimp only at e1 e2
        cases hx : (encD d)[i]? with
        | none => rw [hx] at e1; cases e1
        | some kv =>
          obtain ⟨k0, w0⟩ := kv
          rw [hx] at e1 e2
          obtain ⟨y, hy, rfl, rfl⟩ := items_at hx
          have e1 : V.str y.1 = kk := Option.some.inj e1
          have e2 : V.int y.2 = vv := Option.some.inj e2
          subst e1 e2
          have hym : y.1 ∈ keysS bs := hks _ (List.mem_map.mpr ⟨y, List.mem_of_getElem? hy, rfl⟩)
          have SU : S ≠ U := ne_of_none hF nU
          generalize hH7 : upd H6 U _ = H7
          have s7 : Same H6 H7 := hH7 ▸ same_upd nU
          have hU7 := SqT.of (K := K) ((congrFun hH7 U).symm.trans upd_same)
          have k7 := k6.then s7
          have B7 := B.keep oS k7
          have hob7 := B7.ob
          have g1 := dget_at B7.b hym
          have g2 := B7.mayat hym
          have nxt : (decide (gD bs y.1 + y.2 < 0) && !mayF ms y.1) = false → ∀ v2 v3 : Option V, (∃ (v2' v3' : Option V), [some (V.ref x), some (.ref S), v2, v3] = [some (.ref x), some (.ref S), v2', v3']) ∧ KeepX S H H7 ∧ H7 S = some (.frz od (.dK (encD d))) ∧ ∀ j y, j < i + 1 → d[j]? = some y → (decide (gD bs y.1 + y.2 < 0) && !mayF ms y.1) = false := fun hh v2 v3 => by
            refine ⟨⟨v2, v3, rfl⟩, k7, s7 _ _ hF, fun j w hj hw => ?_⟩
            by_cases e : j < i
            · exact hno j w e hw
            · obtain rfl : j = i := by omega
              rw [hy] at hw
              obtain rfl := Option.some.inj hw
              exact hh
          walk_at "st"
          refine iteB (fun h1 => ?_) (fun h1 => ?_)
          · walk_at "st"
            refine iteB (fun h2 => ?_) (fun h2 => ?_)
            · refine qo hz ?_ _ k7
              unfold overF
              rw [List.any_eq_true]
              exact ⟨y, List.mem_of_getElem? hy, by rw [h1]; exact h2⟩
            · exact nxt (by rw [h1]; exact h2) _ _
          · exact nxt (by rw [h1]; rfl) _ _
      · rintro σ H6 ⟨⟨v2, v3, rfl⟩, k6, hF, hno⟩
        refine ⟨hF, ?_⟩
        refine q hz ?_ _ fun z o hz2 => ?_
        · unfold overF
          rw [List.any_eq_false]
          intro y hy
          obtain ⟨j, hj, hj2⟩ := List.getElem_of_mem hy
          rw [hno j y (by unfold encD; rw [List.length_map]; exact hj) (by rw [List.getElem?_eq_getElem hj, hj2])]
          exact Bool.false_ne_true
        · by_cases e : z = S
          · rw [e, upd_same, ← hS, ← e]
            exact hz2
          · rw [upd_ne e]
            exact k6 _ _ e hz2
/-! ### an entry is posted -/
def postB (bs d : List (Str × Int)) : List (Str × Int) := d.foldl (fun b y => putS b y.1 (gD b y.1 + y.2)) bs
theorem postB_snoc (bs d : List (Str × Int)) (y : Str × Int) : postB bs (d ++ [y]) = putS (postB bs d) y.1 (gD (postB bs d) y.1 + y.2) := by
  unfold postB
  rw [List.foldl_append]
  rfl
theorem postB_keys {bs : List (Str × Int)} : ∀ {d : List (Str × Int)}, (∀ k, k ∈ keysS d → k ∈ keysS bs) → keysS (postB bs d) = keysS bs
  | [], _ => rfl
  | y :: r, h => by
    have hy : y.1 ∈ keysS bs := h _ List.mem_cons_self
    have hk : keysS (putS bs y.1 (gD bs y.1 + y.2)) = keysS bs := by rw [keys_put]; unfold addK; rw [if_pos hy]
    show keysS (postB (putS bs y.1 (gD bs y.1 + y.2)) r) = _
    rw [postB_keys (bs := putS bs y.1 (gD bs y.1 + y.2)) fun k hk2 => by rw [hk]; exact h k (List.mem_cons_of_mem _ hk2), hk]
theorem gD_nokey {d : List (Str × Int)} {n : Str} (h : n ∉ keysS d) : gD d n = 0 := by
  have e := get_mem n d
  rw [decide_eq_false h] at e
  unfold gD
  cases w : getS d n with
  | none => rfl
  | some x => rw [w] at e; cases e
theorem gD_cons (y : Str × Int) (r : List (Str × Int)) (n : Str) : gD (y :: r) n = if n = y.1 then y.2 else gD r n := by
  unfold gD getS
  rw [List.find?_cons]
  by_cases h : n = y.1
  · rw [decide_eq_true h.symm, if_pos h]
    rfl
  · rw [decide_eq_false (Ne.symm h), if_neg h]
theorem gD_post : ∀ {d bs : List (Str × Int)}, (keysS d).Nodup → ∀ n, gD (postB bs d) n = gD bs n + gD d n
  | [], bs, _, n => (Int.add_zero _).symm
  | y :: r, bs, h, n => by
    obtain ⟨h1, h2⟩ := List.nodup_cons.mp (show (y.1 :: keysS r).Nodup from h)
    show gD (postB (putS bs y.1 (gD bs y.1 + y.2)) r) n = _
    rw [gD_post h2, gD_put, gD_cons]
    by_cases e : n = y.1
    · rw [if_pos e, if_pos e, e, gD_nokey h1]
      omega
    · rw [if_neg e, if_neg e]
/-- what stays but for the balances, the entries and the statements -/
def FrL (H H' : Hp) (D1 L : Addr) (ss : List (Str × Addr)) : Prop := ∀ z v, z ≠ D1 → z ≠ L → (∀ y, y ∈ ss → y.2 ≠ z) → H z = some v → H' z = some v
theorem FrL.free {C : Addr} {H H' : Hp} {x dx D1 D2 D3 L U : Addr} {bs : List (Str × Int)} {ms : List (Str × Bool)} {ss : List (Str × Addr)} {rs : Str → List V} {en : List V} (f : FrL H H' D1 L ss) (B : Led C H' x dx D1 D2 D3 L bs ms ss rs en) (nU : H' U = none) : H U = none := by
  cases hh : H U with
  | none => rfl
  | some w =>
    by_cases z1 : U = D1
    · rw [z1, B.b] at nU; cases nU
    · by_cases z2 : U = L
      · rw [z2, B.e] at nU; cases nU
      · by_cases z3 : ∃ y, y ∈ ss ∧ y.2 = U
        · obtain ⟨y3, h3, h4⟩ := z3
          rw [← h4, B.st y3 h3] at nU
          cases nU
        · rw [f U w z1 z2 (fun y hy hz => z3 ⟨y, hy, hz⟩) hh] at nU
          cases nU
theorem dput_go2 {H : Hp} {a : Addr} {s : Str} {v : Int} {d : List (Str × Int)} {R : Hp → Prop} (h : H a = some (.dK (encD d))) (hl : d.length ≤ 1000) (q : R (upd H a (.dK (encD (putS d s v))))) : ∃ H', DPut H a (.str s) (.int v) H' ∧ R H' := by
  obtain ⟨H', _, h2, h3⟩ := dput_go (s := s) (v := v) (R := R) h hl q
  exact ⟨H', h2, h3⟩
def sp_Ledger_post (K : PySem.W.Frag) (CU CA CB CO C : Addr) : Sp := fun vs H Q E => ∃ (x dx D1 D2 D3 L a : Addr) (bs : List (Str × Int)) (ms : List (Str × Bool)) (ss : List (Str × Addr)) (rs : Str → List V) (en : List V) (ps : List Addr) (mv : List (Str × V)), vs = [.ref x, .ref a] ∧ Led C H x dx D1 D2 D3 L bs ms ss rs en ∧ Tups encMv H a ps mv ∧ (∀ m, m ∈ mv → (∃ i : Int, m.2 = .int i) ∨ ∃ b : Bool, m.2 = .bl b) ∧ mv.length ≤ 800 ∧ en.length ≤ 800 ∧ bs.length ≤ 800 ∧ a ≠ L ∧ (∀ y, y ∈ ss → y.2 ≠ a) ∧
  (scanS (keysS bs) mv [] = .error false → ∀ H', Same H H' → E (.ref CU) none H') ∧ (scanS (keysS bs) mv [] = .error true → ∀ H', Same H H' → E (.ref CA) none H') ∧
  (∀ d, scanS (keysS bs) mv [] = .ok d → (d.map (·.2)).sum ≠ 0 → ∀ H', Same H H' → E (.ref CB) none H') ∧ (∀ d, scanS (keysS bs) mv [] = .ok d → (d.map (·.2)).sum = 0 → overF bs ms d = true → ∀ H', Same H H' → E (.ref CO) none H') ∧
  (∀ d M pm rs' H', scanS (keysS bs) mv [] = .ok d → (d.map (·.2)).sum = 0 → overF bs ms d = false → Led C H' x dx D1 D2 D3 L (postB bs d) ms ss rs' (en ++ [.ref M]) → Tups encMv H' M pm mv → H M = none → FrL H H' D1 L ss →
    (∀ n, n ∉ keysS d → rs' n = rs n) → (∀ y, y ∈ d → ∃ t, rs' y.1 = rs y.1 ++ [.ref t] ∧ H t = none ∧ H' t = some (.tup [.int ((en.length : Nat) + 1 : Int), .int y.2, .int (gD bs y.1 + y.2)])) → Q (.int ((en.length : Nat) + 1 : Int)) H')
set_option maxHeartbeats 0 in
theorem ok_Ledger_post (T : Txt K mg) : FnOk P w K mg base (L2.CX P w) 3 T.f_Ledger_post T.d_Ledger_post ["self", "moves"] (sp_Ledger_post K T.c_UnknownName T.c_InvalidAmount T.c_Unbalanced T.c_Overdrawn T.c_Ledger) := by
  refine T.F_Ledger_post.okX sc_Ledger_post (fun vs H Q E h => ?_) (fun cdv A outer s H vs Q E hr h => ?_)
  · obtain ⟨x, dx, D1, D2, D3, L, a, bs, ms, ss, rs, en, ps, mv, rfl, _⟩ := h
    rfl
  · obtain ⟨x, dx, D1, D2, D3, L, a, bs, ms, ss, rs, en, ps, mv, rfl, B, hT, hfl, hln, hen, hbl, haL, has, qu, qa, qb, qo, q⟩ := h
    have G_Ledgersums : FnOk P w K mg base (L2.CX P w) 2 T.f_Ledgersums T.d_Ledgersums ["self", "moves"] (sp_Ledgersums K T.c_UnknownName T.c_InvalidAmount T.c_Ledger) := ok_Ledgersums T
    have G_Ledgercheck_sums : FnOk P w K mg base (L2.CX P w) 1 T.f_Ledgercheck_sums T.d_Ledgercheck_sums ["self", "sums"] (sp_Ledgercheck_sums K T.c_Unbalanced T.c_Overdrawn T.c_Ledger) := ok_Ledgercheck_sums T
    refine ⟨_, (pss_cons (ps_set (i := 2) sc_Ledger_post.nd rfl (Or.inl rfl) (pe_mx (pv 0) T.cl_Ledger T.mt_Ledgersums G_Ledgersums hr T.b_Ledgersums .nil (fun σ => passAt (takes_of rfl rfl rfl rfl) σ) (pa_cons (pv 1) pa_nil)))
    (pss_cons (ps_expr (pe_mx (pv 0) T.cl_Ledger T.mt_Ledgercheck_sums G_Ledgercheck_sums (hr.mono (by decide)) T.b_Ledgercheck_sums .nil (fun σ => passAt (takes_of rfl rfl rfl rfl) σ) (pa_cons (pv 2) pa_nil)))
    (pss_cons (ps_expr (pe_bm PySem.F.plainAttrs_list PySem.F.slot_list_append PySem.F.type_list_append mt_append (pe_fld (pv 0) rfl) (pa_cons (pe_lc (own := [("name", 3), ("amount", 4)]) (tt := tYes) rfl sc_Ledger_post.nd (pi_list (pv 1)) (blkOk_by (own := [("name", 3), ("amount", 4)]) (N := N_Ledger_post) (sc := defScope s_Ledger_post) (by decide +kernel)) (fun _ _ _ _ _ => (show PG _ _ (gTup K 2 (gCons (gName 3) (gCons (gName 4) gNil))) from (pg_tup rfl (pgs_cons (pg_name (i := 3) sc_Ledger_post.nd rfl (Or.inl rfl)) (pgs_cons (pg_name (i := 4) sc_Ledger_post.nd rfl (Or.inl rfl)) pgs_nil))))) (fun _ _ _ _ _ => pts_nil) (fun _ _ _ _ _ => (pe_tup (pa_cons (pv 3) (pa_cons (pv 4) pa_nil))))) pa_nil)))
    (pss_cons (ps_set (i := 5) sc_Ledger_post.nd rfl (Or.inl rfl) (pe_callB call_len_seq (by rfl) T.z_len PySem.boot_len (pa_cons (pe_fld (pv 0) rfl) pa_nil)))
    (pss_cons (ps_lock (ps_for (passes_of rfl) rfl (pi_items (pv 2)) (pg_tup rfl (pgs_cons (pg_name (i := 3) sc_Ledger_post.nd rfl (Or.inl rfl)) (pgs_cons (pg_name (i := 4) sc_Ledger_post.nd rfl (Or.inl rfl)) pgs_nil)))
      (pss_cons (ps_daug (hu_of hr) (pe_fld (pv 0) rfl) (pv 3) (pv 4) in_add (fun _ _ _ => rfl))
      (pss_one (ps_expr (pe_bm PySem.F.plainAttrs_list PySem.F.slot_list_append PySem.F.type_list_append mt_append (pe_dget (hu_of hr) (pe_fld (pv 0) rfl) (pv 3) (fun _ _ => rfl)) (pa_cons (pe_tup (pa_cons (pv 5) (pa_cons (pv 4) (pa_cons (pe_dget (hu_of hr) (pe_fld (pv 0) rfl) (pv 3) (fun _ _ => rfl)) pa_nil)))) pa_nil)))))))
    (pss_one (ps_ret (pv 5)))))))), ?_⟩
    have fact_Ledger_0 := T.cl_Ledger; have fact_Ledger_1 := T.na_Ledger__balances; have fact_Ledger_2 := T.na_Ledger__may_owe; have fact_Ledger_3 := T.na_Ledger__statements; have fact_Ledger_4 := T.na_Ledger__entries
    have hob := B.ob
    walk_at "st"
    refine ⟨bs, ms, ss, rs, en, ps, mv, rfl, B, hT, hfl, hln, qu, qa, fun d S H1 hsc s1 nS hS => ?_⟩
    have B1 := B.same s1
    have hob1 := B1.ob
    have hkd := scanS_keys hsc (fun k hk => by cases hk) List.nodup_nil
    have oS := B.out nS
    walk_at "st"
    have sk : ∀ {H'}, KeepX S H1 H' → Same H H' := fun k z v hz => k z v (ne_of_none hz nS) (s1 _ _ hz)
    refine ⟨bs, ms, ss, rs, en, d, rfl, B1, hS, oS, hkd.1, fun hz => qb d hsc hz _ s1, fun hz ho H' k => qo d hsc hz ho _ (sk k), fun hz ho H2 s2 => ?_⟩
    have B2 := B1.same s2
    have hob2 := B2.ob
    have hT2 := hT.same (s1.trans s2)
    have hS2 := s2 _ _ hS
    have ha2 := SqL.of (K := K) hT2.lst
    have hL2 := B2.e
    walk_at "st"
    intro M nM
    have nMH : H M = none := (s1.trans s2).free nM
    refine lc_list (K := K) (a := a) (xs := ps.map V.ref) (fun i H' => ∃ pm, Tups encMv H' M pm (mv.take i) ∧ Same H2 H')
      ⟨[], by rw [List.take_zero]; exact .nil upd_same, same_upd nM⟩ (fun i H' _ ⟨_, _, e⟩ => e.seq ha2) ?_ ?_
    · rintro i y H' hy ⟨pm, hpm, e⟩
      obtain ⟨p, m, hp, hmi, rfl, hpr⟩ := (hT2.same e).item hy
      have hi := (List.getElem?_eq_some_iff.mp hmi).1
      have hps := SqT.of (K := K) hpr
      unfold encMv at hps
      walk_at "st"
      intro p2 np2
      have hpl : pm.length = i := by rw [hpm.len, List.length_take]; omega
      have np2M : M ≠ p2 := ne_of_none hpm.lst np2
      refine ⟨_, (upd_ne np2M).trans hpm.lst, ?_, pm ++ [p2], ?_, ?_⟩
      · exact small1000 (by rw [List.length_map]; omega)
      · rw [take_succ hmi]
        exact hpm.push (same_upd np2) np2 upd_same
      · intro z o hz
        rw [upd_ne (ne_of_none hz nM), upd_ne (ne_of_none (e _ _ hz) np2)]
        exact e _ _ hz
    · rintro H3 ⟨pm, hpm, e3⟩
      rw [List.length_map, hT2.len, List.take_of_length_le (Nat.le_refl _)] at hpm
      have hL3 := e3 _ _ hL2
      have hLs := small1000 (n := en.length) (by omega)
      have B3 := B2.same e3
      have hS3 := e3 _ _ hS2
      have B4 := B3.entry (.ref M)
      have hob4 := B4.ob
      have hL4 := SqL.of (K := K) B4.e
      have SL : S ≠ L := oS.2.2.2.2.1
      have hS4 := (upd_ne (o := HO.lst (en ++ [V.ref M])) SL).trans hS3
      walk_at "st"
      have hM3 : upd H3 L (.lst (en ++ [V.ref M])) M = some (.lst (pm.map V.ref)) := by
        refine (upd_ne fun z => ?_).trans hpm.lst
        rw [z] at nM
        rw [hL2] at nM
        cases nM
      have fr4 : FrL H (upd H3 L (.lst (en ++ [V.ref M]))) D1 L ss := fun z v h1 h2 h3 h4 => (upd_ne h2).trans (e3 _ _ (s2 _ _ (s1 _ _ h4)))
      have hpm4 : Tups encMv (upd H3 L (.lst (en ++ [V.ref M]))) M pm mv := hpm.other B3.e (fun z => by rw [z, hL2] at nM; cases nM)
      have hlen : ((en ++ [V.ref M]).length : Int) = (en.length : Int) + 1 := by rw [List.length_append]; rfl
      have nMS : M ≠ S := fun z => by rw [z, hS2] at nM; cases nM
      refine ⟨_, hS4, trivial, fun od => ?_⟩
      generalize upd H3 L (.lst (en ++ [V.ref M])) = H4 at *
      walk_at "st"
      refine ⟨_, _, rfl, upd_same, ?_⟩
      refine for_it (walk_items (d := S) (o := od) (kvs := encD d)) (fun i σ H' => ∃ (v3 v4 : Option V) (ri : Str → List V), σ = [some (.ref x), some (.ref a), some (.ref S), v3, v4, some (.int ((en ++ [V.ref M]).length : Int))] ∧ Led T.c_Ledger H' x dx D1 D2 D3 L (postB bs (d.take i)) ms ss ri (en ++ [V.ref M]) ∧ H' S = some (.frz od (.dK (encD d))) ∧ Tups encMv H' M pm mv ∧ FrL H H' D1 L ss ∧
          (∀ n, n ∉ keysS (d.take i) → ri n = rs n) ∧ (∀ y, y ∈ d.take i → ∃ t, ri y.1 = rs y.1 ++ [V.ref t] ∧ H t = none ∧ H' t = some (.tup [.int ((en.length : Nat) + 1 : Int), .int y.2, .int (gD bs y.1 + y.2)])))
        ⟨_, _, rs, rfl, B4.keep oS (keepX_of (Same.refl _)).set, upd_same, ?_, fun z v h1 h2 h3 h4 => ?_, fun _ _ => rfl, fun y hy => by rw [List.take_zero] at hy; cases hy⟩ (fun i σ H' _ ⟨_, _, _, _, _, e, _⟩ => e) ?_ ?_
      · refine ⟨(upd_ne nMS).trans hpm4.lst, hpm4.len, fun i p x h1 h2 => ?_⟩
        have h3 := hpm4.row i p x h1 h2
        exact (upd_ne fun z => by rw [z, hS4] at h3; cases h3).trans h3
      · rw [upd_ne (ne_of_none h4 nS)]
        exact fr4 z v h1 h2 h3 h4
      · rintro i v σ H6 H7 hi ⟨v3, v4, ri, rfl, B6, hF, hT6, fr6, hno, hyes⟩ ⟨U, kk, vv, rfl, nU, rfl, e1, e2⟩
        dsimp only at e1 e2
        cases hx : (encD d)[i]? with
        | none => rw [hx] at e1; cases e1
        | some kv =>
          obtain ⟨k0, w0⟩ := kv
          rw [hx] at e1 e2
          obtain ⟨y, hy, rfl, rfl⟩ := items_at hx
          have e1 : V.str y.1 = kk := Option.some.inj e1
          have e2 : V.int y.2 = vv := Option.some.inj e2
          subst e1 e2
          have hymd : y.1 ∈ keysS d := List.mem_map.mpr ⟨y, List.mem_of_getElem? hy, rfl⟩
          have hkb : ∀ k, k ∈ keysS (d.take i) → k ∈ keysS bs := fun k hk => hkd.1 k (((List.take_sublist i d).map _).subset hk)
          have hym : y.1 ∈ keysS (postB bs (d.take i)) := by rw [postB_keys hkb]; exact hkd.1 _ hymd
          have hyn : y.1 ∉ keysS (d.take i) := fun z => by
            have h1 := hkd.2.1
            rw [← List.take_append_drop (i + 1) d, take_succ hy] at h1
            unfold keysS at h1 z
            rw [List.map_append, List.map_append] at h1
            exact (List.nodup_append.mp (List.nodup_append.mp h1).1).2.2 _ z _ (List.mem_singleton_self _) rfl
          have hsn := postB_snoc bs (d.take i) y
          rw [← take_succ hy] at hsn
          have hval : gD (postB bs (d.take i)) y.1 = gD bs y.1 := by
            rw [gD_post (((List.take_sublist i d).map _).nodup hkd.2.1), gD_nokey hyn]
            omega
          generalize hH7 : upd H6 U _ = H7
          have s7 : Same H6 H7 := hH7 ▸ same_upd nU
          have hU7 := SqT.of (K := K) ((congrFun hH7 U).symm.trans upd_same)
          have B7 := B6.same s7
          have hob7 := B7.ob
          have g1 := dget_at B7.b hym
          have hbl7 : (postB bs (d.take i)).length ≤ 800 := by
            have := congrArg List.length (postB_keys hkb)
            unfold keysS at this
            rw [List.length_map, List.length_map] at this
            omega
          have SD1 : S ≠ D1 := oS.2.1
          have B8 := B7.bal (v := gD (postB bs (d.take i)) y.1 + y.2) hym
          rw [← hsn] at B8
          have hym8 : y.1 ∈ keysS (postB bs (d.take (i + 1))) := by
            have hk := keys_put (postB bs (d.take i)) y.1 (gD (postB bs (d.take i)) y.1 + y.2)
            rw [← hsn] at hk
            rw [hk]
            exact addK_mem.mpr (.inl hym)
          have hg8 : gD (postB bs (d.take (i + 1))) y.1 = gD bs y.1 + y.2 := by rw [hsn, gD_put, if_pos rfl, hval]
          have fr8 : FrL H (upd H7 D1 (.dK (encD (postB bs (d.take (i + 1)))))) D1 L ss := fun z v h1 h2 h3 h4 => (upd_ne h1).trans (s7 _ _ (fr6 z v h1 h2 h3 h4))
          have hF8 := (upd_ne (o := HO.dK (encD (postB bs (d.take (i + 1))))) SD1).trans (s7 _ _ hF)
          have ne8 : ∀ {z v}, H6 z = some v → (∀ k, v ≠ .dK k) → upd H7 D1 (.dK (encD (postB bs (d.take (i + 1))))) z = some v := fun {z v} h h2 => (upd_ne fun e => by rw [e, B6.b] at h; exact h2 _ (Option.some.inj h).symm).trans (s7 _ _ h)
          walk_at "st"
          refine dput_go2 B7.b (by omega) ?_
          rw [← hsn]
          generalize upd H7 D1 _ = H8 at *
          have hob8 := B8.ob
          obtain ⟨ys, hys, hys1, hsg⟩ := B8.stat hym8
          have hyl := B8.st ys hys
          have g8 := dget_at B8.b hym8
          rw [hg8] at g8
          have hrl : (ri ys.1).length ≤ en.length := by rw [hys1, hno _ hyn]; exact B.sz _
          have hrs := small1000 (n := (ri ys.1).length) (by omega)
          walk_at "st"
          intro t nt
          have ntH := fr8.free B8 nt
          generalize hH9 : upd H8 t _ = H9
          have s9 : Same H8 H9 := hH9 ▸ same_upd nt
          have ht9 := (congrFun hH9 t).symm.trans upd_same
          rw [hlen] at ht9
          have B9 := B8.same s9
          have hyl9 := B9.st ys hys
          have nyt : ys.2 ≠ t := ne_of_none hyl nt
          walk_at "st"
          have SY : ys.2 ≠ S := oS.2.2.2.2.2 ys hys
          have MY : ys.2 ≠ M := (B2.out nM).2.2.2.2.2 ys hys
          have hkt : keysS (d.take (i + 1)) = keysS (d.take i) ++ [y.1] := by rw [take_succ hy]; unfold keysS; rw [List.map_append]; rfl
          refine ⟨_, _, (fun n => if n = ys.1 then ri n ++ [V.ref t] else ri n), rfl, B9.row hys (by rw [List.length_append]; exact Nat.succ_le_succ hrl), (upd_ne SY.symm).trans (s9 _ _ hF8), ⟨(upd_ne MY.symm).trans (s9 _ _ (ne8 hT6.lst (fun k h => by cases h))), hT6.len, fun j p w h1 h2 => ?_⟩, fun z v h1 h2 h3 h4 => (upd_ne (fun e => h3 ys hys e.symm)).trans (s9 _ _ (fr8 z v h1 h2 h3 h4)), fun n hn => ?_, fun w hw => ?_⟩
          · have h3 := s9 _ _ (ne8 (hT6.row j p w h1 h2) (fun k h => by cases h))
            exact (upd_ne fun z => by rw [z, hyl9] at h3; cases h3).trans h3
          · rw [hkt] at hn
            show (if n = ys.1 then _ else ri n) = _
            rw [if_neg fun z => hn (List.mem_append_right _ (by rw [z, hys1]; exact List.mem_singleton_self _))]
            exact hno n fun z => hn (List.mem_append_left _ z)
          · rw [take_succ hy] at hw
            rcases List.mem_append.mp hw with hw | hw
            · obtain ⟨t', t1, t2, t3⟩ := hyes w hw
              have hwk : w.1 ∈ keysS (d.take i) := List.mem_map.mpr ⟨w, hw, rfl⟩
              refine ⟨t', ?_, t2, ?_⟩
              · show (if w.1 = ys.1 then _ else ri w.1) = _
                rw [if_neg fun z => hyn (by rw [← hys1, ← z]; exact hwk)]
                exact t1
              · have h3 := s9 _ _ (ne8 t3 (fun k h => by cases h))
                exact (upd_ne fun z => by rw [z, hyl9] at h3; cases h3).trans h3
            · obtain rfl := List.mem_singleton.mp hw
              refine ⟨t, ?_, ntH, (upd_ne nyt.symm).trans ht9⟩
              show (if w.1 = ys.1 then _ else ri w.1) = _
              rw [if_pos hys1.symm, hno _ hyn]
      · rintro σ H6 ⟨v3, v4, ri, rfl, B6, hF, hT6, fr6, hno, hyes⟩
        refine ⟨hF, ?_⟩
        have hdl : (encD d).length = d.length := List.length_map ..
        rw [hdl, List.take_of_length_le (Nat.le_refl _)] at B6 hno hyes
        walk_at "st"
        rw [hlen]
        have hun : KeepX S H6 (upd H6 S (.dK (encD d))) := (keepX_of (Same.refl _)).set
        refine q d M pm ri _ hsc hz ho (B6.keep oS hun) ⟨hun _ _ nMS hT6.lst, hT6.len, fun i p x h1 h2 => hun _ _ (fun z => ?_) (hT6.row i p x h1 h2)⟩ nMH (fun z v h1 h2 h3 h4 => hun _ _ (ne_of_none h4 nS) (fr6 z v h1 h2 h3 h4)) hno fun y hy => ?_
        · have := hT6.row i p x h1 h2
          rw [z, hF] at this
          cases this
        · obtain ⟨t, t1, t2, t3⟩ := hyes y hy
          exact ⟨t, t1, t2, hun _ _ (fun z => by rw [z, hF] at t3; cases t3) t3⟩
theorem dput_gen {α : Type} {g : α → V} {H : Hp} {a : Addr} {s : Str} {v : α} {l : List (Str × α)} {R : Hp → Prop} (h : H a = some (.dK (genD g l))) (hn : s ∉ l.map (·.1)) (hl : l.length ≤ 1000) (q : R (upd H a (.dK (genD g (l ++ [(s, v)]))))) : ∃ H', V.ref a = V.ref a ∧ DPut H a (.str s) (g v) H' ∧ R H' := by
  refine ⟨_, rfl, ?_, q⟩
  rw [← put_gen g v hn]
  refine DPut.k (k := Sum.inr s) h ?_
  unfold genD
  rw [List.length_map]
  exact small1000 (by omega)
def sp_Ledger_open_account (K : PySem.W.Frag) (CD C : Addr) : Sp := fun vs H Q E => ∃ (x dx D1 D2 D3 L : Addr) (bs : List (Str × Int)) (ms : List (Str × Bool)) (ss : List (Str × Addr)) (rs : Str → List V) (en : List V) (n : Str) (b : Bool), vs = [.ref x, .str n, .bl b] ∧ Led C H x dx D1 D2 D3 L bs ms ss rs en ∧ bs.length ≤ 800 ∧
  (n ∈ keysS bs → E (.ref CD) none H) ∧ (n ∉ keysS bs → ∀ A H', Led C H' x dx D1 D2 D3 L (bs ++ [(n, 0)]) (ms ++ [(n, b)]) (ss ++ [(n, A)]) (fun k => if k = n then [] else rs k) en → H A = none → (∀ z v, z ≠ D1 → z ≠ D2 → z ≠ D3 → H z = some v → H' z = some v) → Q .non H')
set_option maxHeartbeats 0 in
theorem ok_Ledger_open_account (T : Txt K mg) : FnOk P w K mg base (L2.CX P w) 1 T.f_Ledger_open_account T.d_Ledger_open_account ["self", "name", "may_owe"] (sp_Ledger_open_account K T.c_DuplicateName T.c_Ledger) := by
  refine T.F_Ledger_open_account.ok sc_Ledger_open_account (fun vs H Q E h => ?_) (fun cdv A outer s H vs Q E hr h => ?_)
  · obtain ⟨x, dx, D1, D2, D3, L, bs, ms, ss, rs, en, n, b, rfl, _⟩ := h
    rfl
  · obtain ⟨x, dx, D1, D2, D3, L, bs, ms, ss, rs, en, n, b, rfl, B, hbl, qd, q⟩ := h
    
    refine ⟨_, (pss_cons (ps_if (pt_cmp (pc_din (hu_of hr) (pv 1) (pe_fld (pv 0) rfl)))
      (pss_one (ps_raise rfl (takes_of rfl rfl rfl rfl) (pmk_own PySem.F.excBase_ValueError T.x_DuplicateName T.m_DuplicateName T.k_DuplicateName (raises_own T.b_DuplicateName T.t_DuplicateName) (by rfl))))
      pss_nil)
    (pss_cons (ps_dput (hu_of hr) (pe_fld (pv 0) rfl) (pv 1) pe_int rfl)
    (pss_cons (ps_dput (hu_of hr) (pe_fld (pv 0) rfl) (pv 1) (pv 2) rfl)
    (pss_one (ps_dput (hu_of hr) (pe_fld (pv 0) rfl) (pv 1) (pe_lst pa_nil) rfl))))), ?_⟩
    have fact_Ledger_0 := T.cl_Ledger; have fact_Ledger_1 := T.na_Ledger__balances; have fact_Ledger_2 := T.na_Ledger__may_owe; have fact_Ledger_3 := T.na_Ledger__statements; have fact_Ledger_4 := T.na_Ledger__entries
    have hob := B.ob
    walk_at "st"
    refine ⟨_, rfl, DGet.k (k := Sum.inr n) B.b, ?_⟩
    rw [valV_enc]
    have hm := get_mem n bs
    cases hg : getS bs n with
    | some i =>
      rw [hg] at hm
      have hn : n ∈ keysS bs := of_decide_eq_true hm.symm
      walk_at "st"
      exact qd hn
    | none =>
      rw [hg] at hm
      have hn : n ∉ keysS bs := fun z => by rw [decide_eq_true z] at hm; cases hm
      walk_at "st"
      refine dput_go B.b (by omega) ?_
      have hput : putS bs n 0 = bs ++ [(n, 0)] := by unfold putS; rw [if_neg hn]
      rw [hput]
      have hx1 : x ≠ D1 := fun z => by have := B.ob; rw [z, B.b] at this; cases this
      have hx2 : x ≠ D2 := fun z => by have := B.ob; rw [z, B.m] at this; cases this
      have hx3 : x ≠ D3 := fun z => by have := B.ob; rw [z, B.s] at this; cases this
      have hL1 : L ≠ D1 := fun z => by have := B.e; rw [z, B.b] at this; cases this
      have hL2 : L ≠ D2 := fun z => by have := B.e; rw [z, B.m] at this; cases this
      have hL3 : L ≠ D3 := fun z => by have := B.e; rw [z, B.s] at this; cases this
      have hs1 : ∀ y, y ∈ ss → y.2 ≠ D1 := fun y hy z => by have := B.st y hy; rw [z, B.b] at this; cases this
      have hs2 : ∀ y, y ∈ ss → y.2 ≠ D2 := fun y hy z => by have := B.st y hy; rw [z, B.m] at this; cases this
      have hs3 : ∀ y, y ∈ ss → y.2 ≠ D3 := fun y hy z => by have := B.st y hy; rw [z, B.s] at this; cases this
      have ob1 := (upd_ne (o := HO.dK (encD (bs ++ [(n, 0)]))) hx1).trans B.ob
      have b1 : upd H D1 (.dK (encD (bs ++ [(n, 0)]))) D1 = some (.dK (encD (bs ++ [(n, 0)]))) := upd_same
      have m1 := (upd_ne (o := HO.dK (encD (bs ++ [(n, 0)]))) B.ap.1.symm).trans B.m
      have s1 := (upd_ne (o := HO.dK (encD (bs ++ [(n, 0)]))) B.ap.2.1.symm).trans B.s
      have e1 := (upd_ne (o := HO.dK (encD (bs ++ [(n, 0)]))) hL1).trans B.e
      have st1 : ∀ y, y ∈ ss → upd H D1 (.dK (encD (bs ++ [(n, 0)]))) y.2 = some (.lst (rs y.1)) := fun y hy => (upd_ne (hs1 y hy)).trans (B.st y hy)
      have f1 : ∀ z v, z ≠ D1 → H z = some v → upd H D1 (.dK (encD (bs ++ [(n, 0)]))) z = some v := fun z v h h2 => (upd_ne h).trans h2
      have n1 : ∀ z, upd H D1 (.dK (encD (bs ++ [(n, 0)]))) z = none → H z = none := fun z hz => by
        by_cases e : z = D1
        · rw [e, upd_same] at hz; cases hz
        · rw [upd_ne e] at hz; exact hz
      generalize upd H D1 _ = H1 at *
      have hml : ms.length = bs.length := by have := congrArg List.length B.km; unfold keysS at this; rwa [List.length_map, List.length_map] at this
      have hsl : ss.length = bs.length := by have := congrArg List.length B.ks; unfold keysS at this; rwa [List.length_map, List.length_map] at this
      walk_at "st"
      refine dput_gen (g := V.bl) m1 (by rw [B.km]; exact hn) (by omega) ?_
      have ob2 := (upd_ne (o := HO.dK (genD V.bl (ms ++ [(n, b)]))) hx2).trans ob1
      have b2 := (upd_ne (o := HO.dK (genD V.bl (ms ++ [(n, b)]))) B.ap.1).trans b1
      have m2 : upd H1 D2 (.dK (genD V.bl (ms ++ [(n, b)]))) D2 = some (.dK (genD V.bl (ms ++ [(n, b)]))) := upd_same
      have s2 := (upd_ne (o := HO.dK (genD V.bl (ms ++ [(n, b)]))) B.ap.2.2.symm).trans s1
      have e2 := (upd_ne (o := HO.dK (genD V.bl (ms ++ [(n, b)]))) hL2).trans e1
      have st2 : ∀ y, y ∈ ss → upd H1 D2 (.dK (genD V.bl (ms ++ [(n, b)]))) y.2 = some (.lst (rs y.1)) := fun y hy => (upd_ne (hs2 y hy)).trans (st1 y hy)
      have f2 : ∀ z v, z ≠ D1 → z ≠ D2 → H z = some v → upd H1 D2 (.dK (genD V.bl (ms ++ [(n, b)]))) z = some v := fun z v h h3 h2 => (upd_ne h3).trans (f1 z v h h2)
      have n2 : ∀ z, upd H1 D2 (.dK (genD V.bl (ms ++ [(n, b)]))) z = none → H z = none := fun z hz => by
        by_cases e : z = D2
        · rw [e, upd_same] at hz; cases hz
        · rw [upd_ne e] at hz; exact n1 z hz
      generalize upd H1 D2 _ = H2 at *
      walk_at "st"
      intro A nA
      have nAH := n2 A nA
      have a1 := same_upd (o := HO.lst []) nA
      have a2 : upd H2 A (.lst []) A = some (.lst []) := upd_same
      have ob3 := a1 _ _ ob2
      have b3 := a1 _ _ b2
      have m3 := a1 _ _ m2
      have s3 := a1 _ _ s2
      have e3 := a1 _ _ e2
      have st3 : ∀ y, y ∈ ss → upd H2 A (.lst []) y.2 = some (.lst (rs y.1)) := fun y hy => a1 _ _ (st2 y hy)
      have f3 : ∀ z v, z ≠ D1 → z ≠ D2 → H z = some v → upd H2 A (.lst []) z = some v := fun z v h h3 h2 => a1 _ _ (f2 z v h h3 h2)
      have A3 : A ≠ D3 := fun z => by rw [z, s2] at nA; cases nA
      have AL : A ≠ L := fun z => by rw [z, e2] at nA; cases nA
      have hAs : ∀ y, y ∈ ss → y.2 ≠ A := fun y hy z => by have := st2 y hy; rw [z, nA] at this; cases this
      generalize upd H2 A _ = H3 at *
      walk_at "st"
      refine dput_gen (g := V.ref) s3 (by rw [B.ks]; exact hn) (by omega) ?_
      have kb : keysS (bs ++ [(n, 0)]) = keysS bs ++ [n] := by unfold keysS; rw [List.map_append]; rfl
      refine q hn A _ ⟨(upd_ne hx3).trans ob3, (upd_ne B.ap.2.1).trans b3, (upd_ne B.ap.2.2).trans m3, upd_same, (upd_ne hL3).trans e3, fun y hy => ?_, ?_, ?_, ?_, ?_, fun y hy => ?_, B.ap, fun k => ?_⟩ nAH fun z v h1 h2 h3 h4 => (upd_ne h3).trans (f3 z v h1 h2 h4)
      · rcases List.mem_append.mp hy with hy | hy
        · have hyk : y.1 ≠ n := fun z => hn (by rw [← B.ks, ← z]; exact List.mem_map.mpr ⟨y, hy, rfl⟩)
          show _ = some (HO.lst (if y.1 = n then [] else rs y.1))
          rw [if_neg hyk]
          exact (upd_ne (hs3 y hy)).trans (st3 y hy)
        · obtain rfl := List.mem_singleton.mp hy
          show _ = some (HO.lst (if n = n then [] else rs n))
          rw [if_pos rfl]
          exact (upd_ne A3).trans a2
      · rw [List.map_append, B.km, kb]
        rfl
      · rw [List.map_append, B.ks, kb]
        rfl
      · rw [kb, List.nodup_append]
        exact ⟨B.nd, List.nodup_cons.mpr ⟨fun z => (by cases z), List.nodup_nil⟩, fun u hu w hw e => hn (by rw [List.mem_singleton] at hw; rw [← hw, ← e]; exact hu)⟩
      · rw [List.map_append, List.nodup_append]
        refine ⟨B.na, List.nodup_cons.mpr ⟨fun z => (by cases z), List.nodup_nil⟩, fun u hu w hw e => ?_⟩
        obtain ⟨y, hy, hyu⟩ := List.mem_map.mp hu
        have hw2 : w = A := List.mem_singleton.mp hw
        exact hAs y hy (hyu.trans (e.trans hw2))
      · rcases List.mem_append.mp hy with hy | hy
        · exact B.nl y hy
        · obtain rfl := List.mem_singleton.mp hy
          exact AL
      · show (if k = n then [] else rs k).length ≤ _
        split
        · exact Nat.zero_le _
        · exact B.sz k
def sp_Ledger_balance (K : PySem.W.Frag) (CU C : Addr) : Sp := fun vs H Q E => ∃ (x dx D1 D2 D3 L : Addr) (bs : List (Str × Int)) (ms : List (Str × Bool)) (ss : List (Str × Addr)) (rs : Str → List V) (en : List V) (n : Str), vs = [.ref x, .str n] ∧ Led C H x dx D1 D2 D3 L bs ms ss rs en ∧ (n ∈ keysS bs → Q (.int (gD bs n)) H) ∧ (n ∉ keysS bs → E (.ref CU) none H)
set_option maxHeartbeats 0 in
theorem ok_Ledger_balance (T : Txt K mg) : FnOk P w K mg base (L2.CX P w) 2 T.f_Ledger_balance T.d_Ledger_balance ["self", "name"] (sp_Ledger_balance K T.c_UnknownName T.c_Ledger) := by
  refine T.F_Ledger_balance.okX sc_Ledger_balance (fun vs H Q E h => ?_) (fun cdv A outer s H vs Q E hr h => ?_)
  · obtain ⟨x, dx, D1, D2, D3, L, bs, ms, ss, rs, en, n, rfl, _⟩ := h
    rfl
  · obtain ⟨x, dx, D1, D2, D3, L, bs, ms, ss, rs, en, n, rfl, B, q, qu⟩ := h
    have G_Ledgercheck_account : FnOk P w K mg base (L2.CX P w) 1 T.f_Ledgercheck_account T.d_Ledgercheck_account ["self", "name"] (sp_Ledgercheck_account K T.c_UnknownName T.c_Ledger) := ok_Ledgercheck_account T
    refine ⟨_, (pss_cons (ps_expr (pe_mx (pv 0) T.cl_Ledger T.mt_Ledgercheck_account G_Ledgercheck_account hr T.b_Ledgercheck_account .nil (fun σ => passAt (takes_of rfl rfl rfl rfl) σ) (pa_cons (pv 1) pa_nil)))
    (pss_one (ps_ret (pe_dget (hu_of hr) (pe_fld (pv 0) rfl) (pv 1) (fun _ _ => rfl))))), ?_⟩
    have fact_Ledger_0 := T.cl_Ledger; have fact_Ledger_1 := T.na_Ledger__balances; have fact_Ledger_2 := T.na_Ledger__may_owe; have fact_Ledger_3 := T.na_Ledger__statements; have fact_Ledger_4 := T.na_Ledger__entries
    have hob := B.ob
    walk_at "st"
    refine ⟨bs, ms, ss, rs, en, n, rfl, B, fun hn => ?_, qu⟩
    have g1 := dget_at B.b hn
    walk_at "st"
    exact q hn
def sp_Ledger_statement (K : PySem.W.Frag) (CU C : Addr) : Sp := fun vs H Q E => ∃ (x dx D1 D2 D3 L : Addr) (bs : List (Str × Int)) (ms : List (Str × Bool)) (ss : List (Str × Addr)) (rs : Str → List V) (en : List V) (n : Str), vs = [.ref x, .str n] ∧ Led C H x dx D1 D2 D3 L bs ms ss rs en ∧ (n ∈ keysS bs → ∀ p, H p = none → Q (.ref p) (upd H p (.lst (rs n)))) ∧ (n ∉ keysS bs → E (.ref CU) none H)
set_option maxHeartbeats 0 in
theorem ok_Ledger_statement (T : Txt K mg) : FnOk P w K mg base (L2.CX P w) 2 T.f_Ledger_statement T.d_Ledger_statement ["self", "name"] (sp_Ledger_statement K T.c_UnknownName T.c_Ledger) := by
  refine T.F_Ledger_statement.okX sc_Ledger_statement (fun vs H Q E h => ?_) (fun cdv A outer s H vs Q E hr h => ?_)
  · obtain ⟨x, dx, D1, D2, D3, L, bs, ms, ss, rs, en, n, rfl, _⟩ := h
    rfl
  · obtain ⟨x, dx, D1, D2, D3, L, bs, ms, ss, rs, en, n, rfl, B, q, qu⟩ := h
    have G_Ledgercheck_account : FnOk P w K mg base (L2.CX P w) 1 T.f_Ledgercheck_account T.d_Ledgercheck_account ["self", "name"] (sp_Ledgercheck_account K T.c_UnknownName T.c_Ledger) := ok_Ledgercheck_account T
    refine ⟨_, (pss_cons (ps_expr (pe_mx (pv 0) T.cl_Ledger T.mt_Ledgercheck_account G_Ledgercheck_account hr T.b_Ledgercheck_account .nil (fun σ => passAt (takes_of rfl rfl rfl rfl) σ) (pa_cons (pv 1) pa_nil)))
    (pss_one (ps_ret (pe_callTy call_list_of (by rfl) T.z_list (by decide +kernel) (pa_cons (pe_dget (hu_of hr) (pe_fld (pv 0) rfl) (pv 1) (fun _ _ => rfl)) pa_nil))))), ?_⟩
    have fact_Ledger_0 := T.cl_Ledger; have fact_Ledger_1 := T.na_Ledger__balances; have fact_Ledger_2 := T.na_Ledger__may_owe; have fact_Ledger_3 := T.na_Ledger__statements; have fact_Ledger_4 := T.na_Ledger__entries
    have hob := B.ob
    walk_at "st"
    refine ⟨bs, ms, ss, rs, en, n, rfl, B, fun hn => ?_, qu⟩
    obtain ⟨y, y1, y2, g1⟩ := B.stat hn
    have hst := SqL.of (K := K) (B.st y y1)
    subst y2
    walk_at "st"
    exact q hn
theorem sum_set {n : Str} {v : Int} : ∀ {d : List (Str × Int)}, (keysS d).Nodup → n ∈ keysS d → ((d.map fun x => if x.1 = n then (x.1, v) else x).map (·.2)).sum = (d.map (·.2)).sum - gD d n + v
  | y :: r, h, hn => by
    obtain ⟨h1, h2⟩ := List.nodup_cons.mp (show (y.1 :: keysS r).Nodup from h)
    rw [List.map_cons, List.map_cons, List.sum_cons, List.map_cons, List.sum_cons, gD_cons]
    by_cases e : y.1 = n
    · rw [if_pos e, if_pos e.symm]
      have hr : (r.map fun x => if x.1 = n then (x.1, v) else x) = r := by
        conv => rhs; rw [← List.map_id r]
        refine List.map_congr_left fun x hx => ?_
        rw [if_neg fun z => h1 (by rw [e, ← z]; exact List.mem_map.mpr ⟨x, hx, rfl⟩)]
        rfl
      rw [hr]
      show v + _ = _
      omega
    · rw [if_neg e, if_neg (Ne.symm e), sum_set h2 ((List.mem_cons.mp (show n ∈ y.1 :: keysS r from hn)).resolve_left (Ne.symm e))]
      omega
theorem sum_put {d : List (Str × Int)} (h : (keysS d).Nodup) (n : Str) (a : Int) : ((putS d n (gD d n + a)).map (·.2)).sum = (d.map (·.2)).sum + a := by
  unfold putS
  by_cases e : n ∈ keysS d
  · rw [if_pos e, sum_set h e]
    omega
  · rw [if_neg e, List.map_append, List.sum_append, gD_nokey e]
    show _ + (0 + a + 0) = _
    omega
def intOf : V → Int
  | .int i => i
  | _ => 0
theorem scanS_sum {ks : List Str} : ∀ {mv : List (Str × V)} {d d' : List (Str × Int)}, scanS ks mv d = .ok d' → (keysS d).Nodup → (∀ m, m ∈ mv → ∃ z : Int, m.2 = .int z) → (d'.map (·.2)).sum = (d.map (·.2)).sum + (mv.map fun m => intOf m.2).sum
  | [], d, d', h, _, _ => by
    cases h
    exact (Int.add_zero _).symm
  | m :: r, d, d', h, hn, hm => by
    obtain ⟨z, hz⟩ := hm m List.mem_cons_self
    change (match stepS ks d m with | .ok d' => scanS ks r d' | .error e => .error e) = _ at h
    unfold stepS at h
    rw [hz] at h
    by_cases hk : m.1 ∈ ks
    · rw [if_pos hk] at h
      have ih := scanS_sum (d := putS d m.1 (gD d m.1 + z)) h (by rw [keys_put]; exact addK_nodup hn) fun w hw => hm w (List.mem_cons_of_mem _ hw)
      rw [ih, sum_put hn, List.map_cons, List.sum_cons, hz]
      show _ = _ + (z + _)
      omega
    · rw [if_neg hk] at h
      cases h
def sp_Ledger_transfer (K : PySem.W.Frag) (CU CA CB CO C : Addr) : Sp := fun vs H Q E => ∃ (x dx D1 D2 D3 L : Addr) (bs : List (Str × Int)) (ms : List (Str × Bool)) (ss : List (Str × Addr)) (rs : Str → List V) (en : List V) (n1 n2 : Str) (i : Int), vs = [.ref x, .str n1, .str n2, .int i] ∧ Led C H x dx D1 D2 D3 L bs ms ss rs en ∧ en.length ≤ 800 ∧ bs.length ≤ 800 ∧
  (i < 0 → E (.ref CA) none H) ∧ (0 ≤ i → scanS (keysS bs) [(n1, V.int (-i)), (n2, .int i)] [] = .error false → ∀ H', Same H H' → E (.ref CU) none H') ∧
  (∀ d, 0 ≤ i → scanS (keysS bs) [(n1, V.int (-i)), (n2, .int i)] [] = .ok d → (d.map (·.2)).sum = 0 → overF bs ms d = true → ∀ H', Same H H' → E (.ref CO) none H') ∧
  (∀ d M rs' H', 0 ≤ i → scanS (keysS bs) [(n1, V.int (-i)), (n2, .int i)] [] = .ok d → (d.map (·.2)).sum = 0 → overF bs ms d = false → Led C H' x dx D1 D2 D3 L (postB bs d) ms ss rs' (en ++ [.ref M]) → FrL H H' D1 L ss → H M = none → (∃ xs, H' M = some (.lst xs)) → Q (.int ((en.length : Nat) + 1 : Int)) H')
def sp_Ledger_entries (K : PySem.W.Frag) (C : Addr) : Sp := fun vs H Q _ => ∃ (x dx D1 D2 D3 L : Addr) (bs : List (Str × Int)) (ms : List (Str × Bool)) (ss : List (Str × Addr)) (rs : Str → List V) (en : List V), vs = [.ref x] ∧ Led C H x dx D1 D2 D3 L bs ms ss rs en ∧ en.length ≤ 800 ∧ (∀ v, v ∈ en → ∃ a xs, v = .ref a ∧ H a = some (.lst xs)) ∧
  ∀ p H' ns, Same H H' → H p = none → H' p = some (.lst (ns.map V.ref)) → ns.length = en.length → Paired (fun (n : Addr) (v : V) => ∃ a xs, v = .ref a ∧ H a = some (.lst xs) ∧ H' n = some (.lst xs) ∧ H n = none) ns en → Q (.ref p) H'
set_option maxHeartbeats 0 in
theorem ok_Ledger_entries (T : Txt K mg) : FnOk P w K mg base CX0 1 T.f_Ledger_entries T.d_Ledger_entries ["self"] (sp_Ledger_entries K T.c_Ledger) := by
  refine T.F_Ledger_entries.ok sc_Ledger_entries (fun vs H Q E h => ?_) (fun cdv A outer s H vs Q E hr h => ?_)
  · obtain ⟨x, dx, D1, D2, D3, L, bs, ms, ss, rs, en, rfl, _⟩ := h
    rfl
  · obtain ⟨x, dx, D1, D2, D3, L, bs, ms, ss, rs, en, rfl, B, hen, hel, q⟩ := h
    
    refine ⟨_, (pss_one (ps_ret (pe_lc (own := [("moves", 1)]) (g := gName 1) (tt := tYes) rfl sc_Ledger_entries.nd (pi_list (pe_fld (pv 0) rfl)) (blkOk_by (own := [("moves", 1)]) (N := N_Ledger_entries) (sc := defScope s_Ledger_entries) (by decide +kernel)) (fun _ _ _ _ _ => (pg_name (i := 1) sc_Ledger_entries.nd rfl (Or.inl rfl))) (fun _ _ _ _ _ => pts_nil) (fun _ _ _ _ _ => (pe_callTy (show CallR _ (.type "list") (rListOf K) from call_list_of) (by rfl) T.z_list (by decide +kernel) (pa_cons (pv 1) pa_nil)))))), ?_⟩
    have fact_Ledger_0 := T.cl_Ledger; have fact_Ledger_1 := T.na_Ledger__balances; have fact_Ledger_2 := T.na_Ledger__may_owe; have fact_Ledger_3 := T.na_Ledger__statements; have fact_Ledger_4 := T.na_Ledger__entries
    have hob := B.ob
    have he := SqL.of (K := K) B.e
    walk_at "st"
    intro D nD
    refine lc_list (K := K) (a := L) (xs := en) (fun i H' => ∃ ns : List Addr, H' D = some (.lst (ns.map V.ref)) ∧ ns.length = i ∧ Paired (fun (n : Addr) (v : V) => ∃ a xs, v = .ref a ∧ H a = some (.lst xs) ∧ H' n = some (.lst xs) ∧ n ≠ D ∧ H n = none) ns (en.take i) ∧ Same H H')
      ⟨[], upd_same, rfl, by rw [List.take_zero]; exact .nil, same_upd nD⟩ (fun i H' _ ⟨_, _, _, _, e⟩ => e.seq he) ?_ ?_
    · rintro i y H' hy ⟨ns, hD, hnl, hP, e⟩
      have hi := (List.getElem?_eq_some_iff.mp hy).1
      obtain ⟨a, xs, rfl, ha⟩ := hel y (List.mem_of_getElem? hy)
      have ha' := SqL.of (K := K) (e _ _ ha)
      refine ⟨rfl, ?_⟩
      walk_at "st"
      intro n nn
      have nD2 : D ≠ n := ne_of_none hD nn
      refine ⟨_, (upd_ne nD2).trans hD, small1000 (by rw [List.length_map]; omega), ns ++ [n], ?_, ?_, ?_, ?_⟩
      · rw [upd_same, List.map_append]
        rfl
      · rw [List.length_append, hnl]
        rfl
      · rw [take_succ hy]
        refine paired_snoc (paired_imp (fun m v h => ?_) hP) ⟨a, xs, rfl, ha, ?_, nD2.symm, e.free nn⟩
        · obtain ⟨b, ys, h1, h2, h3, h4, h5⟩ := h
          exact ⟨b, ys, h1, h2, by rw [upd_ne h4, upd_ne (ne_of_none h3 nn)]; exact h3, h4, h5⟩
        · rw [upd_ne nD2.symm]
          exact upd_same
      · intro z o hz
        rw [upd_ne (ne_of_none hz nD), upd_ne (ne_of_none (e _ _ hz) nn)]
        exact e _ _ hz
    · rintro H3 ⟨ns, hD, hnl, hP, e⟩
      rw [List.take_of_length_le (Nat.le_refl _)] at hP
      exact q D H3 ns e nD hD hnl (paired_imp (fun m v h => by
        obtain ⟨b, ys, h1, h2, h3, _, h5⟩ := h
        exact ⟨b, ys, h1, h2, h3, h5⟩) hP)
def sp_Ledger_accounts (K : PySem.W.Frag) (C : Addr) : Sp := fun vs H Q _ => ∃ (x dx D1 D2 D3 L : Addr) (bs : List (Str × Int)) (ms : List (Str × Bool)) (ss : List (Str × Addr)) (rs : Str → List V) (en : List V), vs = [.ref x] ∧ Led C H x dx D1 D2 D3 L bs ms ss rs en ∧ bs.length < 64 ∧ ∀ ys p, ys.Perm (keysS bs) → sortedS ys = true → H p = none → Q (.ref p) (upd H p (.lst (ys.map V.str)))
set_option maxHeartbeats 0 in
theorem ok_Ledger_accounts (T : Txt K mg) : FnOk P w K mg base CX0 1 T.f_Ledger_accounts T.d_Ledger_accounts ["self"] (sp_Ledger_accounts K T.c_Ledger) := by
  refine T.F_Ledger_accounts.ok sc_Ledger_accounts (fun vs H Q E h => ?_) (fun cdv A outer s H vs Q E hr h => ?_)
  · obtain ⟨x, dx, D1, D2, D3, L, bs, ms, ss, rs, en, rfl, _⟩ := h
    rfl
  · obtain ⟨x, dx, D1, D2, D3, L, bs, ms, ss, rs, en, rfl, B, hl, q⟩ := h
    
    refine ⟨_, (pss_one (ps_ret (pe_callB (call_sortedD rfl) (by rfl) T.z_sorted (by decide +kernel) (pa_cons (pe_fld (pv 0) rfl) pa_nil)))), ?_⟩
    have fact_Ledger_0 := T.cl_Ledger; have fact_Ledger_1 := T.na_Ledger__balances; have fact_Ledger_2 := T.na_Ledger__may_owe; have fact_Ledger_3 := T.na_Ledger__statements; have fact_Ledger_4 := T.na_Ledger__entries
    have hob := B.ob
    walk_at "st"
    refine ⟨_, keysS bs, rfl, .inl B.b, keys_enc bs, by unfold keysS; rw [List.length_map]; exact hl, ?_⟩
    walk_at "st"
    exact q

end LD
/-- what stands ahead of the text in the line n -/
def preL (n : Nat) : List Nat := TL.numL n ++ [32]
theorem preL_no (n : Nat) : 10 ∉ preL n := by
  unfold preL
  rw [List.mem_append, not_or]
  exact ⟨TL.numL_free (by decide), by decide⟩
theorem preL_small (n : Nat) : ∀ x, x ∈ preL n → x < 9973 := by
  intro x hx
  unfold preL at hx
  rcases List.mem_append.mp hx with h | h
  · have := TL.numL_digits n x h
    omega
  · rw [List.mem_singleton.mp h]
    decide
theorem numL_3 {n : Nat} (h : n < 1000) : (TL.numL n).length ≤ 3 := TL.numL_len (by decide) (by omega)
theorem at_code {x : Str} {i c : Nat} (hc : x.cps[i]? = some c) : (TL.tl x)[i]? = some c := by
  rw [show TL.tl x = x.cps.toList from rfl, Array.getElem?_toList]
  exact hc
def sp_check_of (K : PySem.W.Frag) : Sp := fun vs H Q _ => ∃ x : Str, vs = [.str x] ∧ x.length ≤ 1000 ∧ Q (.str (strL (dig4 (chkF 7 (TL.tl x))))) H
set_option maxHeartbeats 0 in
theorem ok_check_of (T : Txt K mg) : FnOk P w K mg base CX0 1 T.f_check_of T.d_check_of ["text"] (sp_check_of K) := by
  refine T.F_check_of.ok sc_check_of (fun vs H Q E h => ?_) (fun cdv A outer s H vs Q E hr h => ?_)
  · obtain ⟨x, rfl, _⟩ := h
    rfl
  · obtain ⟨x, rfl, hx, q⟩ := h
    refine ⟨_, (pss_cons (ps_set (i := 1) sc_check_of.nd rfl (Or.inl rfl) (pe_glob (v := .int 7) rfl T.m_FIRST_VALUE ⟨_, rfl⟩))
    (pss_cons (ps_for PassesOwn.never rfl (pi_str (pv 0)) (pg_name (i := 2) sc_check_of.nd rfl (Or.inl rfl))
      (pss_one (ps_set (i := 1) sc_check_of.nd rfl (Or.inl rfl) (pe_op op_mod (pe_op op_add (pe_op op_mul (pv 1) (pe_glob (v := .int 31) rfl T.m_FACTOR ⟨_, rfl⟩)) (pe_callB call_ord (by rfl) T.z_ord (by decide +kernel) (pa_cons (pv 2) pa_nil))) (pe_glob (v := .int 9973) rfl T.m_MODULUS ⟨_, rfl⟩)))))
    (pss_one (ps_ret (pe_joined1 (pe_fmt04 (pv 1))))))), ?_⟩
    walk_at "st"
    refine for_it (walk_str (z := x)) (fun i σ H2 => ∃ v : Option V, σ = [some (.str x), some (.int ((chkF 7 ((TL.tl x).take i) : Nat) : Int)), v] ∧ H2 = H) ⟨none, rfl, rfl⟩ (fun _ _ _ _ _ => trivial) ?_ ?_
    · rintro i v σ H2 H3 hi ⟨v0, rfl, rfl⟩ ⟨rfl, c, hc, rfl⟩
      have hc2 := at_code hc
      walk_at "st"
      have e : (((chkF 7 ((TL.tl x).take i) : Nat) : Int) * 31 + (((⟨#[c]⟩ : Str).cps.getD 0 0 : Nat) : Int)) % 9973 = ((chkF 7 ((TL.tl x).take (i + 1)) : Nat) : Int) := by
        rw [take_succ hc2, chkF_append]
        show _ = (((chkF 7 ((TL.tl x).take i) * 31 + c) % 9973 : Nat) : Int)
        show (((chkF 7 ((TL.tl x).take i) : Nat) : Int) * 31 + ((c : Nat) : Int)) % 9973 = _
        omega
      refine ⟨some (.str ⟨#[c]⟩), ?_, rfl⟩
      rw [← e]
      rfl
    · rintro σ H2 ⟨v0, rfl, rfl⟩
      rw [List.take_of_length_le (by simp)]
      have hb := chkF_lt (v := 7) (by decide) (TL.tl x)
      walk_at "st"
      rw [Int.toNat_natCast]
      exact q
theorem code_le1 (a b : Nat) : (!decide ([a] < [b])) = decide (b ≤ a) := by
  by_cases h : a < b
  · have h2 : [a] < [b] := List.Lex.rel h
    rw [decide_eq_true h2, decide_eq_false (by omega)]
    rfl
  · have : ¬ [a] < [b] := fun z => by
      cases z with
      | rel h2 => exact h h2
      | cons h2 => cases h2
    rw [decide_eq_false this, decide_eq_true (by omega)]
    rfl
def sp_is_text (K : PySem.W.Frag) : Sp := fun vs H Q _ => ∃ x : Str, vs = [.str x] ∧ x.length ≤ 1000 ∧ ∀ H', Same H H' → Q (.bl (goodT (TL.tl x))) H'
set_option maxHeartbeats 0 in
theorem ok_is_text (T : Txt K mg) : FnOk P w K mg base CX0 1 T.f_is_text T.d_is_text ["text"] (sp_is_text K) := by
  refine T.F_is_text.ok sc_is_text (fun vs H Q E h => ?_) (fun cdv A outer s H vs Q E hr h => ?_)
  · obtain ⟨x, rfl, _⟩ := h
    rfl
  · obtain ⟨x, rfl, hx, q⟩ := h
    refine ⟨_, (pss_one (ps_ret (pe_and (pe_cmpR op_ne (pv 0) pe_str (nomark _)) (pe_one (pe_callB (cr_all rfl) (by rfl) T.z_all (by decide +kernel) (pa_cons (pe_lc (own := [("sign", 1)]) (g := gName 1) (tt := tYes) rfl sc_is_text.nd (pi_str (pv 0)) (blkOk_by (own := [("sign", 1)]) (N := N_is_text) (sc := defScope s_is_text) (by decide +kernel)) (fun _ _ _ _ _ => (pg_name (i := 1) sc_is_text.nd rfl (Or.inl rfl))) (fun _ _ _ _ _ => pts_nil) (fun _ _ _ _ _ => (pe_chain op_le_str op_le_str pe_str (pv 1) pe_str))) pa_nil)))))), ?_⟩
    walk_at "st"
    cases e : decide (V.str x = V.str "") with
    | true =>
      have e2 : x = "" := V.str.inj (of_decide_eq_true e)
      rw [e2] at q
      walk_at "st"
      exact q H (.refl H)
    | false =>
      have e2 : TL.tl x ≠ [] := fun z => of_decide_eq_false e (congrArg V.str (TL.ext_tl (x := x) (y := "") z))
      walk_at "st"
      intro D nD
      have s1 : ∀ o, Same H (upd H D o) := fun o => same_upd nD
      refine lc_it (walk_str (z := x)) (fun i H' => H' = upd H D (.lst (((TL.tl x).take i).map fun c => V.bl (decide (32 ≤ c ∧ c ≤ 126))))) rfl (fun _ _ _ _ => trivial) ?_ ?_
      · rintro i v H' H2 hi rfl ⟨rfl, c, hc, rfl⟩
        have hc2 := at_code hc
        have hlt : (((TL.tl x).take i).map fun c => V.bl (decide (32 ≤ c ∧ c ≤ 126))).length < sizeLine := small1000 (by rw [List.length_map, List.length_take, ← TL.len_tl]; omega)
        refine ⟨rfl, ?_⟩
        walk_at "st"
        have l1 : (!decide ((⟨#[c]⟩ : Str).cps.toList < (" " : Str).cps.toList)) = decide (32 ≤ c) := code_le1 c 32
        have l2 : (!decide (("~" : Str).cps.toList < (⟨#[c]⟩ : Str).cps.toList)) = decide (c ≤ 126) := code_le1 126 c
        have fin : ∀ b : Bool, b = decide (32 ≤ c ∧ c ≤ 126) → upd (upd H D (.lst (((TL.tl x).take i).map fun c => V.bl (decide (32 ≤ c ∧ c ≤ 126))))) D (.lst ((((TL.tl x).take i).map fun c => V.bl (decide (32 ≤ c ∧ c ≤ 126))) ++ [V.bl b])) = upd H D (.lst (((TL.tl x).take (i + 1)).map fun c => V.bl (decide (32 ≤ c ∧ c ≤ 126)))) := by
          intro b e
          rw [upd_upd, take_succ hc2, List.map_append, e]
          rfl
        refine iteB (fun h => ?_) (fun h => ?_)
        · refine ⟨_, _, rfl, rfl, _, upd_same, hlt, fin _ ?_⟩
          refine Eq.trans l2 ?_
          have h' := of_decide_eq_true (l1.symm.trans h)
          by_cases z : c ≤ 126
          · rw [decide_eq_true z, decide_eq_true ⟨h', z⟩]
          · rw [decide_eq_false z, decide_eq_false fun q => z q.2]
        · refine ⟨_, upd_same, hlt, fin _ ?_⟩
          have h' := of_decide_eq_false (l1.symm.trans h)
          rw [decide_eq_false fun q => h' q.1]
      · rintro H' rfl
        refine ⟨D, (TL.tl x).map fun c => decide (32 ≤ c ∧ c ≤ 126), rfl, ?_, ?_⟩
        · refine SqL.of (upd_same.trans ?_)
          rw [List.map_map, List.take_of_length_le (by simp)]
          rfl
        · have e3 : goodT (TL.tl x) = (((TL.tl x).map fun c => decide (32 ≤ c ∧ c ≤ 126)).all id) := by
            unfold goodT
            rw [List.all_map]
            cases h : TL.tl x with
            | nil => exact absurd h e2
            | cons a b => rfl
          rw [← e3]
          exact q _ (s1 _)
def sp_write_line (K : PySem.W.Frag) (C : Addr) : Sp := fun vs H Q E => ∃ (n : Nat) (x : Str), vs = [.int (n : Int), .str x] ∧ n < 1000 ∧ x.length ≤ 900 ∧
  (goodT (TL.tl x) = true → ∀ H', Same H H' → Q (.str (strL (lineP (preL n) (TL.tl x)))) H') ∧ (goodT (TL.tl x) = false → ∀ H', Same H H' → E (.ref C) none H')
set_option maxHeartbeats 0 in
theorem ok_write_line (T : Txt K mg) : FnOk P w K mg base (L2.CX P w) 2 T.f_write_line T.d_write_line ["number", "text"] (sp_write_line K T.c_BrokenTape) := by
  refine T.F_write_line.okX sc_write_line (fun vs H Q E h => ?_) (fun cdv A outer s H vs Q E hr h => ?_)
  · obtain ⟨n, x, rfl, _⟩ := h
    rfl
  · obtain ⟨n, x, rfl, hn, hx, q, qe⟩ := h
    have G_is_text : FnOk P w K mg base CX0 1 T.f_is_text T.d_is_text ["text"] (sp_is_text K) := ok_is_text T
    have G_check_of : FnOk P w K mg base CX0 1 T.f_check_of T.d_check_of ["text"] (sp_check_of K) := ok_check_of T
    refine ⟨_, (pss_cons (ps_if (pt_not (pt_val (pe_call G_is_text hr (by rfl) T.m_is_text T.F_is_text.kp T.b_is_text .nil pass0 (pa_cons (pv 1) pa_nil))))
      (pss_one (ps_raise rfl (takes_of rfl rfl rfl rfl) (pmk_own PySem.F.excBase_ValueError T.x_BrokenTape T.m_BrokenTape T.k_BrokenTape (raises_own T.b_BrokenTape T.t_BrokenTape) (by rfl))))
      pss_nil)
    (pss_cons (ps_set (i := 2) sc_write_line.nd rfl (Or.inl rfl) (pe_joined (PJ.cons (pe_fmt (pv 0)) (PJ.cons pe_str (PJ.cons (pe_fmt (pv 1)) PJ.nil)))))
    (pss_one (ps_ret (pe_joined (PJ.cons (pe_fmt (pv 2)) (PJ.cons pe_str (PJ.cons (pe_fmt (pe_call G_check_of hr (by rfl) T.m_check_of T.F_check_of.kp T.b_check_of .nil pass0 (pa_cons (pv 2) pa_nil))) (PJ.cons pe_str PJ.nil))))))))), ?_⟩
    walk_at "st"
    intro H1 s1
    cases hg : goodT (TL.tl x) with
    | false =>
      walk_at "st"
      exact qe hg H1 s1
    | true =>
    have q := q hg
    walk_at "st"
    have hn3 := numL_3 hn
    have e1 : TL.tl (Str.ofString (toString ((n : Nat) : Int))) = TL.numL n := TL.tl_num n
    generalize hs : Str.ofString (toString ((n : Nat) : Int)) = sn at e1
    have ln : sn.length ≤ 3 := by rw [TL.len_tl, e1]; exact hn3
    have b1 : (Str.empty ++ sn).length ≤ 3 := by rw [TL.len_tl, TL.tl_append, ← e1] at *; rw [List.length_append]; exact (by show 0 + _ ≤ 3; omega)
    have b2 : (Str.empty ++ sn ++ (" " : Str)).length ≤ 4 := by rw [TL.len_tl, TL.tl_append, List.length_append, ← TL.len_tl]; exact Nat.add_le_add b1 (Nat.le_refl 1)
    have b3 : (Str.empty ++ sn ++ (" " : Str) ++ x).length ≤ 904 := by rw [TL.len_tl, TL.tl_append, List.length_append, ← TL.len_tl, ← TL.len_tl]; omega
    have e3 : TL.tl (Str.empty ++ sn ++ (" " : Str) ++ x) = preL n ++ TL.tl x := by
      rw [TL.tl_append, TL.tl_append, TL.tl_append, e1]
      rfl
    refine .inr ⟨_, rfl, natAbs_log (k := 10) (by omega) (by decide) (by decide), _, rfl, ?_, ?_⟩
    · rw [hs]
      exact len_le' b1 rfl
    rw [hs]
    refine ⟨_, rfl, len_le' b2 rfl, ⟨_, rfl, .inl ⟨_, rfl, len_le' hx rfl, _, rfl, len_le' b3 rfl, ?_⟩⟩⟩
    generalize Str.empty ++ sn ++ (" " : Str) ++ x = nx at b3 e3
    have c1 : (Str.empty ++ nx).length ≤ 904 := by rw [TL.len_tl, TL.tl_append, List.length_append, ← TL.len_tl nx]; show 0 + _ ≤ _; omega
    have c2 : (Str.empty ++ nx ++ (" " : Str)).length ≤ 905 := by rw [TL.len_tl, TL.tl_append, List.length_append, ← TL.len_tl]; exact Nat.add_le_add c1 (Nat.le_refl 1)
    have c3 : (Str.empty ++ nx ++ (" " : Str) ++ strL (dig4 (chkF 7 (TL.tl nx)))).length ≤ 909 := by rw [TL.len_tl, TL.tl_append, List.length_append, ← TL.len_tl, tl_strL]; exact Nat.add_le_add c2 (Nat.le_refl 4)
    have c4 : (Str.empty ++ nx ++ (" " : Str) ++ strL (dig4 (chkF 7 (TL.tl nx))) ++ ("\n" : Str)).length ≤ 910 := by rw [TL.len_tl, TL.tl_append, List.length_append, ← TL.len_tl]; exact Nat.add_le_add c3 (Nat.le_refl 1)
    have e : Str.empty ++ nx ++ (" " : Str) ++ strL (dig4 (chkF 7 (TL.tl nx))) ++ ("\n" : Str) = strL (lineP (preL n) (TL.tl x)) := by
      refine TL.ext_tl ?_
      rw [TL.tl_append, TL.tl_append, TL.tl_append, TL.tl_append, tl_strL, tl_strL, e3]
      unfold lineP
      show [] ++ (preL n ++ TL.tl x) ++ [32] ++ dig4 _ ++ [10] = _
      simp only [List.append_assoc, List.nil_append]
    have q' := q H1 s1
    rw [← e] at q'
    refine ⟨_, rfl, .inl ⟨_, rfl, len_le' b3 rfl, _, rfl, len_le' c1 rfl, _, rfl, len_le' c2 rfl, ?_⟩⟩
    walk_at "st"
    refine .inl ⟨_, rfl, by rw [strL_len]; exact len_le rfl, _, rfl, len_le' c3 rfl, _, rfl, len_le' c4 rfl, q'⟩

/-! ### the law's own rows -/
def housesL : List Str := ["ash", "bay", "elm", "oak"]
def houseF (c : Int) : Str := housesL.getD (c % 4).toNat ""
theorem houseF_at (c : Int) : atI (housesL.map V.str) (c % 4) = some (.str (houseF c)) := by
  have h0 := Int.emod_nonneg c (by decide : (4 : Int) ≠ 0)
  have h1 := Int.emod_lt_of_pos c (by decide : (0 : Int) < 4)
  obtain ⟨n, hn⟩ := Int.eq_ofNat_of_zero_le h0
  unfold houseF
  rw [hn, Int.toNat_natCast]
  refine at_of (j := n) rfl ?_
  have hl : n < housesL.length := by show n < 4; omega
  rw [List.getElem?_map, List.getD_eq_getElem?_getD, List.getElem?_eq_getElem hl]
  rfl
theorem houseF_ne (c : Int) : ¬ V.str (houseF c) = V.str "" := by
  have h0 := Int.emod_nonneg c (by decide : (4 : Int) ≠ 0)
  have h1 := Int.emod_lt_of_pos c (by decide : (0 : Int) < 4)
  have h2 : ∀ n : Nat, n < 4 → ¬ V.str (housesL.getD n "") = V.str "" := by decide +kernel
  exact h2 _ (by omega)
theorem houseF_sok (c : Int) : PyData.strOk (houseF c) = true := by
  have h0 := Int.emod_nonneg c (by decide : (4 : Int) ≠ 0)
  have h1 := Int.emod_lt_of_pos c (by decide : (0 : Int) < 4)
  have h2 : ∀ n : Nat, n < 4 → PyData.strOk (housesL.getD n "") = true := by decide +kernel
  exact h2 _ (by omega)
def sp_law_house (K : PySem.W.Frag) : Sp := fun vs H Q _ => ∃ c : Int, vs = [.int c] ∧ ∀ H', Same H H' → Q (.str (houseF c)) H'
set_option maxHeartbeats 0 in
theorem ok_law_house (T : Txt K mg) : FnOk P w K mg base CX0 1 T.f_law_house T.d_law_house ["cell"] (sp_law_house K) := by
  refine T.F_law_house.ok sc_law_house (fun vs H Q E h => ?_) (fun cdv A outer s H vs Q E hr h => ?_)
  · obtain ⟨c, rfl, _⟩ := h
    rfl
  · obtain ⟨c, rfl, q⟩ := h
    refine ⟨_, (pss_one (ps_ret (pe_ix ix_list (pe_lst (pa_cons pe_str (pa_cons pe_str (pa_cons pe_str (pa_cons pe_str pa_nil))))) (pe_op op_mod (pe_callTy call_int_i (by rfl) T.z_int (by decide +kernel) (pa_cons (pv 0) pa_nil)) pe_int) (fun _ _ => rfl)))), ?_⟩
    walk_at "st"
    intro p np
    have hp : SqL K (upd H p (.lst [V.str "ash", V.str "bay", V.str "elm", V.str "oak"])) p (housesL.map V.str) := SqL.of upd_same
    have hat := houseF_at c
    walk_at "st"
    exact q _ (same_upd np)

def sp_law_spoil (K : PySem.W.Frag) : Sp := fun vs H Q _ => ∃ (_ : Unit) (l : Addr) (xs : List V), vs = [.ref l] ∧ H l = some (.lst xs) ∧ xs.length ≤ 900 ∧
  ∀ (ys : List V) (H' : Hp), KeepX l H H' → H' l = some (.lst ys) → ys.length ≤ xs.length + 2 → Q .non H'
set_option maxHeartbeats 0 in
theorem ok_law_spoil (T : Txt K mg) : FnOk P w K mg base CX0 1 T.f_law_spoil T.d_law_spoil ["rows"] (sp_law_spoil K) := by
  refine T.F_law_spoil.ok sc_law_spoil (fun vs H Q E h => ?_) (fun cdv A outer s H vs Q E hr h => ?_)
  · obtain ⟨_, l, xs, rfl, _⟩ := h
    rfl
  · obtain ⟨_, l, xs, rfl, hl, hz, q⟩ := h
    refine ⟨_, (pss_cons (ps_expr (pe_bm PySem.F.plainAttrs_list PySem.F.slot_list_append PySem.F.type_list_append mt_append (pv 0) (pa_cons (pe_tup (pa_cons pe_str (pa_cons pe_int pa_nil))) pa_nil)))
    (pss_cons (ps_expr (pe_bm PySem.F.plainAttrs_list PySem.F.slot_list_append PySem.F.type_list_append mt_append (pv 0) (pa_cons pe_int pa_nil)))
    (pss_cons (ps_if (pt_cmpR op_gt (pe_callB call_len_seq (by rfl) T.z_len PySem.boot_len (pa_cons (pv 0) pa_nil)) pe_int (nomark _))
      (pss_cons (ps_expr (pe_bm PySem.F.plainAttrs_list PySem.F.slot_list_pop PySem.F.type_list_pop mt_popAt (pv 0) (pa_cons pe_int pa_nil)))
      (pss_one (ps_asg pe_non (pg_sub (pv 0) pe_int set_list))))
      pss_nil)
    (pss_one (ps_expr (pe_bm0 PySem.F.plainAttrs_list PySem.F.slot_list_reverse PySem.F.type_list_reverse mt_reverse (pv 0))))))), ?_⟩
    have hz0 : xs.length < sizeLine := small1000 (by omega)
    walk_at "st"
    intro t nt
    have k0 : KeepX l H H := fun z o _ h => h
    have k1 := k0.then (same_upd (o := .tup [.str "ash", .int 7]) nt)
    have hl1 := same_upd (o := .tup [.str "ash", .int 7]) nt _ _ hl
    generalize upd H t (.tup [.str "ash", .int 7]) = H1 at k1 hl1
    walk_at "st"
    have k2 := k1.set (o := .lst (xs ++ [.ref t]))
    have hl2 : upd H1 l (.lst (xs ++ [.ref t])) l = some (.lst (xs ++ [.ref t])) := upd_same
    have hz2 : (xs ++ [V.ref t]).length < sizeLine := small1000 (by rw [List.length_append, List.length_singleton]; omega)
    generalize upd H1 l (.lst (xs ++ [.ref t])) = H2 at k2 hl2 ⊢
    walk_at "st"
    have k3 := k2.set (o := .lst (xs ++ [.ref t] ++ [.int 7]))
    have hl3 : upd H2 l (.lst (xs ++ [.ref t] ++ [.int 7])) l = some (.lst (xs ++ [.ref t] ++ [.int 7])) := upd_same
    generalize upd H2 l (.lst (xs ++ [.ref t] ++ [.int 7])) = H3 at k3 hl3 ⊢
    have hln : (xs ++ [V.ref t] ++ [V.int 7]).length = xs.length + 2 := by rw [List.length_append, List.length_append]; rfl
    generalize xs ++ [V.ref t] ++ [V.int 7] = ws at hl3 hln
    have hl3S := SqL.of (K := K) hl3
    walk_at "st"
    refine iteB (fun h => ?_) (fun h => ?_)
    · have hgt : 3 < ws.length := by have := of_decide_eq_true h; omega
      cases ws with
      | nil => exact absurd hgt (by decide)
      | cons w0 wr =>
        have hsx : seqIndex? (0 : Int) (w0 :: wr).length = some 0 := (ixN_seq (n := (w0 :: wr).length) (i := 0) (j := 0) (by unfold ixN; rw [if_pos (by decide), if_pos (by rw [List.length_cons]; omega)]; rfl)).1
        have hw0 : (w0 :: wr)[0]? = some w0 := rfl
        have hix : ixN ((w0 :: wr).eraseIdx 0).length 0 = some 0 := by
          have h2 : wr.length + 1 = (w0 :: wr).length := rfl
          show ixN wr.length 0 = some 0
          unfold ixN
          rw [if_pos (by decide), if_pos (by omega)]
          rfl
        walk_at "st"
        exact q _ _ (KeepX.set (KeepX.set (KeepX.set k3))) upd_same (by rw [List.length_reverse, List.length_set]; have h2 : wr.length + 1 = (w0 :: wr).length := rfl; show wr.length ≤ _; omega)
    · walk_at "st"
      exact q _ _ (KeepX.set k3) upd_same (by rw [List.length_reverse]; omega)
def ListAt (H : Hp) (l : Addr) (n : Nat) : Prop := ∃ us, H l = some (.lst us) ∧ us.length ≤ n
theorem ListAt.keepx {H H' : Hp} {l k : Addr} {n : Nat} {ys : List V} (h : ListAt H l n) (kx : KeepX k H H') (hy : H' k = some (.lst ys)) (hl : ys.length ≤ n + 2) : ListAt H' l (n + 2) := by
  obtain ⟨us, h1, h2⟩ := h
  by_cases z : l = k
  · rw [z]; exact ⟨ys, hy, hl⟩
  · exact ⟨us, kx _ _ z h1, by omega⟩
theorem BookW.keepx {C : BC} {H H' : Hp} {a : BA} {s : BS} {l : Addr} {us : List V} (B : BookW C H a s) (hl : H l = some (.lst us)) (hf : l ∉ foot a s) (kx : KeepX l H H') : BookW C H' a s := by
  have k : ∀ {z v}, H z = some v → (∀ ys, v ≠ .lst ys) → H' z = some v := fun {z v} hz hv => kx _ _ (fun e => by rw [e, hl] at hz; exact hv _ (Option.some.inj hz).symm) hz
  have kf : ∀ {z v}, z ∈ foot a s → H z = some v → H' z = some v := fun {z v} hm hz => kx _ _ (fun e => hf (e ▸ hm)) hz
  have f1 : a.l1 ∈ foot a s := foot_iff.mpr (.inr (.inl rfl))
  have f2 : a.l2 ∈ foot a s := foot_iff.mpr (.inr (.inr (.inl rfl)))
  have f3 : a.st ∈ foot a s := foot_iff.mpr (.inr (.inr (.inr (.inl rfl))))
  exact ⟨k B.ob (fun ys e => by unfold bookO at e; cases e), k B.sd (fun ys e => by unfold sidesO at e; cases e),
    ⟨kf f3 B.sp.li, fun e he => k (B.sp.en e he) (fun ys e => by unfold stopO at e; cases e), B.sp.nd, B.sp.sm⟩,
    ⟨k B.s1.ob (fun ys e => by cases e), kf f1 B.s1.li, fun e he => k (B.s1.en e he) (fun ys e => by unfold ordO at e; cases e), B.s1.nd, B.s1.sm⟩,
    ⟨k B.s2.ob (fun ys e => by cases e), kf f2 B.s2.li, fun e he => k (B.s2.en e he) (fun ys e => by unfold ordO at e; cases e), B.s2.nd, B.s2.sm⟩, B.r1, B.r2, B.dj, B.nll, B.n1, B.n2, B.gs, B.sz⟩

/-- how much an order has left is never more than before -/
theorem runM_lefts {t : Ord} {b : Int} {s : Str} : ∀ (k : Nat) {m : Mt}, Rank s m.es → (∀ e, e ∈ m.es → e.2.2.left ≤ b) → ∀ y, y ∈ (runM t k m).es → y.2.2.left ≤ b
  | 0, m, _, h => h
  | k + 1, m, hr, h => by
    cases g : goesM t m with
    | none => rw [runM_stop g]; exact h
    | some e =>
      rw [runM_go g]
      refine runM_lefts k (stepM_less hr g).2.2 fun y hy => ?_
      obtain ⟨h1, h2, h3⟩ := goesM_some g
      have hr1 := hr
      rw [h1] at hr1 h
      have hv := hr1.vis e List.mem_cons_self
      have hq : 0 ≤ qtyM m e := by
        unfold qtyM
        split <;> omega
      have heb := h e List.mem_cons_self
      unfold stepM at hy
      split at hy
      · exact h y (List.mem_cons_of_mem _ hy)
      · dsimp only at hy
        unfold tradeF at hy
        dsimp only at hy
        split at hy
        · split at hy
          · rcases insE_mem.mp hy with z | z
            · rw [z]
              show e.2.2.left - qtyM m e ≤ b
              omega
            · exact h y (List.mem_cons_of_mem _ z)
          · exact h y (List.mem_cons_of_mem _ hy)
        · rcases List.mem_cons.mp hy with z | z
          · rw [z]
            show e.2.2.left - qtyM m e ≤ b
            omega
          · exact h y (List.mem_cons_of_mem _ z)
theorem sub_lefts {kd : Str} {t : Ord} {o dxo : Addr} {last : Option Int} {oth own : List Ent} {b : Int} (hr : Rank (otherS t.side) oth) (h1 : ∀ e, e ∈ oth → e.2.2.left ≤ b) (h2 : ∀ e, e ∈ own → e.2.2.left ≤ b) (h0 : 0 ≤ t.left) (hb : t.left ≤ b) :
    ∀ e, (e ∈ (subF kd t o dxo last oth own).oth ∨ e ∈ (subF kd t o dxo last oth own).own) → e.2.2.left ≤ b := by
  unfold subF
  split
  · exact fun e he => he.elim (h1 e) (h2 e)
  · have hk := runM_keeps (s := otherS t.side) (t := t) (sizeM (startM t last oth)) (m := startM t last oth) hr h0
    have hlf : (endM t last oth).left ≤ t.left := hk.2.2.1
    intro e he
    rcases he with he | he
    · exact runM_lefts (s := otherS t.side) _ (m := startM t last oth) hr h1 e he
    · dsimp only at he
      split at he
      · rcases insE_mem.mp he with z | z
        · rw [z]
          show (endM t last oth).left ≤ b
          omega
        · exact h2 e z
      · exact h2 e he

def decO (q : Int) (o : Ord) : Ord := { o with left := o.left - q, visible := o.visible - q }
theorem trade_is (e : Ent) (es : List Ent) (n p : Int) : tradeF e es n p = if e.2.2.visible - n = 0 then (if 0 < e.2.2.left - n then insE es (place es p) (e.1, e.2.1, (decO n e.2.2).showNext) else es) else (e.1, e.2.1, decO n e.2.2) :: es := rfl
theorem trade_hnp {C : Str → Int → Option Int → Prop} {e : Ent} {es : List Ent} {n p : Int} (he : C e.2.2.house e.2.2.number e.2.2.price) (hes : ∀ z, z ∈ es → C z.2.2.house z.2.2.number z.2.2.price) : ∀ y, y ∈ tradeF e es n p → C y.2.2.house y.2.2.number y.2.2.price := by
  intro y h
  rw [trade_is] at h
  split at h
  · split at h
    · rcases List.mem_cons.mp ((insE_perm _ _ _).mem_iff.mp h) with z | z
      · rw [z]; exact he
      · exact hes y z
    · exact hes y h
  · rcases List.mem_cons.mp h with z | z
    · rw [z]; exact he
    · exact hes y z
theorem runM_hnp {t : Ord} {C : Str → Int → Option Int → Prop} : ∀ (k : Nat) {m : Mt}, (∀ e, e ∈ m.es → C e.2.2.house e.2.2.number e.2.2.price) → ∀ y, y ∈ (runM t k m).es → C y.2.2.house y.2.2.number y.2.2.price
  | 0, m, h => h
  | k + 1, m, h => by
    cases g : goesM t m with
    | none => rw [runM_stop g]; exact h
    | some e =>
      rw [runM_go g]
      refine runM_hnp k fun y hy => ?_
      obtain ⟨h1, h2, h3⟩ := goesM_some g
      rw [h1] at h
      unfold stepM at hy
      split at hy
      · exact h y (List.mem_cons_of_mem _ hy)
      · exact trade_hnp (h e List.mem_cons_self) (fun z hz => h z (List.mem_cons_of_mem _ hz)) y hy
theorem sub_hnp {kd : Str} {t : Ord} {o dxo : Addr} {last : Option Int} {oth own : List Ent} {C : Str → Int → Option Int → Prop} (h1 : ∀ e, e ∈ oth → C e.2.2.house e.2.2.number e.2.2.price) (h2 : ∀ e, e ∈ own → C e.2.2.house e.2.2.number e.2.2.price) (h0 : V.str kd = V.str "rest" → C t.house t.number t.price) :
    ∀ e, (e ∈ (subF kd t o dxo last oth own).oth ∨ e ∈ (subF kd t o dxo last oth own).own) → C e.2.2.house e.2.2.number e.2.2.price := by
  unfold subF
  split
  · exact fun e he => he.elim (h1 e) (h2 e)
  · intro e he
    rcases he with he | he
    · exact runM_hnp _ (m := startM t last oth) h1 e he
    · dsimp only at he
      split at he
      · next hr =>
        unfold restsM at hr
        rw [Bool.and_eq_true] at hr
        rcases insE_mem.mp he with z | z
        · rw [z]
          exact h0 (of_decide_eq_true hr.1)
        · exact h2 e z
      · exact h2 e he
theorem runM_fl {t : Ord} : ∀ (k : Nat) {m : Mt}, (runM t k m).fills.length + (runM t k m).gone.length ≤ m.fills.length + m.gone.length + k
  | 0, m => Nat.le_refl _
  | k + 1, m => by
    cases g : goesM t m with
    | none => rw [runM_stop g]; omega
    | some e =>
      rw [runM_go g]
      have ih := runM_fl (t := t) k (m := stepM t m e)
      have h1 : (stepM t m e).fills.length + (stepM t m e).gone.length ≤ m.fills.length + m.gone.length + 1 := by
        unfold stepM
        split
        · show m.fills.length + (m.gone ++ [_]).length ≤ _
          rw [List.length_append, List.length_singleton]
          omega
        · show (m.fills ++ [_]).length + m.gone.length ≤ _
          rw [List.length_append, List.length_singleton]
          omega
      omega
theorem sub_fl {kd : Str} {t : Ord} {o dxo : Addr} {last : Option Int} {oth own : List Ent} : (subF kd t o dxo last oth own).fills.length + (subF kd t o dxo last oth own).gone.length ≤ t.left.toNat + oth.length := by
  unfold subF
  split
  · exact Nat.zero_le _
  · have := runM_fl (t := t) (sizeM (startM t last oth)) (m := startM t last oth)
    have h1 : (startM t last oth).fills.length + (startM t last oth).gone.length = 0 := rfl
    have h2 : sizeM (startM t last oth) = t.left.toNat + oth.length := rfl
    show (endM t last oth).fills.length + (endM t last oth).gone.length ≤ _
    unfold endM
    omega
def OrdZ (o : Ord) : Prop := (o.house ∈ housesL ∧ 0 ≤ o.number ∧ o.number ≤ 100 ∧ ∃ p, o.price = some p ∧ 95 ≤ p ∧ p ≤ 105) ∧ o.left ≤ 9
def StpZ (q : Stp) : Prop := q.house ∈ housesL ∧ 0 ≤ q.number ∧ q.number ≤ 100 ∧ 95 ≤ q.trigger ∧ q.trigger ≤ 105 ∧ q.price = none ∧ q.quantity ≤ 9 ∧ (q.side = "buy" ∨ q.side = "sell")
structure GoodZ (s : BS) : Prop where
  e1 : ∀ e, e ∈ s.es1 → OrdZ e.2.2
  e2 : ∀ e, e ∈ s.es2 → OrdZ e.2.2
  ss : ∀ e, e ∈ s.ss → StpZ e.2.2
def RepZ (r : RepT) : Prop := r.fills.length ≤ 100 ∧ r.gone.length ≤ 100
theorem enter_z {s : BS} {o dxo : Addr} {t : Ord} {kd : Str} (g : GoodZ s) (P : PureR s) (hsz : sizeS s ≤ 60) (hs : t.side = "buy" ∨ t.side = "sell") (hh : t.house ∈ housesL) (hn : 0 ≤ t.number ∧ t.number ≤ 100) (hl : 1 ≤ t.left ∧ t.left ≤ 9) (hp : V.str kd = V.str "rest" → ∃ p, t.price = some p ∧ 95 ≤ p ∧ p ≤ 105) :
    GoodZ (enterB s o dxo t kd).1 ∧ RepZ (enterB s o dxo t kd).2 := by
  have ho : ∀ e, e ∈ othE t.side s.es1 s.es2 → OrdZ e.2.2 := by
    unfold othE
    split
    · exact g.e2
    · exact g.e1
  have hw : ∀ e, e ∈ ownE t.side s.es1 s.es2 → OrdZ e.2.2 := by
    unfold ownE
    split
    · exact g.e1
    · exact g.e2
  have hr : Rank (otherS t.side) (othE t.side s.es1 s.es2) := by
    rcases hs with z | z
    · rw [z, show otherS "buy" = "sell" from if_pos buyS_buy, show othE "buy" s.es1 s.es2 = s.es2 from if_pos buyS_buy]; exact P.r2
    · have hb : ¬ buyS "sell" = true := by rw [buyS_sell]; exact Bool.false_ne_true
      rw [z, show otherS "sell" = "buy" from if_neg hb, show othE "sell" s.es1 s.es2 = s.es1 from if_neg hb]; exact P.r1
  have hol : (othE t.side s.es1 s.es2).length ≤ 60 := by
    unfold sizeS at hsz
    unfold othE
    split <;> omega
  have k := sub_hnp (kd := kd) (t := t) (o := o) (dxo := dxo) (last := s.last) (C := fun h n p => h ∈ housesL ∧ 0 ≤ n ∧ n ≤ 100 ∧ ∃ q, p = some q ∧ 95 ≤ q ∧ q ≤ 105) (fun e he => (ho e he).1) (fun e he => (hw e he).1) fun z => ⟨hh, hn.1, hn.2, hp z⟩
  have kl := sub_lefts (kd := kd) (t := t) (o := o) (dxo := dxo) (last := s.last) (b := 9) hr (fun e he => (ho e he).2) (fun e he => (hw e he).2) (by omega) hl.2
  have kf := sub_fl (kd := kd) (t := t) (o := o) (dxo := dxo) (last := s.last) (oth := othE t.side s.es1 s.es2) (own := ownE t.side s.es1 s.es2)
  unfold enterB
  refine ⟨⟨?_, ?_, g.ss⟩, ?_, ?_⟩
  · intro e he
    have he : e ∈ (if buyS t.side = true then (subF kd t o dxo s.last (othE t.side s.es1 s.es2) (ownE t.side s.es1 s.es2)).own else (subF kd t o dxo s.last (othE t.side s.es1 s.es2) (ownE t.side s.es1 s.es2)).oth) := he
    split at he
    · exact ⟨k e (.inr he), kl e (.inr he)⟩
    · exact ⟨k e (.inl he), kl e (.inl he)⟩
  · intro e he
    have he : e ∈ (if buyS t.side = true then (subF kd t o dxo s.last (othE t.side s.es1 s.es2) (ownE t.side s.es1 s.es2)).oth else (subF kd t o dxo s.last (othE t.side s.es1 s.es2) (ownE t.side s.es1 s.es2)).own) := he
    split at he
    · exact ⟨k e (.inl he), kl e (.inl he)⟩
    · exact ⟨k e (.inr he), kl e (.inr he)⟩
  · show (subF kd t o dxo s.last (othE t.side s.es1 s.es2) (ownE t.side s.es1 s.es2)).fills.length ≤ 100
    omega
  · show (subF kd t o dxo s.last (othE t.side s.es1 s.es2) (ownE t.side s.es1 s.es2)).gone.length ≤ 100
    omega
theorem trig_z {s s' : BS} {reps : List RepT} (h : TrigS s s' reps) : GoodZ s → PureR s → sizeS s ≤ 60 → GoodZ s' ∧ ∀ r, r ∈ reps → RepZ r := by
  induction h with
  | nil => exact fun g _ _ => ⟨g, fun r hr => by cases hr⟩
  | @snoc s1 reps e o dxo h hf ih =>
    intro g P hsz
    obtain ⟨g1, gr⟩ := ih g P hsz
    obtain ⟨P1, z1, _⟩ := trig_pure h P
    obtain ⟨hm, _⟩ := firstS_mem hf
    obtain ⟨q1, q2, q3, q4, q5, q6, q7, q8⟩ := g1.ss e hm
    have gq := P1.gs e hm
    have hd := dropS_len hm
    have g2 : GoodZ (offS s1 e.1) := ⟨g1.e1, g1.e2, fun y hy => g1.ss y (dropS_mem hy)⟩
    have hz2 : sizeS (offS s1 e.1) ≤ 60 := by
      unfold sizeS offS at *
      dsimp only at *
      omega
    have hkd : ¬ V.str (kdS e.2.2) = V.str "rest" := fun z => by
      obtain ⟨p, hp⟩ := kdS_price z
      rw [q6] at hp
      cases hp
    have hE := enter_z (o := o) (dxo := dxo) (kd := kdS e.2.2) (t := ordS e.2.2) g2 (off_pure (z := e.1) P1) hz2 q8 q1 ⟨q2, q3⟩ ⟨gq.2.1, q7⟩ fun z => absurd z hkd
    refine ⟨hE.1, fun r hr => ?_⟩
    rcases List.mem_append.mp hr with z | z
    · exact gr r z
    · rw [List.mem_singleton.mp z]
      exact hE.2

theorem houseF_mem (c : Int) : houseF c ∈ housesL := by
  unfold houseF
  rcases (show (c % 4).toNat = 0 ∨ (c % 4).toNat = 1 ∨ (c % 4).toNat = 2 ∨ (c % 4).toNat = 3 by omega) with e | e | e | e <;> rw [e]
  · exact List.mem_cons_self
  · exact List.mem_cons_of_mem _ List.mem_cons_self
  · exact List.mem_cons_of_mem _ (List.mem_cons_of_mem _ List.mem_cons_self)
  · exact List.mem_cons_of_mem _ (List.mem_cons_of_mem _ (List.mem_cons_of_mem _ List.mem_cons_self))
def sp_law_book (K : PySem.W.Frag) (CO CB CK CS CR : Addr) : Sp := fun vs H Q _ => ∃ (_ : Unit) (sc : Addr) (F : List Addr) (u : HO) (ns : List Int), vs = [.ref sc] ∧ SqL K H sc (ns.map V.int) ∧ (∀ z, z ∈ F → H z = some u) ∧ ¬ Mov u ∧ ns.length ≤ 63 ∧
  ∀ (a : BA) (s : BS) (H' : Hp), BookW ⟨CO, CB, CK, CS, CR⟩ H' a s → GoodZ s → sizeS s ≤ 20 → (∀ z, z ∈ F → H' z = some u) → Q (.ref a.x) H'
set_option maxHeartbeats 0 in
theorem ok_law_book (T : Txt K mg) : FnOk P w K mg base CX0 9 T.f_law_book T.d_law_book ["script"] (sp_law_book K T.c_Order T.c_BookSide T.c_Book T.c_Stop T.c_Report) := by
  refine T.F_law_book.ok sc_law_book (fun vs H Q E h => ?_) (fun cdv A outer s H vs Q E hr h => ?_)
  · obtain ⟨_, sc, F, u, ns, rfl, _⟩ := h
    rfl
  · obtain ⟨_, sc, F, u, ns, rfl, hs, hF, hu, hln, q⟩ := h
    have G_Book_init : FnOk P w K mg base CX0 3 T.f_Book_init T.d_Book_init ["self", "first_number"] (sp_Book_init K T.c_Order T.c_BookSide T.c_Book) := ok_Book_init T
    have G_law_spoil : FnOk P w K mg base CX0 1 T.f_law_spoil T.d_law_spoil ["rows"] (sp_law_spoil K) := ok_law_spoil T
    have G_Book_submit_stop : FnOk P w K mg base (L2.CX P w) 8 T.f_Book_submit_stop T.d_Book_submit_stop ["self", "house", "side", "trigger", "price", "quantity"] (sp_Book_submit_stop K T.c_InvalidOrder T.c_Order T.c_BookSide T.c_Book T.c_Stop T.c_Report) := ok_Book_submit_stop T
    have G_Book_submit : FnOk P w K mg base (L2.CX P w) 8 T.f_Book_submit T.d_Book_submit ["self", "house", "side", "price", "quantity", "kind", "shown"] (sp_Book_submit K T.c_InvalidOrder T.c_Order T.c_BookSide T.c_Book T.c_Stop T.c_Report) := ok_Book_submit T
    have G_law_house : FnOk P w K mg base CX0 1 T.f_law_house T.d_law_house ["cell"] (sp_law_house K) := ok_law_house T
    obtain ⟨D0_Book_init, B0_Book_init⟩ := T.b0_Book_init
    refine ⟨_, (pss_cons (ps_set (i := 1) sc_law_book.nd rfl (Or.inl rfl) (pe_make0 T.mk_Book G_Book_init (hr.mono (by decide)) (by rfl) T.m_Book B0_Book_init.2 B0_Book_init.1 pass0))
    (pss_cons (ps_for PassesOwn.never rfl (pi_list (pe_slice sl_list (pv 0) po_none (po_some pe_int))) (pg_name (i := 2) sc_law_book.nd rfl (Or.inl rfl))
      (pss_cons (ps_set (i := 3) sc_law_book.nd rfl (Or.inl rfl) (pe_ix ix_list (pe_lst (pa_cons pe_str (pa_cons pe_str pa_nil))) (pe_op op_mod (pe_op op_fdiv (pe_callTy call_int_i (by rfl) T.z_int (by decide +kernel) (pa_cons (pv 2) pa_nil)) pe_int) pe_int) (fun _ _ => rfl)))
      (pss_cons (ps_set (i := 4) sc_law_book.nd rfl (Or.inl rfl) (pe_op op_add pe_int (pe_op op_mod (pe_op op_fdiv (pe_callTy call_int_i (by rfl) T.z_int (by decide +kernel) (pa_cons (pv 2) pa_nil)) pe_int) pe_int)))
      (pss_cons (ps_set (i := 5) sc_law_book.nd rfl (Or.inl rfl) (pe_op op_add pe_int (pe_op op_mod (pe_op op_fdiv (pe_callTy call_int_i (by rfl) T.z_int (by decide +kernel) (pa_cons (pv 2) pa_nil)) pe_int) pe_int)))
      (C8.pss_cut (ps_if (pt_cmpR op_eq (pe_op op_mod (pe_op op_fdiv (pe_callTy call_int_i (by rfl) T.z_int (by decide +kernel) (pa_cons (pv 2) pa_nil)) pe_int) pe_int) pe_int (nomark _))
        (pss_one (ps_set (i := 6) sc_law_book.nd rfl (Or.inl rfl) (pe_mx (pv 1) T.cl_Book T.mt_Book_submit_stop G_Book_submit_stop hr T.b_Book_submit_stop .nil (fun _ => passLat) (pa_cons (pe_call G_law_house (hr.mono (by decide)) (by rfl) T.m_law_house T.F_law_house.kp T.b_law_house .nil pass0 (pa_cons (pv 2) pa_nil)) (pa_cons (pv 3) (pa_cons (pv 4) (pa_cons pe_non (pa_cons (pv 5) pa_nil))))))))
        (pss_one (ps_set (i := 6) sc_law_book.nd rfl (Or.inl rfl) (pe_mx (pv 1) T.cl_Book T.mt_Book_submit G_Book_submit hr T.b_Book_submit.choose_spec.2 T.b_Book_submit.choose_spec.1 (fun _ => passLat) (pa_cons (pe_call G_law_house (hr.mono (by decide)) (by rfl) T.m_law_house T.F_law_house.kp T.b_law_house .nil pass0 (pa_cons (pv 2) pa_nil)) (pa_cons (pv 3) (pa_cons (pv 4) (pa_cons (pv 5) pa_nil))))))))
      (pss_cons (ps_for PassesOwn.never rfl (pi_list (pv 6)) (pg_name (i := 7) sc_law_book.nd rfl (Or.inl rfl))
        (pss_cons (ps_expr (pe_call G_law_spoil (hr.mono (by decide)) (by rfl) T.m_law_spoil T.F_law_spoil.kp T.b_law_spoil .nil pass0 (pa_cons (pe_fld (pv 7) rfl) pa_nil)))
        (pss_one (ps_expr (pe_call G_law_spoil (hr.mono (by decide)) (by rfl) T.m_law_spoil T.F_law_spoil.kp T.b_law_spoil .nil pass0 (pa_cons (pe_fld (pv 7) rfl) pa_nil))))))
      (pss_one (ps_expr (pe_call G_law_spoil (hr.mono (by decide)) (by rfl) T.m_law_spoil T.F_law_spoil.kp T.b_law_spoil .nil pass0 (pa_cons (pv 6) pa_nil))))))))))
    (pss_one (ps_ret (pv 1))))), ?_⟩
    have fact_BookSide_0 := T.cl_BookSide; have fact_BookSide_1 := T.na_BookSide__orders; have fact_Book_0 := T.cl_Book; have fact_Book_1 := T.na_Book_last; have fact_Book_2 := T.na_Book__next_number; have fact_Book_3 := T.na_Book__sides; have fact_Book_4 := T.na_Book__stops; have fact_Order_0 := T.cl_Order; have fact_Order_1 := T.na_Order_number; have fact_Order_2 := T.na_Order_house; have fact_Order_3 := T.na_Order_side; have fact_Order_4 := T.na_Order_price; have fact_Order_5 := T.na_Order_shown; have fact_Order_6 := T.na_Order_left; have fact_Order_7 := T.na_Order_visible; have fact_Report_0 := T.cl_Report; have fact_Report_1 := T.na_Report_number; have fact_Report_2 := T.na_Report_house; have fact_Report_3 := T.na_Report_side; have fact_Report_4 := T.na_Report_fills; have fact_Report_5 := T.na_Report_removed; have fact_Report_6 := T.na_Report_resting; have fact_Stop_0 := T.cl_Stop; have fact_Stop_1 := T.na_Stop_number; have fact_Stop_2 := T.na_Stop_house; have fact_Stop_3 := T.na_Stop_side; have fact_Stop_4 := T.na_Stop_trigger; have fact_Stop_5 := T.na_Stop_price; have fact_Stop_6 := T.na_Stop_quantity
    walk_at "st"
    intro x dx nx ndx nex
    refine ⟨x, dx, 1, rfl, upd_same, fun H1 sd st b1 d1 l1 b2 d2 l2 BA hlls hnew hfr => ?_⟩
    have s1 : Same H H1 := fun z o hz => by
      have zx : z ≠ x := fun e => by rw [e, nx] at hz; cases hz
      have zd : z ≠ dx := fun e => by rw [e, ndx] at hz; cases hz
      refine hfr z o zx ?_
      rw [upd_ne zx, upd_ne zd]
      exact hz
    have B0 : BookW ⟨T.c_Order, T.c_BookSide, T.c_Book, T.c_Stop, T.c_Report⟩ H1 ⟨x, dx, sd, st, b1, d1, l1, b2, d2, l2⟩ ⟨none, 1, [], [], []⟩ :=
      ⟨BA.ob, BA.sd, ⟨BA.st, (fun e he => by cases he), List.nodup_nil, Nat.zero_le _⟩, BA.s1, BA.s2, Rank.nil _, Rank.nil _, (fun e he => by cases he), hlls.1, hlls.2.1, hlls.2.2, (fun e he => by cases he), Nat.zero_le _⟩
    refine ⟨rfl, ?_⟩
    have hs1 := s1.seq hs
    walk_at "st"
    intro C nC
    generalize hH2 : upd H1 C _ = H2
    have s2 : Same H1 H2 := hH2 ▸ same_upd nC
    have hC := (congrFun hH2 C).symm.trans upd_same
    rw [cutV_ints] at hC
    have hcl : (cutI ns none (some 20)).length ≤ 20 := by
      unfold cutI
      rw [HT.sIx_none, show (20 : Int) = ((20 : Nat) : Int) from rfl, HT.sIx_nat, List.length_take]
      omega
    have hcn : cutI ns none (some 20) ≠ [] → ns ≠ [] := fun h e => h (by rw [e]; rfl)
    generalize cutI ns none (some 20) = cs at hC hcl hcn
    have fC := B0.fresh nC
    have fsc : ns ≠ [] → ∀ y, y ∈ F → y ∉ foot ⟨x, dx, sd, st, b1, d1, l1, b2, d2, l2⟩ ⟨none, 1, [], [], []⟩ := fun _ y hy => B0.out (s1 _ _ (hF y hy)) hu
    have B2 := B0.same s2
    have hs2 : ∀ z, z ∈ F → H2 z = some u := fun z hz => s2 _ _ (s1 _ _ (hF z hz))
    walk_at "st"
    refine for_list (K := K) (a := C) (xs := cs.map V.int) (fun i σ H' => ∃ (v2 v3 v4 v5 v6 v7 : Option V) (s : BS), σ = [some (.ref sc), some (.ref x), v2, v3, v4, v5, v6, v7] ∧ H' C = some (.lst (cs.map V.int)) ∧ (∀ z, z ∈ F → H' z = some u) ∧ C ∉ foot ⟨x, dx, sd, st, b1, d1, l1, b2, d2, l2⟩ s ∧ (ns ≠ [] → ∀ y, y ∈ F → y ∉ foot ⟨x, dx, sd, st, b1, d1, l1, b2, d2, l2⟩ s) ∧
        BookW ⟨T.c_Order, T.c_BookSide, T.c_Book, T.c_Stop, T.c_Report⟩ H' ⟨x, dx, sd, st, b1, d1, l1, b2, d2, l2⟩ s ∧ GoodZ s ∧ sizeS s ≤ i ∧ s.next = (i : Int) + 1)
      ⟨none, none, none, none, none, none, _, rfl, hC, hs2, fC, fsc, B2, ⟨fun e he => (by cases he), fun e he => (by cases he), fun e he => (by cases he)⟩, Nat.le_refl _, rfl⟩ (fun i σ H' _ ⟨_, _, _, _, _, _, _, _, h, _⟩ => SqL.of h) ?_ ?_
    · rintro i y σ H3 hy ⟨v2, v3, v4, v5, v6, v7, s, rfl, hC3, hs3, fC3, fs3, B3, G3, hz3, hn3⟩
      obtain ⟨cell, hcell, rfl⟩ := ints_at hy
      have hi := (List.getElem?_eq_some_iff.mp hcell).1
      have fs3 := fs3 (hcn fun e => by rw [e] at hi; exact absurd hi (Nat.not_lt_zero _))
      have hq0 : 1 ≤ 1 + cell / 88 % 9 ∧ 1 + cell / 88 % 9 ≤ 9 := by omega
      have hp0 : 95 ≤ 95 + cell / 8 % 11 ∧ 95 + cell / 8 % 11 ≤ 105 := by omega
      obtain ⟨si, hsi, hia⟩ : ∃ si : Str, (si = "buy" ∨ si = "sell") ∧ atI [V.str "buy", V.str "sell"] (cell / 4 % 2) = some (.str si) := by
        rcases (show cell / 4 % 2 = 0 ∨ cell / 4 % 2 = 1 by omega) with e | e
        · rw [e]
          exact ⟨"buy", .inl rfl, rfl⟩
        · rw [e]
          exact ⟨"sell", .inr rfl, rfl⟩
      walk_at "st"
      intro p4 np4
      generalize hH4 : upd H3 p4 _ = H4
      have s4 : Same H3 H4 := hH4 ▸ same_upd np4
      have hp4S := SqL.of (K := K) ((congrFun hH4 p4).symm.trans upd_same)
      have B4 := B3.same s4
      have hoth4 : Others H4 ⟨x, dx, sd, st, b1, d1, l1, b2, d2, l2⟩ s (F ++ [C]) := fun z hz => by
        rcases List.mem_append.mp hz with k | k
        · exact ⟨fs3 z k, _, s4 _ _ (hs3 z k)⟩
        · rw [List.mem_singleton.mp k]; exact ⟨fC3, _, s4 _ _ hC3⟩
      walk_at "st"
      refine ⟨fun σ' H5 => ∃ (_ : Unit) (s' : BS) (p : Addr) (reps : List RepT), σ' = [some (.ref sc), some (.ref x), some (.int cell), some (.str si), some (.int (95 + cell / 8 % 11)), some (.int (1 + cell / 88 % 9)), some (.ref p), v7] ∧ BookW ⟨T.c_Order, T.c_BookSide, T.c_Book, T.c_Stop, T.c_Report⟩ H5 ⟨x, dx, sd, st, b1, d1, l1, b2, d2, l2⟩ s' ∧ GoodZ s' ∧ sizeS s' ≤ i + 1 ∧ s'.next = (i : Int) + 2 ∧
        StepW ⟨x, dx, sd, st, b1, d1, l1, b2, d2, l2⟩ s s' H4 H5 ∧ RepsAt T.c_Report H5 (F ++ [C] ++ foot ⟨x, dx, sd, st, b1, d1, l1, b2, d2, l2⟩ s') p reps ∧ reps.length ≤ 100 ∧ ∀ r, r ∈ reps → RepZ r, ?_, ?_⟩
      · have hob4 := B4.ob
        unfold bookO at hob4
        have hlk : ([("last", optV s.last), ("_next_number", V.int s.next), ("_sides", .ref sd), ("_stops", .ref st)] : List (Str × V)).lookup ("submit" : Str) = none := rfl
        have hlk2 : ([("last", optV s.last), ("_next_number", V.int s.next), ("_sides", .ref sd), ("_stops", .ref st)] : List (Str × V)).lookup ("submit_stop" : Str) = none := rfl
        walk_at "st"
        have hmem := houseF_mem cell
        have hne := houseF_ne cell
        refine iteB (fun hx => ?_) (fun hx => ?_)
        · walk_at "st"
          intro H6 s6
          have B6 := B4.same s6
          have hob6 := s6 _ _ hob4
          have hG : GoodStp (houseF cell) si (95 + cell / 8 % 11) none (1 + cell / 88 % 9) := by
            refine ⟨hne, ?_, by omega, fun p h => (by cases h), by omega⟩
            rcases hsi with e | e <;> rw [e] <;> simp
          walk_at "st"
          refine ⟨(), ⟨x, dx, sd, st, b1, d1, l1, b2, d2, l2⟩, s, F ++ [C], houseF cell, si, 95 + cell / 8 % 11, none, 1 + cell / 88 % 9, rfl, B6, fun z hz => ⟨(hoth4 z hz).1, (hoth4 z hz).2.elim fun v h => ⟨v, s6 _ _ h⟩⟩, by unfold sizeS at hz3; omega, fun _ s' reps p y dy H7 hnd hT hF B7 St hR => ?_, fun h => absurd hG h⟩
          have hP1 : PureR (newS s y dy (houseF cell) si (95 + cell / 8 % 11) none (1 + cell / 88 % 9)) := ⟨B3.r1, B3.r2, fun e he => by
            rcases List.mem_append.mp he with z | z
            · exact B3.gs e z
            · rw [List.mem_singleton.mp z]
              exact ⟨hsi, by show 1 ≤ 1 + cell / 88 % 9; omega, by show 1 + cell / 88 % 9 ≤ 1000000; omega⟩⟩
          have hG1 : GoodZ (newS s y dy (houseF cell) si (95 + cell / 8 % 11) none (1 + cell / 88 % 9)) := ⟨G3.e1, G3.e2, fun e he => by
            rcases List.mem_append.mp he with z | z
            · exact G3.ss e z
            · rw [List.mem_singleton.mp z]
              exact ⟨hmem, by show 0 ≤ s.next; omega, by show s.next ≤ 100; omega, by show 95 ≤ 95 + cell / 8 % 11; omega, by show 95 + cell / 8 % 11 ≤ 105; omega, rfl, by show 1 + cell / 88 % 9 ≤ 9; omega, hsi⟩⟩
          have hsz1 : sizeS (newS s y dy (houseF cell) si (95 + cell / 8 % 11) none (1 + cell / 88 % 9)) = sizeS s + 1 := by
            unfold sizeS newS
            show s.es1.length + s.es2.length + (s.ss ++ [_]).length = _
            rw [List.length_append, List.length_singleton]
            omega
          obtain ⟨P7, z7, n7⟩ := trig_pure hT hP1
          obtain ⟨G7, r7⟩ := trig_z hT hG1 hP1 (by omega)
          have hrl := trigS_len hT
          have hsl : (newS s y dy (houseF cell) si (95 + cell / 8 % 11) none (1 + cell / 88 % 9)).ss.length ≤ 21 := by unfold sizeS at hsz1 hz3; omega
          walk_at "st"
          refine ⟨(), s', p, _, rfl, B7, G7, by omega, by rw [n7]; show s.next + 1 = _; omega, St.pre s6, hR, by rw [List.length_cons]; omega, fun r hr => ?_⟩
          rcases List.mem_cons.mp hr with z | z
          · rw [z]; exact ⟨Nat.zero_le _, Nat.zero_le _⟩
          · exact r7 r z
        · walk_at "st"
          intro H6 s6
          have B6 := B4.same s6
          have hob6 := s6 _ _ hob4
          have hG : GoodOrd (houseF cell) si (some (95 + cell / 8 % 11)) (1 + cell / 88 % 9) "rest" 0 := by
            refine ⟨hne, ?_, by simp, fun p h => (by cases h; omega), fun h => (by cases h), by omega, by omega, fun h => rfl⟩
            rcases hsi with e | e <;> rw [e] <;> simp
          walk_at "st"
          refine ⟨(), ⟨x, dx, sd, st, b1, d1, l1, b2, d2, l2⟩, s, F ++ [C], houseF cell, si, some (95 + cell / 8 % 11), 1 + cell / 88 % 9, "rest", 0, rfl, B6, fun z hz => ⟨(hoth4 z hz).1, (hoth4 z hz).2.elim fun v h => ⟨v, s6 _ _ h⟩⟩, by unfold sizeS at hz3; omega, fun _ s' reps p o dxo H7 hT hF B7 St hR => ?_, fun h => absurd hG h⟩
          have hP0 : PureR (nxtS s) := ⟨B3.r1, B3.r2, B3.gs⟩
          have hG0 : GoodZ (nxtS s) := ⟨G3.e1, G3.e2, G3.ss⟩
          have hz0 : sizeS (nxtS s) = sizeS s := rfl
          obtain ⟨hP1, hsz1⟩ := enter_pure (o := o) (dxo := dxo) (kd := "rest") (t := newO s (houseF cell) si (some (95 + cell / 8 % 11)) (1 + cell / 88 % 9) 0) hP0 hsi (by show 1 ≤ 1 + cell / 88 % 9; omega) (Int.le_refl 0) fun _ => ⟨_, rfl⟩
          obtain ⟨hG1, hr1⟩ := enter_z (o := o) (dxo := dxo) (kd := "rest") (t := newO s (houseF cell) si (some (95 + cell / 8 % 11)) (1 + cell / 88 % 9) 0) hG0 hP0 (by omega) hsi hmem (by show 0 ≤ s.next ∧ s.next ≤ 100; omega) (by show 1 ≤ 1 + cell / 88 % 9 ∧ 1 + cell / 88 % 9 ≤ 9; omega) fun _ => ⟨_, rfl, hp0.1, hp0.2⟩
          obtain ⟨P7, z7, n7⟩ := trig_pure hT hP1
          obtain ⟨G7, r7⟩ := trig_z hT hG1 hP1 (by omega)
          have hrl := trigS_len hT
          have hsl : (enterB (nxtS s) o dxo (newO s (houseF cell) si (some (95 + cell / 8 % 11)) (1 + cell / 88 % 9) 0) "rest").1.ss.length ≤ 21 := by
            have h1 := hsz1
            unfold sizeS at h1 hz3
            have : (nxtS s).es1.length + (nxtS s).es2.length + (nxtS s).ss.length = s.es1.length + s.es2.length + s.ss.length := rfl
            omega
          walk_at "st"
          refine ⟨(), s', p, _, rfl, B7, G7, by omega, by rw [n7]; show s.next + 1 = _; omega, St.pre s6, hR, by rw [List.length_cons]; omega, fun r hr => ?_⟩
          rcases List.mem_cons.mp hr with z | z
          · rw [z]; exact hr1
          · exact r7 r z
      · rintro σ' H5 ⟨_, s', p, reps, rfl, B5, G5, hz5, hn5, St, hR, hrl, hrz⟩
        obtain ⟨rs, hp5, hpF, hrs, hrr⟩ := hR
        have hp5S := SqL.of (K := K) hp5
        walk_at "st"
        refine for_list (K := K) (a := p) (xs := rs.map V.ref) (fun j σ Hx => ∃ v7 : Option V, σ = [some (.ref sc), some (.ref x), some (.int cell), some (.str si), some (.int (95 + cell / 8 % 11)), some (.int (1 + cell / 88 % 9)), some (.ref p), v7] ∧ Hx p = some (.lst (rs.map V.ref)) ∧ Hx C = some (.lst (cs.map V.int)) ∧ (∀ z, z ∈ F → Hx z = some u) ∧ BookW ⟨T.c_Order, T.c_BookSide, T.c_Book, T.c_Stop, T.c_Report⟩ Hx ⟨x, dx, sd, st, b1, d1, l1, b2, d2, l2⟩ s' ∧
            ∀ r, r ∈ rs → ∃ (dr fl rm : Addr) (t : RepT), Hx r = some (repO T.c_Report dr t.number t.house t.side fl rm t.rest) ∧ ListAt Hx fl (100 + 2 * (2 * j)) ∧ ListAt Hx rm (100 + 2 * (2 * j)) ∧ fl ∉ p :: (F ++ [C] ++ foot ⟨x, dx, sd, st, b1, d1, l1, b2, d2, l2⟩ s') ∧ rm ∉ p :: (F ++ [C] ++ foot ⟨x, dx, sd, st, b1, d1, l1, b2, d2, l2⟩ s')) ?_ (fun j σ Hx _ ⟨_, _, h, _⟩ => SqL.of h) ?_ ?_
        · refine ⟨_, rfl, hp5, St.fr _ _ fC3 (s4 _ _ hC3), fun z hz => St.fr _ _ (fs3 z hz) (s4 _ _ (hs3 z hz)), B5, fun r hr => ?_⟩
          obtain ⟨k, hk⟩ := List.getElem?_of_mem hr
          have hkl := (List.getElem?_eq_some_iff.mp hk).1
          obtain ⟨t, ht⟩ : ∃ t, reps[k]? = some t := ⟨_, List.getElem?_eq_getElem (by omega)⟩
          obtain ⟨dr, fl, rm, fs, q1, q2, q3, q4, q5⟩ := hrr k r t hk ht
          have hz := hrz t (List.mem_of_getElem? ht)
          exact ⟨dr, fl, rm, t, q1, ⟨_, q2.lst, by rw [List.length_map, q2.len]; have := hz.1; omega⟩, ⟨_, q3, by rw [List.length_map]; have := hz.2; omega⟩, q4, q5⟩
        · rintro j v σ Hx hv ⟨v7, rfl, hpx, hCx, hsx, Bx, hrx⟩
          obtain ⟨r, hr, rfl⟩ := refs_at hv
          obtain ⟨dr, fl, rm, t, hrO, hfl, hrm, nfl, nrm⟩ := hrx r (List.mem_of_getElem? hr)
          have hrO' := hrO
          unfold repO at hrO'
          have hj : j < 100 := by
            have h1 := (List.getElem?_eq_some_iff.mp hr).1
            omega
          walk_at "st"
          obtain ⟨us, hus, hul⟩ := hfl
          have eqP : ∀ {z : Addr}, z ∉ p :: (F ++ [C] ++ foot ⟨x, dx, sd, st, b1, d1, l1, b2, d2, l2⟩ s') → p ≠ z ∧ C ≠ z ∧ (∀ y, y ∈ F → y ≠ z) ∧ z ∉ foot ⟨x, dx, sd, st, b1, d1, l1, b2, d2, l2⟩ s' := fun h => ⟨fun e => h (by rw [e]; exact List.mem_cons_self), fun e => h (List.mem_cons_of_mem _ (List.mem_append.mpr (.inl (by rw [e]; simp)))), fun y hy e => h (List.mem_cons_of_mem _ (List.mem_append.mpr (.inl (by rw [← e]; exact List.mem_append.mpr (.inl hy))))), fun m => h (List.mem_cons_of_mem _ (List.mem_append.mpr (.inr m)))⟩
          obtain ⟨a1, a2, a3, a4⟩ := eqP nfl
          obtain ⟨c1, c2, c3, c4⟩ := eqP nrm
          refine ⟨(), fl, us, rfl, hus, by omega, fun ys Hy ky hys hyl => ?_⟩
          have hfl' : ListAt Hx fl (100 + 2 * (2 * j)) := ⟨us, hus, hul⟩
          have rO : ∀ {r' dr' fl' rm' : Addr} {t' : RepT} {l : Addr} {Hz Hw : Hp} {ws : List V}, Hz l = some (.lst ws) → KeepX l Hz Hw → Hz r' = some (repO T.c_Report dr' t'.number t'.house t'.side fl' rm' t'.rest) → Hw r' = some (repO T.c_Report dr' t'.number t'.house t'.side fl' rm' t'.rest) := fun h k h2 => k _ _ (fun e => by rw [e, h] at h2; unfold repO at h2; cases h2) h2
          have hrOy := rO hus ky hrO
          have hrOy' := hrOy
          unfold repO at hrOy'
          obtain ⟨ws, hws, hwl⟩ := hrm.keepx ky hys (by omega)
          walk_at "st"
          refine ⟨(), rm, ws, rfl, hws, by omega, fun zs Hz kz hzs hzl => ?_⟩
          have B1 := (Bx.keepx hus a4 ky).keepx hws c4 kz
          refine ⟨_, rfl, kz _ _ c1 (ky _ _ a1 hpx), kz _ _ c2 (ky _ _ a2 hCx), fun y hy => kz _ _ (c3 y hy) (ky _ _ (a3 y hy) (hsx y hy)), B1, fun r' hr' => ?_⟩
          obtain ⟨dr', fl', rm', t', e1, e2, e3, e4, e5⟩ := hrx r' hr'
          exact ⟨dr', fl', rm', t', rO hws kz (rO hus ky e1), (e2.keepx ky hys (by omega)).keepx kz hzs (by omega), (e3.keepx ky hys (by omega)).keepx kz hzs (by omega), e4, e5⟩
        · rintro σ Hx ⟨v7, rfl, hpx, hCx, hsx, Bx, hrx⟩
          walk_at "st"
          refine ⟨(), p, rs.map V.ref, rfl, hpx, by rw [List.length_map]; omega, fun ys Hy ky hys hyl => ?_⟩
          have hpC : C ≠ p := fun e => hpF (List.mem_append.mpr (.inl (by rw [e]; simp)))
          have hps : ∀ y, y ∈ F → y ≠ p := fun y hy e => hpF (List.mem_append.mpr (.inl (by rw [← e]; exact List.mem_append.mpr (.inl hy))))
          have hpf : p ∉ foot ⟨x, dx, sd, st, b1, d1, l1, b2, d2, l2⟩ s' := fun m => hpF (List.mem_append.mpr (.inr m))
          exact ⟨_, _, _, _, _, _, s', rfl, ky _ _ hpC hCx, fun y hy => ky _ _ (hps y hy) (hsx y hy), St.out (s4 _ _ hC3) fC3, fun _ y hy => St.out (s4 _ _ (hs3 y hy)) (fs3 y hy), Bx.keepx hpx hpf ky, G5, hz5, by omega⟩
    · rintro σ H3 ⟨v2, v3, v4, v5, v6, v7, s, rfl, hC3, hs3, fC3, fs3, B3, G3, hz3, hn3⟩
      walk_at "st"
      exact q ⟨x, dx, sd, st, b1, d1, l1, b2, d2, l2⟩ s H3 B3 G3 (by rw [List.length_map] at hz3; omega) hs3

def strsV (ls : List (List Nat)) : List V := ls.map fun l => V.str (strL l)
theorem strsV_len (a : List (List Nat)) : (strsV a).length = a.length := by
  unfold strsV
  rw [List.length_map]
/-- the tape's object -/
structure TapeOk (C dx x t l : Addr) (ts ls : List (List Nat)) (H : Hp) : Prop where
  ins : H x = some (.ins C dx [("_texts", .ref t), ("_lines", .ref l)])
  tx : H t = some (.lst (strsV ts))
  ln : H l = some (.lst (strsV ls))
  ne : t ≠ l
theorem TapeOk.same {C dx x t l : Addr} {ts ls : List (List Nat)} {H H' : Hp} (h : TapeOk C dx x t l ts ls H) (e : Same H H') : TapeOk C dx x t l ts ls H' := ⟨e _ _ h.ins, e _ _ h.tx, e _ _ h.ln, h.ne⟩
def Keep2 (t l : Addr) (H H' : Hp) : Prop := ∀ z o, z ≠ t → z ≠ l → H z = some o → H' z = some o
def sp_Tape_init (K : PySem.W.Frag) (C : Addr) : Sp := fun vs H Q _ => ∃ x dx : Addr, vs = [.ref x] ∧ H x = some (.ins C dx []) ∧ ∀ (_ : Unit) t l H', KeepX x H H' → H t = none → H l = none → TapeOk C dx x t l [] [] H' → Q .non H'
set_option maxHeartbeats 0 in
theorem ok_Tape_init (T : Txt K mg) : FnOk P w K mg base CX0 1 T.f_Tape_init T.d_Tape_init ["self"] (sp_Tape_init K T.c_Tape) := by
  refine T.F_Tape_init.ok sc_Tape_init (fun vs H Q E h => ?_) (fun cdv A outer s H vs Q E hr h => ?_)
  · obtain ⟨x, dx, rfl, _⟩ := h
    rfl
  · obtain ⟨x, dx, rfl, hx, q⟩ := h
    have fact_Tape_0 := T.cl_Tape; have fact_Tape_1 := T.na_Tape__texts; have fact_Tape_2 := T.na_Tape__lines
    refine ⟨_, (pss_cons (ps_fld (pv 0) (pe_lst pa_nil) rfl)
    (pss_one (ps_fld (pv 0) (pe_lst pa_nil) rfl))), ?_⟩
    walk_at "st"
    intro t nt
    have ntx : t ≠ x := fun z => by rw [z, hx] at nt; cases nt
    have hx1 : (upd H t (.lst [])) x = some (.ins T.c_Tape dx []) := by rw [upd_ne ntx.symm]; exact hx
    refine ⟨_, rfl, setF hx1 T.cl_Tape T.na_Tape__texts rfl ?_⟩
    have k2 : KeepX x H (upd (upd H t (.lst [])) x (.ins T.c_Tape dx (putF "_texts" (.ref t) []))) := (keepX_of (same_upd nt)).set
    have hx2 : (upd (upd H t (.lst [])) x (.ins T.c_Tape dx (putF "_texts" (.ref t) []))) x = some (.ins T.c_Tape dx [("_texts", .ref t)]) := upd_same
    have ht2 : (upd (upd H t (.lst [])) x (.ins T.c_Tape dx (putF "_texts" (.ref t) []))) t = some (.lst []) := by rw [upd_ne ntx]; exact upd_same
    generalize upd (upd H t (.lst [])) x (.ins T.c_Tape dx (putF "_texts" (.ref t) [])) = H2 at k2 hx2 ht2
    walk_at "st"
    intro l nl
    have nlx : l ≠ x := fun z => by rw [z, hx2] at nl; cases nl
    have nlt : t ≠ l := fun z => by rw [← z, ht2] at nl; cases nl
    have hx3 : (upd H2 l (.lst [])) x = some (.ins T.c_Tape dx [("_texts", .ref t)]) := by rw [upd_ne nlx.symm]; exact hx2
    refine ⟨_, rfl, setF hx3 T.cl_Tape T.na_Tape__lines rfl ?_⟩
    have nl0 : H l = none := by
      cases e : H l with
      | none => rfl
      | some o => have := k2 l o nlx e; rw [nl] at this; cases this
    refine q () t l _ (k2.then (same_upd nl)).set nt nl0 ⟨upd_same, ?_, ?_, nlt⟩
    · rw [upd_ne ntx, upd_ne nlt]
      exact ht2
    · rw [upd_ne nlx]
      exact upd_same
theorem strsV_one (a : List (List Nat)) (b : List Nat) : strsV a ++ [V.str (strL b)] = strsV (a ++ [b]) := by
  unfold strsV
  rw [List.map_append]
  rfl
def sp_Tape_append (K : PySem.W.Frag) (B C : Addr) : Sp := fun vs H Q E => ∃ (x dx t l : Addr) (ts ls : List (List Nat)) (s : List Nat), vs = [.ref x, .str (strL s)] ∧ TapeOk C dx x t l ts ls H ∧ ts.length ≤ 100 ∧ ls.length ≤ 100 ∧ s.length ≤ 900 ∧
  (goodT s = true → ∀ H', Keep2 t l H H' → TapeOk C dx x t l (ts ++ [s]) (ls ++ [lineP (preL (ts.length + 1)) s]) H' → Q (.int ((ts.length + 1 : Nat) : Int)) H') ∧ (goodT s = false → ∀ H', Same H H' → E (.ref B) none H')
set_option maxHeartbeats 0 in
theorem ok_Tape_append (T : Txt K mg) : FnOk P w K mg base (L2.CX P w) 3 T.f_Tape_append T.d_Tape_append ["self", "text"] (sp_Tape_append K T.c_BrokenTape T.c_Tape) := by
  refine T.F_Tape_append.okX sc_Tape_append (fun vs H Q E h => ?_) (fun cdv A outer s H vs Q E hr h => ?_)
  · obtain ⟨x, dx, t, l, ts, ls, s, rfl, _⟩ := h
    rfl
  · obtain ⟨x, dx, t, l, ts, ls, s, rfl, hT, hn, hm, hs, q, qe⟩ := h
    have G_write_line : FnOk P w K mg base (L2.CX P w) 2 T.f_write_line T.d_write_line ["number", "text"] (sp_write_line K T.c_BrokenTape) := ok_write_line T
    have fact_Tape_0 := T.cl_Tape; have fact_Tape_1 := T.na_Tape__texts; have fact_Tape_2 := T.na_Tape__lines
    have hins := hT.ins
    have htx := hT.tx
    have hln := hT.ln
    have hts := SqL.of (K := K) htx
    have hlook : ([("_texts", V.ref t), ("_lines", V.ref l)] : List (Str × V)).lookup ("_texts" : Str) = some (V.ref t) := rfl
    have hlook2 : ([("_texts", V.ref t), ("_lines", V.ref l)] : List (Str × V)).lookup ("_lines" : Str) = some (V.ref l) := rfl
    refine ⟨_, (pss_cons (ps_set (i := 2) sc_Tape_append.nd rfl (Or.inl rfl) (pe_op op_add (pe_callB call_len_seq (by rfl) T.z_len PySem.boot_len (pa_cons (pe_fld (pv 0) rfl) pa_nil)) pe_int))
    (pss_cons (ps_expr (pe_bm PySem.F.plainAttrs_list PySem.F.slot_list_append PySem.F.type_list_append mt_append (pe_fld (pv 0) rfl) (pa_cons (pe_callS G_write_line hr (by rfl) T.m_write_line T.F_write_line.kp T.b_write_line (fun σ => passAt (takes_of rfl rfl rfl rfl) σ) (pa_cons (pv 2) (pa_cons (pv 1) pa_nil))) pa_nil)))
    (pss_cons (ps_expr (pe_bm PySem.F.plainAttrs_list PySem.F.slot_list_append PySem.F.type_list_append mt_append (pe_fld (pv 0) rfl) (pa_cons (pv 1) pa_nil)))
    (pss_one (ps_ret (pv 2)))))), ?_⟩
    walk_at "st"
    rw [tl_strL, strsV_len]
    refine ⟨by show ts.length + 1 < 1000; omega, by rw [strL_len]; exact hs, fun hg H1 s1 => ?_, fun hg H1 s1 => ?_⟩
    · have h1 := s1 _ _ hins
      have h2 := s1 _ _ htx
      have h3 := s1 _ _ hln
      have hlt : (strsV ls).length < sizeLine := small1000 (by rw [strsV_len]; omega)
      have hlt2 : (strsV ts).length < sizeLine := small1000 (by rw [strsV_len]; omega)
      have ntx : t ≠ x := fun z => by rw [z, hins] at htx; cases htx
      have nlx : l ≠ x := fun z => by rw [z, hins] at hln; cases hln
      have h4 : (upd H1 l (.lst (strsV ls ++ [V.str (strL (lineP (preL (ts.length + 1)) s))]))) x = some (.ins T.c_Tape dx [("_texts", .ref t), ("_lines", .ref l)]) := by rw [upd_ne nlx.symm]; exact h1
      have h5 : (upd H1 l (.lst (strsV ls ++ [V.str (strL (lineP (preL (ts.length + 1)) s))]))) t = some (.lst (strsV ts)) := by rw [upd_ne hT.ne]; exact h2
      walk_at "st"
      refine q hg _ (fun z o z1 z2 z3 => ?_) ⟨?_, ?_, ?_, hT.ne⟩
      · rw [upd_ne z1, upd_ne z2]
        exact s1 _ _ z3
      · rw [upd_ne ntx.symm]
        exact h4
      · rw [upd_same, strsV_one]
      · rw [upd_ne hT.ne.symm, upd_same, strsV_one]
    · exact qe hg H1 s1
def sp_Tape_texts (K : PySem.W.Frag) (C : Addr) : Sp := fun vs H Q _ => ∃ (x dx t l : Addr) (ts ls : List (List Nat)), vs = [.ref x] ∧ TapeOk C dx x t l ts ls H ∧ ∀ (_ : Unit) p H', Same H H' → H p = none → H' p = some (.lst (strsV ts)) → Q (.ref p) H'
set_option maxHeartbeats 0 in
theorem ok_Tape_texts (T : Txt K mg) : FnOk P w K mg base CX0 1 T.f_Tape_texts T.d_Tape_texts ["self"] (sp_Tape_texts K T.c_Tape) := by
  refine T.F_Tape_texts.ok sc_Tape_texts (fun vs H Q E h => ?_) (fun cdv A outer s H vs Q E hr h => ?_)
  · obtain ⟨x, dx, t, l, ts, ls, rfl, _⟩ := h
    rfl
  · obtain ⟨x, dx, t, l, ts, ls, rfl, hT, q⟩ := h
    have fact_Tape_0 := T.cl_Tape; have fact_Tape_1 := T.na_Tape__texts; have fact_Tape_2 := T.na_Tape__lines
    have hins := hT.ins
    have hts := SqL.of (K := K) hT.tx
    have hlook : ([("_texts", V.ref t), ("_lines", V.ref l)] : List (Str × V)).lookup ("_texts" : Str) = some (V.ref t) := rfl
    refine ⟨_, (pss_one (ps_ret (pe_callTy call_list_of (by rfl) T.z_list (by decide +kernel) (pa_cons (pe_fld (pv 0) rfl) pa_nil)))), ?_⟩
    walk_at "st"
    intro p np
    exact q () p _ (same_upd np) np upd_same

/-! ### the tape of the law -/
def textT (c : Int) : List Nat := [108, 105, 110, 101, 32] ++ TL.numL (c % 1000).toNat
theorem textT_good (c : Int) : goodT (textT c) = true := by
  unfold goodT textT
  rw [Bool.and_eq_true]
  refine ⟨rfl, ?_⟩
  rw [List.all_eq_true]
  intro x hx
  rcases List.mem_append.mp hx with h | h
  · have : ∀ y, y ∈ [108, 105, 110, 101, 32] → decide (32 ≤ y ∧ y ≤ 126) = true := by decide
    exact this x h
  · have := TL.numL_digits _ x h
    exact decide_eq_true (by omega)
theorem textT_len (c : Int) : (textT c).length ≤ 8 := by
  unfold textT
  rw [List.length_append]
  have := numL_3 (n := (c % 1000).toNat) (by omega)
  show 5 + _ ≤ 8
  omega
theorem textT_str (c : Int) : ("line " : Str) ++ Str.ofString (toString (c % 1000)) = strL (textT c) := by
  refine TL.ext_tl ?_
  rw [TL.tl_append, tl_strL]
  have e : (c % 1000) = (((c % 1000).toNat : Nat) : Int) := by omega
  rw [e, TL.tl_num]
  rfl
def sp_law_tape (K : PySem.W.Frag) (CT : Addr) : Sp := fun vs H Q _ => ∃ (_ : Unit) (sc : Addr) (ns : List Int), vs = [.ref sc] ∧ SqL K H sc (ns.map V.int) ∧ ns.length ≤ 63 ∧
  ∀ (x dx t l : Addr) (ts ls : List (List Nat)) (H' : Hp), Same H H' → TapeOk CT dx x t l ts ls H' → ts.length = (cutI ns none (some 10)).length → (∀ s, s ∈ ts → goodT s = true ∧ s.length ≤ 8) → Q (.ref x) H'
set_option maxHeartbeats 0 in
theorem ok_law_tape (T : Txt K mg) : FnOk P w K mg base CX0 4 T.f_law_tape T.d_law_tape ["script"] (sp_law_tape K T.c_Tape) := by
  refine T.F_law_tape.ok sc_law_tape (fun vs H Q E h => ?_) (fun cdv A outer s H vs Q E hr h => ?_)
  · obtain ⟨_, sc, ns, rfl, _⟩ := h
    rfl
  · obtain ⟨_, sc, ns, rfl, hs, hln, q⟩ := h
    have G_Tape_init : FnOk P w K mg base CX0 1 T.f_Tape_init T.d_Tape_init ["self"] (sp_Tape_init K T.c_Tape) := ok_Tape_init T
    have G_Tape_append : FnOk P w K mg base (L2.CX P w) 3 T.f_Tape_append T.d_Tape_append ["self", "text"] (sp_Tape_append K T.c_BrokenTape T.c_Tape) := ok_Tape_append T
    have fact_Tape_0 := T.cl_Tape; have fact_Tape_1 := T.na_Tape__texts; have fact_Tape_2 := T.na_Tape__lines
    refine ⟨_, (pss_cons (ps_set (i := 1) sc_law_tape.nd rfl (Or.inl rfl) (pe_make0 T.mk_Tape G_Tape_init (hr.mono (by decide)) (by rfl) T.m_Tape T.b_Tape_init .nil pass0))
    (pss_cons (ps_for PassesOwn.never rfl (pi_list (pe_slice sl_list (pv 0) po_none (po_some pe_int))) (pg_name (i := 2) sc_law_tape.nd rfl (Or.inl rfl))
      (pss_one (ps_expr (pe_mx (pv 1) T.cl_Tape T.mt_Tape_append G_Tape_append hr T.b_Tape_append .nil (fun _ => passLat) (pa_cons (pe_op op_add_str pe_str (pe_callTy call_str_int (by rfl) T.z_str (by decide +kernel) (pa_cons (pe_op op_mod (pe_callTy call_int_i (by rfl) T.z_int (by decide +kernel) (pa_cons (pv 2) pa_nil)) pe_int) pa_nil))) pa_nil)))))
    (pss_one (ps_ret (pv 1))))), ?_⟩
    walk_at "st"
    intro x dx nx ndx nex
    refine ⟨x, dx, rfl, upd_same, fun _ t l H1 k1 nt nl hT => ?_⟩
    have ntx : t ≠ x := fun z => by rw [z, upd_same] at nt; cases nt
    have nlx : l ≠ x := fun z => by rw [z, upd_same] at nl; cases nl
    have ntd : t ≠ dx := fun z => by rw [upd_ne ntx, z, upd_same] at nt; cases nt
    have nld : l ≠ dx := fun z => by rw [upd_ne nlx, z, upd_same] at nl; cases nl
    have nt0 : H t = none := by rw [upd_ne ntx, upd_ne ntd] at nt; exact nt
    have nl0 : H l = none := by rw [upd_ne nlx, upd_ne nld] at nl; exact nl
    have s1 : Same H H1 := fun z o hz => by
      refine k1 z o (fun e => by rw [e, nx] at hz; cases hz) ?_
      rw [upd_ne (fun e => by rw [e, nx] at hz; cases hz), upd_ne (fun e => by rw [e, ndx] at hz; cases hz)]
      exact hz
    refine ⟨rfl, ?_⟩
    have hs1 := s1.seq hs
    walk_at "st"
    intro C nC
    generalize hH2 : upd H1 C _ = H2
    have s2 : Same H1 H2 := hH2 ▸ same_upd nC
    have hC := (congrFun hH2 C).symm.trans upd_same
    rw [cutV_ints] at hC
    have hcl : (cutI ns none (some 10)).length ≤ 10 := by
      unfold cutI
      rw [HT.sIx_none, show (10 : Int) = ((10 : Nat) : Int) from rfl, HT.sIx_nat, List.length_take]
      omega
    generalize cutI ns none (some 10) = cs at hC hcl q
    have nCt : C ≠ t := fun z => by rw [z, hT.tx] at nC; cases nC
    have nCl : C ≠ l := fun z => by rw [z, hT.ln] at nC; cases nC
    have hT2 := hT.same s2
    have lk3 : ([("_texts", V.ref t), ("_lines", V.ref l)] : List (Str × V)).lookup ("append" : Str) = none := rfl
    walk_at "st"
    refine for_list (K := K) (a := C) (xs := cs.map V.int) (fun i σ H' => ∃ (v2 : Option V) (ts ls : List (List Nat)), σ = [some (.ref sc), some (.ref x), v2] ∧ H' C = some (.lst (cs.map V.int)) ∧ TapeOk T.c_Tape dx x t l ts ls H' ∧ ts.length = i ∧ ls.length = i ∧ (∀ s, s ∈ ts → goodT s = true ∧ s.length ≤ 8) ∧ Same H H')
      ⟨none, [], [], rfl, hC, hT2, rfl, rfl, fun s hs => (by cases hs), s1.trans s2⟩ (fun i σ H' _ ⟨_, _, _, _, h, _⟩ => SqL.of h) ?_ ?_
    · rintro i y σ H3 hy ⟨v2, ts, ls, rfl, hC3, hT3, htl, hll, hg, s3⟩
      obtain ⟨cell, hcell, rfl⟩ := ints_at hy
      have hi := (List.getElem?_eq_some_iff.mp hcell).1
      have hins := hT3.ins
      walk_at "st"
      have l0 : (Str.ofString (toString (cell % 1000))).length ≤ 3 := by
        rw [show cell % 1000 = (((cell % 1000).toNat : Nat) : Int) by omega, TL.len_tl, TL.tl_num]
        exact numL_3 (by omega)
      refine ⟨natAbs_log (k := 10) (by omega) (by decide) (by decide), ?_⟩
      refine ⟨_, _, rfl, rfl, len_le' (m := 8) (Nat.add_le_add (show (Str.ofString "line ").length ≤ 5 by decide) l0) rfl, ?_⟩
      rw [textT_str]
      walk_at "st"
      have hil : i < 10 := by omega
      refine ⟨ts, ls, textT cell, rfl, hT3, by omega, by omega, by have := textT_len cell; omega, fun _ H4 k4 hT4 => ?_, fun z => absurd ((textT_good cell).symm.trans z) (by decide)⟩
      refine ⟨_, _, _, rfl, k4 _ _ nCt nCl hC3, hT4, by rw [List.length_append, htl]; rfl, by rw [List.length_append, hll]; rfl, fun s hs => (List.mem_append.mp hs).elim (hg s) fun h => by rw [List.mem_singleton.mp h]; exact ⟨textT_good _, textT_len _⟩, fun z o hz => k4 z o (fun e => by rw [e, nt0] at hz; cases hz) (fun e => by rw [e, nl0] at hz; cases hz) (s3 _ _ hz)⟩
    · rintro σ H3 ⟨v2, ts, ls, rfl, hC3, hT3, htl, hll, hg, s3⟩
      walk_at "st"
      exact q x dx t l ts ls H3 s3 hT3 (by rw [htl, List.length_map]) hg

open LD (sp_Ledger_init ok_Ledger_init sp_Ledger_open_account ok_Ledger_open_account sp_Ledger_post ok_Ledger_post sp_Ledger_balance ok_Ledger_balance sp_Ledger_statement ok_Ledger_statement sp_Ledger_entries ok_Ledger_entries sp_Ledger_accounts ok_Ledger_accounts)
/-! ### the ledger of the law -/
def mvL (a : Int) : List (Str × V) := [("bank", .int (0 - a)), ("till", .int a)]
def bs2 (u v : Int) : List (Str × Int) := [("bank", u), ("till", v)]
def msL : List (Str × Bool) := [("bank", true), ("till", false)]
theorem gD_bank (u v : Int) : gD (bs2 u v) "bank" = u := by
  unfold gD getS bs2
  rw [List.find?_cons, decide_eq_true (show (("bank" : Str), u).1 = "bank" from rfl)]
  rfl
theorem gD_till (u v : Int) : gD (bs2 u v) "till" = v := by
  unfold gD getS bs2
  rw [List.find?_cons, decide_eq_false (show ¬ (("bank" : Str), u).1 = "till" from (by decide : ¬ ("bank" : Str) = "till")), List.find?_cons, decide_eq_true (show (("till" : Str), v).1 = "till" from rfl)]
  rfl
theorem mem_bank (u v : Int) : ("bank" : Str) ∈ keysS (bs2 u v) := List.mem_cons_self
theorem mem_till (u v : Int) : ("till" : Str) ∈ keysS (bs2 u v) := List.mem_cons_of_mem _ List.mem_cons_self
theorem put_bank (u v z : Int) : putS (bs2 u v) "bank" z = bs2 z v := by
  unfold putS
  rw [if_pos (mem_bank u v)]
  unfold bs2
  rw [List.map_cons, List.map_cons, if_pos rfl, if_neg (by decide : ¬ ("till" : Str) = "bank")]
  rfl
theorem put_till (u v z : Int) : putS (bs2 u v) "till" z = bs2 u z := by
  unfold putS
  rw [if_pos (mem_till u v)]
  unfold bs2
  rw [List.map_cons, List.map_cons, if_neg (by decide : ¬ ("bank" : Str) = "till"), if_pos rfl]
  rfl
theorem scan_law (u v a : Int) : LD.scanS (keysS (bs2 u v)) (mvL a) [] = .ok (bs2 (0 - a) a) := by
  unfold mvL
  simp only [LD.scanS, LD.stepS]
  rw [if_pos (mem_bank u v)]
  dsimp only
  rw [if_pos (mem_till u v)]
  have p1 : putS [] "bank" (gD [] "bank" + (0 - a)) = [(("bank" : Str), 0 - a)] := by
    unfold putS
    rw [if_neg (fun h => by cases h)]
    show [(("bank" : Str), (0 : Int) + (0 - a))] = _
    rw [Int.zero_add]
  rw [p1]
  have nk : ("till" : Str) ∉ keysS [(("bank" : Str), 0 - a)] := by
    show ("till" : Str) ∉ [("bank" : Str)]
    decide
  have p2 : putS [(("bank" : Str), 0 - a)] "till" (gD [(("bank" : Str), 0 - a)] "till" + a) = bs2 (0 - a) a := by
    rw [LD.gD_nokey nk, Int.zero_add]
    unfold putS
    rw [if_neg nk]
    rfl
  rw [p2]
theorem post_law (u v a : Int) : LD.postB (bs2 u v) (bs2 (0 - a) a) = bs2 (u + (0 - a)) (v + a) := by
  show putS (putS (bs2 u v) "bank" (gD (bs2 u v) "bank" + (0 - a))) "till" (gD (putS (bs2 u v) "bank" (gD (bs2 u v) "bank" + (0 - a))) "till" + a) = _
  rw [gD_bank, put_bank, gD_till, put_till]
theorem over_law {u v a : Int} (h : 0 ≤ v + a) : LD.overF (bs2 u v) msL (bs2 (0 - a) a) = false := by
  unfold LD.overF
  rw [show bs2 (0 - a) a = [(("bank" : Str), 0 - a), (("till" : Str), a)] from rfl, List.any_cons, List.any_cons, List.any_nil, gD_bank, gD_till]
  have m1 : LD.mayF msL "bank" = true := by decide
  rw [m1, decide_eq_false (show ¬ v + a < 0 by omega)]
  simp
theorem sum_law (a : Int) : ((bs2 (0 - a) a).map (·.2)).sum = 0 := by
  show (0 - a) + (a + 0) = 0
  omega

structure LedZ (H0 H : Hp) (CL x dx D1 D2 D3 L : Addr) (ss : List (Str × Addr)) (rs : Str → List V) (en : List V) (S : Int) (n : Nat) : Prop where
  led : LD.Led CL H x dx D1 D2 D3 L (bs2 (0 - S) S) msL ss rs en
  sm : Same H0 H
  fr : H0 D1 = none ∧ H0 L = none ∧ ∀ y, y ∈ ss → H0 y.2 = none
  el : en.length = n
  ek : ∀ v, v ∈ en → ∃ (M : Addr) (pm : List Addr) (a : Int), v = .ref M ∧ Tups LD.encMv H M pm (mvL a) ∧ M ≠ L ∧ (∀ y, y ∈ ss → y.2 ≠ M) ∧ 0 ≤ a ∧ a < 50
  rk : ∀ k v, v ∈ rs k → ∃ (t : Addr) (a b c : Int), v = .ref t ∧ H t = some (.tup [.int a, .int b, .int c]) ∧ a.natAbs ≤ 10000 ∧ b.natAbs ≤ 10000 ∧ c.natAbs ≤ 10000
  bd : 0 ≤ S ∧ S ≤ 50 * (n : Int)
theorem LedZ.same {H0 H H' : Hp} {CL x dx D1 D2 D3 L : Addr} {ss : List (Str × Addr)} {rs : Str → List V} {en : List V} {S : Int} {n : Nat} (Z : LedZ H0 H CL x dx D1 D2 D3 L ss rs en S n) (e : Same H H') : LedZ H0 H' CL x dx D1 D2 D3 L ss rs en S n :=
  ⟨Z.led.same e, Z.sm.trans e, Z.fr, Z.el, fun v hv => let ⟨M, pm, a, h1, h2, h3⟩ := Z.ek v hv; ⟨M, pm, a, h1, h2.same e, h3⟩, fun k v hv => let ⟨t, a, b, c, h1, h2, h3⟩ := Z.rk k v hv; ⟨t, a, b, c, h1, e _ _ h2, h3⟩, Z.bd⟩
theorem LedZ.keepx {H0 H H' : Hp} {CL x dx D1 D2 D3 L m : Addr} {us : List V} {ss : List (Str × Addr)} {rs : Str → List V} {en : List V} {S : Int} {n : Nat} (Z : LedZ H0 H CL x dx D1 D2 D3 L ss rs en S n) (e : KeepX m H H') (hm : H m = some (.lst us)) (n0 : H0 m = none) (o : LD.OutL m x D1 D2 D3 L ss) (om : ∀ M, V.ref M ∈ en → M ≠ m) : LedZ H0 H' CL x dx D1 D2 D3 L ss rs en S n := by
  have ne : ∀ {z vs}, H z = some (.tup vs) → z ≠ m := fun h q => by rw [q, hm] at h; cases h
  refine ⟨Z.led.keep o e, fun z v hz => e _ _ (fun q => by rw [q, n0] at hz; cases hz) (Z.sm _ _ hz), Z.fr, Z.el, fun v hv => ?_, fun k v hv => ?_, Z.bd⟩
  · obtain ⟨M, pm, a, h1, h2, h3⟩ := Z.ek v hv
    refine ⟨M, pm, a, h1, ⟨e _ _ (om M (h1 ▸ hv)) h2.lst, h2.len, fun i p y a1 a2 => e _ _ (ne (h2.row i p y a1 a2)) (h2.row i p y a1 a2)⟩, h3⟩
  · obtain ⟨t, a, b, c, h1, h2, h3⟩ := Z.rk k v hv
    exact ⟨t, a, b, c, h1, e _ _ (ne h2) h2, h3⟩
theorem LedZ.post {H0 H H' : Hp} {CL x dx D1 D2 D3 L M : Addr} {pm : List Addr} {ss : List (Str × Addr)} {rs rs' : Str → List V} {en : List V} {S a : Int} {n : Nat} (Z : LedZ H0 H CL x dx D1 D2 D3 L ss rs en S n) (hn : n < 100) (h0 : 0 ≤ a) (h1 : a < 50)
    (B : LD.Led CL H' x dx D1 D2 D3 L (LD.postB (bs2 (0 - S) S) (bs2 (0 - a) a)) msL ss rs' (en ++ [.ref M])) (hT : Tups LD.encMv H' M pm (mvL a)) (nM : H M = none) (fr : LD.FrL H H' D1 L ss) (r1 : ∀ k, k ∉ keysS (bs2 (0 - a) a) → rs' k = rs k)
    (r2 : ∀ y, y ∈ bs2 (0 - a) a → ∃ t, rs' y.1 = rs y.1 ++ [.ref t] ∧ H t = none ∧ H' t = some (.tup [.int ((en.length : Nat) + 1 : Int), .int y.2, .int (gD (bs2 (0 - S) S) y.1 + y.2)])) : LedZ H0 H' CL x dx D1 D2 D3 L ss rs' (en ++ [.ref M]) (S + a) (n + 1) := by
  have hb := Z.bd
  have hB := Z.led.b
  have hL := Z.led.e
  have nt : ∀ {z vs}, H z = some (.tup vs) → H' z = some (.tup vs) := fun {z vs} h => fr z _ (fun q => by rw [q, hB] at h; cases h) (fun q => by rw [q, hL] at h; cases h) (fun y hy q => by have := Z.led.st y hy; rw [q, h] at this; cases this) h
  rw [post_law] at B
  rw [show (0 - S + (0 - a) : Int) = 0 - (S + a) by omega] at B
  refine ⟨B, fun z v hz => fr z v (fun q => by rw [q, Z.fr.1] at hz; cases hz) (fun q => by rw [q, Z.fr.2.1] at hz; cases hz) (fun y hy q => by rw [← q, Z.fr.2.2 y hy] at hz; cases hz) (Z.sm _ _ hz), Z.fr, by rw [List.length_append, Z.el]; rfl, fun v hv => ?_, fun k v hv => ?_, by omega⟩
  · rcases List.mem_append.mp hv with h | h
    · obtain ⟨M2, pm2, a2, q1, q2, q3, q4, q5⟩ := Z.ek v h
      have hM2 := q2.lst
      refine ⟨M2, pm2, a2, q1, ⟨fr _ _ (fun q => by rw [q, hB] at hM2; cases hM2) q3 q4 hM2, q2.len, fun i p y a1 a2 => nt (q2.row i p y a1 a2)⟩, q3, q4, q5⟩
    · rw [List.mem_singleton.mp h]
      exact ⟨M, pm, a, rfl, hT, (fun q => by rw [q, hL] at nM; cases nM), (fun y hy q => by have := Z.led.st y hy; rw [q, nM] at this; cases this), h0, h1⟩
  · by_cases hk : k ∈ keysS (bs2 (0 - a) a)
    · obtain ⟨y, hy, rfl⟩ := List.mem_map.mp hk
      obtain ⟨t, t1, t2, t3⟩ := r2 y hy
      rw [t1] at hv
      rcases List.mem_append.mp hv with h | h
      · obtain ⟨t', a', b', c', q1, q2, q3⟩ := Z.rk _ v h
        exact ⟨t', a', b', c', q1, nt q2, q3⟩
      · rw [List.mem_singleton.mp h]
        refine ⟨t, _, _, _, rfl, t3, ?_, ?_, ?_⟩
        · rw [Z.el]; omega
        · rcases List.mem_cons.mp hy with z | z
          · rw [z]; show (0 - a).natAbs ≤ _; omega
          · rw [List.mem_singleton.mp z]; show a.natAbs ≤ _; omega
        · rcases List.mem_cons.mp hy with z | z
          · rw [z]; show (gD (bs2 (0 - S) S) "bank" + (0 - a)).natAbs ≤ _; rw [gD_bank]; omega
          · rw [List.mem_singleton.mp z]; show (gD (bs2 (0 - S) S) "till" + a).natAbs ≤ _; rw [gD_till]; omega
    · rw [r1 k hk] at hv
      obtain ⟨t', a', b', c', q1, q2, q3⟩ := Z.rk _ v hv
      exact ⟨t', a', b', c', q1, nt q2, q3⟩

theorem LedZ.start {H0 H : Hp} {CL x dx D1 D2 D3 L A1 A2 : Addr} (B : LD.Led CL H x dx D1 D2 D3 L ([] ++ [(("bank" : Str), (0 : Int))] ++ [(("till" : Str), (0 : Int))]) ([] ++ [(("bank" : Str), true)] ++ [(("till" : Str), false)]) ([] ++ [(("bank" : Str), A1)] ++ [(("till" : Str), A2)]) (fun k => if k = "till" then [] else if k = "bank" then [] else (fun _ => []) k) []) (s : Same H0 H)
    (h1 : H0 D1 = none) (h2 : H0 L = none) (h3 : H0 A1 = none) (h4 : H0 A2 = none) : ∃ ss rs, LedZ H0 H CL x dx D1 D2 D3 L ss rs [] 0 0 := by
  refine ⟨_, _, B, s, ⟨h1, h2, fun y hy => ?_⟩, rfl, fun v hv => (by cases hv), fun k v hv => ?_, by omega⟩
  · rcases List.mem_append.mp hy with h | h
    · rw [List.mem_singleton.mp h]; exact h3
    · rw [List.mem_singleton.mp h]; exact h4
  · dsimp only at hv
    split at hv
    · cases hv
    · split at hv <;> cases hv
def sp_law_ledger (K : PySem.W.Frag) (CL : Addr) : Sp := fun vs H Q _ => ∃ (_ : Unit) (sc : Addr) (ns : List Int), vs = [.ref sc] ∧ SqL K H sc (ns.map V.int) ∧ ns.length ≤ 63 ∧
  ∀ (x dx D1 D2 D3 L : Addr) (ss : List (Str × Addr)) (rs : Str → List V) (en : List V) (H' : Hp), LedZ H H' CL x dx D1 D2 D3 L ss rs en (((cutI ns none (some 10)).map fun c => c % 50).sum) (cutI ns none (some 10)).length → Q (.ref x) H'
set_option maxHeartbeats 0 in
theorem ok_law_ledger (T : Txt K mg) : FnOk P w K mg base CX0 4 T.f_law_ledger T.d_law_ledger ["script"] (sp_law_ledger K T.c_Ledger) := by
  refine T.F_law_ledger.ok sc_law_ledger (fun vs H Q E h => ?_) (fun cdv A outer s H vs Q E hr h => ?_)
  · obtain ⟨_, sc, ns, rfl, _⟩ := h
    rfl
  · obtain ⟨_, sc, ns, rfl, hs, hln, q⟩ := h
    have G_Ledger_init : FnOk P w K mg base CX0 1 T.f_Ledger_init T.d_Ledger_init ["self"] (sp_Ledger_init K T.c_Ledger) := ok_Ledger_init T
    have G_Ledger_open_account : FnOk P w K mg base (L2.CX P w) 1 T.f_Ledger_open_account T.d_Ledger_open_account ["self", "name", "may_owe"] (sp_Ledger_open_account K T.c_DuplicateName T.c_Ledger) := ok_Ledger_open_account T
    have G_Ledger_post : FnOk P w K mg base (L2.CX P w) 3 T.f_Ledger_post T.d_Ledger_post ["self", "moves"] (sp_Ledger_post K T.c_UnknownName T.c_InvalidAmount T.c_Unbalanced T.c_Overdrawn T.c_Ledger) := ok_Ledger_post T
    have fact_Ledger_0 := T.cl_Ledger; have fact_Ledger_1 := T.na_Ledger__balances; have fact_Ledger_2 := T.na_Ledger__may_owe; have fact_Ledger_3 := T.na_Ledger__statements; have fact_Ledger_4 := T.na_Ledger__entries
    refine ⟨_, (pss_cons (ps_set (i := 1) sc_law_ledger.nd rfl (Or.inl rfl) (pe_make0 T.mk_Ledger G_Ledger_init (hr.mono (by decide)) (by rfl) T.m_Ledger T.b_Ledger_init .nil pass0))
    (pss_cons (ps_expr (pe_mk (pv 1) T.cl_Ledger T.mt_Ledger_open_account G_Ledger_open_account (hr.mono (by decide)) T.kb_Ledger_open_account_may_owe.choose_spec (fun _ => passLat) (pa_cons pe_str pa_nil) (pk_cons pe_bl pk_nil)))
    (pss_cons (ps_expr (pe_mx (pv 1) T.cl_Ledger T.mt_Ledger_open_account G_Ledger_open_account (hr.mono (by decide)) T.b_Ledger_open_account.choose_spec.2 T.b_Ledger_open_account.choose_spec.1 (fun _ => passLat) (pa_cons pe_str pa_nil)))
    (pss_cons (ps_for PassesOwn.never rfl (pi_list (pe_slice sl_list (pv 0) po_none (po_some pe_int))) (pg_name (i := 2) sc_law_ledger.nd rfl (Or.inl rfl))
      (pss_cons (ps_set (i := 3) sc_law_ledger.nd rfl (Or.inl rfl) (pe_lst (pa_cons (pe_tup (pa_cons pe_str (pa_cons (pe_op op_sub pe_int (pe_op op_mod (pe_callTy call_int_i (by rfl) T.z_int (by decide +kernel) (pa_cons (pv 2) pa_nil)) pe_int)) pa_nil))) (pa_cons (pe_tup (pa_cons pe_str (pa_cons (pe_op op_mod (pe_callTy call_int_i (by rfl) T.z_int (by decide +kernel) (pa_cons (pv 2) pa_nil)) pe_int) pa_nil))) pa_nil))))
      (pss_cons (ps_expr (pe_mx (pv 1) T.cl_Ledger T.mt_Ledger_post G_Ledger_post hr T.b_Ledger_post .nil (fun _ => passLat) (pa_cons (pv 3) pa_nil)))
      (pss_cons (ps_asg (pe_tup (pa_cons pe_str (pa_cons pe_int pa_nil))) (pg_sub (pv 3) pe_int set_list))
      (pss_one (ps_expr (pe_bm PySem.F.plainAttrs_list PySem.F.slot_list_append PySem.F.type_list_append mt_append (pv 3) (pa_cons (pe_tup (pa_cons pe_str (pa_cons pe_int pa_nil))) pa_nil))))))))
    (pss_one (ps_ret (pv 1))))))), ?_⟩
    walk_at "st"
    intro x dx nx ndx nex
    refine ⟨x, dx, rfl, upd_same, fun D1 D2 D3 L H1 B1 k1 nD nL => ?_⟩
    have ux : ∀ {z}, (upd (upd H dx (.own x)) x (.ins T.c_Ledger dx [])) z = none → H z = none ∧ z ≠ x ∧ z ≠ dx := fun {z} h => by
      have z1 : z ≠ x := fun e => by rw [e, upd_same] at h; cases h
      rw [upd_ne z1] at h
      have z2 : z ≠ dx := fun e => by rw [e, upd_same] at h; cases h
      rw [upd_ne z2] at h
      exact ⟨h, z1, z2⟩
    have s1 : Same H H1 := fun z o hz => by
      refine k1 z o (fun e => by rw [e, nx] at hz; cases hz) ?_
      rw [upd_ne (fun e => by rw [e, nx] at hz; cases hz), upd_ne (fun e => by rw [e, ndx] at hz; cases hz)]
      exact hz
    have hD1 := (ux nD.1).1
    have hD2 := (ux nD.2.1).1
    have hD3 := (ux nD.2.2).1
    have hL0 := (ux nL).1
    refine ⟨rfl, ?_⟩
    have hob := B1.ob
    walk_at "st"
    refine ⟨[], [], [], fun _ => [], [], "bank", true, rfl, B1, Nat.zero_le _, fun h => (by cases h), fun _ A1 H2 B2 nA1 k2 => ?_⟩
    have s2 : Same H H2 := fun z o hz => k2 _ _ (fun e => by rw [e, hD1] at hz; cases hz) (fun e => by rw [e, hD2] at hz; cases hz) (fun e => by rw [e, hD3] at hz; cases hz) (s1 _ _ hz)
    have hA1 := s1.free nA1
    have hob2 := B2.ob
    walk_at "st"
    refine ⟨_, _, _, _, _, "till", false, rfl, B2, by show 1 ≤ 800; decide, fun h => absurd h (by show ¬ ("till" : Str) ∈ [("bank" : Str)]; decide), fun _ A2 H3 B3 nA2 k3 => ?_⟩
    have s3 : Same H H3 := fun z o hz => k3 _ _ (fun e => by rw [e, hD1] at hz; cases hz) (fun e => by rw [e, hD2] at hz; cases hz) (fun e => by rw [e, hD3] at hz; cases hz) (s2 _ _ hz)
    have hA2 := s2.free nA2
    have hs3 := s3.seq hs
    walk_at "st"
    intro C nC
    generalize hH4 : upd H3 C _ = H4
    have s4 : Same H3 H4 := hH4 ▸ same_upd nC
    have hC := (congrFun hH4 C).symm.trans upd_same
    rw [cutV_ints] at hC
    have hcl : (cutI ns none (some 10)).length ≤ 10 := by
      unfold cutI
      rw [HT.sIx_none, show (10 : Int) = ((10 : Nat) : Int) from rfl, HT.sIx_nat, List.length_take]
      omega
    generalize cutI ns none (some 10) = cs at hC hcl q
    obtain ⟨ss, rs, Z3⟩ := LedZ.start B3 s3 hD1 hL0 hA1 hA2
    have Z4 := Z3.same s4
    have oC := Z3.led.out nC
    walk_at "st"
    refine for_list (K := K) (a := C) (xs := cs.map V.int) (fun i σ H' => ∃ (v2 v3 : Option V) (rs : Str → List V) (en : List V), σ = [some (.ref sc), some (.ref x), v2, v3] ∧ H' C = some (.lst (cs.map V.int)) ∧ LedZ H H' T.c_Ledger x dx D1 D2 D3 L ss rs en (((cs.take i).map fun c => c % 50).sum) i)
      ⟨none, none, rs, [], rfl, hC, Z4⟩ (fun i σ H' _ ⟨_, _, _, _, _, h, _⟩ => SqL.of h) ?_ ?_
    · rintro i y σ H5 hy ⟨v2, v3, rs, en, rfl, hC5, Z5⟩
      obtain ⟨cell, hcell, rfl⟩ := ints_at hy
      have hi := (List.getElem?_eq_some_iff.mp hcell).1
      have ha0 : 0 ≤ cell % 50 := by omega
      have ha1 : cell % 50 < 50 := by omega
      walk_at "st"
      intro t1 n1
      generalize hHa : upd H5 t1 _ = Ha
      have sa : Same H5 Ha := hHa ▸ same_upd n1
      have ht1 := (congrFun hHa t1).symm.trans upd_same
      walk_at "st"
      intro t2 n2
      generalize hHb : upd Ha t2 _ = Hb
      have sb : Same Ha Hb := hHb ▸ same_upd n2
      have ht2 := (congrFun hHb t2).symm.trans upd_same
      walk_at "st"
      intro m nm
      generalize hHc : upd Hb m _ = Hc
      have sc' : Same Hb Hc := hHc ▸ same_upd nm
      have hm := (congrFun hHc m).symm.trans upd_same
      have Zb := (Z5.same sa).same sb
      have Zc := Zb.same sc'
      have om := Zb.led.out nm
      have eM : ∀ M, V.ref M ∈ en → M ≠ m := fun M hM e => by
        obtain ⟨M2, pm2, a2, q1, q2, q3⟩ := Zb.ek _ hM
        cases q1
        have := q2.lst
        rw [e, nm] at this
        cases this
      have hT : Tups LD.encMv Hc m [t1, t2] (mvL (cell % 50)) := ⟨hm, rfl, fun i p y a b => by
        match i with
        | 0 => cases a; cases b; exact sc' _ _ (sb _ _ ht1)
        | 1 => cases a; cases b; exact sc' _ _ ht2
        | i + 2 => cases a⟩
      have hCm : C ≠ m := fun e => by rw [← e, sb _ _ (sa _ _ hC5)] at nm; cases nm
      have m0 : H m = none := Zb.sm.free nm
      have hob := Zc.led.ob
      have hel := Zc.el
      walk_at "st"
      refine ⟨bs2 (0 - ((cs.take i).map fun c => c % 50).sum) ((cs.take i).map fun c => c % 50).sum, msL, ss, rs, en, [t1, t2], mvL (cell % 50), rfl, Zc.led, hT, ?_, by show 2 ≤ 800; decide, by omega, by show 2 ≤ 800; decide, om.2.2.2.2.1, om.2.2.2.2.2, fun z => ?_, fun z => ?_, fun d z z2 => ?_, fun d z z2 z3 => ?_, fun d M pm rs' H6 hd hsum hov B6 hT6 nM fr r1 r2 => ?_⟩
      · intro v hv
        rcases List.mem_cons.mp hv with e | e
        · rw [e]; exact .inl ⟨_, rfl⟩
        · rw [List.mem_singleton.mp e]; exact .inl ⟨_, rfl⟩
      · rw [scan_law] at z; cases z
      · rw [scan_law] at z; cases z
      · rw [scan_law] at z; cases z; exact absurd (sum_law _) z2
      · rw [scan_law] at z; cases z; rw [over_law (by have := Zc.bd; omega)] at z3; cases z3
      · rw [scan_law] at hd
        cases hd
        have Z6 := Zc.post (by omega) ha0 ha1 B6 hT6 nM fr r1 r2
        have Mm : M ≠ m := fun e => by rw [e, hm] at nM; cases nM
        have hm6 := fr _ _ om.2.1 om.2.2.2.2.1 om.2.2.2.2.2 hm
        have oC5 := oC
        have hC6 := fr _ _ oC.2.1 oC.2.2.2.2.1 oC.2.2.2.2.2 (sc' _ _ (sb _ _ (sa _ _ hC5)))
        have kx0 : KeepX m H6 H6 := fun z o _ h => h
        walk_at "st"
        intro t3 n3
        have kx1 := kx0.then (same_upd (o := .tup [.str "till", .int 1]) n3)
        have hm7 := same_upd (o := .tup [.str "till", .int 1]) n3 _ _ hm6
        generalize upd H6 t3 (.tup [.str "till", .int 1]) = H7 at kx1 hm7 ⊢
        have hix : ixN ([V.ref t1, V.ref t2].length) 0 = some 0 := rfl
        walk_at "st"
        have kx2 := kx1.set (o := .lst ([V.ref t1, V.ref t2].set 0 (V.ref t3)))
        have hm8 : upd H7 m (.lst ([V.ref t1, V.ref t2].set 0 (V.ref t3))) m = some (.lst ([V.ref t1, V.ref t2].set 0 (V.ref t3))) := upd_same
        generalize upd H7 m (.lst ([V.ref t1, V.ref t2].set 0 (V.ref t3))) = H8 at kx2 hm8 ⊢
        intro t4 n4
        have kx3 := kx2.then (same_upd (o := .tup [.str "bank", .int 5]) n4)
        have hm9 := same_upd (o := .tup [.str "bank", .int 5]) n4 _ _ hm8
        generalize upd H8 t4 (.tup [.str "bank", .int 5]) = H9 at kx3 hm9 ⊢
        have hsz : ([V.ref t1, V.ref t2].set 0 (V.ref t3)).length < sizeLine := small1000 (by show 2 ≤ 1000; decide)
        walk_at "st"
        have kx4 := kx3.set (o := .lst (([V.ref t1, V.ref t2].set 0 (V.ref t3)) ++ [.ref t4]))
        have Z9 := Z6.keepx kx4 hm6 m0 om (fun M' h => by
          rcases List.mem_append.mp h with h | h
          · exact eM M' h
          · have := List.mem_singleton.mp h
            cases this
            exact Mm)
        have es : ((cs.take (i + 1)).map fun c => c % 50).sum = ((cs.take i).map fun c => c % 50).sum + cell % 50 := by
          rw [take_succ hcell, List.map_append, List.sum_append]
          show _ + (cell % 50 + 0) = _
          omega
        rw [← es] at Z9
        exact ⟨_, _, rs', _, rfl, kx4 _ _ hCm hC6, Z9⟩
    · rintro σ H5 ⟨v2, v3, rs, en, rfl, hC5, Z5⟩
      walk_at "st"
      rw [List.length_map, List.take_of_length_le (Nat.le_refl _)] at Z5
      exact q x dx D1 D2 D3 L ss rs en H5 Z5

theorem sameT {K : PySem.W.Frag} {H H' : Hp} {a : Addr} {xs : List V} (e : Same H H') (h : SqT K H a xs) : SqT K H' a xs :=
  h.elim (fun z => .inl (z.elim (fun q => .inl (e _ _ q)) fun ⟨o, q⟩ => .inr ⟨o, e _ _ q⟩)) .inr
mutual
theorem dpSame {K : PySem.W.Frag} {H H' : Hp} (e : Same H H') : ∀ {d : PyData} {v : V}, Dp K H v d → Dp K H' v d
  | _, _, .non => .non
  | _, _, .bl b => .bl b
  | _, _, .int i => .int i
  | _, _, .str x => .str x
  | _, _, .lst h hs => .lst (e.seq h) (dpAllSame e hs)
  | _, _, .tup h hs => .tup (sameT e h) (dpAllSame e hs)
theorem dpAllSame {K : PySem.W.Frag} {H H' : Hp} (e : Same H H') : ∀ {ds : List PyData} {vs : List V}, DpAll K H vs ds → DpAll K H' vs ds
  | _, _, .nil => .nil
  | _, _, .cons h hs => .cons (dpSame e h) (dpAllSame e hs)
end
/-! ### data that is shown in few signs -/
theorem tl_int (n : Int) (h : n.natAbs ≤ 1000000) : (TL.tl (Str.ofString (toString n))).length ≤ 9 := by
  have hl : (TL.numL n.natAbs).length ≤ 7 := TL.numL_len (by decide) (by omega)
  cases n with
  | ofNat m =>
    have := TL.tl_num m
    show (TL.tl (Str.ofString (toString ((m : Nat) : Int)))).length ≤ 9
    rw [this]
    exact Nat.le_trans hl (by decide)
  | negSucc m =>
    have e : toString (Int.negSucc m) = "-" ++ toString (m + 1) := rfl
    rw [e, TL.tl_ofString, String.toList_append, List.map_append]
    have h2 := TL.tl_num (m + 1)
    rw [TL.tl_ofString] at h2
    rw [List.length_append, show List.map (fun c => c.toNat) (toString (m + 1)).toList = TL.numL (m + 1) from h2]
    have e2 : (Int.negSucc m).natAbs = m + 1 := rfl
    rw [e2] at hl
    show 1 + _ ≤ 9
    omega
structure NiceD (w k : Nat) (d : PyData) : Prop where
  lay : d.canLay0 = true
  sh : d.showable = true
  it : d.intsShort 13 = true
  wt : d.weight ≤ w
  dp : d.depth ≤ k
theorem NiceD.mono {w k w' k' : Nat} {d : PyData} (h : NiceD w k d) (hw : w ≤ w') (hk : k ≤ k') : NiceD w' k' d := ⟨h.lay, h.sh, h.it, Nat.le_trans h.wt hw, Nat.le_trans h.dp hk⟩
theorem niceI {i : Int} (h : i.natAbs ≤ 1000000) : NiceD 20 0 (.int i) := by
  have hl : i.natAbs.log2 < 20 := by
    by_cases z : i.natAbs = 0
    · rw [z]; decide
    · exact (Nat.log2_lt z).mpr (by omega)
  refine ⟨rfl, ?_, ?_, ?_, Nat.le_refl _⟩
  · simp only [PyData.showable]
    exact decide_eq_true (by omega)
  · simp only [PyData.intsShort]
    refine decide_eq_true ?_
    rw [PyData.shown_int]
    have := tl_int i h
    rw [← TL.len_tl] at this
    exact Nat.le_trans this (by decide)
  · simp only [PyData.weight]
    split <;> omega
theorem niceN : NiceD 20 0 .none := ⟨rfl, rfl, rfl, Nat.zero_le _, Nat.le_refl _⟩
theorem niceS {x : Str} (h : PyData.strOk x = true) (hl : x.length ≤ 20) : NiceD 20 0 (.str x) := by
  refine ⟨?_, ?_, ?_, ?_, Nat.le_refl _⟩
  · simp only [PyData.canLay0]; exact h
  · simp only [PyData.showable]
  · simp only [PyData.intsShort]
  · simp only [PyData.weight]; exact hl
theorem niceAll {w k : Nat} : ∀ {ds : List PyData}, (∀ d, d ∈ ds → NiceD w k d) → PyData.canLayAll0 ds = true ∧ PyData.showableAll ds = true ∧ PyData.intsShortAll 13 ds = true ∧ PyData.weightAll ds ≤ ds.length * (w + 1) ∧ PyData.depthAll ds ≤ k
  | [], _ => ⟨rfl, rfl, rfl, Nat.zero_le _, Nat.zero_le _⟩
  | d :: ds, h => by
    obtain ⟨a1, a2, a3, a4, a5⟩ := niceAll fun y hy => h y (List.mem_cons_of_mem _ hy)
    have b := h d List.mem_cons_self
    simp only [PyData.canLayAll0, PyData.showableAll, PyData.intsShortAll, PyData.weightAll, PyData.depthAll, a1, a2, a3, b.lay, b.sh, b.it, List.length_cons]
    refine ⟨rfl, rfl, rfl, ?_, Nat.max_le.mpr ⟨b.dp, a5⟩⟩
    have := b.wt
    rw [Nat.succ_mul]
    omega
theorem niceL {w k n : Nat} {ds : List PyData} (h : ∀ d, d ∈ ds → NiceD w k d) (hn : ds.length ≤ n) : NiceD (n * (w + 1)) (k + 1) (.list ds) := by
  obtain ⟨a1, a2, a3, a4, a5⟩ := niceAll h
  refine ⟨?_, ?_, ?_, ?_, ?_⟩
  · simp only [PyData.canLay0]; exact a1
  · simp only [PyData.showable]; exact a2
  · simp only [PyData.intsShort]; exact a3
  · simp only [PyData.weight]; exact Nat.le_trans a4 (Nat.mul_le_mul_right _ hn)
  · simp only [PyData.depth]; exact Nat.succ_le_succ a5
theorem niceT {w k n : Nat} {ds : List PyData} (h : ∀ d, d ∈ ds → NiceD w k d) (hn : ds.length ≤ n) : NiceD (n * (w + 1)) (k + 1) (.tuple ds) := by
  obtain ⟨a1, a2, a3, a4, a5⟩ := niceAll h
  refine ⟨?_, ?_, ?_, ?_, ?_⟩
  · simp only [PyData.canLay0]; exact a1
  · simp only [PyData.showable]; exact a2
  · simp only [PyData.intsShort]; exact a3
  · simp only [PyData.weight]; exact Nat.le_trans a4 (Nat.mul_le_mul_right _ hn)
  · simp only [PyData.depth]; exact Nat.succ_le_succ a5
theorem NiceD.small {w k : Nat} {d : PyData} (h : NiceD w k d) (hw : w ≤ 1000000) (hk : k ≤ 64) : d.shown.length ≤ sizeLine := by
  have hl : PyData.layable0 d = true := by
    unfold PyData.layable0
    have e : (2 : Nat) ^ 20 = 1048576 := by decide
    rw [h.lay, decide_eq_true (Nat.le_trans h.dp hk), decide_eq_true (show d.weight ≤ 2 ^ 20 by have := h.wt; omega)]
    rfl
  exact Nat.le_trans (PyProof.Rows.shown_le13 hl h.it) (by decide)

def layPI (x : Int × Int) : PyData := .tuple [.int x.1, .int x.2]
theorem layD_PI : LayD layPI 1 (fun _ => True) := by
  refine ⟨fun x _ => rfl, fun x => Nat.le_refl _, fun x y => ?_⟩
  unfold layPI
  simp only [PyData.eqv, PyData.eqvAll, Bool.and_true, Bool.beq_eq_decide_eq]
  exact decide_and2 (by rw [Prod.ext_iff])
theorem pairs_dp {K : PySem.W.Frag} {H : Hp} {D : Addr} {ts : List Addr} {ls : List (Int × Int)} (hD : H D = some (.lst (ts.map V.ref))) (hp : Paired (fun (t : Addr) (q : Int × Int) => H t = some (.tup [.int q.1, .int q.2])) ts ls) : Dp K H (.ref D) (.list (ls.map layPI)) := by
  refine .lst (SqL.of hD) (dpAll_refs (Paired.length hp) fun i p x h1 h2 => ?_)
  obtain ⟨y, h3, h4⟩ := LiI.paired_get hp h1
  rw [h2] at h3
  obtain rfl := Option.some.inj h3
  exact .tup (SqT.of h4) (.cons (.int _) (.cons (.int _) .nil))

theorem strOk_good {t : List Nat} (h : goodT t = true) : PyData.strOk (strL t) = true := by
  refine Array.all_eq_true'.mpr ?_
  intro c hc
  unfold goodT at h
  rw [Bool.and_eq_true, List.all_eq_true] at h
  have := of_decide_eq_true (h.2 c (by simpa [strL] using hc))
  exact decide_eq_true (by omega)
theorem house_ok : ∀ h, h ∈ housesL → PyData.strOk h = true ∧ h.length ≤ 20 := by
  unfold housesL
  decide +kernel
/-! ### what the lists tell -/
def rowsD (es : List Ent) : PyData := .list ((es.map fun e => rowT e.2.2).map layRow)
def stopsD (ss : List EntS) : PyData := .list ((ss.map fun e => e.2.2).map layQ)
def depthD (es : List Ent) : PyData := .list ((DI.levF es).map layPI)
theorem rowsD_nice {s : Str} {es : List Ent} (hr : Rank s es) (hz : ∀ e, e ∈ es → OrdZ e.2.2) (hl : es.length ≤ 20) : NiceD 3000 3 (rowsD es) := by
  unfold rowsD
  refine (niceL (n := 20) (w := 105) (k := 1) ?_ (by rw [List.length_map, List.length_map]; exact hl)).mono (by decide) (by decide)
  intro d hd
  obtain ⟨x, hx, rfl⟩ := List.mem_map.mp hd
  obtain ⟨e, he, rfl⟩ := List.mem_map.mp hx
  obtain ⟨⟨h1, h2, h3, p, h4, h5, h6⟩, h7⟩ := hz e he
  have hv := hr.vis e he
  have hh := house_ok _ h1
  unfold rowT layRow
  refine niceT (n := 5) (w := 20) (k := 0) ?_ (Nat.le_refl _)
  intro d hd
  simp only [List.mem_cons, List.not_mem_nil, or_false] at hd
  rcases hd with rfl | rfl | rfl | rfl | rfl
  · exact niceI (by omega)
  · exact niceS hh.1 hh.2
  · rw [h4]; exact niceI (by omega)
  · exact niceI (by omega)
  · exact niceI (by omega)
theorem stopsD_nice {ss : List EntS} (hz : ∀ e, e ∈ ss → StpZ e.2.2) (hg : ∀ e, e ∈ ss → 1 ≤ e.2.2.quantity) (hl : ss.length ≤ 20) : NiceD 3000 3 (stopsD ss) := by
  unfold stopsD
  refine (niceL (n := 20) (w := 126) (k := 1) ?_ (by rw [List.length_map, List.length_map]; exact hl)).mono (by decide) (by decide)
  intro d hd
  obtain ⟨x, hx, rfl⟩ := List.mem_map.mp hd
  obtain ⟨e, he, rfl⟩ := List.mem_map.mp hx
  obtain ⟨h1, h2, h3, h4, h5, h6, h7, h8⟩ := hz e he
  have hq := hg e he
  have hh := house_ok _ h1
  have hs : PyData.strOk e.2.2.side = true ∧ e.2.2.side.length ≤ 20 := by
    rcases h8 with z | z <;> rw [z] <;> decide +kernel
  unfold layQ
  refine niceT (n := 6) (w := 20) (k := 0) ?_ (Nat.le_refl _)
  intro d hd
  simp only [List.mem_cons, List.not_mem_nil, or_false] at hd
  rcases hd with rfl | rfl | rfl | rfl | rfl | rfl
  · exact niceI (by omega)
  · exact niceS hh.1 hh.2
  · exact niceS hs.1 hs.2
  · exact niceI (by omega)
  · rw [h6]; exact niceN
  · exact niceI (by omega)
def LevZ (ls : List (Int × Int)) (n : Nat) : Prop := ls.length ≤ n ∧ ∀ q, q ∈ ls → 0 ≤ q.1 ∧ q.1 ≤ 200 ∧ 0 ≤ q.2 ∧ q.2 ≤ 9 * (n : Int)
theorem levStep_z {ls : List (Int × Int)} {n : Nat} {p v : Int} (h : LevZ ls n) (hp : 0 ≤ p ∧ p ≤ 200) (hv : 0 ≤ v ∧ v ≤ 9) : LevZ (DI.levStep ls p v) (n + 1) := by
  have up : ∀ q, q ∈ ls → 0 ≤ q.1 ∧ q.1 ≤ 200 ∧ 0 ≤ q.2 ∧ q.2 ≤ 9 * ((n + 1 : Nat) : Int) := fun q hq => by
    have := h.2 q hq
    omega
  have app : LevZ (ls ++ [(p, v)]) (n + 1) := ⟨by rw [List.length_append]; exact Nat.succ_le_succ h.1, fun q hq => by
    rcases List.mem_append.mp hq with z | z
    · exact up q z
    · rw [List.mem_singleton.mp z]
      show 0 ≤ p ∧ p ≤ 200 ∧ 0 ≤ v ∧ v ≤ _
      omega⟩
  unfold DI.levStep
  split
  · next q hq =>
    split
    · have hm := List.mem_of_getLast? hq
      refine ⟨?_, fun y hy => ?_⟩
      · rw [List.length_append, List.length_dropLast, List.length_singleton]
        have := h.1
        omega
      · rcases List.mem_append.mp hy with z | z
        · exact up y ((List.dropLast_sublist ls).subset z)
        · rw [List.mem_singleton.mp z]
          have := h.2 q hm
          show 0 ≤ p ∧ p ≤ 200 ∧ 0 ≤ q.2 + v ∧ q.2 + v ≤ _
          omega
    · exact app
  · next hq =>
    rw [List.getLast?_eq_none_iff] at hq
    rw [hq] at app
    exact app
theorem levF_z : ∀ {es : List Ent} {ls : List (Int × Int)} {n : Nat}, LevZ ls n → (∀ e, e ∈ es → (0 ≤ prcE e ∧ prcE e ≤ 200) ∧ 0 ≤ e.2.2.visible ∧ e.2.2.visible ≤ 9) → LevZ (es.foldl (fun ls e => DI.levStep ls (prcE e) e.2.2.visible) ls) (n + es.length)
  | [], _, _, h, _ => h
  | e :: es, ls, n, h, g => by
    have he := g e List.mem_cons_self
    have := levF_z (levStep_z h he.1 he.2) fun y hy => g y (List.mem_cons_of_mem _ hy)
    rw [List.length_cons, show n + (es.length + 1) = n + 1 + es.length by omega]
    exact this
theorem depthD_nice {s : Str} {es : List Ent} (hr : Rank s es) (hz : ∀ e, e ∈ es → OrdZ e.2.2) (hl : es.length ≤ 20) : NiceD 3000 3 (depthD es) := by
  have hL : LevZ (DI.levF es) (0 + es.length) := levF_z (ls := []) ⟨Nat.le_refl _, fun q hq => by cases hq⟩ fun e he => by
    obtain ⟨⟨h1, h2, h3, p, h4, h5, h6⟩, h7⟩ := hz e he
    have hv := hr.vis e he
    have : prcE e = p := by unfold prcE; rw [h4]; rfl
    omega
  unfold depthD
  refine (niceL (n := 20) (w := 42) (k := 1) ?_ (by rw [List.length_map]; have := hL.1; omega)).mono (by decide) (by decide)
  intro d hd
  obtain ⟨q, hq, rfl⟩ := List.mem_map.mp hd
  have := hL.2 q hq
  unfold layPI
  refine niceT (n := 2) (w := 20) (k := 0) ?_ (Nat.le_refl _)
  intro d hd
  simp only [List.mem_cons, List.not_mem_nil, or_false] at hd
  rcases hd with rfl | rfl
  · exact niceI (by omega)
  · exact niceI (by omega)

/-! ### what the ledger's lists tell -/
def layM (m : Str × V) : PyData := .tuple [.str m.1, .int (LD.intOf m.2)]
def EntD (K : PySem.W.Frag) (H : Hp) : List V → List (List PyData) → Prop := Paired fun v ds => ∃ (M : Addr) (xs : List V), v = .ref M ∧ H M = some (.lst xs) ∧ DpAll K H xs ds ∧ xs.length ≤ 2
theorem entD_of {K : PySem.W.Frag} {H : Hp} : ∀ {en : List V}, (∀ v, v ∈ en → ∃ (M : Addr) (pm : List Addr) (a : Int), v = .ref M ∧ Tups LD.encMv H M pm (mvL a) ∧ 0 ≤ a ∧ a < 50) → ∃ eds, EntD K H en eds ∧ eds.length = en.length ∧ ∀ ds, ds ∈ eds → NiceD 100 2 (.list ds)
  | [], _ => ⟨[], .nil, rfl, fun ds h => by cases h⟩
  | v :: en, h => by
    obtain ⟨eds, h1, h2, h3⟩ := entD_of fun y hy => h y (List.mem_cons_of_mem _ hy)
    obtain ⟨M, pm, a, rfl, hT, a0, a1⟩ := h v List.mem_cons_self
    refine ⟨(mvL a).map layM :: eds, .cons ⟨M, _, rfl, hT.lst, dpAll_refs hT.len fun i p x e1 e2 => ?_, by rw [List.length_map, hT.len]; exact Nat.le_refl _⟩ h1, by rw [List.length_cons, List.length_cons, h2], fun ds hds => ?_⟩
    · have hr := hT.row i p x e1 e2
      have hx := List.mem_of_getElem? e2
      unfold mvL at hx
      simp only [List.mem_cons, List.not_mem_nil, or_false] at hx
      rcases hx with rfl | rfl
      · exact .tup (SqT.of hr) (.cons (.str _) (.cons (.int _) .nil))
      · exact .tup (SqT.of hr) (.cons (.str _) (.cons (.int _) .nil))
    · rcases List.mem_cons.mp hds with z | z
      · rw [z]
        refine (niceL (n := 2) (w := 42) (k := 1) ?_ (by rw [List.length_map]; exact Nat.le_refl _)).mono (by decide) (by decide)
        intro d hd
        obtain ⟨x, hx, rfl⟩ := List.mem_map.mp hd
        unfold mvL at hx
        simp only [List.mem_cons, List.not_mem_nil, or_false] at hx
        unfold layM
        refine niceT (n := 2) (w := 20) (k := 0) ?_ (Nat.le_refl _)
        intro d hd
        simp only [List.mem_cons, List.not_mem_nil, or_false] at hd
        rcases hx with rfl | rfl
        · rcases hd with rfl | rfl
          · exact niceS (x := "bank") (by decide +kernel) (by decide +kernel)
          · exact niceI (by show (0 - a).natAbs ≤ _; omega)
        · rcases hd with rfl | rfl
          · exact niceS (x := "till") (by decide +kernel) (by decide +kernel)
          · exact niceI (by show a.natAbs ≤ _; omega)
      · exact h3 ds z
theorem EntD.told {K : PySem.W.Frag} {H H' : Hp} (s : Same H H') : ∀ {en : List V} {eds : List (List PyData)} {ns : List Addr}, EntD K H en eds → Paired (fun (n : Addr) (v : V) => ∃ a xs, v = .ref a ∧ H a = some (.lst xs) ∧ H' n = some (.lst xs) ∧ H n = none) ns en →
    DpAll K H' (ns.map V.ref) (eds.map PyData.list) ∧ ∀ n, n ∈ ns → H n = none ∧ ∃ xs, H' n = some (.lst xs) ∧ xs.length ≤ 2
  | _, _, _, .nil, .nil => ⟨.nil, fun n h => by cases h⟩
  | _, _, _, .cons h hs, .cons g gs => by
    obtain ⟨r1, r2⟩ := EntD.told s hs gs
    obtain ⟨M, xs, rfl, h1, h2, h3⟩ := h
    obtain ⟨a, ys, e, g1, g2, g3⟩ := g
    cases e
    rw [h1] at g1
    cases g1
    refine ⟨.cons (.lst (SqL.of g2) (dpAllSame s h2)) r1, fun n hn => ?_⟩
    rcases List.mem_cons.mp hn with z | z
    · rw [z]; exact ⟨g3, xs, g2, h3⟩
    · exact r2 n z
theorem EntD.same {K : PySem.W.Frag} {H H' : Hp} (s : Same H H') : ∀ {en : List V} {eds : List (List PyData)}, EntD K H en eds → EntD K H' en eds
  | _, _, .nil => .nil
  | _, _, .cons ⟨M, xs, h1, h2, h3, h4⟩ hs => .cons ⟨M, xs, h1, s _ _ h2, dpAllSame s h3, h4⟩ (EntD.same s hs)
theorem stm_of {K : PySem.W.Frag} {H : Hp} : ∀ {rs : List V}, (∀ v, v ∈ rs → ∃ (t : Addr) (a b c : Int), v = .ref t ∧ H t = some (.tup [.int a, .int b, .int c]) ∧ a.natAbs ≤ 10000 ∧ b.natAbs ≤ 10000 ∧ c.natAbs ≤ 10000) → ∃ ds, DpAll K H rs ds ∧ ds.length = rs.length ∧ ∀ d, d ∈ ds → NiceD 63 1 d
  | [], _ => ⟨[], .nil, rfl, fun d h => by cases h⟩
  | v :: rs, h => by
    obtain ⟨ds, h1, h2, h3⟩ := stm_of fun y hy => h y (List.mem_cons_of_mem _ hy)
    obtain ⟨t, a, b, c, rfl, ht, ha, hb, hc⟩ := h v List.mem_cons_self
    refine ⟨.tuple [.int a, .int b, .int c] :: ds, .cons (.tup (SqT.of ht) (.cons (.int _) (.cons (.int _) (.cons (.int _) .nil)))) h1, by rw [List.length_cons, List.length_cons, h2], fun d hd => ?_⟩
    rcases List.mem_cons.mp hd with z | z
    · rw [z]
      refine niceT (n := 3) (w := 20) (k := 0) ?_ (Nat.le_refl _)
      intro d hd
      simp only [List.mem_cons, List.not_mem_nil, or_false] at hd
      rcases hd with rfl | rfl | rfl
      · exact niceI (by omega)
      · exact niceI (by omega)
      · exact niceI (by omega)
    · exact h3 d z
/-- what all the lists tell -/
def listsD (s : BS) (eds : List (List PyData)) (d1 d2 : List PyData) (ts : List (List Nat)) : List PyData :=
  [rowsD s.es1, rowsD s.es2, stopsD s.ss, depthD s.es1, depthD s.es2] ++ [.list [.str "bank", .str "till"], .list (eds.map PyData.list), .list d1, .list d2] ++ eds.map PyData.list ++ [.list ((ts.map strL).map PyData.str)]
theorem listsD_nice {C : BC} {H : Hp} {a : BA} {s : BS} {eds : List (List PyData)} {d1 d2 : List PyData} {ts : List (List Nat)} (B : BookW C H a s) (G : GoodZ s) (hz : sizeS s ≤ 20) (he : eds.length ≤ 10) (hen : ∀ ds, ds ∈ eds → NiceD 100 2 (.list ds)) (h1 : d1.length ≤ 10 ∧ ∀ d, d ∈ d1 → NiceD 63 1 d) (h2 : d2.length ≤ 10 ∧ ∀ d, d ∈ d2 → NiceD 63 1 d)
    (ht : ts.length ≤ 10 ∧ ∀ t, t ∈ ts → goodT t = true ∧ t.length ≤ 8) : NiceD 100000 4 (.list (listsD s eds d1 d2 ts)) := by
  unfold sizeS at hz
  refine (niceL (n := 20) (w := 3000) (k := 3) ?_ ?_).mono (by decide) (by decide)
  · intro d hd
    unfold listsD at hd
    simp only [List.mem_append, List.mem_cons, List.not_mem_nil, or_false] at hd
    rcases hd with ((hd | hd) | hd) | hd
    · rcases hd with rfl | rfl | rfl | rfl | rfl
      · exact rowsD_nice B.r1 G.e1 (by omega)
      · exact rowsD_nice B.r2 G.e2 (by omega)
      · exact stopsD_nice G.ss (fun e h => (B.gs e h).2.1) (by omega)
      · exact depthD_nice B.r1 G.e1 (by omega)
      · exact depthD_nice B.r2 G.e2 (by omega)
    · rcases hd with rfl | rfl | rfl | rfl
      · refine (niceL (n := 2) (w := 20) (k := 0) ?_ (Nat.le_refl _)).mono (by decide) (by decide)
        intro d hd
        simp only [List.mem_cons, List.not_mem_nil, or_false] at hd
        rcases hd with rfl | rfl
        · exact niceS (by decide +kernel) (by decide +kernel)
        · exact niceS (by decide +kernel) (by decide +kernel)
      · refine (niceL (n := 10) (w := 100) (k := 2) ?_ (by rw [List.length_map]; exact he)).mono (by decide) (by decide)
        intro d hd
        obtain ⟨ds, hds, rfl⟩ := List.mem_map.mp hd
        exact hen ds hds
      · exact (niceL h1.2 h1.1).mono (by decide) (by decide)
      · exact (niceL h2.2 h2.1).mono (by decide) (by decide)
    · obtain ⟨ds, hds, rfl⟩ := List.mem_map.mp hd
      exact (hen ds hds).mono (by decide) (by decide)
    · rw [hd]
      refine (niceL (n := 10) (w := 20) (k := 0) ?_ (by rw [List.length_map, List.length_map]; exact ht.1)).mono (by decide) (by decide)
      intro d hd
      obtain ⟨x, hx, rfl⟩ := List.mem_map.mp hd
      obtain ⟨t, htm, rfl⟩ := List.mem_map.mp hx
      have := ht.2 t htm
      exact niceS (strOk_good this.1) (by rw [strL_len]; omega)
  · unfold listsD
    simp only [List.length_append, List.length_cons, List.length_nil, List.length_map]
    omega

open DI (sp_Book_depth ok_Book_depth)
structure Got (K : PySem.W.Frag) (H H' : Hp) (z : Addr) (d : PyData) : Prop where
  n : H z = none
  l : ListAt H' z 100
  dp : Dp K H' (.ref z) d
theorem Got.same {K : PySem.W.Frag} {H H1 H2 : Hp} {z : Addr} {d : PyData} (g : Got K H H1 z d) (e : Same H1 H2) : Got K H H2 z d :=
  ⟨g.n, let ⟨us, h1, h2⟩ := g.l; ⟨us, e _ _ h1, h2⟩, dpSame e g.dp⟩
theorem Got.ne {K : PySem.W.Frag} {H H1 : Hp} {z p : Addr} {d : PyData} (g : Got K H H1 z d) (n : H1 p = none) : z ≠ p := fun e => by
  obtain ⟨us, h1, _⟩ := g.l
  rw [e, n] at h1
  cases h1
theorem acc_is {u v : Int} {ys : List Str} (p : ys.Perm (keysS (bs2 u v))) (h : sortedS ys = true) : ys = (["bank", "till"] : List Str) := by
  have h2 : sortedS (["bank", "till"] : List Str) = true := by decide +kernel
  have nd : (["bank", "till"] : List Str).Nodup := by decide
  exact sorted_same (sorted_le h) (sorted_le h2) (p.nodup_iff.mpr nd) nd fun k => p.mem_iff
theorem levStep_len (ls : List (Int × Int)) (p v : Int) : (DI.levStep ls p v).length ≤ ls.length + 1 := by
  unfold DI.levStep
  split
  · split
    · rw [List.length_append, List.length_dropLast, List.length_singleton]; omega
    · rw [List.length_append]; exact Nat.le_refl _
  · exact Nat.succ_le_succ (Nat.zero_le _)
theorem levF_len : ∀ (es : List Ent) (ls : List (Int × Int)), (es.foldl (fun ls e => DI.levStep ls (prcE e) e.2.2.visible) ls).length ≤ ls.length + es.length
  | [], _ => Nat.le_refl _
  | e :: es, ls => by
    rw [List.foldl_cons, List.length_cons]
    have := levF_len es (DI.levStep ls (prcE e) e.2.2.visible)
    have := levStep_len ls (prcE e) e.2.2.visible
    omega
theorem dpAllStrs {K : PySem.W.Frag} {H : Hp} : ∀ ts : List Str, DpAll K H (ts.map V.str) (ts.map PyData.str)
  | [] => .nil
  | x :: xs => .cons (.str x) (dpAllStrs xs)
theorem dpApp {K : PySem.W.Frag} {H : Hp} {ys : List V} {es : List PyData} (h2 : DpAll K H ys es) : ∀ {xs : List V} {ds : List PyData}, DpAll K H xs ds → DpAll K H (xs ++ ys) (ds ++ es)
  | _, _, .nil => h2
  | _, _, .cons h hs => .cons h (dpApp h2 hs)
def sp_law_lists (K : PySem.W.Frag) (CO CB CK CS CR CL CT : Addr) : Sp := fun vs H Q _ => ∃ (a : BA) (s : BS) (H0 : Hp) (x dx D1 D2 D3 L : Addr) (ss : List (Str × Addr)) (rs : Str → List V) (en : List V) (S : Int) (n : Nat) (y dy t l : Addr) (ts ls : List (List Nat)) (eds : List (List PyData)) (d1 d2 : List PyData), vs = [.ref a.x, .ref x, .ref y] ∧
  BookW ⟨CO, CB, CK, CS, CR⟩ H a s ∧ sizeS s ≤ 20 ∧ LedZ H0 H CL x dx D1 D2 D3 L ss rs en S n ∧ n ≤ 10 ∧ TapeOk CT dy y t l ts ls H ∧ ts.length ≤ 10 ∧ EntD K H en eds ∧ eds.length = en.length ∧ DpAll K H (rs "bank") d1 ∧ DpAll K H (rs "till") d2 ∧
  ∀ (p : Addr) (ps : List Addr) (H' : Hp), Same H H' → H p = none → H' p = some (.lst (ps.map V.ref)) → (∀ z, z ∈ ps → z ≠ p ∧ H z = none ∧ ListAt H' z 100) → ps.length ≤ 20 → DpAll K H' (ps.map V.ref) (listsD s eds d1 d2 ts) → Q (.ref p) H'
set_option maxHeartbeats 0 in
theorem ok_law_lists (T : Txt K mg) : FnOk P w K mg base CX0 3 T.f_law_lists T.d_law_lists ["book", "ledger", "tape"] (sp_law_lists K T.c_Order T.c_BookSide T.c_Book T.c_Stop T.c_Report T.c_Ledger T.c_Tape) := by
  refine T.F_law_lists.ok sc_law_lists (fun vs H Q E h => ?_) (fun cdv A outer s H vs Q E hr h => ?_)
  · obtain ⟨a, s, H0, x, dx, D1, D2, D3, L, ss, rs, en, S, n, y, dy, t, l, ts, ls, eds, d1, d2, rfl, _⟩ := h
    rfl
  · obtain ⟨a, s, H0, x, dx, D1, D2, D3, L, ss, rs, en, S, n, y, dy, t, l, ts, ls, eds, d1, d2, rfl, B, hz, Z, hn, hT, htl, hE, hel, hd1, hd2, q⟩ := h
    have G_Book_orders : FnOk P w K mg base CX0 2 T.f_Book_orders T.d_Book_orders ["self", "side"] (sp_Book_orders K T.c_Order T.c_BookSide T.c_Book) := ok_Book_orders T
    have G_Book_stops : FnOk P w K mg base CX0 2 T.f_Book_stops T.d_Book_stops ["self"] (sp_Book_stops K T.c_Stop T.c_Book) := ok_Book_stops T
    have G_Book_depth : FnOk P w K mg base CX0 2 T.f_Book_depth T.d_Book_depth ["self", "side"] (sp_Book_depth K T.c_Order T.c_BookSide T.c_Book) := ok_Book_depth T
    have G_Ledger_accounts : FnOk P w K mg base CX0 1 T.f_Ledger_accounts T.d_Ledger_accounts ["self"] (sp_Ledger_accounts K T.c_Ledger) := ok_Ledger_accounts T
    have G_Ledger_entries : FnOk P w K mg base CX0 1 T.f_Ledger_entries T.d_Ledger_entries ["self"] (sp_Ledger_entries K T.c_Ledger) := ok_Ledger_entries T
    have G_Ledger_statement : FnOk P w K mg base (L2.CX P w) 2 T.f_Ledger_statement T.d_Ledger_statement ["self", "name"] (sp_Ledger_statement K T.c_UnknownName T.c_Ledger) := ok_Ledger_statement T
    have G_Tape_texts : FnOk P w K mg base CX0 1 T.f_Tape_texts T.d_Tape_texts ["self"] (sp_Tape_texts K T.c_Tape) := ok_Tape_texts T
    have fact_BookSide_0 := T.cl_BookSide; have fact_BookSide_1 := T.na_BookSide__orders; have fact_Book_0 := T.cl_Book; have fact_Book_1 := T.na_Book_last; have fact_Book_2 := T.na_Book__next_number; have fact_Book_3 := T.na_Book__sides; have fact_Book_4 := T.na_Book__stops; have fact_Order_0 := T.cl_Order; have fact_Order_1 := T.na_Order_number; have fact_Order_2 := T.na_Order_house; have fact_Order_3 := T.na_Order_side; have fact_Order_4 := T.na_Order_price; have fact_Order_5 := T.na_Order_shown; have fact_Order_6 := T.na_Order_left; have fact_Order_7 := T.na_Order_visible; have fact_Report_0 := T.cl_Report; have fact_Report_1 := T.na_Report_number; have fact_Report_2 := T.na_Report_house; have fact_Report_3 := T.na_Report_side; have fact_Report_4 := T.na_Report_fills; have fact_Report_5 := T.na_Report_removed; have fact_Report_6 := T.na_Report_resting; have fact_Stop_0 := T.cl_Stop; have fact_Stop_1 := T.na_Stop_number; have fact_Stop_2 := T.na_Stop_house; have fact_Stop_3 := T.na_Stop_side; have fact_Stop_4 := T.na_Stop_trigger; have fact_Stop_5 := T.na_Stop_price; have fact_Stop_6 := T.na_Stop_quantity; have fact_Ledger_0 := T.cl_Ledger; have fact_Ledger_1 := T.na_Ledger__balances; have fact_Ledger_2 := T.na_Ledger__may_owe; have fact_Ledger_3 := T.na_Ledger__statements; have fact_Ledger_4 := T.na_Ledger__entries; have fact_Tape_0 := T.cl_Tape; have fact_Tape_1 := T.na_Tape__texts; have fact_Tape_2 := T.na_Tape__lines
    refine ⟨_, (pss_cons (ps_set (i := 3) sc_law_lists.nd rfl (Or.inl rfl) (pe_lst (pa_cons (pe_meth (pv 0) T.cl_Book T.mt_Book_orders G_Book_orders hr T.b_Book_orders .nil pass0 (pa_cons pe_str pa_nil)) (pa_cons (pe_meth (pv 0) T.cl_Book T.mt_Book_orders G_Book_orders hr T.b_Book_orders .nil pass0 (pa_cons pe_str pa_nil)) (pa_cons (pe_meth0 (pv 0) T.cl_Book T.mt_Book_stops G_Book_stops hr T.b_Book_stops .nil pass0) (pa_cons (pe_meth (pv 0) T.cl_Book T.mt_Book_depth G_Book_depth hr T.b_Book_depth .nil pass0 (pa_cons pe_str pa_nil)) (pa_cons (pe_meth (pv 0) T.cl_Book T.mt_Book_depth G_Book_depth hr T.b_Book_depth .nil pass0 (pa_cons pe_str pa_nil)) pa_nil)))))))
    (pss_cons (ps_set (i := 3) sc_law_lists.nd rfl (Or.inl rfl) (pe_op op_cat (pv 3) (pe_lst (pa_cons (pe_meth0 (pv 1) T.cl_Ledger T.mt_Ledger_accounts G_Ledger_accounts (hr.mono (by decide)) T.b_Ledger_accounts .nil pass0) (pa_cons (pe_meth0 (pv 1) T.cl_Ledger T.mt_Ledger_entries G_Ledger_entries (hr.mono (by decide)) T.b_Ledger_entries .nil pass0) (pa_cons (pe_mx (pv 1) T.cl_Ledger T.mt_Ledger_statement G_Ledger_statement hr T.b_Ledger_statement .nil (fun _ => passLat) (pa_cons pe_str pa_nil)) (pa_cons (pe_mx (pv 1) T.cl_Ledger T.mt_Ledger_statement G_Ledger_statement hr T.b_Ledger_statement .nil (fun _ => passLat) (pa_cons pe_str pa_nil)) pa_nil)))))))
    (pss_one (ps_ret (pe_op op_cat (pe_op op_cat (pv 3) (pe_meth0 (pv 1) T.cl_Ledger T.mt_Ledger_entries G_Ledger_entries (hr.mono (by decide)) T.b_Ledger_entries .nil pass0)) (pe_lst (pa_cons (pe_meth0 (pv 2) T.cl_Tape T.mt_Tape_texts G_Tape_texts (hr.mono (by decide)) T.b_Tape_texts .nil pass0) pa_nil))))))), ?_⟩
    have hob := B.ob
    unfold bookO at hob
    have lk1 : ([("last", optV s.last), ("_next_number", V.int s.next), ("_sides", .ref a.sd), ("_stops", .ref a.st)] : List (Str × V)).lookup ("orders" : Str) = none := rfl
    have lk2 : ([("last", optV s.last), ("_next_number", V.int s.next), ("_sides", .ref a.sd), ("_stops", .ref a.st)] : List (Str × V)).lookup ("stops" : Str) = none := rfl
    have lk3 : ([("last", optV s.last), ("_next_number", V.int s.next), ("_sides", .ref a.sd), ("_stops", .ref a.st)] : List (Str × V)).lookup ("depth" : Str) = none := rfl
    unfold sizeS at hz
    have rowsG : ∀ {Hi Hj : Hp} {z : Addr} {tt : List (Addr × Ord)} {es : List Ent}, Same H Hi → Hi z = none → Hj z = some (.lst (tt.map fun t => V.ref t.1)) → tt.map (·.2) = es.map (·.2.2) → (∀ t, t ∈ tt → Hj t.1 = some (.tup (rowV t.2))) → es.length ≤ 20 → Got K H Hj z (rowsD es) := fun {Hi Hj z tt es} e n h1 h2 h3 hl =>
      ⟨e.free n, ⟨_, h1, by have := congrArg List.length h2; rw [List.length_map, List.length_map] at this; rw [List.length_map]; omega⟩, rows_dp h1 h2 h3⟩
    have depG : ∀ {Hi Hj : Hp} {z : Addr} {tt : List Addr} {es : List Ent}, Same H Hi → Hi z = none → Hj z = some (.lst (tt.map V.ref)) → Paired (fun (t : Addr) (q : Int × Int) => Hj t = some (.tup [.int q.1, .int q.2])) tt (DI.levF es) → es.length ≤ 20 → (DI.levF es).length ≤ es.length → Got K H Hj z (depthD es) := fun {Hi Hj z tt es} e n h1 h2 hl hv =>
      ⟨e.free n, ⟨_, h1, by rw [List.length_map, Paired.length h2]; omega⟩, pairs_dp h1 h2⟩
    walk_at "st"
    refine ⟨s.last, s.next, s.es1, "buy", rfl, ⟨B.ob, sides_buy B.sd, B.s1⟩, fun z1 H1 t1 s1 n1 h1 e1 r1 => ?_⟩
    have g1 := rowsG (Same.refl H) n1 h1 e1 r1 (by omega)
    have B1 := B.same s1
    have hob1 := s1 _ _ hob
    walk_at "st"
    refine ⟨s.last, s.next, s.es2, "sell", rfl, ⟨B1.ob, sides_sell B1.sd, B1.s2⟩, fun z2 H2 t2 s2 n2 h2 e2 r2 => ?_⟩
    have q2 := s1.trans s2
    have g2 := rowsG s1 n2 h2 e2 r2 (by omega)
    have B2 := B1.same s2
    have hob2 := s2 _ _ hob1
    walk_at "st"
    refine ⟨s.last, s.next, s.ss, rfl, B2.ob, B2.sp, fun z3 t3 H3 s3 n3 T3 => ?_⟩
    have q3 := q2.trans s3
    have g3 : Got K H H3 z3 (stopsD s.ss) := ⟨q2.free n3, ⟨_, T3.lst, by rw [List.length_map, T3.len, List.length_map]; omega⟩, tups_dp T3 fun x p _ h => rowS_dp h⟩
    have B3 := B2.same s3
    have hob3 := s3 _ _ hob2
    walk_at "st"
    refine ⟨s.last, s.next, s.es1, "buy", rfl, ⟨B3.ob, sides_buy B3.sd, B3.s1⟩, B3.r1, fun z4 H4 t4 s4 n4 h4 p4 => ?_⟩
    have q4 := q3.trans s4
    have g4 := depG q3 n4 h4 p4 (by omega) (by have := levF_len s.es1 []; rw [List.length_nil, Nat.zero_add] at this; exact this)
    have B4 := B3.same s4
    have hob4 := s4 _ _ hob3
    walk_at "st"
    refine ⟨s.last, s.next, s.es2, "sell", rfl, ⟨B4.ob, sides_sell B4.sd, B4.s2⟩, B4.r2, fun z5 H5 t5 s5 n5 h5 p5 => ?_⟩
    have q5 := q4.trans s5
    have g5 := depG q4 n5 h5 p5 (by omega) (by have := levF_len s.es2 []; rw [List.length_nil, Nat.zero_add] at this; exact this)
    walk_at "st"
    intro a1 na1
    generalize hHa : upd H5 a1 _ = Ha
    have sa := hHa ▸ same_upd (H := H5) (o := .lst [V.ref z1, V.ref z2, V.ref z3, V.ref z4, V.ref z5]) na1
    have ha1 := (congrFun hHa a1).symm.trans upd_same
    have qa : Same H Ha := q5.trans sa
    have Za := Z.same qa
    have hobL := Za.led.ob
    walk_at "st"
    refine ⟨_, _, _, _, _, rfl, Za.led, by show 2 < 64; decide, fun ys z6 hpm hsrt n6 => ?_⟩
    have eys := acc_is hpm hsrt
    subst eys
    generalize hH6 : upd Ha z6 _ = H6
    have s6 := hH6 ▸ same_upd (H := Ha) (o := .lst ((["bank", "till"] : List Str).map V.str)) n6
    have h6 := (congrFun hH6 z6).symm.trans upd_same
    have q6 := qa.trans s6
    have g6 : Got K H H6 z6 (.list [.str "bank", .str "till"]) := ⟨qa.free n6, ⟨_, h6, by decide⟩, .lst (SqL.of h6) (.cons (.str _) (.cons (.str _) .nil))⟩
    have Z6 := Z.same q6
    have hob6 := Z6.led.ob
    have ekl : ∀ {Hi : Hp}, Same H Hi → ∀ v, v ∈ en → ∃ a xs, v = .ref a ∧ Hi a = some (.lst xs) := fun e v hv => by
      obtain ⟨M, pm, c, r1, r2, _⟩ := (Z.same e).ek v hv
      exact ⟨M, _, r1, r2.lst⟩
    have enl := Z.el
    have entG : ∀ {Hi Hj : Hp} {z : Addr} {nn : List Addr}, Same H Hi → Same Hi Hj → Hi z = none → Hj z = some (.lst (nn.map V.ref)) → nn.length = en.length → Paired (fun (n : Addr) (v : V) => ∃ a xs, v = .ref a ∧ Hi a = some (.lst xs) ∧ Hj n = some (.lst xs) ∧ Hi n = none) nn en → Got K H Hj z (.list (eds.map PyData.list)) ∧ DpAll K Hj (nn.map V.ref) (eds.map PyData.list) ∧ ∀ n, n ∈ nn → H n = none ∧ ListAt Hj n 100 := fun {Hi Hj z nn} e e2 n1 h1 hl hp => by
      obtain ⟨r1, r2⟩ := (hE.same e).told e2 hp
      exact ⟨⟨e.free n1, ⟨_, h1, by rw [List.length_map]; omega⟩, .lst (SqL.of h1) r1⟩, r1, fun n hn => let ⟨u1, xs, u2, u3⟩ := r2 n hn; ⟨e.free u1, xs, u2, by omega⟩⟩
    walk_at "st"
    refine ⟨_, _, _, _, _, rfl, Z6.led, by omega, ekl q6, fun z7 H7 ns7 s7 n7 h7 l7 p7 => ?_⟩
    have g7 := (entG q6 s7 n7 h7 l7 p7).1
    have q7 := q6.trans s7
    have Z7 := Z.same q7
    have hob7 := Z7.led.ob
    walk_at "st"
    refine ⟨_, _, _, _, _, "bank", rfl, Z7.led, fun _ z8 n8 => ?_, fun h => absurd (mem_bank _ _) h⟩
    generalize hH8 : upd H7 z8 _ = H8
    have s8 := hH8 ▸ same_upd (H := H7) (o := .lst (rs "bank")) n8
    have h8 := (congrFun hH8 z8).symm.trans upd_same
    have q8 := q7.trans s8
    have stG : ∀ k, (rs k).length ≤ 100 := fun k => by have := Z.led.sz k; omega
    have g8 : Got K H H8 z8 (.list d1) := ⟨q7.free n8, ⟨_, h8, stG _⟩, .lst (SqL.of h8) (dpAllSame q8 hd1)⟩
    have Z8 := Z.same q8
    have hob8 := Z8.led.ob
    walk_at "st"
    refine ⟨_, _, _, _, _, "till", rfl, Z8.led, fun _ z9 n9 => ?_, fun h => absurd (mem_till _ _) h⟩
    generalize hH9 : upd H8 z9 _ = H9
    have s9 := hH9 ▸ same_upd (H := H8) (o := .lst (rs "till")) n9
    have h9 := (congrFun hH9 z9).symm.trans upd_same
    have q9 := q8.trans s9
    have g9 : Got K H H9 z9 (.list d2) := ⟨q8.free n9, ⟨_, h9, stG _⟩, .lst (SqL.of h9) (dpAllSame q9 hd2)⟩
    walk_at "st"
    intro a2 na2
    generalize hHb : upd H9 a2 _ = Hb
    have sb := hHb ▸ same_upd (H := H9) (o := .lst [V.ref z6, V.ref z7, V.ref z8, V.ref z9]) na2
    have ha2 := (congrFun hHb a2).symm.trans upd_same
    have qb := q9.trans sb
    have ha1b := sb _ _ (s9 _ _ (s8 _ _ (s7 _ _ (s6 _ _ ha1))))
    have hz9 : ([V.ref z1, V.ref z2, V.ref z3, V.ref z4, V.ref z5].length + [V.ref z6, V.ref z7, V.ref z8, V.ref z9].length) ≤ sizeLine := by show 9 ≤ sizeLine; exact len_le rfl
    walk_at "st"
    intro a3 na3
    generalize hHc : upd Hb a3 _ = Hc
    have sc' := hHc ▸ same_upd (H := Hb) (o := .lst ([V.ref z1, V.ref z2, V.ref z3, V.ref z4, V.ref z5] ++ [V.ref z6, V.ref z7, V.ref z8, V.ref z9])) na3
    have ha3 := (congrFun hHc a3).symm.trans upd_same
    have qc := qb.trans sc'
    have Zc := Z.same qc
    have hobc := Zc.led.ob
    walk_at "st"
    refine ⟨_, _, _, _, _, rfl, Zc.led, by omega, ekl qc, fun z10 Hd nsd sd' nd hd ld pd => ?_⟩
    obtain ⟨_, gE, gN⟩ := entG qc sd' nd hd ld pd
    have qd := qc.trans sd'
    have ha3d := sd' _ _ ha3
    have hzd : (([V.ref z1, V.ref z2, V.ref z3, V.ref z4, V.ref z5] ++ [V.ref z6, V.ref z7, V.ref z8, V.ref z9]).length + (nsd.map V.ref).length) ≤ sizeLine := Nat.le_of_lt (small1000 (by rw [List.length_map, List.length_append]; show 9 + _ ≤ _; omega))
    walk_at "st"
    intro a4 na4
    generalize hHe : upd Hd a4 _ = He
    have se := hHe ▸ same_upd (H := Hd) (o := .lst ([V.ref z1, V.ref z2, V.ref z3, V.ref z4, V.ref z5] ++ [V.ref z6, V.ref z7, V.ref z8, V.ref z9] ++ nsd.map V.ref)) na4
    have ha4 := (congrFun hHe a4).symm.trans upd_same
    have qe := qd.trans se
    have hTe := hT.same qe
    have hinT := hTe.ins
    walk_at "st"
    refine ⟨ts, ls, rfl, hTe, fun _ z11 Hf sf nf hf => ?_⟩
    have qf := qe.trans sf
    have g11 : Got K H Hf z11 (.list ((ts.map strL).map PyData.str)) := ⟨qe.free nf, ⟨_, hf, by rw [strsV_len]; omega⟩, .lst (SqL.of hf) (by
      have e1 : strsV ts = (ts.map strL).map V.str := by unfold strsV; rw [List.map_map]; rfl
      rw [e1]
      exact dpAllStrs _)⟩
    walk_at "st"
    intro a5 na5
    generalize hHg : upd Hf a5 _ = Hg
    have sg := hHg ▸ same_upd (H := Hf) (o := .lst [V.ref z11]) na5
    have ha5 := (congrFun hHg a5).symm.trans upd_same
    have qg := qf.trans sg
    have ha4g := sg _ _ (sf _ _ ha4)
    have hzg : (([V.ref z1, V.ref z2, V.ref z3, V.ref z4, V.ref z5] ++ [V.ref z6, V.ref z7, V.ref z8, V.ref z9] ++ nsd.map V.ref).length + [V.ref z11].length) ≤ sizeLine := Nat.le_of_lt (small1000 (by rw [List.length_append, List.length_map, List.length_append]; show 9 + _ + 1 ≤ _; omega))
    walk_at "st"
    intro p np
    generalize hHp : upd Hg p _ = Hp'
    have sp := hHp ▸ same_upd (H := Hg) (o := .lst ([V.ref z1, V.ref z2, V.ref z3, V.ref z4, V.ref z5] ++ [V.ref z6, V.ref z7, V.ref z8, V.ref z9] ++ nsd.map V.ref ++ [V.ref z11])) np
    have hp := (congrFun hHp p).symm.trans upd_same
    have qp := qg.trans sp
    have g1 := g1.same ((((((((((s2.trans s3).trans s4).trans s5).trans sa).trans s6).trans s7).trans s8).trans s9).trans sb).trans ((((sc'.trans sd').trans se).trans sf).trans sg))
    have g2 := g2.same (((((((((s3.trans s4).trans s5).trans sa).trans s6).trans s7).trans s8).trans s9).trans sb).trans ((((sc'.trans sd').trans se).trans sf).trans sg))
    have g3 := g3.same ((((((((s4.trans s5).trans sa).trans s6).trans s7).trans s8).trans s9).trans sb).trans ((((sc'.trans sd').trans se).trans sf).trans sg))
    have g4 := g4.same (((((((s5.trans sa).trans s6).trans s7).trans s8).trans s9).trans sb).trans ((((sc'.trans sd').trans se).trans sf).trans sg))
    have g5 := g5.same ((((((sa.trans s6).trans s7).trans s8).trans s9).trans sb).trans ((((sc'.trans sd').trans se).trans sf).trans sg))
    have g6 := g6.same ((((s7.trans s8).trans s9).trans sb).trans ((((sc'.trans sd').trans se).trans sf).trans sg))
    have g7 := g7.same (((s8.trans s9).trans sb).trans ((((sc'.trans sd').trans se).trans sf).trans sg))
    have g8 := g8.same ((s9.trans sb).trans ((((sc'.trans sd').trans se).trans sf).trans sg))
    have g9 := g9.same (sb.trans ((((sc'.trans sd').trans se).trans sf).trans sg))
    have sdp := ((se.trans sf).trans sg).trans sp
    have g11 := g11.same sg
    have gn : ∀ z, z ∈ nsd → z ≠ p ∧ H z = none ∧ ListAt Hp' z 100 := fun z hz => by
      obtain ⟨u1, us, u2, u3⟩ := gN z hz
      refine ⟨fun e => ?_, u1, us, sdp _ _ u2, u3⟩
      have := sg _ _ (sf _ _ (se _ _ u2))
      rw [e, np] at this
      cases this
    have gg : ∀ {z d}, Got K H Hg z d → z ≠ p ∧ H z = none ∧ ListAt Hp' z 100 := fun {z d} g => ⟨g.ne np, g.n, (g.same sp).l⟩
    have dd : ∀ {z d}, Got K H Hg z d → Dp K Hp' (.ref z) d := fun {z d} g => (g.same sp).dp
    walk_at "st"
    refine q p ([z1, z2, z3, z4, z5] ++ [z6, z7, z8, z9] ++ nsd ++ [z11]) Hp' qp (qg.free np) (hp.trans (by simp only [List.map_append]; rfl)) (fun z hz => ?_) (by simp only [List.length_append, List.length_cons, List.length_nil]; omega) ?_
    · simp only [List.mem_append, List.mem_cons, List.not_mem_nil, or_false] at hz
      rcases hz with ((hz | hz) | hz) | hz
      · rcases hz with rfl | rfl | rfl | rfl | rfl
        · exact gg g1
        · exact gg g2
        · exact gg g3
        · exact gg g4
        · exact gg g5
      · rcases hz with rfl | rfl | rfl | rfl
        · exact gg g6
        · exact gg g7
        · exact gg g8
        · exact gg g9
      · exact gn z hz
      · rw [hz]; exact gg g11
    · simp only [List.map_append]
      exact dpApp (.cons (dd g11) .nil) (dpApp (dpAllSame sdp gE) (dpApp (.cons (dd g6) (.cons (dd g7) (.cons (dd g8) (.cons (dd g9) .nil)))) (.cons (dd g1) (.cons (dd g2) (.cons (dd g3) (.cons (dd g4) (.cons (dd g5) .nil)))))))

/-! ### a def that is called with no repr under way: what a call gives where the guards are known to be none -/
structure FnG (P : Program) (w : World) (K : PySem.W.Frag) (mg : Str → Option Value) (base : Heap) (k : Nat) (f : Addr) (fd : FuncData) (ps : List Str) (sp : Sp) : Prop where
  go : ∀ (A : Around) (outer : List Env) (s : Shared) (H : Hp) (args : Args) (us : List Value) (vs : List V) (Q : VK) (E : XK), A.guards = some [] → Room k A → Env0 P w K mg base A outer s H → BindsTo s fd args (ps.zip us) → Vals vs us → sp vs H Q E →
    codeAny (model P w) A (.call (.ref f) args) (CR CX0 outer P w H s Q E) s
theorem fnG_of {P : Program} {w : World} {K : PySem.W.Frag} {mg : Str → Option Value} {base : Heap} {x qual : Str} {st : Stmt} {f : Addr} {fd : FuncData} {N ps : List Str} {k : Nat} {sp : Sp} (F : Fun K x qual st f fd) (S : FnScope N ps (defScope st)) (len : ∀ vs H Q E, sp vs H Q E → vs.length = ps.length)
    (hbody : ∀ (cdv : Value) (A : Around) (outer : List Env) (s : Shared) (H : Hp) (vs : List V) (Q : VK) (E : XK), A.guards = some [] → Room k (A.deeper (envOfC qual (defScope st) s.heap.objs.size f cdv)) → sp vs H Q E →
      ∃ t, PSs (cxOf CX0 P w K mg base N qual (defScope st) f cdv A outer s H E).nox (defBody st) t ∧ t { nx := fun _ H' => Q .non H', rt := Q } (start N vs) H) : FnG P w K mg base (k + 1) f fd ps sp := by
  obtain ⟨uc, ud, dk, dc, qm, ann, cdv, tp, slo, rfl, look, isCode⟩ := F.ex
  constructor
  intro A outer s H args us vs Q E hg hr e0 hb r hsp
  -- the guards stand for nothing else: what holds for every caller is used at the one at hand
  have at1 : codeAny (model P w) A (.call (.ref f) args) (CR CX0 outer P w H s Q E) s := by
    have hl := len _ _ _ _ hsp
    have inH : ∀ {b : Addr} {o : Obj}, base.get? b = some o → s.heap.get? b = some o := fun e => (e0.bs _ _ e).1
    have KX : K.In s.heap := e0.mod.kin.keeps fun b o e => inH e
    refine codeAny_call_function hr.depth (KX _ _ look) rfl S.co S.gen rfl (PySem.W.codeRec_of KX isCode) (hb _ _ _ _ (wpAny_newFunctionEnv_cells S.kind (fun y hy => ?_) fun env he s1 x1 => ?_))
    · obtain ⟨n, v⟩ := y
      exact (S.par n (List.of_mem_zip hy).1).elim .inl fun q => .inr ⟨q, PySem.W.cellsFrom_some _ _ _ (.inl q)⟩
    · subst he
      refine ⟨(e0.mod.nolimit.keeps fun b o e => inH e).keeps x1.toInCall.keep, codeAny_func ?_⟩
      obtain ⟨t, ht, hq⟩ := hbody cdv A outer s H vs Q E hg (hr.deeper _) hsp
      have J := inv_start (CX := CX0) (E := E) (f := f) (cd := cdv) (qual := qual) S hr.hd e0 hl r x1
      refine wpAny_mono (ht.nox.run [] s1 (start N vs) H _ J hq) (fun fl s2 h2 => ?_) fun e s2 h2 => h2
      cases fl with
      | ret u =>
        obtain ⟨v, σ2, H2, J2, rv, q2⟩ := h2
        exact ⟨v, H2, J2.os, J2.bare, J2.base, J2.hok, rv, q2⟩
      | next =>
        obtain ⟨σ2, H2, J2, q2⟩ := h2
        exact ⟨.non, H2, J2.os, J2.bare, J2.base, J2.hok, rfl, q2⟩
      | brk => exact (h2.elim fun _ h => h.elim fun _ h => h.2).elim
      | cont => exact (h2.elim fun _ h => h.elim fun _ h => h.2).elim
  exact at1
section
variable {X : Cx}
/-- repr(xs) of a list -/
def rRepr (K : PySem.W.Frag) : List V → Hp → VK → Prop := fun vs H Q => ∃ (_ : Unit) (l : Addr) (d : PyData), vs = [V.ref l] ∧ Dp K H (.ref l) d ∧ NiceD 100000 60 d ∧ Q (.str d.shown) H
theorem cr_repr {k : Nat} (hr : Room k X.A) (hg : X.A.guards = some []) : CallR X (.builtin "repr") (rRepr X.K) := by
  intro pins sh σ H args us Q J rl hw
  obtain ⟨_, l, d, rfl, hd, hn, q⟩ := hw
  rw [Vals.ref1 rl]
  obtain ⟨as, r1⟩ := Dp.reads J d (.ref l) (.ref l) hd rfl
  refine repr_of_reads' r1 hn.sh (PyData.noDict_hsm (PyData.hasDict_of_canLay d hn.lay)) hg (by have := hn.dp; have := hr.units; omega) (fun _ _ e => e) (fun h' u tk hk => ⟨.str d.shown, H, J.kept hk, ⟨u, rfl⟩, q⟩) (hn.small (by decide) (by decide))
end

/-! ### the law is called from the claim, where no repr is under way -/
/-- the script as the one object that is tracked, if it is none of the text's own -/
def onlyAt (c : Addr) (ob : Obj) (xs : List V) : Hp := fun z => if z = c then some (.frz ob (.lst xs)) else none
theorem onlyAt_here {c : Addr} {ob : Obj} {xs : List V} : onlyAt c ob xs c = some (.frz ob (.lst xs)) := if_pos rfl
theorem onlyAt_off {c z : Addr} {ob : Obj} {xs : List V} (h : z ≠ c) : onlyAt c ob xs z = none := if_neg h
theorem startG {P : Program} {w : World} {K : PySem.W.Frag} {c : Addr} {hp : Heap} {us : List Value} {zs : List Int} (inK : K.In hp) (atc : hp.get? c = some { cls := .type "list", data := .seq us.toArray }) (numb : IntsAre us zs) (few : zs.length ≤ sizeLine) :
    ∃ H : Hp, Only H ∧ SqL K H c (zs.map V.int) ∧ HOk P w H hp ∧ ∀ z, H z ≠ none → z = c ∧ K.lookup c = none := by
  have rel : Vals (zs.map V.int) us := vals_ints numb
  cases known : K.lookup c with
  | some o =>
    have same := inK c o known
    rw [atc] at same
    cases same
    have size : us.toArray.size ≤ sizeLine := by rw [List.size_toArray, numb.length]; exact few
    refine ⟨fun _ => none, fun _ => .inl rfl, .inr ⟨_, us.toArray, _, known, rfl, rfl, rfl, size, ?_⟩, fun z y e => ?_, fun z e => (e rfl).elim⟩
    · rw [List.toList_toArray]; exact rel
    · cases e
  | none =>
    refine ⟨onlyAt c { cls := .type "list", data := .seq us.toArray } (zs.map V.int), fun z => ?_, .inl (.inr ⟨_, onlyAt_here⟩), fun z y e => ?_, fun z e => ⟨Classical.byContradiction fun d => e (onlyAt_off d), rfl⟩⟩
    · by_cases d : z = c
      · rw [d]; exact .inr ⟨_, _, onlyAt_here⟩
      · rw [onlyAt_off d]; exact .inl rfl
    · by_cases d : z = c
      · rw [d, onlyAt_here] at e
        cases e
        rw [d]
        exact ⟨atc, Nat.le_trans (Nat.le_of_eq (List.length_map ..)) few, us, _, rel, atc⟩
      · rw [onlyAt_off d] at e
        cases e
/-- how the claim's call ends -/
def EndsTrue (sh : Shared) : Result → Shared → Prop := fun r t => r = .ok (.ret (.bool true)) ∧ OldK sh.heap t.heap ∧ t.os = sh.os ∧ AllBare t.gens
/-- what is known of the heap in which the law is called -/
structure AtTop (K : PySem.W.Frag) (mg : Str → Option Value) (sh : Shared) : Prop where
  inK : K.In sh.heap
  main : sh.heap.Ns mainGlobals mg
  blt : ∃ mb, sh.heap.Ns builtinsNs mb ∧ ∀ n : Str, n ≠ "__name__" → mb n = bootBuiltins n
  lim : sh.heap.NoLimit
  gens : sh.gens = #[]
theorem AtTop.env {P : Program} {w : World} {K : PySem.W.Frag} {mg : Str → Option Value} {sh : Shared} {H : Hp} {c : Addr} {us : List Value} (t : AtTop K mg sh) (atc : sh.heap.get? c = some { cls := .type "list", data := .seq us.toArray }) (ok : HOk P w H sh.heap) (only : ∀ z, H z ≠ none → z = c ∧ K.lookup c = none) :
    K.In (hidT sh.heap H) ∧ (hidT sh.heap H).Ns mainGlobals mg ∧ Env0 P w K mg (hidT sh.heap H) callerA [] sh H := by
  -- an object of another kind, or one of the text's own, is hidden from nobody
  have seen : ∀ {z : Addr} {o : Obj}, sh.heap.get? z = some o → ((∃ es ep, o.data = .dict es ep) ∨ K.lookup z = some o) → (hidT sh.heap H).get? z = some o := fun {z o} g kind => hidT_get g (Classical.byContradiction fun d => by
    obtain ⟨e1, e2⟩ := only z d
    rw [e1] at g kind
    rcases kind with ⟨es, ep, e⟩ | e
    · rw [atc] at g
      cases g
      cases e
    · rw [e2] at e
      cases e)
  have dicts : ∀ {z : Addr} {f : Str → Option Value}, sh.heap.Ns z f → (hidT sh.heap H).Ns z f := by
    rintro z f ⟨o, es, ep, g, e, r⟩
    exact ⟨o, es, ep, seen g (.inl ⟨es, ep, e⟩), e, r⟩
  have own : K.In (hidT sh.heap H) := fun z o g => seen (t.inK z o g) (.inr g)
  refine ⟨own, dicts t.main, rfl, ⟨own, dicts t.main, ?_, ?_⟩, fun z o g => of_hidT g, Nat.le_of_eq (hidT_size _ _), trivial, fun z m => (by cases m), ok, .of_eq t.gens⟩
  · obtain ⟨mb, g1, g2⟩ := t.blt
    exact ⟨mb, dicts g1, g2⟩
  · obtain ⟨mc, g1, g2⟩ := t.lim
    exact ⟨mc, dicts g1, g2⟩
theorem endsG {P : Program} {w : World} {H : Hp} {sh : Shared} (only : Only H) (ok : HOk P w H sh.heap) {r : Result} {t : Shared} (e : CR CX0 [] P w H sh (fun y _ => y = .bl true) (fun _ _ _ => False) r t) : EndsTrue sh r t := by
  rcases r with _ | fl
  · exact False.elim e
  · cases fl with
    | next => exact False.elim e
    | brk => exact False.elim e
    | cont => exact False.elim e
    | ret u =>
      obtain ⟨y, H2, sameOs, bare, un, ok2, rel, isTrue⟩ := e
      have isT : y = .bl true := isTrue
      rw [isT] at rel
      have uT : u = Value.bool true := rel
      refine ⟨by rw [uT], OldK.of_keep fun z o g => ?_, sameOs, bare⟩
      rcases only z with free | ⟨ob, xs, held⟩
      · exact un.keep z o g free (fun m => by cases m) fun m => by cases m
      · have g1 := (ok z _ held).1
        have g2 := (ok2 z _ (un.frzs z ob _ held)).1
        rw [g] at g1
        cases g1
        exact g2
theorem walkG {l : PySem.W.OpenLaw} {most room : Nat} {q : Program} {loose : List Str} {XP : (Str → Option Value) → Heap → Prop} {YP : World → Heap → Prop} {df : DefRec} {K : Params → PySem.W.Frag} {sp : World → Sp} {par : Str}
    (hm : l.most = some most) (hz : most ≤ sizeLine) (nodef : df.params.defaults = []) (roomy : Room room callerA) (inK : ∀ (w : World) (hp : Heap), YP w hp → (K w.params).In hp)
    (made : ∀ (w : World) (mg : Str → Option Value) (f : Addr) (hp : Heap), (K w.params).In hp → hp.Ns mainGlobals mg → mg df.name = some (.ref f) →
      ∃ fd : FuncData, (∀ (s : Shared) (u : Value), BindsTo s fd ⟨[u], []⟩ [(par, u)]) ∧ ∀ base : Heap, (K w.params).In base → base.Ns mainGlobals mg → FnG l.prog w (K w.params) mg base room f fd [par] (sp w))
    (asks : ∀ (w : World) (H : Hp) (c : Addr) (zs : List Int), zs.length ≤ most → Only H → SqL (K w.params) H c (zs.map V.int) → sp w [.ref c] H (fun y _ => y = .bl true) fun _ _ _ => False) :
    PySem.W.WalkO q loose XP YP l.row.toRowW df [] fun f vs => PySem.call f vs := by
  refine Att.attach_call hm nodef fun w s₀ sh mg mb f o pm cd dc c us zs G Y _ _ _ named atc numb few gens => ?_
  have top : AtTop (K w.params) mg sh := ⟨inK w _ Y, G.T.g, ⟨mb, G.T.b, G.T.builtins⟩, G.T.nolimit, gens⟩
  obtain ⟨fd, binds, go⟩ := made w mg f _ top.inK top.main named
  obtain ⟨H, only, seq, ok, alone⟩ := startG (P := l.prog) (w := w) top.inK atc numb (Nat.le_trans few hz)
  obtain ⟨own, main, env⟩ := top.env atc ok alone
  exact codeAny_mono ((go _ own main).go callerA [] sh H ⟨[.ref c], []⟩ [.ref c] [.ref c] _ _ rfl roomy env (binds sh (.ref c)) (.cons rfl .nil) (asks w H c zs few only seq)) fun r t e => endsG only ok e

def sp_law (K : PySem.W.Frag) : Sp := fun vs H Q _ => ∃ (sc : Addr) (ns : List Int), vs = [.ref sc] ∧ SqL K H sc (ns.map V.int) ∧ Only H ∧ ns.length ≤ 63 ∧ ∀ H', Q (.bl true) H'
theorem script_at {K : PySem.W.Frag} {H : Hp} {sc : Addr} {xs : List V} (hs : SqL K H sc xs) (hO : Only H) : ∃ (F : List Addr) (u : HO), (∀ z, z ∈ F → H z = some u) ∧ ¬ Mov u ∧ ∀ H', (∀ z, z ∈ F → H' z = some u) → SqL K H' sc xs := by
  rcases hs with (h | ⟨o, h⟩) | h
  · rcases hO sc with z | ⟨o, ys, z⟩ <;> rw [h] at z <;> cases z
  · refine ⟨[sc], .frz o (.lst xs), fun z hz => by rw [List.mem_singleton.mp hz]; exact h, fun m => ?_, fun H' hz => .inl (.inr ⟨o, hz sc List.mem_cons_self⟩)⟩
    rcases m with ⟨_, m⟩ | ⟨_, _, _, m, _⟩ <;> cases m
  · refine ⟨[], .tup [], fun z hz => (by cases hz), fun m => ?_, fun _ _ => .inr h⟩
    rcases m with ⟨_, m⟩ | ⟨_, _, _, m, _⟩ <;> cases m
set_option maxHeartbeats 0 in
theorem ok_law {f : Addr} {fd : FuncData} (T : Txt K mg) (F : Fun K "law" "law" s_law f fd) : FnG P w K mg base 10 f fd ["script"] (sp_law K) := by
  refine fnG_of F sc_law (fun vs H Q E h => ?_) (fun cdv A outer s H vs Q E hg hr h => ?_)
  · obtain ⟨sc, ns, rfl, _⟩ := h
    rfl
  · obtain ⟨sc, ns, rfl, hs, hO, hln, q⟩ := h
    have G_law_book : FnOk P w K mg base CX0 9 T.f_law_book T.d_law_book ["script"] (sp_law_book K T.c_Order T.c_BookSide T.c_Book T.c_Stop T.c_Report) := ok_law_book T
    have G_law_ledger : FnOk P w K mg base CX0 4 T.f_law_ledger T.d_law_ledger ["script"] (sp_law_ledger K T.c_Ledger) := ok_law_ledger T
    have G_law_tape : FnOk P w K mg base CX0 4 T.f_law_tape T.d_law_tape ["script"] (sp_law_tape K T.c_Tape) := ok_law_tape T
    have G_law_lists : FnOk P w K mg base CX0 3 T.f_law_lists T.d_law_lists ["book", "ledger", "tape"] (sp_law_lists K T.c_Order T.c_BookSide T.c_Book T.c_Stop T.c_Report T.c_Ledger T.c_Tape) := ok_law_lists T
    have G_Ledger_entries : FnOk P w K mg base CX0 1 T.f_Ledger_entries T.d_Ledger_entries ["self"] (sp_Ledger_entries K T.c_Ledger) := ok_Ledger_entries T
    have G_law_spoil : FnOk P w K mg base CX0 1 T.f_law_spoil T.d_law_spoil ["rows"] (sp_law_spoil K) := ok_law_spoil T
    have G_Ledger_balance : FnOk P w K mg base (L2.CX P w) 2 T.f_Ledger_balance T.d_Ledger_balance ["self", "name"] (sp_Ledger_balance K T.c_UnknownName T.c_Ledger) := ok_Ledger_balance T
    have G_Tape_texts : FnOk P w K mg base CX0 1 T.f_Tape_texts T.d_Tape_texts ["self"] (sp_Tape_texts K T.c_Tape) := ok_Tape_texts T
    have fact_BookSide_0 := T.cl_BookSide; have fact_BookSide_1 := T.na_BookSide__orders; have fact_Book_0 := T.cl_Book; have fact_Book_1 := T.na_Book_last; have fact_Book_2 := T.na_Book__next_number; have fact_Book_3 := T.na_Book__sides; have fact_Book_4 := T.na_Book__stops; have fact_Order_0 := T.cl_Order; have fact_Order_1 := T.na_Order_number; have fact_Order_2 := T.na_Order_house; have fact_Order_3 := T.na_Order_side; have fact_Order_4 := T.na_Order_price; have fact_Order_5 := T.na_Order_shown; have fact_Order_6 := T.na_Order_left; have fact_Order_7 := T.na_Order_visible; have fact_Report_0 := T.cl_Report; have fact_Report_1 := T.na_Report_number; have fact_Report_2 := T.na_Report_house; have fact_Report_3 := T.na_Report_side; have fact_Report_4 := T.na_Report_fills; have fact_Report_5 := T.na_Report_removed; have fact_Report_6 := T.na_Report_resting; have fact_Stop_0 := T.cl_Stop; have fact_Stop_1 := T.na_Stop_number; have fact_Stop_2 := T.na_Stop_house; have fact_Stop_3 := T.na_Stop_side; have fact_Stop_4 := T.na_Stop_trigger; have fact_Stop_5 := T.na_Stop_price; have fact_Stop_6 := T.na_Stop_quantity; have fact_Ledger_0 := T.cl_Ledger; have fact_Ledger_1 := T.na_Ledger__balances; have fact_Ledger_2 := T.na_Ledger__may_owe; have fact_Ledger_3 := T.na_Ledger__statements; have fact_Ledger_4 := T.na_Ledger__entries; have fact_Tape_0 := T.cl_Tape; have fact_Tape_1 := T.na_Tape__texts; have fact_Tape_2 := T.na_Tape__lines
    refine ⟨_, (pss_cons (ps_set (i := 1) sc_law.nd rfl (Or.inl rfl) (pe_call G_law_book hr (by rfl) T.m_law_book T.F_law_book.kp T.b_law_book .nil pass0 (pa_cons (pv 0) pa_nil)))
    (pss_cons (ps_set (i := 2) sc_law.nd rfl (Or.inl rfl) (pe_call G_law_ledger (hr.mono (by decide)) (by rfl) T.m_law_ledger T.F_law_ledger.kp T.b_law_ledger .nil pass0 (pa_cons (pv 0) pa_nil)))
    (pss_cons (ps_set (i := 3) sc_law.nd rfl (Or.inl rfl) (pe_call G_law_tape (hr.mono (by decide)) (by rfl) T.m_law_tape T.F_law_tape.kp T.b_law_tape .nil pass0 (pa_cons (pv 0) pa_nil)))
    (pss_cons (ps_set (i := 4) sc_law.nd rfl (Or.inl rfl) (pe_callB (cr_repr hr hg) (by rfl) T.z_repr (by decide +kernel) (pa_cons (pe_call G_law_lists (hr.mono (by decide)) (by rfl) T.m_law_lists T.F_law_lists.kp T.b_law_lists .nil pass0 (pa_cons (pv 1) (pa_cons (pv 2) (pa_cons (pv 3) pa_nil)))) pa_nil)))
    (pss_cons (ps_for PassesOwn.never rfl (pi_list (pe_call G_law_lists (hr.mono (by decide)) (by rfl) T.m_law_lists T.F_law_lists.kp T.b_law_lists .nil pass0 (pa_cons (pv 1) (pa_cons (pv 2) (pa_cons (pv 3) pa_nil))))) (pg_name (i := 5) sc_law.nd rfl (Or.inl rfl))
      (pss_one (ps_expr (pe_call G_law_spoil (hr.mono (by decide)) (by rfl) T.m_law_spoil T.F_law_spoil.kp T.b_law_spoil .nil pass0 (pa_cons (pv 5) pa_nil)))))
    (pss_cons (ps_set (i := 6) sc_law.nd rfl (Or.inl rfl) (pe_meth0 (pv 2) T.cl_Ledger T.mt_Ledger_entries G_Ledger_entries (hr.mono (by decide)) T.b_Ledger_entries .nil pass0))
    (C8.pss_cut (ps_if (pt_truth (pv 6) (by intro _; rfl))
      (pss_one (ps_expr (pe_call G_law_spoil (hr.mono (by decide)) (by rfl) T.m_law_spoil T.F_law_spoil.kp T.b_law_spoil .nil pass0 (pa_cons (pe_ix ix_list (pv 6) pe_int (fun _ _ => rfl)) pa_nil))))
      pss_nil)
    (pss_cons (ps_set (i := 7) sc_law.nd rfl (Or.inl rfl) (pe_callB (cr_sum rfl) (by rfl) T.z_sum (by decide +kernel) (pa_cons (pe_lc (own := [("cell", 8)]) (g := gName 8) (tt := tYes) rfl sc_law.nd (pi_list (pe_slice sl_list (pv 0) po_none (po_some pe_int))) (blkOk_by (own := [("cell", 8)]) (N := N_law) (sc := defScope s_law) (by decide +kernel)) (fun _ _ _ _ _ => (pg_name (i := 8) sc_law.nd rfl (Or.inl rfl))) (fun _ _ _ _ _ => pts_nil) (fun _ _ _ _ _ => (pe_op op_mod (pe_callTy call_int_i (by rfl) T.z_int (by decide +kernel) (pa_cons (pv 8) pa_nil)) pe_int))) pa_nil)))
    (pss_cons (ps_if (PW.pt (pw_or (pt_cmpR op_ne (pe_mx (pv 2) T.cl_Ledger T.mt_Ledger_balance G_Ledger_balance (hr.mono (by decide)) T.b_Ledger_balance .nil (fun _ => passLat) (pa_cons pe_str pa_nil)) (pv 7) (nomark _)) (pw_or1 (pt_cmpR op_ne (pe_callB call_len_seq (by rfl) T.z_len PySem.boot_len (pa_cons (pe_meth0 (pv 3) T.cl_Tape T.mt_Tape_texts G_Tape_texts (hr.mono (by decide)) T.b_Tape_texts .nil pass0) pa_nil)) (pe_callB call_len_seq (by rfl) T.z_len PySem.boot_len (pa_cons (pe_slice sl_list (pv 0) po_none (po_some pe_int)) pa_nil)) (nomark _)))))
      (pss_one (ps_ret pe_bl))
      pss_nil)
    (pss_one (ps_ret (pe_cmpR op_eq (pe_callB (cr_repr hr hg) (by rfl) T.z_repr (by decide +kernel) (pa_cons (pe_call G_law_lists (hr.mono (by decide)) (by rfl) T.m_law_lists T.F_law_lists.kp T.b_law_lists .nil pass0 (pa_cons (pv 1) (pa_cons (pv 2) (pa_cons (pv 3) pa_nil)))) pa_nil)) (pv 4) (nomark _))))))))))))), ?_⟩
    obtain ⟨F, u, hF, hu, back⟩ := script_at hs hO
    walk_at "st"
    refine ⟨(), sc, F, u, ns, rfl, hs, hF, hu, hln, fun a s H1 B1 G1 hz1 hF1 => ?_⟩
    have hs1 := back H1 hF1
    walk_at "st"
    refine ⟨(), sc, ns, rfl, hs1, hln, fun x dx D1 D2 D3 L ss rs en H2 Z2 => ?_⟩
    have hs2 := Z2.sm.seq hs1
    walk_at "st"
    refine ⟨(), sc, ns, rfl, hs2, hln, fun y dy t l ts ls H3 s3 T3 htl htg => ?_⟩
    have hs3 := s3.seq hs2
    have hcl : (cutI ns none (some 10)).length ≤ 10 := by
      unfold cutI
      rw [HT.sIx_none, show (10 : Int) = ((10 : Nat) : Int) from rfl, HT.sIx_nat, List.length_take]
      omega
    have B3 := (B1.same Z2.sm).same s3
    have Z3 := Z2.same s3
    obtain ⟨eds, hE3, hel, hen⟩ := entD_of (K := K) (H := H3) (en := en) fun v hv => by
      obtain ⟨M, pm, c, r1, r2, _, _, r3⟩ := Z3.ek v hv
      exact ⟨M, pm, c, r1, r2, r3⟩
    obtain ⟨d1, hd1, hl1, hn1⟩ := stm_of (K := K) (H := H3) (Z3.rk "bank")
    obtain ⟨d2, hd2, hl2, hn2⟩ := stm_of (K := K) (H := H3) (Z3.rk "till")
    have enl := Z3.el
    have sz1 := Z3.led.sz "bank"
    have sz2 := Z3.led.sz "till"
    have nice := listsD_nice B3 G1 hz1 (eds := eds) (d1 := d1) (d2 := d2) (ts := ts) (by omega) hen ⟨by omega, hn1⟩ ⟨by omega, hn2⟩ ⟨by omega, htg⟩
    walk_at "st"
    refine ⟨a, s, H1, x, dx, D1, D2, D3, L, ss, rs, en, _, _, y, dy, t, l, ts, ls, eds, d1, d2, rfl, B3.same (Same.refl H3), hz1, Z3.same (Same.refl H3), hcl, T3.same (Same.refl H3), by omega, hE3.same (Same.refl H3), hel, dpAllSame (Same.refl H3) hd1, dpAllSame (Same.refl H3) hd2, fun p4 ps4 H4 s4 n4 hp4 hz4 hl4 hd4 => ?_⟩
    walk_at "st"
    refine ⟨(), p4, _, rfl, .lst (SqL.of hp4) hd4, nice.mono (Nat.le_refl _) (by decide), ?_⟩
    walk_at "st"
    refine ⟨a, s, H1, x, dx, D1, D2, D3, L, ss, rs, en, _, _, y, dy, t, l, ts, ls, eds, d1, d2, rfl, B3.same s4, hz1, Z3.same s4, hcl, T3.same s4, by omega, hE3.same s4, hel, dpAllSame s4 hd1, dpAllSame s4 hd2, fun p5 ps5 H5 s5 n5 hp5 hz5 hl5 hd5 => ?_⟩
    have q5 := s4.trans s5
    walk_at "st"
    generalize hbs : (PyData.list (listsD s eds d1 d2 ts)).shown = bs
    refine for_list (K := K) (a := p5) (xs := ps5.map V.ref) (fun j σ Hx => ∃ v5 : Option V, σ = [some (.ref sc), some (.ref a.x), some (.ref x), some (.ref y), some (.str bs), v5, none, none, none] ∧ Hx p5 = some (.lst (ps5.map V.ref)) ∧ Same H4 Hx ∧ ∀ z, z ∈ ps5 → ListAt Hx z (100 + 2 * j)) ?_ (fun j σ Hx _ ⟨_, _, h, _⟩ => SqL.of h) ?_ ?_
    · exact ⟨none, rfl, hp5, s5, fun z hz => (hz5 z hz).2.2⟩
    · rintro j v σ Hx hv ⟨v5, rfl, hpx, sx, hlx⟩
      obtain ⟨z, hz, rfl⟩ := refs_at hv
      have hj : j < 20 := by
        have h1 := (List.getElem?_eq_some_iff.mp hz).1
        omega
      have hzm := List.mem_of_getElem? hz
      obtain ⟨us, hus, hul⟩ := hlx z hzm
      obtain ⟨nzp, nz0, _⟩ := hz5 z hzm
      walk_at "st"
      refine ⟨(), z, us, rfl, hus, by omega, fun ys Hy ky hys hyl => ?_⟩
      exact ⟨_, rfl, ky _ _ nzp.symm hpx, fun w o hw => ky _ _ (fun e => by rw [e, nz0] at hw; cases hw) (sx _ _ hw), fun w hw => (hlx w hw).keepx ky hys (by omega)⟩
    · rintro σ H6 ⟨v5, rfl, _, s6, _⟩
      have q6 := s4.trans s6
      have Z6 := Z3.same q6
      have hob6 := Z6.led.ob
      walk_at "st"
      refine ⟨_, _, _, _, _, rfl, Z6.led, by omega, fun v hv => ?_, fun p7 H7 ns7 s7 n7 hp7 hl7 hP7 => ?_⟩
      · obtain ⟨M, pm, c, r1, r2, _⟩ := Z6.ek v hv
        exact ⟨M, _, r1, r2.lst⟩
      have q7 := q6.trans s7
      obtain ⟨_, hN7⟩ := (hE3.same q6).told s7 hP7
      walk_at "st"
      refine ⟨fun σ' Hr => ∃ v5 v6 : Option V, σ' = [some (.ref sc), some (.ref a.x), some (.ref x), some (.ref y), some (.str bs), v5, v6, none, none] ∧ Same H6 Hr, ?_, ?_⟩
      · have hp7S := SqL.of (K := K) hp7
        walk_at "st"
        refine iteB (fun he => ?_) (fun he => ⟨_, _, rfl, s7⟩)
        cases ns7 with
        | nil => cases he
        | cons z7 nr7 =>
          obtain ⟨nz0, us, hus, hul⟩ := hN7 z7 List.mem_cons_self
          have ha7 : atI ((z7 :: nr7).map V.ref) 0 = some (.ref z7) := at_of (j := 0) rfl rfl
          walk_at "st"
          refine ⟨(), z7, us, rfl, hus, by omega, fun ys Hy ky hys hyl => ?_⟩
          exact ⟨_, _, rfl, fun w o hw => ky _ _ (fun e => by rw [e, nz0] at hw; cases hw) (s7 _ _ hw)⟩
      · rintro σ' H8 ⟨v5, v6, rfl, s8⟩
        have q8 := q6.trans s8
        have hs8 := q8.seq hs3
        walk_at "st"
        intro C nC
        generalize hH9 : upd H8 C _ = H9
        have s9 : Same H8 H9 := hH9 ▸ same_upd nC
        have hC := (congrFun hH9 C).symm.trans upd_same
        rw [cutV_ints] at hC
        generalize hcs : cutI ns none (some 10) = cs at hC hcl htl
        have hCS := SqL.of (K := K) hC
        walk_at "st"
        intro D nD
        refine lc_list (K := K) (a := C) (xs := cs.map V.int) (fun i H' => H' D = some (.lst (((cs.take i).map fun c => c % 50).map V.int)) ∧ Same H9 H') ⟨by rw [List.take_zero]; exact upd_same, same_upd nD⟩ (fun i H' _ ⟨_, e⟩ => e.seq hCS) ?_ ?_
        · rintro i v H' hv ⟨hD, e⟩
          obtain ⟨cell, hcell, rfl⟩ := ints_at hv
          have hi := (List.getElem?_eq_some_iff.mp hcell).1
          refine ⟨rfl, ?_⟩
          walk_at "st"
          refine ⟨small1000 (by rw [List.length_map, List.length_map, List.length_take]; omega), ?_, fun w o hw => ?_⟩
          · rw [upd_same, take_succ hcell, List.map_append, List.map_append]
            rfl
          · rw [upd_ne (fun z => by rw [z, nD] at hw; cases hw)]
            exact e _ _ hw
        · rintro H10 ⟨hD, s10⟩
          have q10 := (q8.trans s9).trans s10
          have Z10 := Z3.same q10
          have T10 := T3.same q10
          have hob10 := Z10.led.ob
          have hs10 := q10.seq hs3
          rw [List.length_map, List.take_of_length_le (Nat.le_refl _)] at hD
          rw [hcs] at Z10
          walk_at "st"
          refine ⟨_, _, _, _, _, "till", rfl, Z10.led, fun _ => ?_, fun h => absurd (mem_till _ _) h⟩
          rw [gD_till]
          walk_at "st"
          refine iteSelf ?_
          have hinT := T10.ins
          walk_at "st"
          refine ⟨ts, ls, rfl, T10, fun _ p11 H11 s11 n11 hp11 => ?_⟩
          have q11 := q10.trans s11
          have hs11 := q11.seq hs3
          have hp11S := SqL.of (K := K) hp11
          walk_at "st"
          intro p12 n12
          generalize hH12 : upd H11 p12 _ = H12
          have s12 : Same H11 H12 := hH12 ▸ same_upd n12
          have h12 := (congrFun hH12 p12).symm.trans upd_same
          rw [cutV_ints, hcs] at h12
          have q12 := q11.trans s12
          have h12S := SqL.of (K := K) h12
          walk_at "st"
          rw [strsV_len, List.length_map, htl]
          refine iteSelf ?_
          walk_at "st"
          refine ⟨a, s, H1, x, dx, D1, D2, D3, L, ss, rs, en, _, _, y, dy, t, l, ts, ls, eds, d1, d2, rfl, B3.same q12, hz1, Z3.same q12, by rw [hcs]; exact hcl, T3.same q12, by omega, hE3.same q12, hel, dpAllSame q12 hd1, dpAllSame q12 hd2, fun p13 ps13 H13 s13 n13 hp13 hz13 hl13 hd13 => ?_⟩
          walk_at "st"
          refine ⟨(), p13, _, rfl, .lst (SqL.of hp13) hd13, nice.mono (Nat.le_refl _) (by decide), ?_⟩
          rw [hbs]
          walk_at "st"
          rw [decide_eq_true rfl]
          exact q _

end
set_option maxHeartbeats 0 in
theorem all_mk {l : PySem.W.OpenLaw} {w : World} {K : PySem.W.Frag} {h : Heap} {mg : Str → Option Value} {fa f1 f2 f3 f4 f5 f6 f7 f8 f9 f10 f11 f12 f13 f14 f15 f16 f17 f18 f19 f20 f21 f22 f23 f24 f25 f26 f27 f28 f29 f30 f31 f32 f33 f34 f35 f36 f37 f38 f39 f40 f41 f42 f43 f44 f45 f46 f47 f48 f49 f50 f51 f52 f53 f54 f55 f56 f57 f58 f59 f60 f61 f62 : Addr} (X : K.In h) (G : h.Ns mainGlobals mg) (hfa : mg "law" = some (.ref fa))
    {c_BourseError c_InvalidAmount c_UnknownName c_DuplicateName c_InvalidOrder c_Unbalanced c_Overdrawn c_BrokenTape c_Order c_Stop c_BookSide c_Report c_Book c_Ledger c_Tape : Addr}
    {od1 an1 od2 an2 od3 an3 od4 an4 od5 an5 od6 an6 od7 an7 od8 an8 od9 an9 od10 an10 od11 an11 od12 an12 od13 an13 od14 an14 od15 an15 od16 an16 od17 an17 od18 an18 od19 an19 od20 an20 od21 an21 od22 an22 od23 an23 od24 an24 od25 an25 od26 an26 od27 an27 od28 an28 od29 an29 od30 an30 od31 an31 od32 an32 od33 an33 od34 an34 od35 an35 od36 an36 od37 an37 od38 an38 od39 an39 od40 an40 od41 an41 od42 an42 od43 an43 od44 an44 od45 an45 od46 an46 od47 an47 od48 an48 od49 an49 od50 an50 od51 an51 od52 an52 od53 an53 od54 an54 od55 an55 od56 an56 od57 an57 od58 an58 od59 an59 od60 an60 od61 an61 od62 an62 : Option Addr} {sl1 sl2 sl3 sl4 sl5 sl6 sl7 sl8 sl9 sl10 sl11 sl12 sl13 sl14 sl15 sl16 sl17 sl18 sl19 sl20 sl21 sl22 sl23 sl24 sl25 sl26 sl27 sl28 sl29 sl30 sl31 sl32 sl33 sl34 sl35 sl36 sl37 sl38 sl39 sl40 sl41 sl42 sl43 sl44 sl45 sl46 sl47 sl48 sl49 sl50 sl51 sl52 sl53 sl54 sl55 sl56 sl57 sl58 sl59 sl60 sl61 sl62 : Array (Option Value)} {oc1 kV1 dc1 pm1 cd1 ct1 oc2 kV2 dc2 pm2 cd2 ct2 oc3 kV3 dc3 pm3 cd3 ct3 oc4 kV4 dc4 pm4 cd4 ct4 oc5 kV5 dc5 pm5 cd5 ct5 oc6 kV6 dc6 pm6 cd6 ct6 oc7 kV7 dc7 pm7 cd7 ct7 oc8 kV8 dc8 pm8 cd8 ct8 oc9 kV9 dc9 pm9 cd9 ct9 oc10 kV10 dc10 pm10 cd10 ct10 oc11 kV11 dc11 pm11 cd11 ct11 oc12 kV12 dc12 pm12 cd12 ct12 oc13 kV13 dc13 pm13 cd13 ct13 oc14 kV14 dc14 pm14 cd14 ct14 oc15 kV15 dc15 pm15 cd15 ct15 oc16 kV16 dc16 pm16 cd16 ct16 oc17 kV17 dc17 pm17 cd17 ct17 oc18 kV18 dc18 pm18 cd18 ct18 oc19 kV19 dc19 pm19 cd19 ct19 oc20 kV20 dc20 pm20 cd20 ct20 oc21 kV21 dc21 pm21 cd21 ct21 oc22 kV22 dc22 pm22 cd22 ct22 oc23 kV23 dc23 pm23 cd23 ct23 oc24 kV24 dc24 pm24 cd24 ct24 oc25 kV25 dc25 pm25 cd25 ct25 oc26 kV26 dc26 pm26 cd26 ct26 oc27 kV27 dc27 pm27 cd27 ct27 oc28 kV28 dc28 pm28 cd28 ct28 oc29 kV29 dc29 pm29 cd29 ct29 oc30 dc30 pm30 cd30 ct30 oc31 kV31 dc31 pm31 cd31 ct31 oc32 kV32 dc32 pm32 cd32 ct32 oc33 kV33 dc33 pm33 cd33 ct33 oc34 kV34 dc34 pm34 cd34 ct34 oc35 kV35 dc35 pm35 cd35 ct35 oc36 kV36 dc36 pm36 cd36 ct36 oc37 kV37 dc37 pm37 cd37 ct37 oc38 kV38 dc38 pm38 cd38 ct38 oc39 kV39 dc39 pm39 cd39 ct39 oc40 kV40 dc40 pm40 cd40 ct40 oc41 dc41 pm41 cd41 ct41 oc42 kV42 dc42 pm42 cd42 ct42 oc43 kV43 dc43 pm43 cd43 ct43 oc44 kV44 dc44 pm44 cd44 ct44 oc45 kV45 dc45 pm45 cd45 ct45 oc46 kV46 dc46 pm46 cd46 ct46 oc47 kV47 dc47 pm47 cd47 ct47 oc48 kV48 dc48 pm48 cd48 ct48 oc49 kV49 dc49 pm49 cd49 ct49 oc50 kV50 dc50 pm50 cd50 ct50 oc51 kV51 dc51 pm51 cd51 ct51 oc52 kV52 dc52 pm52 cd52 ct52 oc53 kV53 dc53 pm53 cd53 ct53 oc54 kV54 dc54 pm54 cd54 ct54 oc55 kV55 dc55 pm55 cd55 ct55 oc56 kV56 dc56 pm56 cd56 ct56 oc57 kV57 dc57 pm57 cd57 ct57 oc58 kV58 dc58 pm58 cd58 ct58 oc59 kV59 dc59 pm59 cd59 ct59 oc60 kV60 dc60 pm60 cd60 ct60 oc61 kV61 dc61 pm61 cd61 ct61 oc62 kV62 dc62 pm62 cd62 ct62 : Value}
    (a1 : PySem.W.nsIn K mainGlobals "is_integral" = some (some (.ref f1)))
    (l1 : K.lookup f1 = some ⟨oc1, od1, .func (PySem.W.fnOf "is_integral" "is_integral" (defArgs s_is_integral) (defBody s_is_integral) (defScope s_is_integral) .none kV1 dc1 pm1 an1 cd1 ct1), sl1⟩) (c1 : PySem.W.codeIn K cd1 "is_integral" = true) (k1 : PySem.W.keepIn K (.ref f1) = true)
    (a2 : PySem.W.nsIn K mainGlobals "is_within" = some (some (.ref f2)))
    (l2 : K.lookup f2 = some ⟨oc2, od2, .func (PySem.W.fnOf "is_within" "is_within" (defArgs s_is_within) (defBody s_is_within) (defScope s_is_within) .none kV2 dc2 pm2 an2 cd2 ct2), sl2⟩) (c2 : PySem.W.codeIn K cd2 "is_within" = true) (k2 : PySem.W.keepIn K (.ref f2) = true)
    (a3 : PySem.W.nsIn K mainGlobals "other_side" = some (some (.ref f3)))
    (l3 : K.lookup f3 = some ⟨oc3, od3, .func (PySem.W.fnOf "other_side" "other_side" (defArgs s_other_side) (defBody s_other_side) (defScope s_other_side) .none kV3 dc3 pm3 an3 cd3 ct3), sl3⟩) (c3 : PySem.W.codeIn K cd3 "other_side" = true) (k3 : PySem.W.keepIn K (.ref f3) = true)
    (a4 : PySem.W.nsIn K mainGlobals "accepts" = some (some (.ref f4)))
    (l4 : K.lookup f4 = some ⟨oc4, od4, .func (PySem.W.fnOf "accepts" "accepts" (defArgs s_accepts) (defBody s_accepts) (defScope s_accepts) .none kV4 dc4 pm4 an4 cd4 ct4), sl4⟩) (c4 : PySem.W.codeIn K cd4 "accepts" = true) (k4 : PySem.W.keepIn K (.ref f4) = true)
    (a5 : PySem.W.nsIn K mainGlobals "check_house" = some (some (.ref f5)))
    (l5 : K.lookup f5 = some ⟨oc5, od5, .func (PySem.W.fnOf "check_house" "check_house" (defArgs s_check_house) (defBody s_check_house) (defScope s_check_house) .none kV5 dc5 pm5 an5 cd5 ct5), sl5⟩) (c5 : PySem.W.codeIn K cd5 "check_house" = true) (k5 : PySem.W.keepIn K (.ref f5) = true)
    (a6 : PySem.W.nsIn K mainGlobals "check_side" = some (some (.ref f6)))
    (l6 : K.lookup f6 = some ⟨oc6, od6, .func (PySem.W.fnOf "check_side" "check_side" (defArgs s_check_side) (defBody s_check_side) (defScope s_check_side) .none kV6 dc6 pm6 an6 cd6 ct6), sl6⟩) (c6 : PySem.W.codeIn K cd6 "check_side" = true) (k6 : PySem.W.keepIn K (.ref f6) = true)
    (a7 : PySem.W.nsIn K mainGlobals "check_number" = some (some (.ref f7)))
    (l7 : K.lookup f7 = some ⟨oc7, od7, .func (PySem.W.fnOf "check_number" "check_number" (defArgs s_check_number) (defBody s_check_number) (defScope s_check_number) .none kV7 dc7 pm7 an7 cd7 ct7), sl7⟩) (c7 : PySem.W.codeIn K cd7 "check_number" = true) (k7 : PySem.W.keepIn K (.ref f7) = true)
    (a8 : PySem.W.nsIn K mainGlobals "check_price" = some (some (.ref f8)))
    (l8 : K.lookup f8 = some ⟨oc8, od8, .func (PySem.W.fnOf "check_price" "check_price" (defArgs s_check_price) (defBody s_check_price) (defScope s_check_price) .none kV8 dc8 pm8 an8 cd8 ct8), sl8⟩) (c8 : PySem.W.codeIn K cd8 "check_price" = true) (k8 : PySem.W.keepIn K (.ref f8) = true)
    (a9 : PySem.W.nsIn K mainGlobals "check_quantity" = some (some (.ref f9)))
    (l9 : K.lookup f9 = some ⟨oc9, od9, .func (PySem.W.fnOf "check_quantity" "check_quantity" (defArgs s_check_quantity) (defBody s_check_quantity) (defScope s_check_quantity) .none kV9 dc9 pm9 an9 cd9 ct9), sl9⟩) (c9 : PySem.W.codeIn K cd9 "check_quantity" = true) (k9 : PySem.W.keepIn K (.ref f9) = true)
    (a10 : PySem.W.nsIn K mainGlobals "check_order" = some (some (.ref f10)))
    (l10 : K.lookup f10 = some ⟨oc10, od10, .func (PySem.W.fnOf "check_order" "check_order" (defArgs s_check_order) (defBody s_check_order) (defScope s_check_order) .none kV10 dc10 pm10 an10 cd10 ct10), sl10⟩) (c10 : PySem.W.codeIn K cd10 "check_order" = true) (k10 : PySem.W.keepIn K (.ref f10) = true)
    (a11 : PySem.W.nsIn K mainGlobals "check_stop" = some (some (.ref f11)))
    (l11 : K.lookup f11 = some ⟨oc11, od11, .func (PySem.W.fnOf "check_stop" "check_stop" (defArgs s_check_stop) (defBody s_check_stop) (defScope s_check_stop) .none kV11 dc11 pm11 an11 cd11 ct11), sl11⟩) (c11 : PySem.W.codeIn K cd11 "check_stop" = true) (k11 : PySem.W.keepIn K (.ref f11) = true)
    (a12 : PySem.W.findIn K (.ref c_Order) "__init__" = some (some (.ref f12))) (i12 : PySem.W.isFn K (.ref f12) = true)
    (l12 : K.lookup f12 = some ⟨oc12, od12, .func (PySem.W.fnOf "__init__" "Order.__init__" (defArgs s_Order_init) (defBody s_Order_init) (defScope s_Order_init) .none kV12 dc12 pm12 an12 cd12 ct12), sl12⟩) (c12 : PySem.W.codeIn K cd12 "Order.__init__" = true) (k12 : PySem.W.keepIn K (.ref f12) = true)
    (a13 : PySem.W.findIn K (.ref c_Order) "accepts_price" = some (some (.ref f13))) (i13 : PySem.W.isFn K (.ref f13) = true)
    (l13 : K.lookup f13 = some ⟨oc13, od13, .func (PySem.W.fnOf "accepts_price" "Order.accepts_price" (defArgs s_Order_accepts_price) (defBody s_Order_accepts_price) (defScope s_Order_accepts_price) .none kV13 dc13 pm13 an13 cd13 ct13), sl13⟩) (c13 : PySem.W.codeIn K cd13 "Order.accepts_price" = true) (k13 : PySem.W.keepIn K (.ref f13) = true)
    (a14 : PySem.W.findIn K (.ref c_Order) "show_next_part" = some (some (.ref f14))) (i14 : PySem.W.isFn K (.ref f14) = true)
    (l14 : K.lookup f14 = some ⟨oc14, od14, .func (PySem.W.fnOf "show_next_part" "Order.show_next_part" (defArgs s_Order_show_next_part) (defBody s_Order_show_next_part) (defScope s_Order_show_next_part) .none kV14 dc14 pm14 an14 cd14 ct14), sl14⟩) (c14 : PySem.W.codeIn K cd14 "Order.show_next_part" = true) (k14 : PySem.W.keepIn K (.ref f14) = true)
    (a15 : PySem.W.findIn K (.ref c_Order) "trade_visible" = some (some (.ref f15))) (i15 : PySem.W.isFn K (.ref f15) = true)
    (l15 : K.lookup f15 = some ⟨oc15, od15, .func (PySem.W.fnOf "trade_visible" "Order.trade_visible" (defArgs s_Order_trade_visible) (defBody s_Order_trade_visible) (defScope s_Order_trade_visible) .none kV15 dc15 pm15 an15 cd15 ct15), sl15⟩) (c15 : PySem.W.codeIn K cd15 "Order.trade_visible" = true) (k15 : PySem.W.keepIn K (.ref f15) = true)
    (a16 : PySem.W.findIn K (.ref c_Stop) "__init__" = some (some (.ref f16))) (i16 : PySem.W.isFn K (.ref f16) = true)
    (l16 : K.lookup f16 = some ⟨oc16, od16, .func (PySem.W.fnOf "__init__" "Stop.__init__" (defArgs s_Stop_init) (defBody s_Stop_init) (defScope s_Stop_init) .none kV16 dc16 pm16 an16 cd16 ct16), sl16⟩) (c16 : PySem.W.codeIn K cd16 "Stop.__init__" = true) (k16 : PySem.W.keepIn K (.ref f16) = true)
    (a17 : PySem.W.findIn K (.ref c_Stop) "is_reached" = some (some (.ref f17))) (i17 : PySem.W.isFn K (.ref f17) = true)
    (l17 : K.lookup f17 = some ⟨oc17, od17, .func (PySem.W.fnOf "is_reached" "Stop.is_reached" (defArgs s_Stop_is_reached) (defBody s_Stop_is_reached) (defScope s_Stop_is_reached) .none kV17 dc17 pm17 an17 cd17 ct17), sl17⟩) (c17 : PySem.W.codeIn K cd17 "Stop.is_reached" = true) (k17 : PySem.W.keepIn K (.ref f17) = true)
    (a18 : PySem.W.findIn K (.ref c_Stop) "row" = some (some (.ref f18))) (i18 : PySem.W.isFn K (.ref f18) = true)
    (l18 : K.lookup f18 = some ⟨oc18, od18, .func (PySem.W.fnOf "row" "Stop.row" (defArgs s_Stop_row) (defBody s_Stop_row) (defScope s_Stop_row) .none kV18 dc18 pm18 an18 cd18 ct18), sl18⟩) (c18 : PySem.W.codeIn K cd18 "Stop.row" = true) (k18 : PySem.W.keepIn K (.ref f18) = true)
    (a19 : PySem.W.findIn K (.ref c_BookSide) "__init__" = some (some (.ref f19))) (i19 : PySem.W.isFn K (.ref f19) = true)
    (l19 : K.lookup f19 = some ⟨oc19, od19, .func (PySem.W.fnOf "__init__" "BookSide.__init__" (defArgs s_BookSide_init) (defBody s_BookSide_init) (defScope s_BookSide_init) .none kV19 dc19 pm19 an19 cd19 ct19), sl19⟩) (c19 : PySem.W.codeIn K cd19 "BookSide.__init__" = true) (k19 : PySem.W.keepIn K (.ref f19) = true)
    (a20 : PySem.W.findIn K (.ref c_BookSide) "rows" = some (some (.ref f20))) (i20 : PySem.W.isFn K (.ref f20) = true)
    (l20 : K.lookup f20 = some ⟨oc20, od20, .func (PySem.W.fnOf "rows" "BookSide.rows" (defArgs s_BookSide_rows) (defBody s_BookSide_rows) (defScope s_BookSide_rows) .none kV20 dc20 pm20 an20 cd20 ct20), sl20⟩) (c20 : PySem.W.codeIn K cd20 "BookSide.rows" = true) (k20 : PySem.W.keepIn K (.ref f20) = true)
    (a21 : PySem.W.findIn K (.ref c_BookSide) "depth" = some (some (.ref f21))) (i21 : PySem.W.isFn K (.ref f21) = true)
    (l21 : K.lookup f21 = some ⟨oc21, od21, .func (PySem.W.fnOf "depth" "BookSide.depth" (defArgs s_BookSide_depth) (defBody s_BookSide_depth) (defScope s_BookSide_depth) .none kV21 dc21 pm21 an21 cd21 ct21), sl21⟩) (c21 : PySem.W.codeIn K cd21 "BookSide.depth" = true) (k21 : PySem.W.keepIn K (.ref f21) = true)
    (a22 : PySem.W.findIn K (.ref c_BookSide) "first" = some (some (.ref f22))) (i22 : PySem.W.isFn K (.ref f22) = true)
    (l22 : K.lookup f22 = some ⟨oc22, od22, .func (PySem.W.fnOf "first" "BookSide.first" (defArgs s_BookSide_first) (defBody s_BookSide_first) (defScope s_BookSide_first) .none kV22 dc22 pm22 an22 cd22 ct22), sl22⟩) (c22 : PySem.W.codeIn K cd22 "BookSide.first" = true) (k22 : PySem.W.keepIn K (.ref f22) = true)
    (a23 : PySem.W.findIn K (.ref c_BookSide) "available" = some (some (.ref f23))) (i23 : PySem.W.isFn K (.ref f23) = true)
    (l23 : K.lookup f23 = some ⟨oc23, od23, .func (PySem.W.fnOf "available" "BookSide.available" (defArgs s_BookSide_available) (defBody s_BookSide_available) (defScope s_BookSide_available) .none kV23 dc23 pm23 an23 cd23 ct23), sl23⟩) (c23 : PySem.W.codeIn K cd23 "BookSide.available" = true) (k23 : PySem.W.keepIn K (.ref f23) = true)
    (a24 : PySem.W.findIn K (.ref c_BookSide) "enter" = some (some (.ref f24))) (i24 : PySem.W.isFn K (.ref f24) = true)
    (l24 : K.lookup f24 = some ⟨oc24, od24, .func (PySem.W.fnOf "enter" "BookSide.enter" (defArgs s_BookSide_enter) (defBody s_BookSide_enter) (defScope s_BookSide_enter) .none kV24 dc24 pm24 an24 cd24 ct24), sl24⟩) (c24 : PySem.W.codeIn K cd24 "BookSide.enter" = true) (k24 : PySem.W.keepIn K (.ref f24) = true)
    (a25 : PySem.W.findIn K (.ref c_BookSide) "_place_behind" = some (some (.ref f25))) (i25 : PySem.W.isFn K (.ref f25) = true)
    (l25 : K.lookup f25 = some ⟨oc25, od25, .func (PySem.W.fnOf "_place_behind" "BookSide._place_behind" (defArgs s_BookSideplace_behind) (defBody s_BookSideplace_behind) (defScope s_BookSideplace_behind) .none kV25 dc25 pm25 an25 cd25 ct25), sl25⟩) (c25 : PySem.W.codeIn K cd25 "BookSide._place_behind" = true) (k25 : PySem.W.keepIn K (.ref f25) = true)
    (a26 : PySem.W.findIn K (.ref c_BookSide) "leave" = some (some (.ref f26))) (i26 : PySem.W.isFn K (.ref f26) = true)
    (l26 : K.lookup f26 = some ⟨oc26, od26, .func (PySem.W.fnOf "leave" "BookSide.leave" (defArgs s_BookSide_leave) (defBody s_BookSide_leave) (defScope s_BookSide_leave) .none kV26 dc26 pm26 an26 cd26 ct26), sl26⟩) (c26 : PySem.W.codeIn K cd26 "BookSide.leave" = true) (k26 : PySem.W.keepIn K (.ref f26) = true)
    (a27 : PySem.W.findIn K (.ref c_BookSide) "trade_first" = some (some (.ref f27))) (i27 : PySem.W.isFn K (.ref f27) = true)
    (l27 : K.lookup f27 = some ⟨oc27, od27, .func (PySem.W.fnOf "trade_first" "BookSide.trade_first" (defArgs s_BookSide_trade_first) (defBody s_BookSide_trade_first) (defScope s_BookSide_trade_first) .none kV27 dc27 pm27 an27 cd27 ct27), sl27⟩) (c27 : PySem.W.codeIn K cd27 "BookSide.trade_first" = true) (k27 : PySem.W.keepIn K (.ref f27) = true)
    (a28 : PySem.W.findIn K (.ref c_Report) "__init__" = some (some (.ref f28))) (i28 : PySem.W.isFn K (.ref f28) = true)
    (l28 : K.lookup f28 = some ⟨oc28, od28, .func (PySem.W.fnOf "__init__" "Report.__init__" (defArgs s_Report_init) (defBody s_Report_init) (defScope s_Report_init) .none kV28 dc28 pm28 an28 cd28 ct28), sl28⟩) (c28 : PySem.W.codeIn K cd28 "Report.__init__" = true) (k28 : PySem.W.keepIn K (.ref f28) = true)
    (a29 : PySem.W.findIn K (.ref c_Book) "__init__" = some (some (.ref f29))) (i29 : PySem.W.isFn K (.ref f29) = true)
    {T29 : Addr} {ocT29 : Value} {odT29 : Option Addr} {slT29 : Array (Option Value)} {nT29 : Nat} {tT29_0 : Tok}
    (l29 : K.lookup f29 = some ⟨oc29, od29, .func (PySem.W.fnOf "__init__" "Book.__init__" (defArgs s_Book_init) (defBody s_Book_init) (defScope s_Book_init) (.ref T29) kV29 dc29 pm29 an29 cd29 ct29), sl29⟩)
    (lT29 : K.lookup T29 = some ⟨ocT29, odT29, .seq #[.int 1 tT29_0] nT29, slT29⟩)
    (c29 : PySem.W.codeIn K cd29 "Book.__init__" = true) (k29 : PySem.W.keepIn K (.ref f29) = true)
    (a30 : PySem.W.findIn K (.ref c_Book) "submit" = some (some (.ref f30))) (i30 : PySem.W.isFn K (.ref f30) = true)
    {KD30 : Addr} {tK30_0 tK30_1 : Tok}
    (l30 : K.lookup f30 = some ⟨oc30, od30, .func (PySem.W.fnOf "submit" "Book.submit" (defArgs s_Book_submit) (defBody s_Book_submit) (defScope s_Book_submit) .none (.ref KD30) dc30 pm30 an30 cd30 ct30), sl30⟩) (c30 : PySem.W.codeIn K cd30 "Book.submit" = true) (k30 : PySem.W.keepIn K (.ref f30) = true)
    (kd30_0 : PySem.W.nsIn K KD30 "kind" = some (some (.str "rest" tK30_0)))
    (kd30_1 : PySem.W.nsIn K KD30 "shown" = some (some (.int 0 tK30_1)))
    (a31 : PySem.W.findIn K (.ref c_Book) "submit_stop" = some (some (.ref f31))) (i31 : PySem.W.isFn K (.ref f31) = true)
    (l31 : K.lookup f31 = some ⟨oc31, od31, .func (PySem.W.fnOf "submit_stop" "Book.submit_stop" (defArgs s_Book_submit_stop) (defBody s_Book_submit_stop) (defScope s_Book_submit_stop) .none kV31 dc31 pm31 an31 cd31 ct31), sl31⟩) (c31 : PySem.W.codeIn K cd31 "Book.submit_stop" = true) (k31 : PySem.W.keepIn K (.ref f31) = true)
    (a32 : PySem.W.findIn K (.ref c_Book) "orders" = some (some (.ref f32))) (i32 : PySem.W.isFn K (.ref f32) = true)
    (l32 : K.lookup f32 = some ⟨oc32, od32, .func (PySem.W.fnOf "orders" "Book.orders" (defArgs s_Book_orders) (defBody s_Book_orders) (defScope s_Book_orders) .none kV32 dc32 pm32 an32 cd32 ct32), sl32⟩) (c32 : PySem.W.codeIn K cd32 "Book.orders" = true) (k32 : PySem.W.keepIn K (.ref f32) = true)
    (a33 : PySem.W.findIn K (.ref c_Book) "stops" = some (some (.ref f33))) (i33 : PySem.W.isFn K (.ref f33) = true)
    (l33 : K.lookup f33 = some ⟨oc33, od33, .func (PySem.W.fnOf "stops" "Book.stops" (defArgs s_Book_stops) (defBody s_Book_stops) (defScope s_Book_stops) .none kV33 dc33 pm33 an33 cd33 ct33), sl33⟩) (c33 : PySem.W.codeIn K cd33 "Book.stops" = true) (k33 : PySem.W.keepIn K (.ref f33) = true)
    (a34 : PySem.W.findIn K (.ref c_Book) "best" = some (some (.ref f34))) (i34 : PySem.W.isFn K (.ref f34) = true)
    (l34 : K.lookup f34 = some ⟨oc34, od34, .func (PySem.W.fnOf "best" "Book.best" (defArgs s_Book_best) (defBody s_Book_best) (defScope s_Book_best) .none kV34 dc34 pm34 an34 cd34 ct34), sl34⟩) (c34 : PySem.W.codeIn K cd34 "Book.best" = true) (k34 : PySem.W.keepIn K (.ref f34) = true)
    (a35 : PySem.W.findIn K (.ref c_Book) "depth" = some (some (.ref f35))) (i35 : PySem.W.isFn K (.ref f35) = true)
    (l35 : K.lookup f35 = some ⟨oc35, od35, .func (PySem.W.fnOf "depth" "Book.depth" (defArgs s_Book_depth) (defBody s_Book_depth) (defScope s_Book_depth) .none kV35 dc35 pm35 an35 cd35 ct35), sl35⟩) (c35 : PySem.W.codeIn K cd35 "Book.depth" = true) (k35 : PySem.W.keepIn K (.ref f35) = true)
    (a36 : PySem.W.findIn K (.ref c_Book) "_take_number" = some (some (.ref f36))) (i36 : PySem.W.isFn K (.ref f36) = true)
    (l36 : K.lookup f36 = some ⟨oc36, od36, .func (PySem.W.fnOf "_take_number" "Book._take_number" (defArgs s_Booktake_number) (defBody s_Booktake_number) (defScope s_Booktake_number) .none kV36 dc36 pm36 an36 cd36 ct36), sl36⟩) (c36 : PySem.W.codeIn K cd36 "Book._take_number" = true) (k36 : PySem.W.keepIn K (.ref f36) = true)
    (a37 : PySem.W.findIn K (.ref c_Book) "_enter" = some (some (.ref f37))) (i37 : PySem.W.isFn K (.ref f37) = true)
    (l37 : K.lookup f37 = some ⟨oc37, od37, .func (PySem.W.fnOf "_enter" "Book._enter" (defArgs s_Bookenter) (defBody s_Bookenter) (defScope s_Bookenter) .none kV37 dc37 pm37 an37 cd37 ct37), sl37⟩) (c37 : PySem.W.codeIn K cd37 "Book._enter" = true) (k37 : PySem.W.keepIn K (.ref f37) = true)
    (a38 : PySem.W.findIn K (.ref c_Book) "_trigger_stops" = some (some (.ref f38))) (i38 : PySem.W.isFn K (.ref f38) = true)
    (l38 : K.lookup f38 = some ⟨oc38, od38, .func (PySem.W.fnOf "_trigger_stops" "Book._trigger_stops" (defArgs s_Booktrigger_stops) (defBody s_Booktrigger_stops) (defScope s_Booktrigger_stops) .none kV38 dc38 pm38 an38 cd38 ct38), sl38⟩) (c38 : PySem.W.codeIn K cd38 "Book._trigger_stops" = true) (k38 : PySem.W.keepIn K (.ref f38) = true)
    (a39 : PySem.W.findIn K (.ref c_Book) "_first_reached" = some (some (.ref f39))) (i39 : PySem.W.isFn K (.ref f39) = true)
    (l39 : K.lookup f39 = some ⟨oc39, od39, .func (PySem.W.fnOf "_first_reached" "Book._first_reached" (defArgs s_Bookfirst_reached) (defBody s_Bookfirst_reached) (defScope s_Bookfirst_reached) .none kV39 dc39 pm39 an39 cd39 ct39), sl39⟩) (c39 : PySem.W.codeIn K cd39 "Book._first_reached" = true) (k39 : PySem.W.keepIn K (.ref f39) = true)
    (a40 : PySem.W.findIn K (.ref c_Ledger) "__init__" = some (some (.ref f40))) (i40 : PySem.W.isFn K (.ref f40) = true)
    (l40 : K.lookup f40 = some ⟨oc40, od40, .func (PySem.W.fnOf "__init__" "Ledger.__init__" (defArgs s_Ledger_init) (defBody s_Ledger_init) (defScope s_Ledger_init) .none kV40 dc40 pm40 an40 cd40 ct40), sl40⟩) (c40 : PySem.W.codeIn K cd40 "Ledger.__init__" = true) (k40 : PySem.W.keepIn K (.ref f40) = true)
    (a41 : PySem.W.findIn K (.ref c_Ledger) "open_account" = some (some (.ref f41))) (i41 : PySem.W.isFn K (.ref f41) = true)
    {KD41 : Addr}
    (l41 : K.lookup f41 = some ⟨oc41, od41, .func (PySem.W.fnOf "open_account" "Ledger.open_account" (defArgs s_Ledger_open_account) (defBody s_Ledger_open_account) (defScope s_Ledger_open_account) .none (.ref KD41) dc41 pm41 an41 cd41 ct41), sl41⟩) (c41 : PySem.W.codeIn K cd41 "Ledger.open_account" = true) (k41 : PySem.W.keepIn K (.ref f41) = true)
    (kd41_0 : PySem.W.nsIn K KD41 "may_owe" = some (some (.bool false)))
    (a42 : PySem.W.findIn K (.ref c_Ledger) "accounts" = some (some (.ref f42))) (i42 : PySem.W.isFn K (.ref f42) = true)
    (l42 : K.lookup f42 = some ⟨oc42, od42, .func (PySem.W.fnOf "accounts" "Ledger.accounts" (defArgs s_Ledger_accounts) (defBody s_Ledger_accounts) (defScope s_Ledger_accounts) .none kV42 dc42 pm42 an42 cd42 ct42), sl42⟩) (c42 : PySem.W.codeIn K cd42 "Ledger.accounts" = true) (k42 : PySem.W.keepIn K (.ref f42) = true)
    (a43 : PySem.W.findIn K (.ref c_Ledger) "balance" = some (some (.ref f43))) (i43 : PySem.W.isFn K (.ref f43) = true)
    (l43 : K.lookup f43 = some ⟨oc43, od43, .func (PySem.W.fnOf "balance" "Ledger.balance" (defArgs s_Ledger_balance) (defBody s_Ledger_balance) (defScope s_Ledger_balance) .none kV43 dc43 pm43 an43 cd43 ct43), sl43⟩) (c43 : PySem.W.codeIn K cd43 "Ledger.balance" = true) (k43 : PySem.W.keepIn K (.ref f43) = true)
    (a44 : PySem.W.findIn K (.ref c_Ledger) "post" = some (some (.ref f44))) (i44 : PySem.W.isFn K (.ref f44) = true)
    (l44 : K.lookup f44 = some ⟨oc44, od44, .func (PySem.W.fnOf "post" "Ledger.post" (defArgs s_Ledger_post) (defBody s_Ledger_post) (defScope s_Ledger_post) .none kV44 dc44 pm44 an44 cd44 ct44), sl44⟩) (c44 : PySem.W.codeIn K cd44 "Ledger.post" = true) (k44 : PySem.W.keepIn K (.ref f44) = true)
    (a45 : PySem.W.findIn K (.ref c_Ledger) "entries" = some (some (.ref f45))) (i45 : PySem.W.isFn K (.ref f45) = true)
    (l45 : K.lookup f45 = some ⟨oc45, od45, .func (PySem.W.fnOf "entries" "Ledger.entries" (defArgs s_Ledger_entries) (defBody s_Ledger_entries) (defScope s_Ledger_entries) .none kV45 dc45 pm45 an45 cd45 ct45), sl45⟩) (c45 : PySem.W.codeIn K cd45 "Ledger.entries" = true) (k45 : PySem.W.keepIn K (.ref f45) = true)
    (a46 : PySem.W.findIn K (.ref c_Ledger) "statement" = some (some (.ref f46))) (i46 : PySem.W.isFn K (.ref f46) = true)
    (l46 : K.lookup f46 = some ⟨oc46, od46, .func (PySem.W.fnOf "statement" "Ledger.statement" (defArgs s_Ledger_statement) (defBody s_Ledger_statement) (defScope s_Ledger_statement) .none kV46 dc46 pm46 an46 cd46 ct46), sl46⟩) (c46 : PySem.W.codeIn K cd46 "Ledger.statement" = true) (k46 : PySem.W.keepIn K (.ref f46) = true)
    (a47 : PySem.W.findIn K (.ref c_Ledger) "_check_account" = some (some (.ref f47))) (i47 : PySem.W.isFn K (.ref f47) = true)
    (l47 : K.lookup f47 = some ⟨oc47, od47, .func (PySem.W.fnOf "_check_account" "Ledger._check_account" (defArgs s_Ledgercheck_account) (defBody s_Ledgercheck_account) (defScope s_Ledgercheck_account) .none kV47 dc47 pm47 an47 cd47 ct47), sl47⟩) (c47 : PySem.W.codeIn K cd47 "Ledger._check_account" = true) (k47 : PySem.W.keepIn K (.ref f47) = true)
    (a48 : PySem.W.findIn K (.ref c_Ledger) "_sums" = some (some (.ref f48))) (i48 : PySem.W.isFn K (.ref f48) = true)
    (l48 : K.lookup f48 = some ⟨oc48, od48, .func (PySem.W.fnOf "_sums" "Ledger._sums" (defArgs s_Ledgersums) (defBody s_Ledgersums) (defScope s_Ledgersums) .none kV48 dc48 pm48 an48 cd48 ct48), sl48⟩) (c48 : PySem.W.codeIn K cd48 "Ledger._sums" = true) (k48 : PySem.W.keepIn K (.ref f48) = true)
    (a49 : PySem.W.findIn K (.ref c_Ledger) "_check_sums" = some (some (.ref f49))) (i49 : PySem.W.isFn K (.ref f49) = true)
    (l49 : K.lookup f49 = some ⟨oc49, od49, .func (PySem.W.fnOf "_check_sums" "Ledger._check_sums" (defArgs s_Ledgercheck_sums) (defBody s_Ledgercheck_sums) (defScope s_Ledgercheck_sums) .none kV49 dc49 pm49 an49 cd49 ct49), sl49⟩) (c49 : PySem.W.codeIn K cd49 "Ledger._check_sums" = true) (k49 : PySem.W.keepIn K (.ref f49) = true)
    (a50 : PySem.W.nsIn K mainGlobals "check_of" = some (some (.ref f50)))
    (l50 : K.lookup f50 = some ⟨oc50, od50, .func (PySem.W.fnOf "check_of" "check_of" (defArgs s_check_of) (defBody s_check_of) (defScope s_check_of) .none kV50 dc50 pm50 an50 cd50 ct50), sl50⟩) (c50 : PySem.W.codeIn K cd50 "check_of" = true) (k50 : PySem.W.keepIn K (.ref f50) = true)
    (a51 : PySem.W.nsIn K mainGlobals "write_line" = some (some (.ref f51)))
    (l51 : K.lookup f51 = some ⟨oc51, od51, .func (PySem.W.fnOf "write_line" "write_line" (defArgs s_write_line) (defBody s_write_line) (defScope s_write_line) .none kV51 dc51 pm51 an51 cd51 ct51), sl51⟩) (c51 : PySem.W.codeIn K cd51 "write_line" = true) (k51 : PySem.W.keepIn K (.ref f51) = true)
    (a52 : PySem.W.nsIn K mainGlobals "_is_text" = some (some (.ref f52)))
    (l52 : K.lookup f52 = some ⟨oc52, od52, .func (PySem.W.fnOf "_is_text" "_is_text" (defArgs s_is_text) (defBody s_is_text) (defScope s_is_text) .none kV52 dc52 pm52 an52 cd52 ct52), sl52⟩) (c52 : PySem.W.codeIn K cd52 "_is_text" = true) (k52 : PySem.W.keepIn K (.ref f52) = true)
    (a53 : PySem.W.findIn K (.ref c_Tape) "__init__" = some (some (.ref f53))) (i53 : PySem.W.isFn K (.ref f53) = true)
    (l53 : K.lookup f53 = some ⟨oc53, od53, .func (PySem.W.fnOf "__init__" "Tape.__init__" (defArgs s_Tape_init) (defBody s_Tape_init) (defScope s_Tape_init) .none kV53 dc53 pm53 an53 cd53 ct53), sl53⟩) (c53 : PySem.W.codeIn K cd53 "Tape.__init__" = true) (k53 : PySem.W.keepIn K (.ref f53) = true)
    (a54 : PySem.W.findIn K (.ref c_Tape) "append" = some (some (.ref f54))) (i54 : PySem.W.isFn K (.ref f54) = true)
    (l54 : K.lookup f54 = some ⟨oc54, od54, .func (PySem.W.fnOf "append" "Tape.append" (defArgs s_Tape_append) (defBody s_Tape_append) (defScope s_Tape_append) .none kV54 dc54 pm54 an54 cd54 ct54), sl54⟩) (c54 : PySem.W.codeIn K cd54 "Tape.append" = true) (k54 : PySem.W.keepIn K (.ref f54) = true)
    (a55 : PySem.W.findIn K (.ref c_Tape) "texts" = some (some (.ref f55))) (i55 : PySem.W.isFn K (.ref f55) = true)
    (l55 : K.lookup f55 = some ⟨oc55, od55, .func (PySem.W.fnOf "texts" "Tape.texts" (defArgs s_Tape_texts) (defBody s_Tape_texts) (defScope s_Tape_texts) .none kV55 dc55 pm55 an55 cd55 ct55), sl55⟩) (c55 : PySem.W.codeIn K cd55 "Tape.texts" = true) (k55 : PySem.W.keepIn K (.ref f55) = true)
    (a56 : PySem.W.nsIn K mainGlobals "_law_house" = some (some (.ref f56)))
    (l56 : K.lookup f56 = some ⟨oc56, od56, .func (PySem.W.fnOf "_law_house" "_law_house" (defArgs s_law_house) (defBody s_law_house) (defScope s_law_house) .none kV56 dc56 pm56 an56 cd56 ct56), sl56⟩) (c56 : PySem.W.codeIn K cd56 "_law_house" = true) (k56 : PySem.W.keepIn K (.ref f56) = true)
    (a57 : PySem.W.nsIn K mainGlobals "_law_spoil" = some (some (.ref f57)))
    (l57 : K.lookup f57 = some ⟨oc57, od57, .func (PySem.W.fnOf "_law_spoil" "_law_spoil" (defArgs s_law_spoil) (defBody s_law_spoil) (defScope s_law_spoil) .none kV57 dc57 pm57 an57 cd57 ct57), sl57⟩) (c57 : PySem.W.codeIn K cd57 "_law_spoil" = true) (k57 : PySem.W.keepIn K (.ref f57) = true)
    (a58 : PySem.W.nsIn K mainGlobals "_law_book" = some (some (.ref f58)))
    (l58 : K.lookup f58 = some ⟨oc58, od58, .func (PySem.W.fnOf "_law_book" "_law_book" (defArgs s_law_book) (defBody s_law_book) (defScope s_law_book) .none kV58 dc58 pm58 an58 cd58 ct58), sl58⟩) (c58 : PySem.W.codeIn K cd58 "_law_book" = true) (k58 : PySem.W.keepIn K (.ref f58) = true)
    (a59 : PySem.W.nsIn K mainGlobals "_law_ledger" = some (some (.ref f59)))
    (l59 : K.lookup f59 = some ⟨oc59, od59, .func (PySem.W.fnOf "_law_ledger" "_law_ledger" (defArgs s_law_ledger) (defBody s_law_ledger) (defScope s_law_ledger) .none kV59 dc59 pm59 an59 cd59 ct59), sl59⟩) (c59 : PySem.W.codeIn K cd59 "_law_ledger" = true) (k59 : PySem.W.keepIn K (.ref f59) = true)
    (a60 : PySem.W.nsIn K mainGlobals "_law_tape" = some (some (.ref f60)))
    (l60 : K.lookup f60 = some ⟨oc60, od60, .func (PySem.W.fnOf "_law_tape" "_law_tape" (defArgs s_law_tape) (defBody s_law_tape) (defScope s_law_tape) .none kV60 dc60 pm60 an60 cd60 ct60), sl60⟩) (c60 : PySem.W.codeIn K cd60 "_law_tape" = true) (k60 : PySem.W.keepIn K (.ref f60) = true)
    (a61 : PySem.W.nsIn K mainGlobals "_law_lists" = some (some (.ref f61)))
    (l61 : K.lookup f61 = some ⟨oc61, od61, .func (PySem.W.fnOf "_law_lists" "_law_lists" (defArgs s_law_lists) (defBody s_law_lists) (defScope s_law_lists) .none kV61 dc61 pm61 an61 cd61 ct61), sl61⟩) (c61 : PySem.W.codeIn K cd61 "_law_lists" = true) (k61 : PySem.W.keepIn K (.ref f61) = true)
    (a62 : PySem.W.nsIn K mainGlobals "law" = some (some (.ref f62)))
    (l62 : K.lookup f62 = some ⟨oc62, od62, .func (PySem.W.fnOf "law" "law" (defArgs s_law) (defBody s_law) (defScope s_law) .none kV62 dc62 pm62 an62 cd62 ct62), sl62⟩) (c62 : PySem.W.codeIn K cd62 "law" = true) (k62 : PySem.W.keepIn K (.ref f62) = true)
    (z_all : PySem.W.nsIn K mainGlobals "all" = some none)
    (z_bool : PySem.W.nsIn K mainGlobals "bool" = some none)
    (z_int : PySem.W.nsIn K mainGlobals "int" = some none)
    (z_isinstance : PySem.W.nsIn K mainGlobals "isinstance" = some none)
    (z_len : PySem.W.nsIn K mainGlobals "len" = some none)
    (z_list : PySem.W.nsIn K mainGlobals "list" = some none)
    (z_min : PySem.W.nsIn K mainGlobals "min" = some none)
    (z_ord : PySem.W.nsIn K mainGlobals "ord" = some none)
    (z_repr : PySem.W.nsIn K mainGlobals "repr" = some none)
    (z_sorted : PySem.W.nsIn K mainGlobals "sorted" = some none)
    (z_str : PySem.W.nsIn K mainGlobals "str" = some none)
    (z_sum : PySem.W.nsIn K mainGlobals "sum" = some none)
    {t_MOST t_FIRST_VALUE t_FACTOR t_MODULUS : Tok}
    (v_MOST : PySem.W.nsIn K mainGlobals "MOST" = some (some (.int 1000000 t_MOST)))
    (v_FIRST_VALUE : PySem.W.nsIn K mainGlobals "FIRST_VALUE" = some (some (.int 7 t_FIRST_VALUE)))
    (v_FACTOR : PySem.W.nsIn K mainGlobals "FACTOR" = some (some (.int 31 t_FACTOR)))
    (v_MODULUS : PySem.W.nsIn K mainGlobals "MODULUS" = some (some (.int 9973 t_MODULUS)))
    {ac_SIDES : Addr} {oc_SIDES : Option Addr} {sc'_SIDES : Array (Option Value)} {nc_SIDES : Nat} {tc_SIDES_0 tc_SIDES_1 : Tok}
    (v_SIDES : PySem.W.nsIn K mainGlobals "SIDES" = some (some (.ref ac_SIDES))) (lc_SIDES : K.lookup ac_SIDES = some ⟨.type "tuple", oc_SIDES, .seq #[.str "buy" tc_SIDES_0, .str "sell" tc_SIDES_1] nc_SIDES, sc'_SIDES⟩)
    {ac_KINDS : Addr} {oc_KINDS : Option Addr} {sc'_KINDS : Array (Option Value)} {nc_KINDS : Nat} {tc_KINDS_0 tc_KINDS_1 tc_KINDS_2 : Tok}
    (v_KINDS : PySem.W.nsIn K mainGlobals "KINDS" = some (some (.ref ac_KINDS))) (lc_KINDS : K.lookup ac_KINDS = some ⟨.type "tuple", oc_KINDS, .seq #[.str "rest" tc_KINDS_0, .str "now" tc_KINDS_1, .str "all" tc_KINDS_2] nc_KINDS, sc'_KINDS⟩)
    (g_BourseError : PySem.W.nsIn K mainGlobals "BourseError" = some (some (.ref c_BourseError)))
    (g_InvalidAmount : PySem.W.nsIn K mainGlobals "InvalidAmount" = some (some (.ref c_InvalidAmount)))
    (x_InvalidAmount : PySem.W.excIn K c_InvalidAmount [.type "ValueError", .type "Exception", .type "BaseException", .type "object"] "ValueError.__new__" = true)
    (k_InvalidAmount : PySem.W.keepIn K (.ref c_InvalidAmount) = true)
    (b_InvalidAmount : PySem.W.subIn K (.ref c_InvalidAmount) (.type "BaseException") = some true)
    (t_InvalidAmount : PySem.W.typeIn K (.ref c_InvalidAmount) = some (.type "type"))
    (d_InvalidAmount : PySem.W.hasDictIn K c_InvalidAmount = true)
    (s_InvalidAmount : PySem.W.subIn K (.ref c_InvalidAmount) (.ref c_InvalidAmount) = some true)
    (g_UnknownName : PySem.W.nsIn K mainGlobals "UnknownName" = some (some (.ref c_UnknownName)))
    (x_UnknownName : PySem.W.excIn K c_UnknownName [.type "ValueError", .type "Exception", .type "BaseException", .type "object"] "ValueError.__new__" = true)
    (k_UnknownName : PySem.W.keepIn K (.ref c_UnknownName) = true)
    (b_UnknownName : PySem.W.subIn K (.ref c_UnknownName) (.type "BaseException") = some true)
    (t_UnknownName : PySem.W.typeIn K (.ref c_UnknownName) = some (.type "type"))
    (d_UnknownName : PySem.W.hasDictIn K c_UnknownName = true)
    (s_UnknownName : PySem.W.subIn K (.ref c_UnknownName) (.ref c_UnknownName) = some true)
    (g_DuplicateName : PySem.W.nsIn K mainGlobals "DuplicateName" = some (some (.ref c_DuplicateName)))
    (x_DuplicateName : PySem.W.excIn K c_DuplicateName [.type "ValueError", .type "Exception", .type "BaseException", .type "object"] "ValueError.__new__" = true)
    (k_DuplicateName : PySem.W.keepIn K (.ref c_DuplicateName) = true)
    (b_DuplicateName : PySem.W.subIn K (.ref c_DuplicateName) (.type "BaseException") = some true)
    (t_DuplicateName : PySem.W.typeIn K (.ref c_DuplicateName) = some (.type "type"))
    (d_DuplicateName : PySem.W.hasDictIn K c_DuplicateName = true)
    (s_DuplicateName : PySem.W.subIn K (.ref c_DuplicateName) (.ref c_DuplicateName) = some true)
    (g_InvalidOrder : PySem.W.nsIn K mainGlobals "InvalidOrder" = some (some (.ref c_InvalidOrder)))
    (x_InvalidOrder : PySem.W.excIn K c_InvalidOrder [.type "ValueError", .type "Exception", .type "BaseException", .type "object"] "ValueError.__new__" = true)
    (k_InvalidOrder : PySem.W.keepIn K (.ref c_InvalidOrder) = true)
    (b_InvalidOrder : PySem.W.subIn K (.ref c_InvalidOrder) (.type "BaseException") = some true)
    (t_InvalidOrder : PySem.W.typeIn K (.ref c_InvalidOrder) = some (.type "type"))
    (d_InvalidOrder : PySem.W.hasDictIn K c_InvalidOrder = true)
    (s_InvalidOrder : PySem.W.subIn K (.ref c_InvalidOrder) (.ref c_InvalidOrder) = some true)
    (g_Unbalanced : PySem.W.nsIn K mainGlobals "Unbalanced" = some (some (.ref c_Unbalanced)))
    (x_Unbalanced : PySem.W.excIn K c_Unbalanced [.type "ValueError", .type "Exception", .type "BaseException", .type "object"] "ValueError.__new__" = true)
    (k_Unbalanced : PySem.W.keepIn K (.ref c_Unbalanced) = true)
    (b_Unbalanced : PySem.W.subIn K (.ref c_Unbalanced) (.type "BaseException") = some true)
    (t_Unbalanced : PySem.W.typeIn K (.ref c_Unbalanced) = some (.type "type"))
    (d_Unbalanced : PySem.W.hasDictIn K c_Unbalanced = true)
    (s_Unbalanced : PySem.W.subIn K (.ref c_Unbalanced) (.ref c_Unbalanced) = some true)
    (g_Overdrawn : PySem.W.nsIn K mainGlobals "Overdrawn" = some (some (.ref c_Overdrawn)))
    (x_Overdrawn : PySem.W.excIn K c_Overdrawn [.type "ValueError", .type "Exception", .type "BaseException", .type "object"] "ValueError.__new__" = true)
    (k_Overdrawn : PySem.W.keepIn K (.ref c_Overdrawn) = true)
    (b_Overdrawn : PySem.W.subIn K (.ref c_Overdrawn) (.type "BaseException") = some true)
    (t_Overdrawn : PySem.W.typeIn K (.ref c_Overdrawn) = some (.type "type"))
    (d_Overdrawn : PySem.W.hasDictIn K c_Overdrawn = true)
    (s_Overdrawn : PySem.W.subIn K (.ref c_Overdrawn) (.ref c_Overdrawn) = some true)
    (g_BrokenTape : PySem.W.nsIn K mainGlobals "BrokenTape" = some (some (.ref c_BrokenTape)))
    (x_BrokenTape : PySem.W.excIn K c_BrokenTape [.type "ValueError", .type "Exception", .type "BaseException", .type "object"] "ValueError.__new__" = true)
    (k_BrokenTape : PySem.W.keepIn K (.ref c_BrokenTape) = true)
    (b_BrokenTape : PySem.W.subIn K (.ref c_BrokenTape) (.type "BaseException") = some true)
    (t_BrokenTape : PySem.W.typeIn K (.ref c_BrokenTape) = some (.type "type"))
    (d_BrokenTape : PySem.W.hasDictIn K c_BrokenTape = true)
    (s_BrokenTape : PySem.W.subIn K (.ref c_BrokenTape) (.ref c_BrokenTape) = some true)
    (g_Order : PySem.W.nsIn K mainGlobals "Order" = some (some (.ref c_Order)))
    (pg_Order : PySem.W.plainGet K c_Order Str.empty = true)
    (hd_Order : PySem.W.hasDictIn K c_Order = true)
    (po_Order : PySem.W.plainOver K c_Order = true)
    (sa_Order : PySem.W.findIn K (.ref c_Order) "__setattr__" = some (some (.builtin "object.__setattr__")))
    (ma_Order : PySem.W.makesIn K c_Order = true)
    (kc_Order : PySem.W.keepIn K (.ref c_Order) = true)
    (eq_Order : PySem.W.findIn K (.ref c_Order) "__eq__" = some (some (.builtin "object.__eq__")))
    (mo_Order : PySem.W.mroIn K c_Order (.type "object") = some true)
    (na_Order_number : PySem.W.findIn K (.ref c_Order) "number" = some none)
    (na_Order_house : PySem.W.findIn K (.ref c_Order) "house" = some none)
    (na_Order_side : PySem.W.findIn K (.ref c_Order) "side" = some none)
    (na_Order_price : PySem.W.findIn K (.ref c_Order) "price" = some none)
    (na_Order_shown : PySem.W.findIn K (.ref c_Order) "shown" = some none)
    (na_Order_left : PySem.W.findIn K (.ref c_Order) "left" = some none)
    (na_Order_visible : PySem.W.findIn K (.ref c_Order) "visible" = some none)
    (g_Stop : PySem.W.nsIn K mainGlobals "Stop" = some (some (.ref c_Stop)))
    (pg_Stop : PySem.W.plainGet K c_Stop Str.empty = true)
    (hd_Stop : PySem.W.hasDictIn K c_Stop = true)
    (po_Stop : PySem.W.plainOver K c_Stop = true)
    (sa_Stop : PySem.W.findIn K (.ref c_Stop) "__setattr__" = some (some (.builtin "object.__setattr__")))
    (ma_Stop : PySem.W.makesIn K c_Stop = true)
    (kc_Stop : PySem.W.keepIn K (.ref c_Stop) = true)
    (eq_Stop : PySem.W.findIn K (.ref c_Stop) "__eq__" = some (some (.builtin "object.__eq__")))
    (mo_Stop : PySem.W.mroIn K c_Stop (.type "object") = some true)
    (na_Stop_number : PySem.W.findIn K (.ref c_Stop) "number" = some none)
    (na_Stop_house : PySem.W.findIn K (.ref c_Stop) "house" = some none)
    (na_Stop_side : PySem.W.findIn K (.ref c_Stop) "side" = some none)
    (na_Stop_trigger : PySem.W.findIn K (.ref c_Stop) "trigger" = some none)
    (na_Stop_price : PySem.W.findIn K (.ref c_Stop) "price" = some none)
    (na_Stop_quantity : PySem.W.findIn K (.ref c_Stop) "quantity" = some none)
    (g_BookSide : PySem.W.nsIn K mainGlobals "BookSide" = some (some (.ref c_BookSide)))
    (pg_BookSide : PySem.W.plainGet K c_BookSide Str.empty = true)
    (hd_BookSide : PySem.W.hasDictIn K c_BookSide = true)
    (po_BookSide : PySem.W.plainOver K c_BookSide = true)
    (sa_BookSide : PySem.W.findIn K (.ref c_BookSide) "__setattr__" = some (some (.builtin "object.__setattr__")))
    (ma_BookSide : PySem.W.makesIn K c_BookSide = true)
    (kc_BookSide : PySem.W.keepIn K (.ref c_BookSide) = true)
    (na_BookSide__orders : PySem.W.findIn K (.ref c_BookSide) "_orders" = some none)
    (g_Report : PySem.W.nsIn K mainGlobals "Report" = some (some (.ref c_Report)))
    (pg_Report : PySem.W.plainGet K c_Report Str.empty = true)
    (hd_Report : PySem.W.hasDictIn K c_Report = true)
    (po_Report : PySem.W.plainOver K c_Report = true)
    (sa_Report : PySem.W.findIn K (.ref c_Report) "__setattr__" = some (some (.builtin "object.__setattr__")))
    (ma_Report : PySem.W.makesIn K c_Report = true)
    (kc_Report : PySem.W.keepIn K (.ref c_Report) = true)
    (na_Report_number : PySem.W.findIn K (.ref c_Report) "number" = some none)
    (na_Report_house : PySem.W.findIn K (.ref c_Report) "house" = some none)
    (na_Report_side : PySem.W.findIn K (.ref c_Report) "side" = some none)
    (na_Report_fills : PySem.W.findIn K (.ref c_Report) "fills" = some none)
    (na_Report_removed : PySem.W.findIn K (.ref c_Report) "removed" = some none)
    (na_Report_resting : PySem.W.findIn K (.ref c_Report) "resting" = some none)
    (g_Book : PySem.W.nsIn K mainGlobals "Book" = some (some (.ref c_Book)))
    (pg_Book : PySem.W.plainGet K c_Book Str.empty = true)
    (hd_Book : PySem.W.hasDictIn K c_Book = true)
    (po_Book : PySem.W.plainOver K c_Book = true)
    (sa_Book : PySem.W.findIn K (.ref c_Book) "__setattr__" = some (some (.builtin "object.__setattr__")))
    (ma_Book : PySem.W.makesIn K c_Book = true)
    (kc_Book : PySem.W.keepIn K (.ref c_Book) = true)
    (na_Book_last : PySem.W.findIn K (.ref c_Book) "last" = some none)
    (na_Book__next_number : PySem.W.findIn K (.ref c_Book) "_next_number" = some none)
    (na_Book__sides : PySem.W.findIn K (.ref c_Book) "_sides" = some none)
    (na_Book__stops : PySem.W.findIn K (.ref c_Book) "_stops" = some none)
    (g_Ledger : PySem.W.nsIn K mainGlobals "Ledger" = some (some (.ref c_Ledger)))
    (pg_Ledger : PySem.W.plainGet K c_Ledger Str.empty = true)
    (hd_Ledger : PySem.W.hasDictIn K c_Ledger = true)
    (po_Ledger : PySem.W.plainOver K c_Ledger = true)
    (sa_Ledger : PySem.W.findIn K (.ref c_Ledger) "__setattr__" = some (some (.builtin "object.__setattr__")))
    (ma_Ledger : PySem.W.makesIn K c_Ledger = true)
    (kc_Ledger : PySem.W.keepIn K (.ref c_Ledger) = true)
    (na_Ledger__balances : PySem.W.findIn K (.ref c_Ledger) "_balances" = some none)
    (na_Ledger__may_owe : PySem.W.findIn K (.ref c_Ledger) "_may_owe" = some none)
    (na_Ledger__statements : PySem.W.findIn K (.ref c_Ledger) "_statements" = some none)
    (na_Ledger__entries : PySem.W.findIn K (.ref c_Ledger) "_entries" = some none)
    (g_Tape : PySem.W.nsIn K mainGlobals "Tape" = some (some (.ref c_Tape)))
    (pg_Tape : PySem.W.plainGet K c_Tape Str.empty = true)
    (hd_Tape : PySem.W.hasDictIn K c_Tape = true)
    (po_Tape : PySem.W.plainOver K c_Tape = true)
    (sa_Tape : PySem.W.findIn K (.ref c_Tape) "__setattr__" = some (some (.builtin "object.__setattr__")))
    (ma_Tape : PySem.W.makesIn K c_Tape = true)
    (kc_Tape : PySem.W.keepIn K (.ref c_Tape) = true)
    (na_Tape__texts : PySem.W.findIn K (.ref c_Tape) "_texts" = some none)
    (na_Tape__lines : PySem.W.findIn K (.ref c_Tape) "_lines" = some none) :
    ∃ fd : FuncData, (∀ (s : Shared) (v : Value), BindsTo s fd ⟨[v], []⟩ [("script", v)]) ∧ ∀ base : Heap, K.In base → base.Ns mainGlobals mg → FnG l.prog w K mg base 10 fa fd ["script"] (sp_law K) := by
  have e := hfa.symm.trans (PySem.W.mg_of X G a62)
  cases e
  have F1 := fun_mk (st := s_is_integral) l1 c1 k1
  have b1 := F1.binds (ps := ["value"]) fun _ _ _ _ _ _ us hl => match us, hl with | [_], _ => rfl
  have F2 := fun_mk (st := s_is_within) l2 c2 k2
  have b2 := F2.binds (ps := ["least", "most", "value"]) fun _ _ _ _ _ _ us hl => match us, hl with | [_, _, _], _ => rfl
  have F3 := fun_mk (st := s_other_side) l3 c3 k3
  have b3 := F3.binds (ps := ["side"]) fun _ _ _ _ _ _ us hl => match us, hl with | [_], _ => rfl
  have F4 := fun_mk (st := s_accepts) l4 c4 k4
  have b4 := F4.binds (ps := ["side", "limit", "price"]) fun _ _ _ _ _ _ us hl => match us, hl with | [_, _, _], _ => rfl
  have F5 := fun_mk (st := s_check_house) l5 c5 k5
  have b5 := F5.binds (ps := ["house"]) fun _ _ _ _ _ _ us hl => match us, hl with | [_], _ => rfl
  have F6 := fun_mk (st := s_check_side) l6 c6 k6
  have b6 := F6.binds (ps := ["side"]) fun _ _ _ _ _ _ us hl => match us, hl with | [_], _ => rfl
  have F7 := fun_mk (st := s_check_number) l7 c7 k7
  have b7 := F7.binds (ps := ["number", "least", "most"]) fun _ _ _ _ _ _ us hl => match us, hl with | [_, _, _], _ => rfl
  have F8 := fun_mk (st := s_check_price) l8 c8 k8
  have b8 := F8.binds (ps := ["price"]) fun _ _ _ _ _ _ us hl => match us, hl with | [_], _ => rfl
  have F9 := fun_mk (st := s_check_quantity) l9 c9 k9
  have b9 := F9.binds (ps := ["quantity"]) fun _ _ _ _ _ _ us hl => match us, hl with | [_], _ => rfl
  have F10 := fun_mk (st := s_check_order) l10 c10 k10
  have b10 := F10.binds (ps := ["house", "side", "price", "quantity", "kind", "shown"]) fun _ _ _ _ _ _ us hl => match us, hl with | [_, _, _, _, _, _], _ => rfl
  have F11 := fun_mk (st := s_check_stop) l11 c11 k11
  have b11 := F11.binds (ps := ["house", "side", "trigger", "price", "quantity"]) fun _ _ _ _ _ _ us hl => match us, hl with | [_, _, _, _, _], _ => rfl
  have F12 := fun_mk (st := s_Order_init) l12 c12 k12
  have b12 := F12.binds (ps := ["self", "number", "house", "side", "price", "quantity", "shown"]) fun _ _ _ _ _ _ us hl => match us, hl with | [_, _, _, _, _, _, _], _ => rfl
  have F13 := fun_mk (st := s_Order_accepts_price) l13 c13 k13
  have b13 := F13.binds (ps := ["self", "price"]) fun _ _ _ _ _ _ us hl => match us, hl with | [_, _], _ => rfl
  have F14 := fun_mk (st := s_Order_show_next_part) l14 c14 k14
  have b14 := F14.binds (ps := ["self"]) fun _ _ _ _ _ _ us hl => match us, hl with | [_], _ => rfl
  have F15 := fun_mk (st := s_Order_trade_visible) l15 c15 k15
  have b15 := F15.binds (ps := ["self", "quantity"]) fun _ _ _ _ _ _ us hl => match us, hl with | [_, _], _ => rfl
  have F16 := fun_mk (st := s_Stop_init) l16 c16 k16
  have b16 := F16.binds (ps := ["self", "number", "house", "side", "trigger", "price", "quantity"]) fun _ _ _ _ _ _ us hl => match us, hl with | [_, _, _, _, _, _, _], _ => rfl
  have F17 := fun_mk (st := s_Stop_is_reached) l17 c17 k17
  have b17 := F17.binds (ps := ["self", "last"]) fun _ _ _ _ _ _ us hl => match us, hl with | [_, _], _ => rfl
  have F18 := fun_mk (st := s_Stop_row) l18 c18 k18
  have b18 := F18.binds (ps := ["self"]) fun _ _ _ _ _ _ us hl => match us, hl with | [_], _ => rfl
  have F19 := fun_mk (st := s_BookSide_init) l19 c19 k19
  have b19 := F19.binds (ps := ["self"]) fun _ _ _ _ _ _ us hl => match us, hl with | [_], _ => rfl
  have F20 := fun_mk (st := s_BookSide_rows) l20 c20 k20
  have b20 := F20.binds (ps := ["self"]) fun _ _ _ _ _ _ us hl => match us, hl with | [_], _ => rfl
  have F21 := fun_mk (st := s_BookSide_depth) l21 c21 k21
  have b21 := F21.binds (ps := ["self"]) fun _ _ _ _ _ _ us hl => match us, hl with | [_], _ => rfl
  have F22 := fun_mk (st := s_BookSide_first) l22 c22 k22
  have b22 := F22.binds (ps := ["self"]) fun _ _ _ _ _ _ us hl => match us, hl with | [_], _ => rfl
  have F23 := fun_mk (st := s_BookSide_available) l23 c23 k23
  have b23 := F23.binds (ps := ["self", "taker"]) fun _ _ _ _ _ _ us hl => match us, hl with | [_, _], _ => rfl
  have F24 := fun_mk (st := s_BookSide_enter) l24 c24 k24
  have b24 := F24.binds (ps := ["self", "order"]) fun _ _ _ _ _ _ us hl => match us, hl with | [_, _], _ => rfl
  have F25 := fun_mk (st := s_BookSideplace_behind) l25 c25 k25
  have b25 := F25.binds (ps := ["self", "order"]) fun _ _ _ _ _ _ us hl => match us, hl with | [_, _], _ => rfl
  have F26 := fun_mk (st := s_BookSide_leave) l26 c26 k26
  have b26 := F26.binds (ps := ["self", "order"]) fun _ _ _ _ _ _ us hl => match us, hl with | [_, _], _ => rfl
  have F27 := fun_mk (st := s_BookSide_trade_first) l27 c27 k27
  have b27 := F27.binds (ps := ["self", "quantity"]) fun _ _ _ _ _ _ us hl => match us, hl with | [_, _], _ => rfl
  have F28 := fun_mk (st := s_Report_init) l28 c28 k28
  have b28 := F28.binds (ps := ["self", "number", "house", "side"]) fun _ _ _ _ _ _ us hl => match us, hl with | [_, _, _, _], _ => rfl
  have F29 : FunD K "__init__" "Book.__init__" (defArgs s_Book_init) (defBody s_Book_init) (defScope s_Book_init) [.int 1] [] f29 (PySem.W.fnOf "__init__" "Book.__init__" (defArgs s_Book_init) (defBody s_Book_init) (defScope s_Book_init) (.ref T29) kV29 dc29 pm29 an29 cd29 ct29) := ⟨⟨_, _, _, _, _, _, _, _, _, _, rfl, l29, c29, .inr ⟨by simp, T29, _, _, _, rfl, lT29, rfl, .cons ⟨_, rfl⟩ (.nil)⟩, .inl rfl⟩, k29⟩
  have b29_0 := F29.binds1 (ps := ["self", "first_number"]) 1 0 (by simp) rfl fun _ _ _ _ _ _ _ us its h1 h2 => match us, its, h1, h2 with | [_], [_], _, _ => ⟨_, rfl, rfl⟩
  have b29 : Binds K (PySem.W.fnOf "__init__" "Book.__init__" (defArgs s_Book_init) (defBody s_Book_init) (defScope s_Book_init) (.ref T29) kV29 dc29 pm29 an29 cd29 ct29) ["self", "first_number"] [] := by
    obtain ⟨ds, v, b⟩ := F29.binds1 (ps := ["self", "first_number"]) 2 1 (by simp) rfl fun _ _ _ _ _ _ _ us its h1 h2 => match us, its, h1, h2 with | [_, _], [_], _, _ => ⟨_, rfl, rfl⟩
    cases v
    exact b
  have hk30 : ∀ q ∈ ([("kind", .str "rest"), ("shown", .int 0)] : List (Str × V)), ∃ u, PySem.W.nsIn K KD30 q.1 = some (some u) ∧ RelV q.2 u := by
    intro q hq
    rcases List.mem_cons.mp hq with e | hq
    · rw [e]
      exact ⟨_, kd30_0, ⟨_, rfl⟩⟩
    rw [List.mem_singleton.mp hq]
    exact ⟨_, kd30_1, ⟨_, rfl⟩⟩
  have F30 : FunD K "submit" "Book.submit" (defArgs s_Book_submit) (defBody s_Book_submit) (defScope s_Book_submit) [] [("kind", .str "rest"), ("shown", .int 0)] f30 (PySem.W.fnOf "submit" "Book.submit" (defArgs s_Book_submit) (defBody s_Book_submit) (defScope s_Book_submit) .none (.ref KD30) dc30 pm30 an30 cd30 ct30) := ⟨⟨_, _, _, _, _, _, _, _, _, _, rfl, l30, c30, .inl ⟨rfl, rfl⟩, .inr ⟨KD30, rfl, hk30⟩⟩, k30⟩
  have b30 := F30.binds0 (ps := ["self", "house", "side", "price", "quantity", "kind", "shown"]) 5 (by simp) rfl fun _ _ _ _ _ _ us ks h1 h2 => match us, ks, h1, h2 with | [_, _, _, _, _], [_, _], _, _ => ⟨_, _, _, _, _, _, rfl, rfl, ⟨_, _, _, _, _, _, rfl, rfl, rfl⟩⟩
  have F31 := fun_mk (st := s_Book_submit_stop) l31 c31 k31
  have b31 := F31.binds (ps := ["self", "house", "side", "trigger", "price", "quantity"]) fun _ _ _ _ _ _ us hl => match us, hl with | [_, _, _, _, _, _], _ => rfl
  have F32 := fun_mk (st := s_Book_orders) l32 c32 k32
  have b32 := F32.binds (ps := ["self", "side"]) fun _ _ _ _ _ _ us hl => match us, hl with | [_, _], _ => rfl
  have F33 := fun_mk (st := s_Book_stops) l33 c33 k33
  have b33 := F33.binds (ps := ["self"]) fun _ _ _ _ _ _ us hl => match us, hl with | [_], _ => rfl
  have F34 := fun_mk (st := s_Book_best) l34 c34 k34
  have b34 := F34.binds (ps := ["self", "side"]) fun _ _ _ _ _ _ us hl => match us, hl with | [_, _], _ => rfl
  have F35 := fun_mk (st := s_Book_depth) l35 c35 k35
  have b35 := F35.binds (ps := ["self", "side"]) fun _ _ _ _ _ _ us hl => match us, hl with | [_, _], _ => rfl
  have F36 := fun_mk (st := s_Booktake_number) l36 c36 k36
  have b36 := F36.binds (ps := ["self"]) fun _ _ _ _ _ _ us hl => match us, hl with | [_], _ => rfl
  have F37 := fun_mk (st := s_Bookenter) l37 c37 k37
  have b37 := F37.binds (ps := ["self", "order", "kind"]) fun _ _ _ _ _ _ us hl => match us, hl with | [_, _, _], _ => rfl
  have F38 := fun_mk (st := s_Booktrigger_stops) l38 c38 k38
  have b38 := F38.binds (ps := ["self"]) fun _ _ _ _ _ _ us hl => match us, hl with | [_], _ => rfl
  have F39 := fun_mk (st := s_Bookfirst_reached) l39 c39 k39
  have b39 := F39.binds (ps := ["self"]) fun _ _ _ _ _ _ us hl => match us, hl with | [_], _ => rfl
  have F40 := fun_mk (st := s_Ledger_init) l40 c40 k40
  have b40 := F40.binds (ps := ["self"]) fun _ _ _ _ _ _ us hl => match us, hl with | [_], _ => rfl
  have hk41 : ∀ q ∈ ([("may_owe", .bl false)] : List (Str × V)), ∃ u, PySem.W.nsIn K KD41 q.1 = some (some u) ∧ RelV q.2 u := by
    intro q hq
    rw [List.mem_singleton.mp hq]
    exact ⟨_, kd41_0, rfl⟩
  have F41 : FunD K "open_account" "Ledger.open_account" (defArgs s_Ledger_open_account) (defBody s_Ledger_open_account) (defScope s_Ledger_open_account) [] [("may_owe", .bl false)] f41 (PySem.W.fnOf "open_account" "Ledger.open_account" (defArgs s_Ledger_open_account) (defBody s_Ledger_open_account) (defScope s_Ledger_open_account) .none (.ref KD41) dc41 pm41 an41 cd41 ct41) := ⟨⟨_, _, _, _, _, _, _, _, _, _, rfl, l41, c41, .inl ⟨rfl, rfl⟩, .inr ⟨KD41, rfl, hk41⟩⟩, k41⟩
  have b41 := F41.binds0 (ps := ["self", "name", "may_owe"]) 2 (by simp) rfl fun _ _ _ _ _ _ us ks h1 h2 => match us, ks, h1, h2 with | [_, _], [_], _, _ => ⟨_, _, _, _, _, _, rfl, rfl, rfl⟩
  have kb41_may_owe : ∃ g : List Value → List Value → List Value, KBn K (PySem.W.fnOf "open_account" "Ledger.open_account" (defArgs s_Ledger_open_account) (defBody s_Ledger_open_account) (defScope s_Ledger_open_account) .none (.ref KD41) dc41 pm41 an41 cd41 ct41) ["self", "name", "may_owe"] 2 ["may_owe"] g _ := (F41.kbinds0 (ps := ["self", "name", "may_owe"]) 2 ["may_owe"] [] (fun us mv ws => us ++ ws) (by simp) (by simp) (fun r1 r2 r3 => (r1.append r3)) fun _ _ _ _ _ _ us mv ws h1 h2 h3 => match us, mv, ws, h1, h2, h3 with | [_, _], [], [_], _, _, _ => rfl).elim fun mv h => ⟨_, h⟩
  have F42 := fun_mk (st := s_Ledger_accounts) l42 c42 k42
  have b42 := F42.binds (ps := ["self"]) fun _ _ _ _ _ _ us hl => match us, hl with | [_], _ => rfl
  have F43 := fun_mk (st := s_Ledger_balance) l43 c43 k43
  have b43 := F43.binds (ps := ["self", "name"]) fun _ _ _ _ _ _ us hl => match us, hl with | [_, _], _ => rfl
  have F44 := fun_mk (st := s_Ledger_post) l44 c44 k44
  have b44 := F44.binds (ps := ["self", "moves"]) fun _ _ _ _ _ _ us hl => match us, hl with | [_, _], _ => rfl
  have F45 := fun_mk (st := s_Ledger_entries) l45 c45 k45
  have b45 := F45.binds (ps := ["self"]) fun _ _ _ _ _ _ us hl => match us, hl with | [_], _ => rfl
  have F46 := fun_mk (st := s_Ledger_statement) l46 c46 k46
  have b46 := F46.binds (ps := ["self", "name"]) fun _ _ _ _ _ _ us hl => match us, hl with | [_, _], _ => rfl
  have F47 := fun_mk (st := s_Ledgercheck_account) l47 c47 k47
  have b47 := F47.binds (ps := ["self", "name"]) fun _ _ _ _ _ _ us hl => match us, hl with | [_, _], _ => rfl
  have F48 := fun_mk (st := s_Ledgersums) l48 c48 k48
  have b48 := F48.binds (ps := ["self", "moves"]) fun _ _ _ _ _ _ us hl => match us, hl with | [_, _], _ => rfl
  have F49 := fun_mk (st := s_Ledgercheck_sums) l49 c49 k49
  have b49 := F49.binds (ps := ["self", "sums"]) fun _ _ _ _ _ _ us hl => match us, hl with | [_, _], _ => rfl
  have F50 := fun_mk (st := s_check_of) l50 c50 k50
  have b50 := F50.binds (ps := ["text"]) fun _ _ _ _ _ _ us hl => match us, hl with | [_], _ => rfl
  have F51 := fun_mk (st := s_write_line) l51 c51 k51
  have b51 := F51.binds (ps := ["number", "text"]) fun _ _ _ _ _ _ us hl => match us, hl with | [_, _], _ => rfl
  have F52 := fun_mk (st := s_is_text) l52 c52 k52
  have b52 := F52.binds (ps := ["text"]) fun _ _ _ _ _ _ us hl => match us, hl with | [_], _ => rfl
  have F53 := fun_mk (st := s_Tape_init) l53 c53 k53
  have b53 := F53.binds (ps := ["self"]) fun _ _ _ _ _ _ us hl => match us, hl with | [_], _ => rfl
  have F54 := fun_mk (st := s_Tape_append) l54 c54 k54
  have b54 := F54.binds (ps := ["self", "text"]) fun _ _ _ _ _ _ us hl => match us, hl with | [_, _], _ => rfl
  have F55 := fun_mk (st := s_Tape_texts) l55 c55 k55
  have b55 := F55.binds (ps := ["self"]) fun _ _ _ _ _ _ us hl => match us, hl with | [_], _ => rfl
  have F56 := fun_mk (st := s_law_house) l56 c56 k56
  have b56 := F56.binds (ps := ["cell"]) fun _ _ _ _ _ _ us hl => match us, hl with | [_], _ => rfl
  have F57 := fun_mk (st := s_law_spoil) l57 c57 k57
  have b57 := F57.binds (ps := ["rows"]) fun _ _ _ _ _ _ us hl => match us, hl with | [_], _ => rfl
  have F58 := fun_mk (st := s_law_book) l58 c58 k58
  have b58 := F58.binds (ps := ["script"]) fun _ _ _ _ _ _ us hl => match us, hl with | [_], _ => rfl
  have F59 := fun_mk (st := s_law_ledger) l59 c59 k59
  have b59 := F59.binds (ps := ["script"]) fun _ _ _ _ _ _ us hl => match us, hl with | [_], _ => rfl
  have F60 := fun_mk (st := s_law_tape) l60 c60 k60
  have b60 := F60.binds (ps := ["script"]) fun _ _ _ _ _ _ us hl => match us, hl with | [_], _ => rfl
  have F61 := fun_mk (st := s_law_lists) l61 c61 k61
  have b61 := F61.binds (ps := ["book", "ledger", "tape"]) fun _ _ _ _ _ _ us hl => match us, hl with | [_, _, _], _ => rfl
  have F62 := fun_mk (st := s_law) l62 c62 k62
  have b62 := F62.binds (ps := ["script"]) fun _ _ _ _ _ _ us hl => match us, hl with | [_], _ => rfl
  have T : Txt K mg := ⟨f1, _, F1, PySem.W.mg_of X G a1, b1, f2, _, F2, PySem.W.mg_of X G a2, b2, f3, _, F3, PySem.W.mg_of X G a3, b3, f4, _, F4, PySem.W.mg_of X G a4, b4, f5, _, F5, PySem.W.mg_of X G a5, b5, f6, _, F6, PySem.W.mg_of X G a6, b6, f7, _, F7, PySem.W.mg_of X G a7, b7, f8, _, F8, PySem.W.mg_of X G a8, b8, f9, _, F9, PySem.W.mg_of X G a9, b9, f10, _, F10, PySem.W.mg_of X G a10, b10, f11, _, F11, PySem.W.mg_of X G a11, b11, f12, _, F12, b12, f13, _, F13, b13, f14, _, F14, b14, f15, _, F15, b15, f16, _, F16, b16, f17, _, F17, b17, f18, _, F18, b18, f19, _, F19, b19, f20, _, F20, b20, f21, _, F21, b21, f22, _, F22, b22, f23, _, F23, b23, f24, _, F24, b24, f25, _, F25, b25, f26, _, F26, b26, f27, _, F27, b27, f28, _, F28, b28, f29, _, F29, b29_0, b29, f30, _, F30, b30, f31, _, F31, b31, f32, _, F32, b32, f33, _, F33, b33, f34, _, F34, b34, f35, _, F35, b35, f36, _, F36, b36, f37, _, F37, b37, f38, _, F38, b38, f39, _, F39, b39, f40, _, F40, b40, f41, _, F41, b41, kb41_may_owe, f42, _, F42, b42, f43, _, F43, b43, f44, _, F44, b44, f45, _, F45, b45, f46, _, F46, b46, f47, _, F47, b47, f48, _, F48, b48, f49, _, F49, b49, f50, _, F50, PySem.W.mg_of X G a50, b50, f51, _, F51, PySem.W.mg_of X G a51, b51, f52, _, F52, PySem.W.mg_of X G a52, b52, f53, _, F53, b53, f54, _, F54, b54, f55, _, F55, b55, f56, _, F56, PySem.W.mg_of X G a56, b56, f57, _, F57, PySem.W.mg_of X G a57, b57, f58, _, F58, PySem.W.mg_of X G a58, b58, f59, _, F59, PySem.W.mg_of X G a59, b59, f60, _, F60, PySem.W.mg_of X G a60, b60, f61, _, F61, PySem.W.mg_of X G a61, b61, c_BourseError, PySem.W.mg_of X G g_BourseError, c_InvalidAmount, PySem.W.mg_of X G g_InvalidAmount, x_InvalidAmount, k_InvalidAmount, b_InvalidAmount, t_InvalidAmount, d_InvalidAmount, s_InvalidAmount, c_UnknownName, PySem.W.mg_of X G g_UnknownName, x_UnknownName, k_UnknownName, b_UnknownName, t_UnknownName, d_UnknownName, s_UnknownName, c_DuplicateName, PySem.W.mg_of X G g_DuplicateName, x_DuplicateName, k_DuplicateName, b_DuplicateName, t_DuplicateName, d_DuplicateName, s_DuplicateName, c_InvalidOrder, PySem.W.mg_of X G g_InvalidOrder, x_InvalidOrder, k_InvalidOrder, b_InvalidOrder, t_InvalidOrder, d_InvalidOrder, s_InvalidOrder, c_Unbalanced, PySem.W.mg_of X G g_Unbalanced, x_Unbalanced, k_Unbalanced, b_Unbalanced, t_Unbalanced, d_Unbalanced, s_Unbalanced, c_Overdrawn, PySem.W.mg_of X G g_Overdrawn, x_Overdrawn, k_Overdrawn, b_Overdrawn, t_Overdrawn, d_Overdrawn, s_Overdrawn, c_BrokenTape, PySem.W.mg_of X G g_BrokenTape, x_BrokenTape, k_BrokenTape, b_BrokenTape, t_BrokenTape, d_BrokenTape, s_BrokenTape, c_Order, PySem.W.mg_of X G g_Order, pg_Order, hd_Order, po_Order, sa_Order, ma_Order, kc_Order, eq_Order, mo_Order, ⟨pg_Order, hd_Order, po_Order, sa_Order⟩, na_Order_number, na_Order_house, na_Order_side, na_Order_price, na_Order_shown, na_Order_left, na_Order_visible, c_Stop, PySem.W.mg_of X G g_Stop, pg_Stop, hd_Stop, po_Stop, sa_Stop, ma_Stop, kc_Stop, eq_Stop, mo_Stop, ⟨pg_Stop, hd_Stop, po_Stop, sa_Stop⟩, na_Stop_number, na_Stop_house, na_Stop_side, na_Stop_trigger, na_Stop_price, na_Stop_quantity, c_BookSide, PySem.W.mg_of X G g_BookSide, pg_BookSide, hd_BookSide, po_BookSide, sa_BookSide, ma_BookSide, kc_BookSide, ⟨pg_BookSide, hd_BookSide, po_BookSide, sa_BookSide⟩, na_BookSide__orders, c_Report, PySem.W.mg_of X G g_Report, pg_Report, hd_Report, po_Report, sa_Report, ma_Report, kc_Report, ⟨pg_Report, hd_Report, po_Report, sa_Report⟩, na_Report_number, na_Report_house, na_Report_side, na_Report_fills, na_Report_removed, na_Report_resting, c_Book, PySem.W.mg_of X G g_Book, pg_Book, hd_Book, po_Book, sa_Book, ma_Book, kc_Book, ⟨pg_Book, hd_Book, po_Book, sa_Book⟩, na_Book_last, na_Book__next_number, na_Book__sides, na_Book__stops, c_Ledger, PySem.W.mg_of X G g_Ledger, pg_Ledger, hd_Ledger, po_Ledger, sa_Ledger, ma_Ledger, kc_Ledger, ⟨pg_Ledger, hd_Ledger, po_Ledger, sa_Ledger⟩, na_Ledger__balances, na_Ledger__may_owe, na_Ledger__statements, na_Ledger__entries, c_Tape, PySem.W.mg_of X G g_Tape, pg_Tape, hd_Tape, po_Tape, sa_Tape, ma_Tape, kc_Tape, ⟨pg_Tape, hd_Tape, po_Tape, sa_Tape⟩, na_Tape__texts, na_Tape__lines, ⟨ma_Order, a12, i12, kc_Order⟩, ⟨a13, i13, k13⟩, ⟨a14, i14, k14⟩, ⟨a15, i15, k15⟩, ⟨ma_Stop, a16, i16, kc_Stop⟩, ⟨a17, i17, k17⟩, ⟨a18, i18, k18⟩, ⟨ma_BookSide, a19, i19, kc_BookSide⟩, ⟨a20, i20, k20⟩, ⟨a21, i21, k21⟩, ⟨a22, i22, k22⟩, ⟨a23, i23, k23⟩, ⟨a24, i24, k24⟩, ⟨a25, i25, k25⟩, ⟨a26, i26, k26⟩, ⟨a27, i27, k27⟩, ⟨ma_Report, a28, i28, kc_Report⟩, ⟨ma_Book, a29, i29, kc_Book⟩, ⟨a30, i30, k30⟩, ⟨a31, i31, k31⟩, ⟨a32, i32, k32⟩, ⟨a33, i33, k33⟩, ⟨a34, i34, k34⟩, ⟨a35, i35, k35⟩, ⟨a36, i36, k36⟩, ⟨a37, i37, k37⟩, ⟨a38, i38, k38⟩, ⟨a39, i39, k39⟩, ⟨ma_Ledger, a40, i40, kc_Ledger⟩, ⟨a41, i41, k41⟩, ⟨a42, i42, k42⟩, ⟨a43, i43, k43⟩, ⟨a44, i44, k44⟩, ⟨a45, i45, k45⟩, ⟨a46, i46, k46⟩, ⟨a47, i47, k47⟩, ⟨a48, i48, k48⟩, ⟨a49, i49, k49⟩, ⟨ma_Tape, a53, i53, kc_Tape⟩, ⟨a54, i54, k54⟩, ⟨a55, i55, k55⟩, PySem.W.mg_none_of X G z_all, PySem.W.mg_none_of X G z_bool, PySem.W.mg_none_of X G z_int, PySem.W.mg_none_of X G z_isinstance, PySem.W.mg_none_of X G z_len, PySem.W.mg_none_of X G z_list, PySem.W.mg_none_of X G z_min, PySem.W.mg_none_of X G z_ord, PySem.W.mg_none_of X G z_repr, PySem.W.mg_none_of X G z_sorted, PySem.W.mg_none_of X G z_str, PySem.W.mg_none_of X G z_sum, ac_SIDES, PySem.W.mg_of X G v_SIDES, (fun H => .inr ⟨_, _, _, lc_SIDES, rfl, rfl, (show 2 ≤ sizeLine from len_le rfl), .cons ⟨_, rfl⟩ (.cons ⟨_, rfl⟩ (.nil))⟩), ac_KINDS, PySem.W.mg_of X G v_KINDS, (fun H => .inr ⟨_, _, _, lc_KINDS, rfl, rfl, (show 3 ≤ sizeLine from len_le rfl), .cons ⟨_, rfl⟩ (.cons ⟨_, rfl⟩ (.cons ⟨_, rfl⟩ (.nil)))⟩), t_MOST, PySem.W.mg_of X G v_MOST, t_FIRST_VALUE, PySem.W.mg_of X G v_FIRST_VALUE, t_FACTOR, PySem.W.mg_of X G v_FACTOR, t_MODULUS, PySem.W.mg_of X G v_MODULUS⟩
  exact ⟨PySem.W.fnOf "law" "law" (defArgs s_law) (defBody s_law) (defScope s_law) .none kV62 dc62 pm62 an62 cd62 ct62, fun s v => .of_eq rfl, fun base _ _ => ok_law T F62⟩
end FB
open PySem PySem.W PyProof.Rows
set_option maxRecDepth 100000 in
set_option maxHeartbeats 0 in
theorem PySem.Challenge.cw_fairbourse_k27_returned_lists_are_new_holds : PySem.Challenge.rw_fairbourse_k27_returned_lists_are_new.Holds := by
  w_on; o_law; k_head; (case hw => w_witness2)
  k_fill
  refine FB.walkG (l := PySem.Challenge.rw_fairbourse_k27_returned_lists_are_new) (most := 63) (room := 10) (par := "script") (sp := fun w => FB.sp_law _) rfl (by decide) rfl ⟨rfl, by decide, by decide⟩ (fun w h Y => PySem.W.kIn_of Y) ?F (fun _ _ a ns hl hO hS => ⟨a, ns, rfl, hS, hO, hl, fun _ => rfl⟩)
  case F =>
    intro w mg fa h KX G hmg
    refine' FB.all_mk KX G hmg ?a1 ?l1 ?c1 ?k1 ?a2 ?l2 ?c2 ?k2 ?a3 ?l3 ?c3 ?k3 ?a4 ?l4 ?c4 ?k4 ?a5 ?l5 ?c5 ?k5 ?a6 ?l6 ?c6 ?k6 ?a7 ?l7 ?c7 ?k7 ?a8 ?l8 ?c8 ?k8 ?a9 ?l9 ?c9 ?k9 ?a10 ?l10 ?c10 ?k10 ?a11 ?l11 ?c11 ?k11 ?a12 ?i12 ?l12 ?c12 ?k12 ?a13 ?i13 ?l13 ?c13 ?k13 ?a14 ?i14 ?l14 ?c14 ?k14 ?a15 ?i15 ?l15 ?c15 ?k15 ?a16 ?i16 ?l16 ?c16 ?k16 ?a17 ?i17 ?l17 ?c17 ?k17 ?a18 ?i18 ?l18 ?c18 ?k18 ?a19 ?i19 ?l19 ?c19 ?k19 ?a20 ?i20 ?l20 ?c20 ?k20 ?a21 ?i21 ?l21 ?c21 ?k21 ?a22 ?i22 ?l22 ?c22 ?k22 ?a23 ?i23 ?l23 ?c23 ?k23 ?a24 ?i24 ?l24 ?c24 ?k24 ?a25 ?i25 ?l25 ?c25 ?k25 ?a26 ?i26 ?l26 ?c26 ?k26 ?a27 ?i27 ?l27 ?c27 ?k27 ?a28 ?i28 ?l28 ?c28 ?k28 ?a29 ?i29 ?l29 ?lT29 ?c29 ?k29 ?a30 ?i30 ?l30 ?c30 ?k30 ?kd30_0 ?kd30_1 ?a31 ?i31 ?l31 ?c31 ?k31 ?a32 ?i32 ?l32 ?c32 ?k32 ?a33 ?i33 ?l33 ?c33 ?k33 ?a34 ?i34 ?l34 ?c34 ?k34 ?a35 ?i35 ?l35 ?c35 ?k35 ?a36 ?i36 ?l36 ?c36 ?k36 ?a37 ?i37 ?l37 ?c37 ?k37 ?a38 ?i38 ?l38 ?c38 ?k38 ?a39 ?i39 ?l39 ?c39 ?k39 ?a40 ?i40 ?l40 ?c40 ?k40 ?a41 ?i41 ?l41 ?c41 ?k41 ?kd41_0 ?a42 ?i42 ?l42 ?c42 ?k42 ?a43 ?i43 ?l43 ?c43 ?k43 ?a44 ?i44 ?l44 ?c44 ?k44 ?a45 ?i45 ?l45 ?c45 ?k45 ?a46 ?i46 ?l46 ?c46 ?k46 ?a47 ?i47 ?l47 ?c47 ?k47 ?a48 ?i48 ?l48 ?c48 ?k48 ?a49 ?i49 ?l49 ?c49 ?k49 ?a50 ?l50 ?c50 ?k50 ?a51 ?l51 ?c51 ?k51 ?a52 ?l52 ?c52 ?k52 ?a53 ?i53 ?l53 ?c53 ?k53 ?a54 ?i54 ?l54 ?c54 ?k54 ?a55 ?i55 ?l55 ?c55 ?k55 ?a56 ?l56 ?c56 ?k56 ?a57 ?l57 ?c57 ?k57 ?a58 ?l58 ?c58 ?k58 ?a59 ?l59 ?c59 ?k59 ?a60 ?l60 ?c60 ?k60 ?a61 ?l61 ?c61 ?k61 ?a62 ?l62 ?c62 ?k62 ?z_all ?z_bool ?z_int ?z_isinstance ?z_len ?z_list ?z_min ?z_ord ?z_repr ?z_sorted ?z_str ?z_sum ?v_MOST ?v_FIRST_VALUE ?v_FACTOR ?v_MODULUS ?v_SIDES ?lc_SIDES ?v_KINDS ?lc_KINDS ?g_BourseError ?g_InvalidAmount ?x_InvalidAmount ?k_InvalidAmount ?b_InvalidAmount ?t_InvalidAmount ?d_InvalidAmount ?s_InvalidAmount ?g_UnknownName ?x_UnknownName ?k_UnknownName ?b_UnknownName ?t_UnknownName ?d_UnknownName ?s_UnknownName ?g_DuplicateName ?x_DuplicateName ?k_DuplicateName ?b_DuplicateName ?t_DuplicateName ?d_DuplicateName ?s_DuplicateName ?g_InvalidOrder ?x_InvalidOrder ?k_InvalidOrder ?b_InvalidOrder ?t_InvalidOrder ?d_InvalidOrder ?s_InvalidOrder ?g_Unbalanced ?x_Unbalanced ?k_Unbalanced ?b_Unbalanced ?t_Unbalanced ?d_Unbalanced ?s_Unbalanced ?g_Overdrawn ?x_Overdrawn ?k_Overdrawn ?b_Overdrawn ?t_Overdrawn ?d_Overdrawn ?s_Overdrawn ?g_BrokenTape ?x_BrokenTape ?k_BrokenTape ?b_BrokenTape ?t_BrokenTape ?d_BrokenTape ?s_BrokenTape ?g_Order ?pg_Order ?hd_Order ?po_Order ?sa_Order ?ma_Order ?kc_Order ?eq_Order ?mo_Order ?na_Order_number ?na_Order_house ?na_Order_side ?na_Order_price ?na_Order_shown ?na_Order_left ?na_Order_visible ?g_Stop ?pg_Stop ?hd_Stop ?po_Stop ?sa_Stop ?ma_Stop ?kc_Stop ?eq_Stop ?mo_Stop ?na_Stop_number ?na_Stop_house ?na_Stop_side ?na_Stop_trigger ?na_Stop_price ?na_Stop_quantity ?g_BookSide ?pg_BookSide ?hd_BookSide ?po_BookSide ?sa_BookSide ?ma_BookSide ?kc_BookSide ?na_BookSide__orders ?g_Report ?pg_Report ?hd_Report ?po_Report ?sa_Report ?ma_Report ?kc_Report ?na_Report_number ?na_Report_house ?na_Report_side ?na_Report_fills ?na_Report_removed ?na_Report_resting ?g_Book ?pg_Book ?hd_Book ?po_Book ?sa_Book ?ma_Book ?kc_Book ?na_Book_last ?na_Book__next_number ?na_Book__sides ?na_Book__stops ?g_Ledger ?pg_Ledger ?hd_Ledger ?po_Ledger ?sa_Ledger ?ma_Ledger ?kc_Ledger ?na_Ledger__balances ?na_Ledger__may_owe ?na_Ledger__statements ?na_Ledger__entries ?g_Tape ?pg_Tape ?hd_Tape ?po_Tape ?sa_Tape ?ma_Tape ?kc_Tape ?na_Tape__texts ?na_Tape__lines
    (case g_BourseError => k_is)
    (case g_InvalidAmount => k_is)
    (case g_UnknownName => k_is)
    (case g_DuplicateName => k_is)
    (case g_InvalidOrder => k_is)
    (case g_Unbalanced => k_is)
    (case g_Overdrawn => k_is)
    (case g_BrokenTape => k_is)
    (case g_Order => k_is)
    (case g_Stop => k_is)
    (case g_BookSide => k_is)
    (case g_Report => k_is)
    (case g_Book => k_is)
    (case g_Ledger => k_is)
    (case g_Tape => k_is)
    (case a1 => k_is)
    (case l1 => k_is)
    (case c1 => k_is)
    (case k1 => k_is)
    (case a2 => k_is)
    (case l2 => k_is)
    (case c2 => k_is)
    (case k2 => k_is)
    (case a3 => k_is)
    (case l3 => k_is)
    (case c3 => k_is)
    (case k3 => k_is)
    (case a4 => k_is)
    (case l4 => k_is)
    (case c4 => k_is)
    (case k4 => k_is)
    (case a5 => k_is)
    (case l5 => k_is)
    (case c5 => k_is)
    (case k5 => k_is)
    (case a6 => k_is)
    (case l6 => k_is)
    (case c6 => k_is)
    (case k6 => k_is)
    (case a7 => k_is)
    (case l7 => k_is)
    (case c7 => k_is)
    (case k7 => k_is)
    (case a8 => k_is)
    (case l8 => k_is)
    (case c8 => k_is)
    (case k8 => k_is)
    (case a9 => k_is)
    (case l9 => k_is)
    (case c9 => k_is)
    (case k9 => k_is)
    (case a10 => k_is)
    (case l10 => k_is)
    (case c10 => k_is)
    (case k10 => k_is)
    (case a11 => k_is)
    (case l11 => k_is)
    (case c11 => k_is)
    (case k11 => k_is)
    (case a12 => k_is)
    (case i12 => k_is)
    (case l12 => k_is)
    (case c12 => k_is)
    (case k12 => k_is)
    (case a13 => k_is)
    (case i13 => k_is)
    (case l13 => k_is)
    (case c13 => k_is)
    (case k13 => k_is)
    (case a14 => k_is)
    (case i14 => k_is)
    (case l14 => k_is)
    (case c14 => k_is)
    (case k14 => k_is)
    (case a15 => k_is)
    (case i15 => k_is)
    (case l15 => k_is)
    (case c15 => k_is)
    (case k15 => k_is)
    (case a16 => k_is)
    (case i16 => k_is)
    (case l16 => k_is)
    (case c16 => k_is)
    (case k16 => k_is)
    (case a17 => k_is)
    (case i17 => k_is)
    (case l17 => k_is)
    (case c17 => k_is)
    (case k17 => k_is)
    (case a18 => k_is)
    (case i18 => k_is)
    (case l18 => k_is)
    (case c18 => k_is)
    (case k18 => k_is)
    (case a19 => k_is)
    (case i19 => k_is)
    (case l19 => k_is)
    (case c19 => k_is)
    (case k19 => k_is)
    (case a20 => k_is)
    (case i20 => k_is)
    (case l20 => k_is)
    (case c20 => k_is)
    (case k20 => k_is)
    (case a21 => k_is)
    (case i21 => k_is)
    (case l21 => k_is)
    (case c21 => k_is)
    (case k21 => k_is)
    (case a22 => k_is)
    (case i22 => k_is)
    (case l22 => k_is)
    (case c22 => k_is)
    (case k22 => k_is)
    (case a23 => k_is)
    (case i23 => k_is)
    (case l23 => k_is)
    (case c23 => k_is)
    (case k23 => k_is)
    (case a24 => k_is)
    (case i24 => k_is)
    (case l24 => k_is)
    (case c24 => k_is)
    (case k24 => k_is)
    (case a25 => k_is)
    (case i25 => k_is)
    (case l25 => k_is)
    (case c25 => k_is)
    (case k25 => k_is)
    (case a26 => k_is)
    (case i26 => k_is)
    (case l26 => k_is)
    (case c26 => k_is)
    (case k26 => k_is)
    (case a27 => k_is)
    (case i27 => k_is)
    (case l27 => k_is)
    (case c27 => k_is)
    (case k27 => k_is)
    (case a28 => k_is)
    (case i28 => k_is)
    (case l28 => k_is)
    (case c28 => k_is)
    (case k28 => k_is)
    (case a29 => k_is)
    (case i29 => k_is)
    (case l29 => k_is)
    (case lT29 => k_is)
    (case c29 => k_is)
    (case k29 => k_is)
    (case a30 => k_is)
    (case i30 => k_is)
    (case l30 => k_is)
    (case c30 => k_is)
    (case k30 => k_is)
    (case kd30_0 => k_is)
    (case kd30_1 => k_is)
    (case a31 => k_is)
    (case i31 => k_is)
    (case l31 => k_is)
    (case c31 => k_is)
    (case k31 => k_is)
    (case a32 => k_is)
    (case i32 => k_is)
    (case l32 => k_is)
    (case c32 => k_is)
    (case k32 => k_is)
    (case a33 => k_is)
    (case i33 => k_is)
    (case l33 => k_is)
    (case c33 => k_is)
    (case k33 => k_is)
    (case a34 => k_is)
    (case i34 => k_is)
    (case l34 => k_is)
    (case c34 => k_is)
    (case k34 => k_is)
    (case a35 => k_is)
    (case i35 => k_is)
    (case l35 => k_is)
    (case c35 => k_is)
    (case k35 => k_is)
    (case a36 => k_is)
    (case i36 => k_is)
    (case l36 => k_is)
    (case c36 => k_is)
    (case k36 => k_is)
    (case a37 => k_is)
    (case i37 => k_is)
    (case l37 => k_is)
    (case c37 => k_is)
    (case k37 => k_is)
    (case a38 => k_is)
    (case i38 => k_is)
    (case l38 => k_is)
    (case c38 => k_is)
    (case k38 => k_is)
    (case a39 => k_is)
    (case i39 => k_is)
    (case l39 => k_is)
    (case c39 => k_is)
    (case k39 => k_is)
    (case a40 => k_is)
    (case i40 => k_is)
    (case l40 => k_is)
    (case c40 => k_is)
    (case k40 => k_is)
    (case a41 => k_is)
    (case i41 => k_is)
    (case l41 => k_is)
    (case c41 => k_is)
    (case k41 => k_is)
    (case kd41_0 => k_is)
    (case a42 => k_is)
    (case i42 => k_is)
    (case l42 => k_is)
    (case c42 => k_is)
    (case k42 => k_is)
    (case a43 => k_is)
    (case i43 => k_is)
    (case l43 => k_is)
    (case c43 => k_is)
    (case k43 => k_is)
    (case a44 => k_is)
    (case i44 => k_is)
    (case l44 => k_is)
    (case c44 => k_is)
    (case k44 => k_is)
    (case a45 => k_is)
    (case i45 => k_is)
    (case l45 => k_is)
    (case c45 => k_is)
    (case k45 => k_is)
    (case a46 => k_is)
    (case i46 => k_is)
    (case l46 => k_is)
    (case c46 => k_is)
    (case k46 => k_is)
    (case a47 => k_is)
    (case i47 => k_is)
    (case l47 => k_is)
    (case c47 => k_is)
    (case k47 => k_is)
    (case a48 => k_is)
    (case i48 => k_is)
    (case l48 => k_is)
    (case c48 => k_is)
    (case k48 => k_is)
    (case a49 => k_is)
    (case i49 => k_is)
    (case l49 => k_is)
    (case c49 => k_is)
    (case k49 => k_is)
    (case a50 => k_is)
    (case l50 => k_is)
    (case c50 => k_is)
    (case k50 => k_is)
    (case a51 => k_is)
    (case l51 => k_is)
    (case c51 => k_is)
    (case k51 => k_is)
    (case a52 => k_is)
    (case l52 => k_is)
    (case c52 => k_is)
    (case k52 => k_is)
    (case a53 => k_is)
    (case i53 => k_is)
    (case l53 => k_is)
    (case c53 => k_is)
    (case k53 => k_is)
    (case a54 => k_is)
    (case i54 => k_is)
    (case l54 => k_is)
    (case c54 => k_is)
    (case k54 => k_is)
    (case a55 => k_is)
    (case i55 => k_is)
    (case l55 => k_is)
    (case c55 => k_is)
    (case k55 => k_is)
    (case a56 => k_is)
    (case l56 => k_is)
    (case c56 => k_is)
    (case k56 => k_is)
    (case a57 => k_is)
    (case l57 => k_is)
    (case c57 => k_is)
    (case k57 => k_is)
    (case a58 => k_is)
    (case l58 => k_is)
    (case c58 => k_is)
    (case k58 => k_is)
    (case a59 => k_is)
    (case l59 => k_is)
    (case c59 => k_is)
    (case k59 => k_is)
    (case a60 => k_is)
    (case l60 => k_is)
    (case c60 => k_is)
    (case k60 => k_is)
    (case a61 => k_is)
    (case l61 => k_is)
    (case c61 => k_is)
    (case k61 => k_is)
    (case a62 => k_is)
    (case l62 => k_is)
    (case c62 => k_is)
    (case k62 => k_is)
    (case z_all => k_is)
    (case z_bool => k_is)
    (case z_int => k_is)
    (case z_isinstance => k_is)
    (case z_len => k_is)
    (case z_list => k_is)
    (case z_min => k_is)
    (case z_ord => k_is)
    (case z_repr => k_is)
    (case z_sorted => k_is)
    (case z_str => k_is)
    (case z_sum => k_is)
    (case v_MOST => k_is)
    (case v_FIRST_VALUE => k_is)
    (case v_FACTOR => k_is)
    (case v_MODULUS => k_is)
    (case v_SIDES => k_is)
    (case lc_SIDES => k_is)
    (case v_KINDS => k_is)
    (case lc_KINDS => k_is)
    (case x_InvalidAmount => k_exc)
    (case k_InvalidAmount => k_is)
    (case b_InvalidAmount => k_is)
    (case t_InvalidAmount => k_is)
    (case d_InvalidAmount => k_is)
    (case s_InvalidAmount => first | rfl | k_is)
    (case x_UnknownName => k_exc)
    (case k_UnknownName => k_is)
    (case b_UnknownName => k_is)
    (case t_UnknownName => k_is)
    (case d_UnknownName => k_is)
    (case s_UnknownName => first | rfl | k_is)
    (case x_DuplicateName => k_exc)
    (case k_DuplicateName => k_is)
    (case b_DuplicateName => k_is)
    (case t_DuplicateName => k_is)
    (case d_DuplicateName => k_is)
    (case s_DuplicateName => first | rfl | k_is)
    (case x_InvalidOrder => k_exc)
    (case k_InvalidOrder => k_is)
    (case b_InvalidOrder => k_is)
    (case t_InvalidOrder => k_is)
    (case d_InvalidOrder => k_is)
    (case s_InvalidOrder => first | rfl | k_is)
    (case x_Unbalanced => k_exc)
    (case k_Unbalanced => k_is)
    (case b_Unbalanced => k_is)
    (case t_Unbalanced => k_is)
    (case d_Unbalanced => k_is)
    (case s_Unbalanced => first | rfl | k_is)
    (case x_Overdrawn => k_exc)
    (case k_Overdrawn => k_is)
    (case b_Overdrawn => k_is)
    (case t_Overdrawn => k_is)
    (case d_Overdrawn => k_is)
    (case s_Overdrawn => first | rfl | k_is)
    (case x_BrokenTape => k_exc)
    (case k_BrokenTape => k_is)
    (case b_BrokenTape => k_is)
    (case t_BrokenTape => k_is)
    (case d_BrokenTape => k_is)
    (case s_BrokenTape => first | rfl | k_is)
    (case pg_Order => k_is)
    (case hd_Order => k_is)
    (case po_Order => k_is)
    (case sa_Order => k_is)
    (case ma_Order => k_is)
    (case kc_Order => k_is)
    (case eq_Order => k_is)
    (case mo_Order => k_is)
    (case na_Order_number => k_is)
    (case na_Order_house => k_is)
    (case na_Order_side => k_is)
    (case na_Order_price => k_is)
    (case na_Order_shown => k_is)
    (case na_Order_left => k_is)
    (case na_Order_visible => k_is)
    (case pg_Stop => k_is)
    (case hd_Stop => k_is)
    (case po_Stop => k_is)
    (case sa_Stop => k_is)
    (case ma_Stop => k_is)
    (case kc_Stop => k_is)
    (case eq_Stop => k_is)
    (case mo_Stop => k_is)
    (case na_Stop_number => k_is)
    (case na_Stop_house => k_is)
    (case na_Stop_side => k_is)
    (case na_Stop_trigger => k_is)
    (case na_Stop_price => k_is)
    (case na_Stop_quantity => k_is)
    (case pg_BookSide => k_is)
    (case hd_BookSide => k_is)
    (case po_BookSide => k_is)
    (case sa_BookSide => k_is)
    (case ma_BookSide => k_is)
    (case kc_BookSide => k_is)
    (case na_BookSide__orders => k_is)
    (case pg_Report => k_is)
    (case hd_Report => k_is)
    (case po_Report => k_is)
    (case sa_Report => k_is)
    (case ma_Report => k_is)
    (case kc_Report => k_is)
    (case na_Report_number => k_is)
    (case na_Report_house => k_is)
    (case na_Report_side => k_is)
    (case na_Report_fills => k_is)
    (case na_Report_removed => k_is)
    (case na_Report_resting => k_is)
    (case pg_Book => k_is)
    (case hd_Book => k_is)
    (case po_Book => k_is)
    (case sa_Book => k_is)
    (case ma_Book => k_is)
    (case kc_Book => k_is)
    (case na_Book_last => k_is)
    (case na_Book__next_number => k_is)
    (case na_Book__sides => k_is)
    (case na_Book__stops => k_is)
    (case pg_Ledger => k_is)
    (case hd_Ledger => k_is)
    (case po_Ledger => k_is)
    (case sa_Ledger => k_is)
    (case ma_Ledger => k_is)
    (case kc_Ledger => k_is)
    (case na_Ledger__balances => k_is)
    (case na_Ledger__may_owe => k_is)
    (case na_Ledger__statements => k_is)
    (case na_Ledger__entries => k_is)
    (case pg_Tape => k_is)
    (case hd_Tape => k_is)
    (case po_Tape => k_is)
    (case sa_Tape => k_is)
    (case ma_Tape => k_is)
    (case kc_Tape => k_is)
    (case na_Tape__texts => k_is)
    (case na_Tape__lines => k_is)
