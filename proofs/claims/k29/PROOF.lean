import PyProof.Rows.All
import Wide.All
import OpenK.AllK
import Wide.FinOn
import HandS.ForMost
import HandS.ForExc
import HandS.Defaults
import HandS.IsInst
import HandS.Wide
import HandS.Codes
import HandS.Walk
import HandS.SetFor
import HandS.More
import HandS.Conv
import KE.DataFind
import HandS.ExcIs
import HandS.MakeKwOnly
import HandS.CallSlots
import HandS.Lambda
import HandS.EndTab
import HandS.Strs
import PyProof.Rows.SetFrom
import KE.DataMinMax
import HandS.Deep
import HandS.SortKw
import KE.SortKeyHeap
import HandS.ListItems
import HandS.OwnEq
import PySem.Challenge.RW_fairbourse_k29_book_with_stops_whole_mod
set_option Elab.async false
set_option linter.all false
set_option maxRecDepth 100000
namespace FB
open PySem PySem.Spec PyProof.Rows L2
def topS (i : Nat) : Stmt := PySem.Challenge.pw_fairbourse_k29_book_with_stops_whole_mod.main.body.getD i (.Pass ⟨0, 0, 0, 0⟩)
abbrev s_is_integral : Stmt := topS 7
abbrev N_is_integral : List Str := ["value"]
theorem sc_is_integral : FnScope N_is_integral ["value"] (defScope s_is_integral) := ⟨rfl, rfl, rfl, by decide +kernel, rfl, by decide +kernel, by decide +kernel⟩
abbrev s_is_within : Stmt := topS 8
abbrev N_is_within : List Str := ["least", "most", "value"]
theorem sc_is_within : FnScope N_is_within ["least", "most", "value"] (defScope s_is_within) := ⟨rfl, rfl, rfl, by decide +kernel, rfl, by decide +kernel, by decide +kernel⟩
abbrev s_other_side : Stmt := topS 13
abbrev N_other_side : List Str := ["side"]
theorem sc_other_side : FnScope N_other_side ["side"] (defScope s_other_side) := ⟨rfl, rfl, rfl, by decide +kernel, rfl, by decide +kernel, by decide +kernel⟩
abbrev s_accepts : Stmt := topS 14
abbrev N_accepts : List Str := ["side", "limit", "price"]
theorem sc_accepts : FnScope N_accepts ["side", "limit", "price"] (defScope s_accepts) := ⟨rfl, rfl, rfl, by decide +kernel, rfl, by decide +kernel, by decide +kernel⟩
abbrev s_check_house : Stmt := topS 15
abbrev N_check_house : List Str := ["house"]
theorem sc_check_house : FnScope N_check_house ["house"] (defScope s_check_house) := ⟨rfl, rfl, rfl, by decide +kernel, rfl, by decide +kernel, by decide +kernel⟩
abbrev s_check_side : Stmt := topS 16
abbrev N_check_side : List Str := ["side"]
theorem sc_check_side : FnScope N_check_side ["side"] (defScope s_check_side) := ⟨rfl, rfl, rfl, by decide +kernel, rfl, by decide +kernel, by decide +kernel⟩
abbrev s_check_number : Stmt := topS 17
abbrev N_check_number : List Str := ["number", "least", "most"]
theorem sc_check_number : FnScope N_check_number ["number", "least", "most"] (defScope s_check_number) := ⟨rfl, rfl, rfl, by decide +kernel, rfl, by decide +kernel, by decide +kernel⟩
abbrev s_check_price : Stmt := topS 18
abbrev N_check_price : List Str := ["price"]
theorem sc_check_price : FnScope N_check_price ["price"] (defScope s_check_price) := ⟨rfl, rfl, rfl, by decide +kernel, rfl, by decide +kernel, by decide +kernel⟩
abbrev s_check_quantity : Stmt := topS 19
abbrev N_check_quantity : List Str := ["quantity"]
theorem sc_check_quantity : FnScope N_check_quantity ["quantity"] (defScope s_check_quantity) := ⟨rfl, rfl, rfl, by decide +kernel, rfl, by decide +kernel, by decide +kernel⟩
abbrev s_check_order : Stmt := topS 20
abbrev N_check_order : List Str := ["house", "side", "price", "quantity", "kind", "shown"]
theorem sc_check_order : FnScope N_check_order ["house", "side", "price", "quantity", "kind", "shown"] (defScope s_check_order) := ⟨rfl, rfl, rfl, by decide +kernel, rfl, by decide +kernel, by decide +kernel⟩
abbrev s_check_stop : Stmt := topS 21
abbrev N_check_stop : List Str := ["house", "side", "trigger", "price", "quantity"]
theorem sc_check_stop : FnScope N_check_stop ["house", "side", "trigger", "price", "quantity"] (defScope s_check_stop) := ⟨rfl, rfl, rfl, by decide +kernel, rfl, by decide +kernel, by decide +kernel⟩
abbrev s_Order_init : Stmt := inClass (topS 23) 0
abbrev N_Order_init : List Str := ["self", "number", "house", "side", "price", "quantity", "shown"]
theorem sc_Order_init : FnScope N_Order_init ["self", "number", "house", "side", "price", "quantity", "shown"] (defScope s_Order_init) := ⟨rfl, rfl, rfl, by decide +kernel, rfl, by decide +kernel, by decide +kernel⟩
abbrev s_Order_accepts_price : Stmt := inClass (topS 23) 1
abbrev N_Order_accepts_price : List Str := ["self", "price"]
theorem sc_Order_accepts_price : FnScope N_Order_accepts_price ["self", "price"] (defScope s_Order_accepts_price) := ⟨rfl, rfl, rfl, by decide +kernel, rfl, by decide +kernel, by decide +kernel⟩
abbrev s_Order_show_next_part : Stmt := inClass (topS 23) 2
abbrev N_Order_show_next_part : List Str := ["self"]
theorem sc_Order_show_next_part : FnScope N_Order_show_next_part ["self"] (defScope s_Order_show_next_part) := ⟨rfl, rfl, rfl, by decide +kernel, rfl, by decide +kernel, by decide +kernel⟩
abbrev s_Order_trade_visible : Stmt := inClass (topS 23) 3
abbrev N_Order_trade_visible : List Str := ["self", "quantity"]
theorem sc_Order_trade_visible : FnScope N_Order_trade_visible ["self", "quantity"] (defScope s_Order_trade_visible) := ⟨rfl, rfl, rfl, by decide +kernel, rfl, by decide +kernel, by decide +kernel⟩
abbrev s_Order_reduce : Stmt := inClass (topS 23) 4
abbrev N_Order_reduce : List Str := ["self", "quantity"]
theorem sc_Order_reduce : FnScope N_Order_reduce ["self", "quantity"] (defScope s_Order_reduce) := ⟨rfl, rfl, rfl, by decide +kernel, rfl, by decide +kernel, by decide +kernel⟩
abbrev s_Stop_init : Stmt := inClass (topS 24) 0
abbrev N_Stop_init : List Str := ["self", "number", "house", "side", "trigger", "price", "quantity"]
theorem sc_Stop_init : FnScope N_Stop_init ["self", "number", "house", "side", "trigger", "price", "quantity"] (defScope s_Stop_init) := ⟨rfl, rfl, rfl, by decide +kernel, rfl, by decide +kernel, by decide +kernel⟩
abbrev s_Stop_is_reached : Stmt := inClass (topS 24) 1
abbrev N_Stop_is_reached : List Str := ["self", "last"]
theorem sc_Stop_is_reached : FnScope N_Stop_is_reached ["self", "last"] (defScope s_Stop_is_reached) := ⟨rfl, rfl, rfl, by decide +kernel, rfl, by decide +kernel, by decide +kernel⟩
abbrev s_Stop_row : Stmt := inClass (topS 24) 2
abbrev N_Stop_row : List Str := ["self"]
theorem sc_Stop_row : FnScope N_Stop_row ["self"] (defScope s_Stop_row) := ⟨rfl, rfl, rfl, by decide +kernel, rfl, by decide +kernel, by decide +kernel⟩
abbrev s_BookSide_init : Stmt := inClass (topS 25) 0
abbrev N_BookSide_init : List Str := ["self"]
theorem sc_BookSide_init : FnScope N_BookSide_init ["self"] (defScope s_BookSide_init) := ⟨rfl, rfl, rfl, by decide +kernel, rfl, by decide +kernel, by decide +kernel⟩
abbrev s_BookSide_rows : Stmt := inClass (topS 25) 1
abbrev N_BookSide_rows : List Str := ["self", "order"]
theorem sc_BookSide_rows : FnScope N_BookSide_rows ["self"] (defScope s_BookSide_rows) := ⟨rfl, rfl, rfl, by decide +kernel, rfl, by decide +kernel, by decide +kernel⟩
abbrev s_BookSide_first : Stmt := inClass (topS 25) 4
abbrev N_BookSide_first : List Str := ["self"]
theorem sc_BookSide_first : FnScope N_BookSide_first ["self"] (defScope s_BookSide_first) := ⟨rfl, rfl, rfl, by decide +kernel, rfl, by decide +kernel, by decide +kernel⟩
abbrev s_BookSide_with_number : Stmt := inClass (topS 25) 5
abbrev N_BookSide_with_number : List Str := ["self", "number", "order"]
theorem sc_BookSide_with_number : FnScope N_BookSide_with_number ["self", "number"] (defScope s_BookSide_with_number) := ⟨rfl, rfl, rfl, by decide +kernel, rfl, by decide +kernel, by decide +kernel⟩
abbrev s_BookSide_available : Stmt := inClass (topS 25) 6
abbrev N_BookSide_available : List Str := ["self", "taker", "lefts", "order"]
theorem sc_BookSide_available : FnScope N_BookSide_available ["self", "taker"] (defScope s_BookSide_available) := ⟨rfl, rfl, rfl, by decide +kernel, rfl, by decide +kernel, by decide +kernel⟩
abbrev s_BookSide_enter : Stmt := inClass (topS 25) 7
abbrev N_BookSide_enter : List Str := ["self", "order"]
theorem sc_BookSide_enter : FnScope N_BookSide_enter ["self", "order"] (defScope s_BookSide_enter) := ⟨rfl, rfl, rfl, by decide +kernel, rfl, by decide +kernel, by decide +kernel⟩
abbrev s_BookSideplace_behind : Stmt := inClass (topS 25) 8
abbrev N_BookSideplace_behind : List Str := ["self", "order", "low", "high", "middle"]
theorem sc_BookSideplace_behind : FnScope N_BookSideplace_behind ["self", "order"] (defScope s_BookSideplace_behind) := ⟨rfl, rfl, rfl, by decide +kernel, rfl, by decide +kernel, by decide +kernel⟩
abbrev s_BookSide_leave : Stmt := inClass (topS 25) 9
abbrev N_BookSide_leave : List Str := ["self", "order"]
theorem sc_BookSide_leave : FnScope N_BookSide_leave ["self", "order"] (defScope s_BookSide_leave) := ⟨rfl, rfl, rfl, by decide +kernel, rfl, by decide +kernel, by decide +kernel⟩
abbrev s_BookSide_trade_first : Stmt := inClass (topS 25) 10
abbrev N_BookSide_trade_first : List Str := ["self", "quantity", "first"]
theorem sc_BookSide_trade_first : FnScope N_BookSide_trade_first ["self", "quantity"] (defScope s_BookSide_trade_first) := ⟨rfl, rfl, rfl, by decide +kernel, rfl, by decide +kernel, by decide +kernel⟩
abbrev s_Report_init : Stmt := inClass (topS 27) 0
abbrev N_Report_init : List Str := ["self", "number", "house", "side"]
theorem sc_Report_init : FnScope N_Report_init ["self", "number", "house", "side"] (defScope s_Report_init) := ⟨rfl, rfl, rfl, by decide +kernel, rfl, by decide +kernel, by decide +kernel⟩
abbrev s_Book_init : Stmt := inClass (topS 28) 0
abbrev N_Book_init : List Str := ["self", "first_number"]
theorem sc_Book_init : FnScope N_Book_init ["self", "first_number"] (defScope s_Book_init) := ⟨rfl, rfl, rfl, by decide +kernel, rfl, by decide +kernel, by decide +kernel⟩
abbrev s_Book_submit : Stmt := inClass (topS 28) 1
abbrev N_Book_submit : List Str := ["self", "house", "side", "price", "quantity", "kind", "shown", "order", "report"]
theorem sc_Book_submit : FnScope N_Book_submit ["self", "house", "side", "price", "quantity", "kind", "shown"] (defScope s_Book_submit) := ⟨rfl, rfl, rfl, by decide +kernel, rfl, by decide +kernel, by decide +kernel⟩
abbrev s_Book_submit_stop : Stmt := inClass (topS 28) 2
abbrev N_Book_submit_stop : List Str := ["self", "house", "side", "trigger", "price", "quantity", "stop"]
theorem sc_Book_submit_stop : FnScope N_Book_submit_stop ["self", "house", "side", "trigger", "price", "quantity"] (defScope s_Book_submit_stop) := ⟨rfl, rfl, rfl, by decide +kernel, rfl, by decide +kernel, by decide +kernel⟩
abbrev s_Book_place : Stmt := inClass (topS 28) 3
abbrev N_Book_place : List Str := ["self", "number", "house", "side", "price", "quantity", "best"]
theorem sc_Book_place : FnScope N_Book_place ["self", "number", "house", "side", "price", "quantity"] (defScope s_Book_place) := ⟨rfl, rfl, rfl, by decide +kernel, rfl, by decide +kernel, by decide +kernel⟩
abbrev s_Book_cancel : Stmt := inClass (topS 28) 4
abbrev N_Book_cancel : List Str := ["self", "number", "house", "stop", "order"]
theorem sc_Book_cancel : FnScope N_Book_cancel ["self", "number", "house"] (defScope s_Book_cancel) := ⟨rfl, rfl, rfl, by decide +kernel, rfl, by decide +kernel, by decide +kernel⟩
abbrev s_Book_amend : Stmt := inClass (topS 28) 5
abbrev N_Book_amend : List Str := ["self", "number", "house", "price", "quantity", "order", "report"]
theorem sc_Book_amend : FnScope N_Book_amend ["self", "number", "house", "price", "quantity"] (defScope s_Book_amend) := ⟨rfl, rfl, rfl, by decide +kernel, rfl, by decide +kernel, by decide +kernel⟩
abbrev s_Book_orders : Stmt := inClass (topS 28) 6
abbrev N_Book_orders : List Str := ["self", "side"]
theorem sc_Book_orders : FnScope N_Book_orders ["self", "side"] (defScope s_Book_orders) := ⟨rfl, rfl, rfl, by decide +kernel, rfl, by decide +kernel, by decide +kernel⟩
abbrev s_Book_stops : Stmt := inClass (topS 28) 7
abbrev N_Book_stops : List Str := ["self", "stop"]
theorem sc_Book_stops : FnScope N_Book_stops ["self"] (defScope s_Book_stops) := ⟨rfl, rfl, rfl, by decide +kernel, rfl, by decide +kernel, by decide +kernel⟩
abbrev s_Book_best : Stmt := inClass (topS 28) 8
abbrev N_Book_best : List Str := ["self", "side", "first"]
theorem sc_Book_best : FnScope N_Book_best ["self", "side"] (defScope s_Book_best) := ⟨rfl, rfl, rfl, by decide +kernel, rfl, by decide +kernel, by decide +kernel⟩
abbrev s_Booktake_number : Stmt := inClass (topS 28) 11
abbrev N_Booktake_number : List Str := ["self", "number"]
theorem sc_Booktake_number : FnScope N_Booktake_number ["self"] (defScope s_Booktake_number) := ⟨rfl, rfl, rfl, by decide +kernel, rfl, by decide +kernel, by decide +kernel⟩
abbrev s_Bookenter : Stmt := inClass (topS 28) 12
abbrev N_Bookenter : List Str := ["self", "order", "kind", "report", "across", "first", "quantity"]
theorem sc_Bookenter : FnScope N_Bookenter ["self", "order", "kind"] (defScope s_Bookenter) := ⟨rfl, rfl, rfl, by decide +kernel, rfl, by decide +kernel, by decide +kernel⟩
abbrev s_Bookreduce : Stmt := inClass (topS 28) 13
abbrev N_Bookreduce : List Str := ["self", "order", "quantity", "report"]
theorem sc_Bookreduce : FnScope N_Bookreduce ["self", "order", "quantity"] (defScope s_Bookreduce) := ⟨rfl, rfl, rfl, by decide +kernel, rfl, by decide +kernel, by decide +kernel⟩
abbrev s_Bookenter_again : Stmt := inClass (topS 28) 14
abbrev N_Bookenter_again : List Str := ["self", "order", "price", "quantity", "shown"]
theorem sc_Bookenter_again : FnScope N_Bookenter_again ["self", "order", "price", "quantity"] (defScope s_Bookenter_again) := ⟨rfl, rfl, rfl, by decide +kernel, rfl, by decide +kernel, by decide +kernel⟩
abbrev s_Bookorder_of : Stmt := inClass (topS 28) 15
abbrev N_Bookorder_of : List Str := ["self", "number", "house", "order"]
theorem sc_Bookorder_of : FnScope N_Bookorder_of ["self", "number", "house"] (defScope s_Bookorder_of) := ⟨rfl, rfl, rfl, by decide +kernel, rfl, by decide +kernel, by decide +kernel⟩
abbrev s_Bookorder_with : Stmt := inClass (topS 28) 16
abbrev N_Bookorder_with : List Str := ["self", "number", "order"]
theorem sc_Bookorder_with : FnScope N_Bookorder_with ["self", "number"] (defScope s_Bookorder_with) := ⟨rfl, rfl, rfl, by decide +kernel, rfl, by decide +kernel, by decide +kernel⟩
abbrev s_Bookstop_with : Stmt := inClass (topS 28) 17
abbrev N_Bookstop_with : List Str := ["self", "number", "stop"]
theorem sc_Bookstop_with : FnScope N_Bookstop_with ["self", "number"] (defScope s_Bookstop_with) := ⟨rfl, rfl, rfl, by decide +kernel, rfl, by decide +kernel, by decide +kernel⟩
abbrev s_Booktrigger_stops : Stmt := inClass (topS 28) 18
abbrev N_Booktrigger_stops : List Str := ["self", "reports", "stop", "kind", "order"]
theorem sc_Booktrigger_stops : FnScope N_Booktrigger_stops ["self"] (defScope s_Booktrigger_stops) := ⟨rfl, rfl, rfl, by decide +kernel, rfl, by decide +kernel, by decide +kernel⟩
abbrev s_Bookfirst_reached : Stmt := inClass (topS 28) 19
abbrev N_Bookfirst_reached : List Str := ["self", "stop"]
theorem sc_Bookfirst_reached : FnScope N_Bookfirst_reached ["self"] (defScope s_Bookfirst_reached) := ⟨rfl, rfl, rfl, by decide +kernel, rfl, by decide +kernel, by decide +kernel⟩
abbrev s_law_house : Stmt := topS 30
abbrev N_law_house : List Str := ["cell"]
theorem sc_law_house : FnScope N_law_house ["cell"] (defScope s_law_house) := ⟨rfl, rfl, rfl, by decide +kernel, rfl, by decide +kernel, by decide +kernel⟩
abbrev s_law_resting_side : Stmt := topS 31
abbrev N_law_resting_side : List Str := ["side"]
theorem sc_law_resting_side : FnScope N_law_resting_side ["side"] (defScope s_law_resting_side) := ⟨rfl, rfl, rfl, by decide +kernel, rfl, by decide +kernel, by decide +kernel⟩
abbrev s_law_fits : Stmt := topS 32
abbrev N_law_fits : List Str := ["side", "limit", "price"]
theorem sc_law_fits : FnScope N_law_fits ["side", "limit", "price"] (defScope s_law_fits) := ⟨rfl, rfl, rfl, by decide +kernel, rfl, by decide +kernel, by decide +kernel⟩
abbrev s_law_first : Stmt := topS 33
abbrev N_law_first : List Str := ["orders", "side", "limit", "best", "order"]
theorem sc_law_first : FnScope N_law_first ["orders", "side", "limit"] (defScope s_law_first) := ⟨rfl, rfl, rfl, by decide +kernel, rfl, by decide +kernel, by decide +kernel⟩
abbrev s_law_visible : Stmt := topS 34
abbrev N_law_visible : List Str := ["left", "shown"]
theorem sc_law_visible : FnScope N_law_visible ["left", "shown"] (defScope s_law_visible) := ⟨rfl, rfl, rfl, by decide +kernel, rfl, by decide +kernel, by decide +kernel⟩
abbrev s_law_trade : Stmt := topS 35
abbrev N_law_trade : List Str := ["orders", "house", "side", "limit", "quantity", "fills", "removed", "left", "step", "first", "traded"]
theorem sc_law_trade : FnScope N_law_trade ["orders", "house", "side", "limit", "quantity"] (defScope s_law_trade) := ⟨rfl, rfl, rfl, by decide +kernel, rfl, by decide +kernel, by decide +kernel⟩
abbrev s_law_available : Stmt := topS 36
abbrev N_law_available : List Str := ["orders", "house", "side", "limit", "total", "order"]
theorem sc_law_available : FnScope N_law_available ["orders", "house", "side", "limit"] (defScope s_law_available) := ⟨rfl, rfl, rfl, by decide +kernel, rfl, by decide +kernel, by decide +kernel⟩
abbrev s_law_enter : Stmt := topS 37
abbrev N_law_enter : List Str := ["orders", "number", "house", "side", "limit", "quantity", "kind", "shown", "fills", "removed", "left"]
theorem sc_law_enter : FnScope N_law_enter ["orders", "number", "house", "side", "limit", "quantity", "kind", "shown"] (defScope s_law_enter) := ⟨rfl, rfl, rfl, by decide +kernel, rfl, by decide +kernel, by decide +kernel⟩
abbrev s_law_listed : Stmt := topS 38
abbrev N_law_listed : List Str := ["orders", "side", "kept", "order", "rows", "step", "first"]
theorem sc_law_listed : FnScope N_law_listed ["orders", "side"] (defScope s_law_listed) := ⟨rfl, rfl, rfl, by decide +kernel, rfl, by decide +kernel, by decide +kernel⟩
abbrev s_law_reached : Stmt := topS 39
abbrev N_law_reached : List Str := ["stop", "last"]
theorem sc_law_reached : FnScope N_law_reached ["stop", "last"] (defScope s_law_reached) := ⟨rfl, rfl, rfl, by decide +kernel, rfl, by decide +kernel, by decide +kernel⟩
abbrev s_law_last : Stmt := topS 40
abbrev N_law_last : List Str := ["last", "due"]
theorem sc_law_last : FnScope N_law_last ["last", "due"] (defScope s_law_last) := ⟨rfl, rfl, rfl, by decide +kernel, rfl, by decide +kernel, by decide +kernel⟩
abbrev s_law_triggered : Stmt := topS 41
abbrev N_law_triggered : List Str := ["world", "rows", "step", "ready", "stop", "other", "kind", "due"]
theorem sc_law_triggered : FnScope N_law_triggered ["world"] (defScope s_law_triggered) := ⟨rfl, rfl, rfl, by decide +kernel, rfl, by decide +kernel, by decide +kernel⟩
abbrev s_law_told : Stmt := topS 42
abbrev N_law_told : List Str := ["reports", "rows", "report"]
theorem sc_law_told : FnScope N_law_told ["reports"] (defScope s_law_told) := ⟨rfl, rfl, rfl, by decide +kernel, rfl, by decide +kernel, by decide +kernel⟩
abbrev s_law_submit : Stmt := topS 43
abbrev N_law_submit : List Str := ["book", "world", "cell", "number", "house", "side", "limit", "quantity", "trigger", "reports", "due", "kind", "shown"]
theorem sc_law_submit : FnScope N_law_submit ["book", "world", "cell", "number"] (defScope s_law_submit) := ⟨rfl, rfl, rfl, by decide +kernel, rfl, by decide +kernel, by decide +kernel⟩
abbrev s_law_cancel : Stmt := topS 44
abbrev N_law_cancel : List Str := ["book", "world", "cell", "stops", "orders", "place", "stop", "order"]
theorem sc_law_cancel : FnScope N_law_cancel ["book", "world", "cell"] (defScope s_law_cancel) := ⟨rfl, rfl, rfl, by decide +kernel, rfl, by decide +kernel, by decide +kernel⟩
abbrev s_law_amend : Stmt := topS 45
abbrev N_law_amend : List Str := ["book", "world", "cell", "orders", "order", "price", "quantity", "reports", "due"]
theorem sc_law_amend : FnScope N_law_amend ["book", "world", "cell"] (defScope s_law_amend) := ⟨rfl, rfl, rfl, by decide +kernel, rfl, by decide +kernel, by decide +kernel⟩
abbrev s_law : Stmt := topS 46
abbrev N_law : List Str := ["script", "book", "world", "number", "cell", "step", "right", "side"]
theorem sc_law : FnScope N_law ["script"] (defScope s_law) := ⟨rfl, rfl, rfl, by decide +kernel, rfl, by decide +kernel, by decide +kernel⟩
set_option maxHeartbeats 0 in
structure Txt (K : PySem.W.Frag) (mg : Str → Option Value) where
  f_is_integral : Addr
  d_is_integral : FuncData
  F_is_integral : Fun K "is_integral" "is_integral" s_is_integral f_is_integral d_is_integral
  m_is_integral : mg "is_integral" = some (.ref f_is_integral)
  b_is_integral : Binds K d_is_integral ["value"] []
  f_is_within : Addr
  d_is_within : FuncData
  F_is_within : Fun K "is_within" "is_within" s_is_within f_is_within d_is_within
  m_is_within : mg "is_within" = some (.ref f_is_within)
  b_is_within : Binds K d_is_within ["least", "most", "value"] []
  f_other_side : Addr
  d_other_side : FuncData
  F_other_side : Fun K "other_side" "other_side" s_other_side f_other_side d_other_side
  m_other_side : mg "other_side" = some (.ref f_other_side)
  b_other_side : Binds K d_other_side ["side"] []
  f_accepts : Addr
  d_accepts : FuncData
  F_accepts : Fun K "accepts" "accepts" s_accepts f_accepts d_accepts
  m_accepts : mg "accepts" = some (.ref f_accepts)
  b_accepts : Binds K d_accepts ["side", "limit", "price"] []
  f_check_house : Addr
  d_check_house : FuncData
  F_check_house : Fun K "check_house" "check_house" s_check_house f_check_house d_check_house
  m_check_house : mg "check_house" = some (.ref f_check_house)
  b_check_house : Binds K d_check_house ["house"] []
  f_check_side : Addr
  d_check_side : FuncData
  F_check_side : Fun K "check_side" "check_side" s_check_side f_check_side d_check_side
  m_check_side : mg "check_side" = some (.ref f_check_side)
  b_check_side : Binds K d_check_side ["side"] []
  f_check_number : Addr
  d_check_number : FuncData
  F_check_number : Fun K "check_number" "check_number" s_check_number f_check_number d_check_number
  m_check_number : mg "check_number" = some (.ref f_check_number)
  b_check_number : Binds K d_check_number ["number", "least", "most"] []
  f_check_price : Addr
  d_check_price : FuncData
  F_check_price : Fun K "check_price" "check_price" s_check_price f_check_price d_check_price
  m_check_price : mg "check_price" = some (.ref f_check_price)
  b_check_price : Binds K d_check_price ["price"] []
  f_check_quantity : Addr
  d_check_quantity : FuncData
  F_check_quantity : Fun K "check_quantity" "check_quantity" s_check_quantity f_check_quantity d_check_quantity
  m_check_quantity : mg "check_quantity" = some (.ref f_check_quantity)
  b_check_quantity : Binds K d_check_quantity ["quantity"] []
  f_check_order : Addr
  d_check_order : FuncData
  F_check_order : Fun K "check_order" "check_order" s_check_order f_check_order d_check_order
  m_check_order : mg "check_order" = some (.ref f_check_order)
  b_check_order : Binds K d_check_order ["house", "side", "price", "quantity", "kind", "shown"] []
  f_check_stop : Addr
  d_check_stop : FuncData
  F_check_stop : Fun K "check_stop" "check_stop" s_check_stop f_check_stop d_check_stop
  m_check_stop : mg "check_stop" = some (.ref f_check_stop)
  b_check_stop : Binds K d_check_stop ["house", "side", "trigger", "price", "quantity"] []
  f_Order_init : Addr
  d_Order_init : FuncData
  F_Order_init : Fun K "__init__" "Order.__init__" s_Order_init f_Order_init d_Order_init
  b_Order_init : Binds K d_Order_init ["self", "number", "house", "side", "price", "quantity", "shown"] []
  f_Order_accepts_price : Addr
  d_Order_accepts_price : FuncData
  F_Order_accepts_price : Fun K "accepts_price" "Order.accepts_price" s_Order_accepts_price f_Order_accepts_price d_Order_accepts_price
  b_Order_accepts_price : Binds K d_Order_accepts_price ["self", "price"] []
  f_Order_show_next_part : Addr
  d_Order_show_next_part : FuncData
  F_Order_show_next_part : Fun K "show_next_part" "Order.show_next_part" s_Order_show_next_part f_Order_show_next_part d_Order_show_next_part
  b_Order_show_next_part : Binds K d_Order_show_next_part ["self"] []
  f_Order_trade_visible : Addr
  d_Order_trade_visible : FuncData
  F_Order_trade_visible : Fun K "trade_visible" "Order.trade_visible" s_Order_trade_visible f_Order_trade_visible d_Order_trade_visible
  b_Order_trade_visible : Binds K d_Order_trade_visible ["self", "quantity"] []
  f_Order_reduce : Addr
  d_Order_reduce : FuncData
  F_Order_reduce : Fun K "reduce" "Order.reduce" s_Order_reduce f_Order_reduce d_Order_reduce
  b_Order_reduce : Binds K d_Order_reduce ["self", "quantity"] []
  f_Stop_init : Addr
  d_Stop_init : FuncData
  F_Stop_init : Fun K "__init__" "Stop.__init__" s_Stop_init f_Stop_init d_Stop_init
  b_Stop_init : Binds K d_Stop_init ["self", "number", "house", "side", "trigger", "price", "quantity"] []
  f_Stop_is_reached : Addr
  d_Stop_is_reached : FuncData
  F_Stop_is_reached : Fun K "is_reached" "Stop.is_reached" s_Stop_is_reached f_Stop_is_reached d_Stop_is_reached
  b_Stop_is_reached : Binds K d_Stop_is_reached ["self", "last"] []
  f_Stop_row : Addr
  d_Stop_row : FuncData
  F_Stop_row : Fun K "row" "Stop.row" s_Stop_row f_Stop_row d_Stop_row
  b_Stop_row : Binds K d_Stop_row ["self"] []
  f_BookSide_init : Addr
  d_BookSide_init : FuncData
  F_BookSide_init : Fun K "__init__" "BookSide.__init__" s_BookSide_init f_BookSide_init d_BookSide_init
  b_BookSide_init : Binds K d_BookSide_init ["self"] []
  f_BookSide_rows : Addr
  d_BookSide_rows : FuncData
  F_BookSide_rows : Fun K "rows" "BookSide.rows" s_BookSide_rows f_BookSide_rows d_BookSide_rows
  b_BookSide_rows : Binds K d_BookSide_rows ["self"] []
  f_BookSide_first : Addr
  d_BookSide_first : FuncData
  F_BookSide_first : Fun K "first" "BookSide.first" s_BookSide_first f_BookSide_first d_BookSide_first
  b_BookSide_first : Binds K d_BookSide_first ["self"] []
  f_BookSide_with_number : Addr
  d_BookSide_with_number : FuncData
  F_BookSide_with_number : Fun K "with_number" "BookSide.with_number" s_BookSide_with_number f_BookSide_with_number d_BookSide_with_number
  b_BookSide_with_number : Binds K d_BookSide_with_number ["self", "number"] []
  f_BookSide_available : Addr
  d_BookSide_available : FuncData
  F_BookSide_available : Fun K "available" "BookSide.available" s_BookSide_available f_BookSide_available d_BookSide_available
  b_BookSide_available : Binds K d_BookSide_available ["self", "taker"] []
  f_BookSide_enter : Addr
  d_BookSide_enter : FuncData
  F_BookSide_enter : Fun K "enter" "BookSide.enter" s_BookSide_enter f_BookSide_enter d_BookSide_enter
  b_BookSide_enter : Binds K d_BookSide_enter ["self", "order"] []
  f_BookSideplace_behind : Addr
  d_BookSideplace_behind : FuncData
  F_BookSideplace_behind : Fun K "_place_behind" "BookSide._place_behind" s_BookSideplace_behind f_BookSideplace_behind d_BookSideplace_behind
  b_BookSideplace_behind : Binds K d_BookSideplace_behind ["self", "order"] []
  f_BookSide_leave : Addr
  d_BookSide_leave : FuncData
  F_BookSide_leave : Fun K "leave" "BookSide.leave" s_BookSide_leave f_BookSide_leave d_BookSide_leave
  b_BookSide_leave : Binds K d_BookSide_leave ["self", "order"] []
  f_BookSide_trade_first : Addr
  d_BookSide_trade_first : FuncData
  F_BookSide_trade_first : Fun K "trade_first" "BookSide.trade_first" s_BookSide_trade_first f_BookSide_trade_first d_BookSide_trade_first
  b_BookSide_trade_first : Binds K d_BookSide_trade_first ["self", "quantity"] []
  f_Report_init : Addr
  d_Report_init : FuncData
  F_Report_init : Fun K "__init__" "Report.__init__" s_Report_init f_Report_init d_Report_init
  b_Report_init : Binds K d_Report_init ["self", "number", "house", "side"] []
  f_Book_init : Addr
  d_Book_init : FuncData
  F_Book_init : FunD K "__init__" "Book.__init__" (defArgs s_Book_init) (defBody s_Book_init) (defScope s_Book_init) [.int 1] [] f_Book_init d_Book_init
  b0_Book_init : ∃ ds, Vals [.int 1] ds ∧ Binds K d_Book_init ["self", "first_number"] ds
  b_Book_init : Binds K d_Book_init ["self", "first_number"] []
  f_Book_submit : Addr
  d_Book_submit : FuncData
  F_Book_submit : FunD K "submit" "Book.submit" (defArgs s_Book_submit) (defBody s_Book_submit) (defScope s_Book_submit) [] [("kind", .str "rest"), ("shown", .int 0)] f_Book_submit d_Book_submit
  b_Book_submit : ∃ ds, Vals [.str "rest", .int 0] ds ∧ Binds K d_Book_submit ["self", "house", "side", "price", "quantity", "kind", "shown"] ds
  kb_Book_submit_kind_shown : ∃ g : List Value → List Value → List Value, KBn K d_Book_submit ["self", "house", "side", "price", "quantity", "kind", "shown"] 5 ["kind", "shown"] g (fun vs zs => vs ++ zs)
  f_Book_submit_stop : Addr
  d_Book_submit_stop : FuncData
  F_Book_submit_stop : Fun K "submit_stop" "Book.submit_stop" s_Book_submit_stop f_Book_submit_stop d_Book_submit_stop
  b_Book_submit_stop : Binds K d_Book_submit_stop ["self", "house", "side", "trigger", "price", "quantity"] []
  f_Book_place : Addr
  d_Book_place : FuncData
  F_Book_place : Fun K "place" "Book.place" s_Book_place f_Book_place d_Book_place
  b_Book_place : Binds K d_Book_place ["self", "number", "house", "side", "price", "quantity"] []
  f_Book_cancel : Addr
  d_Book_cancel : FuncData
  F_Book_cancel : Fun K "cancel" "Book.cancel" s_Book_cancel f_Book_cancel d_Book_cancel
  b_Book_cancel : Binds K d_Book_cancel ["self", "number", "house"] []
  f_Book_amend : Addr
  d_Book_amend : FuncData
  F_Book_amend : Fun K "amend" "Book.amend" s_Book_amend f_Book_amend d_Book_amend
  b_Book_amend : Binds K d_Book_amend ["self", "number", "house", "price", "quantity"] []
  f_Book_orders : Addr
  d_Book_orders : FuncData
  F_Book_orders : Fun K "orders" "Book.orders" s_Book_orders f_Book_orders d_Book_orders
  b_Book_orders : Binds K d_Book_orders ["self", "side"] []
  f_Book_stops : Addr
  d_Book_stops : FuncData
  F_Book_stops : Fun K "stops" "Book.stops" s_Book_stops f_Book_stops d_Book_stops
  b_Book_stops : Binds K d_Book_stops ["self"] []
  f_Book_best : Addr
  d_Book_best : FuncData
  F_Book_best : Fun K "best" "Book.best" s_Book_best f_Book_best d_Book_best
  b_Book_best : Binds K d_Book_best ["self", "side"] []
  f_Booktake_number : Addr
  d_Booktake_number : FuncData
  F_Booktake_number : Fun K "_take_number" "Book._take_number" s_Booktake_number f_Booktake_number d_Booktake_number
  b_Booktake_number : Binds K d_Booktake_number ["self"] []
  f_Bookenter : Addr
  d_Bookenter : FuncData
  F_Bookenter : Fun K "_enter" "Book._enter" s_Bookenter f_Bookenter d_Bookenter
  b_Bookenter : Binds K d_Bookenter ["self", "order", "kind"] []
  f_Bookreduce : Addr
  d_Bookreduce : FuncData
  F_Bookreduce : Fun K "_reduce" "Book._reduce" s_Bookreduce f_Bookreduce d_Bookreduce
  b_Bookreduce : Binds K d_Bookreduce ["self", "order", "quantity"] []
  f_Bookenter_again : Addr
  d_Bookenter_again : FuncData
  F_Bookenter_again : Fun K "_enter_again" "Book._enter_again" s_Bookenter_again f_Bookenter_again d_Bookenter_again
  b_Bookenter_again : Binds K d_Bookenter_again ["self", "order", "price", "quantity"] []
  f_Bookorder_of : Addr
  d_Bookorder_of : FuncData
  F_Bookorder_of : Fun K "_order_of" "Book._order_of" s_Bookorder_of f_Bookorder_of d_Bookorder_of
  b_Bookorder_of : Binds K d_Bookorder_of ["self", "number", "house"] []
  f_Bookorder_with : Addr
  d_Bookorder_with : FuncData
  F_Bookorder_with : Fun K "_order_with" "Book._order_with" s_Bookorder_with f_Bookorder_with d_Bookorder_with
  b_Bookorder_with : Binds K d_Bookorder_with ["self", "number"] []
  f_Bookstop_with : Addr
  d_Bookstop_with : FuncData
  F_Bookstop_with : Fun K "_stop_with" "Book._stop_with" s_Bookstop_with f_Bookstop_with d_Bookstop_with
  b_Bookstop_with : Binds K d_Bookstop_with ["self", "number"] []
  f_Booktrigger_stops : Addr
  d_Booktrigger_stops : FuncData
  F_Booktrigger_stops : Fun K "_trigger_stops" "Book._trigger_stops" s_Booktrigger_stops f_Booktrigger_stops d_Booktrigger_stops
  b_Booktrigger_stops : Binds K d_Booktrigger_stops ["self"] []
  f_Bookfirst_reached : Addr
  d_Bookfirst_reached : FuncData
  F_Bookfirst_reached : Fun K "_first_reached" "Book._first_reached" s_Bookfirst_reached f_Bookfirst_reached d_Bookfirst_reached
  b_Bookfirst_reached : Binds K d_Bookfirst_reached ["self"] []
  f_law_house : Addr
  d_law_house : FuncData
  F_law_house : Fun K "_law_house" "_law_house" s_law_house f_law_house d_law_house
  m_law_house : mg "_law_house" = some (.ref f_law_house)
  b_law_house : Binds K d_law_house ["cell"] []
  f_law_resting_side : Addr
  d_law_resting_side : FuncData
  F_law_resting_side : Fun K "_law_resting_side" "_law_resting_side" s_law_resting_side f_law_resting_side d_law_resting_side
  m_law_resting_side : mg "_law_resting_side" = some (.ref f_law_resting_side)
  b_law_resting_side : Binds K d_law_resting_side ["side"] []
  f_law_fits : Addr
  d_law_fits : FuncData
  F_law_fits : Fun K "_law_fits" "_law_fits" s_law_fits f_law_fits d_law_fits
  m_law_fits : mg "_law_fits" = some (.ref f_law_fits)
  b_law_fits : Binds K d_law_fits ["side", "limit", "price"] []
  f_law_first : Addr
  d_law_first : FuncData
  F_law_first : Fun K "_law_first" "_law_first" s_law_first f_law_first d_law_first
  m_law_first : mg "_law_first" = some (.ref f_law_first)
  b_law_first : Binds K d_law_first ["orders", "side", "limit"] []
  f_law_visible : Addr
  d_law_visible : FuncData
  F_law_visible : Fun K "_law_visible" "_law_visible" s_law_visible f_law_visible d_law_visible
  m_law_visible : mg "_law_visible" = some (.ref f_law_visible)
  b_law_visible : Binds K d_law_visible ["left", "shown"] []
  f_law_trade : Addr
  d_law_trade : FuncData
  F_law_trade : Fun K "_law_trade" "_law_trade" s_law_trade f_law_trade d_law_trade
  m_law_trade : mg "_law_trade" = some (.ref f_law_trade)
  b_law_trade : Binds K d_law_trade ["orders", "house", "side", "limit", "quantity"] []
  f_law_available : Addr
  d_law_available : FuncData
  F_law_available : Fun K "_law_available" "_law_available" s_law_available f_law_available d_law_available
  m_law_available : mg "_law_available" = some (.ref f_law_available)
  b_law_available : Binds K d_law_available ["orders", "house", "side", "limit"] []
  f_law_enter : Addr
  d_law_enter : FuncData
  F_law_enter : Fun K "_law_enter" "_law_enter" s_law_enter f_law_enter d_law_enter
  m_law_enter : mg "_law_enter" = some (.ref f_law_enter)
  b_law_enter : Binds K d_law_enter ["orders", "number", "house", "side", "limit", "quantity", "kind", "shown"] []
  f_law_listed : Addr
  d_law_listed : FuncData
  F_law_listed : Fun K "_law_listed" "_law_listed" s_law_listed f_law_listed d_law_listed
  m_law_listed : mg "_law_listed" = some (.ref f_law_listed)
  b_law_listed : Binds K d_law_listed ["orders", "side"] []
  f_law_reached : Addr
  d_law_reached : FuncData
  F_law_reached : Fun K "_law_reached" "_law_reached" s_law_reached f_law_reached d_law_reached
  m_law_reached : mg "_law_reached" = some (.ref f_law_reached)
  b_law_reached : Binds K d_law_reached ["stop", "last"] []
  f_law_last : Addr
  d_law_last : FuncData
  F_law_last : Fun K "_law_last" "_law_last" s_law_last f_law_last d_law_last
  m_law_last : mg "_law_last" = some (.ref f_law_last)
  b_law_last : Binds K d_law_last ["last", "due"] []
  f_law_triggered : Addr
  d_law_triggered : FuncData
  F_law_triggered : Fun K "_law_triggered" "_law_triggered" s_law_triggered f_law_triggered d_law_triggered
  m_law_triggered : mg "_law_triggered" = some (.ref f_law_triggered)
  b_law_triggered : Binds K d_law_triggered ["world"] []
  f_law_told : Addr
  d_law_told : FuncData
  F_law_told : Fun K "_law_told" "_law_told" s_law_told f_law_told d_law_told
  m_law_told : mg "_law_told" = some (.ref f_law_told)
  b_law_told : Binds K d_law_told ["reports"] []
  f_law_submit : Addr
  d_law_submit : FuncData
  F_law_submit : Fun K "_law_submit" "_law_submit" s_law_submit f_law_submit d_law_submit
  m_law_submit : mg "_law_submit" = some (.ref f_law_submit)
  b_law_submit : Binds K d_law_submit ["book", "world", "cell", "number"] []
  f_law_cancel : Addr
  d_law_cancel : FuncData
  F_law_cancel : Fun K "_law_cancel" "_law_cancel" s_law_cancel f_law_cancel d_law_cancel
  m_law_cancel : mg "_law_cancel" = some (.ref f_law_cancel)
  b_law_cancel : Binds K d_law_cancel ["book", "world", "cell"] []
  f_law_amend : Addr
  d_law_amend : FuncData
  F_law_amend : Fun K "_law_amend" "_law_amend" s_law_amend f_law_amend d_law_amend
  m_law_amend : mg "_law_amend" = some (.ref f_law_amend)
  b_law_amend : Binds K d_law_amend ["book", "world", "cell"] []
  c_BourseError : Addr
  m_BourseError : mg "BourseError" = some (.ref c_BourseError)
  c_InvalidOrder : Addr
  m_InvalidOrder : mg "InvalidOrder" = some (.ref c_InvalidOrder)
  x_InvalidOrder : PySem.W.excIn K c_InvalidOrder [.type "ValueError", .type "Exception", .type "BaseException", .type "object"] "ValueError.__new__" = true
  k_InvalidOrder : PySem.W.keepIn K (.ref c_InvalidOrder) = true
  b_InvalidOrder : PySem.W.subIn K (.ref c_InvalidOrder) (.type "BaseException") = some true
  t_InvalidOrder : PySem.W.typeIn K (.ref c_InvalidOrder) = some (.type "type")
  d_InvalidOrder : PySem.W.hasDictIn K c_InvalidOrder = true
  s_InvalidOrder : PySem.W.subIn K (.ref c_InvalidOrder) (.ref c_InvalidOrder) = some true
  c_UnknownOrder : Addr
  m_UnknownOrder : mg "UnknownOrder" = some (.ref c_UnknownOrder)
  x_UnknownOrder : PySem.W.excIn K c_UnknownOrder [.type "ValueError", .type "Exception", .type "BaseException", .type "object"] "ValueError.__new__" = true
  k_UnknownOrder : PySem.W.keepIn K (.ref c_UnknownOrder) = true
  b_UnknownOrder : PySem.W.subIn K (.ref c_UnknownOrder) (.type "BaseException") = some true
  t_UnknownOrder : PySem.W.typeIn K (.ref c_UnknownOrder) = some (.type "type")
  d_UnknownOrder : PySem.W.hasDictIn K c_UnknownOrder = true
  s_UnknownOrder : PySem.W.subIn K (.ref c_UnknownOrder) (.ref c_UnknownOrder) = some true
  c_NotOwner : Addr
  m_NotOwner : mg "NotOwner" = some (.ref c_NotOwner)
  x_NotOwner : PySem.W.excIn K c_NotOwner [.type "ValueError", .type "Exception", .type "BaseException", .type "object"] "ValueError.__new__" = true
  k_NotOwner : PySem.W.keepIn K (.ref c_NotOwner) = true
  b_NotOwner : PySem.W.subIn K (.ref c_NotOwner) (.type "BaseException") = some true
  t_NotOwner : PySem.W.typeIn K (.ref c_NotOwner) = some (.type "type")
  d_NotOwner : PySem.W.hasDictIn K c_NotOwner = true
  s_NotOwner : PySem.W.subIn K (.ref c_NotOwner) (.ref c_NotOwner) = some true
  c_Order : Addr
  m_Order : mg "Order" = some (.ref c_Order)
  pg_Order : PySem.W.plainGet K c_Order Str.empty = true
  hd_Order : PySem.W.hasDictIn K c_Order = true
  po_Order : PySem.W.plainOver K c_Order = true
  sa_Order : PySem.W.findIn K (.ref c_Order) "__setattr__" = some (some (.builtin "object.__setattr__"))
  ma_Order : PySem.W.makesIn K c_Order = true
  kc_Order : PySem.W.keepIn K (.ref c_Order) = true
  eq_Order : PySem.W.findIn K (.ref c_Order) "__eq__" = some (some (.builtin "object.__eq__"))
  mo_Order : PySem.W.mroIn K c_Order (.type "object") = some true
  cl_Order : Cls K c_Order
  na_Order_number : PySem.W.findIn K (.ref c_Order) "number" = some none
  na_Order_house : PySem.W.findIn K (.ref c_Order) "house" = some none
  na_Order_side : PySem.W.findIn K (.ref c_Order) "side" = some none
  na_Order_price : PySem.W.findIn K (.ref c_Order) "price" = some none
  na_Order_shown : PySem.W.findIn K (.ref c_Order) "shown" = some none
  na_Order_left : PySem.W.findIn K (.ref c_Order) "left" = some none
  na_Order_visible : PySem.W.findIn K (.ref c_Order) "visible" = some none
  c_Stop : Addr
  m_Stop : mg "Stop" = some (.ref c_Stop)
  pg_Stop : PySem.W.plainGet K c_Stop Str.empty = true
  hd_Stop : PySem.W.hasDictIn K c_Stop = true
  po_Stop : PySem.W.plainOver K c_Stop = true
  sa_Stop : PySem.W.findIn K (.ref c_Stop) "__setattr__" = some (some (.builtin "object.__setattr__"))
  ma_Stop : PySem.W.makesIn K c_Stop = true
  kc_Stop : PySem.W.keepIn K (.ref c_Stop) = true
  eq_Stop : PySem.W.findIn K (.ref c_Stop) "__eq__" = some (some (.builtin "object.__eq__"))
  mo_Stop : PySem.W.mroIn K c_Stop (.type "object") = some true
  cl_Stop : Cls K c_Stop
  na_Stop_number : PySem.W.findIn K (.ref c_Stop) "number" = some none
  na_Stop_house : PySem.W.findIn K (.ref c_Stop) "house" = some none
  na_Stop_side : PySem.W.findIn K (.ref c_Stop) "side" = some none
  na_Stop_trigger : PySem.W.findIn K (.ref c_Stop) "trigger" = some none
  na_Stop_price : PySem.W.findIn K (.ref c_Stop) "price" = some none
  na_Stop_quantity : PySem.W.findIn K (.ref c_Stop) "quantity" = some none
  c_BookSide : Addr
  m_BookSide : mg "BookSide" = some (.ref c_BookSide)
  pg_BookSide : PySem.W.plainGet K c_BookSide Str.empty = true
  hd_BookSide : PySem.W.hasDictIn K c_BookSide = true
  po_BookSide : PySem.W.plainOver K c_BookSide = true
  sa_BookSide : PySem.W.findIn K (.ref c_BookSide) "__setattr__" = some (some (.builtin "object.__setattr__"))
  ma_BookSide : PySem.W.makesIn K c_BookSide = true
  kc_BookSide : PySem.W.keepIn K (.ref c_BookSide) = true
  cl_BookSide : Cls K c_BookSide
  na_BookSide__orders : PySem.W.findIn K (.ref c_BookSide) "_orders" = some none
  c_Report : Addr
  m_Report : mg "Report" = some (.ref c_Report)
  pg_Report : PySem.W.plainGet K c_Report Str.empty = true
  hd_Report : PySem.W.hasDictIn K c_Report = true
  po_Report : PySem.W.plainOver K c_Report = true
  sa_Report : PySem.W.findIn K (.ref c_Report) "__setattr__" = some (some (.builtin "object.__setattr__"))
  ma_Report : PySem.W.makesIn K c_Report = true
  kc_Report : PySem.W.keepIn K (.ref c_Report) = true
  cl_Report : Cls K c_Report
  na_Report_number : PySem.W.findIn K (.ref c_Report) "number" = some none
  na_Report_house : PySem.W.findIn K (.ref c_Report) "house" = some none
  na_Report_side : PySem.W.findIn K (.ref c_Report) "side" = some none
  na_Report_fills : PySem.W.findIn K (.ref c_Report) "fills" = some none
  na_Report_removed : PySem.W.findIn K (.ref c_Report) "removed" = some none
  na_Report_resting : PySem.W.findIn K (.ref c_Report) "resting" = some none
  c_Book : Addr
  m_Book : mg "Book" = some (.ref c_Book)
  pg_Book : PySem.W.plainGet K c_Book Str.empty = true
  hd_Book : PySem.W.hasDictIn K c_Book = true
  po_Book : PySem.W.plainOver K c_Book = true
  sa_Book : PySem.W.findIn K (.ref c_Book) "__setattr__" = some (some (.builtin "object.__setattr__"))
  ma_Book : PySem.W.makesIn K c_Book = true
  kc_Book : PySem.W.keepIn K (.ref c_Book) = true
  cl_Book : Cls K c_Book
  na_Book_last : PySem.W.findIn K (.ref c_Book) "last" = some none
  na_Book__next_number : PySem.W.findIn K (.ref c_Book) "_next_number" = some none
  na_Book__sides : PySem.W.findIn K (.ref c_Book) "_sides" = some none
  na_Book__stops : PySem.W.findIn K (.ref c_Book) "_stops" = some none
  mk_Order : Mk K c_Order f_Order_init
  mt_Order_accepts_price : Meth K c_Order "accepts_price" f_Order_accepts_price
  mt_Order_show_next_part : Meth K c_Order "show_next_part" f_Order_show_next_part
  mt_Order_trade_visible : Meth K c_Order "trade_visible" f_Order_trade_visible
  mt_Order_reduce : Meth K c_Order "reduce" f_Order_reduce
  mk_Stop : Mk K c_Stop f_Stop_init
  mt_Stop_is_reached : Meth K c_Stop "is_reached" f_Stop_is_reached
  mt_Stop_row : Meth K c_Stop "row" f_Stop_row
  mk_BookSide : Mk K c_BookSide f_BookSide_init
  mt_BookSide_rows : Meth K c_BookSide "rows" f_BookSide_rows
  mt_BookSide_first : Meth K c_BookSide "first" f_BookSide_first
  mt_BookSide_with_number : Meth K c_BookSide "with_number" f_BookSide_with_number
  mt_BookSide_available : Meth K c_BookSide "available" f_BookSide_available
  mt_BookSide_enter : Meth K c_BookSide "enter" f_BookSide_enter
  mt_BookSideplace_behind : Meth K c_BookSide "_place_behind" f_BookSideplace_behind
  mt_BookSide_leave : Meth K c_BookSide "leave" f_BookSide_leave
  mt_BookSide_trade_first : Meth K c_BookSide "trade_first" f_BookSide_trade_first
  mk_Report : Mk K c_Report f_Report_init
  mk_Book : Mk K c_Book f_Book_init
  mt_Book_submit : Meth K c_Book "submit" f_Book_submit
  mt_Book_submit_stop : Meth K c_Book "submit_stop" f_Book_submit_stop
  mt_Book_place : Meth K c_Book "place" f_Book_place
  mt_Book_cancel : Meth K c_Book "cancel" f_Book_cancel
  mt_Book_amend : Meth K c_Book "amend" f_Book_amend
  mt_Book_orders : Meth K c_Book "orders" f_Book_orders
  mt_Book_stops : Meth K c_Book "stops" f_Book_stops
  mt_Book_best : Meth K c_Book "best" f_Book_best
  mt_Booktake_number : Meth K c_Book "_take_number" f_Booktake_number
  mt_Bookenter : Meth K c_Book "_enter" f_Bookenter
  mt_Bookreduce : Meth K c_Book "_reduce" f_Bookreduce
  mt_Bookenter_again : Meth K c_Book "_enter_again" f_Bookenter_again
  mt_Bookorder_of : Meth K c_Book "_order_of" f_Bookorder_of
  mt_Bookorder_with : Meth K c_Book "_order_with" f_Bookorder_with
  mt_Bookstop_with : Meth K c_Book "_stop_with" f_Bookstop_with
  mt_Booktrigger_stops : Meth K c_Book "_trigger_stops" f_Booktrigger_stops
  mt_Bookfirst_reached : Meth K c_Book "_first_reached" f_Bookfirst_reached
  z_bool : mg "bool" = none
  z_int : mg "int" = none
  z_isinstance : mg "isinstance" = none
  z_len : mg "len" = none
  z_max : mg "max" = none
  z_min : mg "min" = none
  z_range : mg "range" = none
  z_sorted : mg "sorted" = none
  z_sum : mg "sum" = none
  c_SIDES : Addr
  m_SIDES : mg "SIDES" = some (.ref c_SIDES)
  q_SIDES : ∀ H : Hp, SqT K H c_SIDES [.str "buy", .str "sell"]
  c_KINDS : Addr
  m_KINDS : mg "KINDS" = some (.ref c_KINDS)
  q_KINDS : ∀ H : Hp, SqT K H c_KINDS [.str "rest", .str "now", .str "all"]
  t_MOST : Tok
  m_MOST : mg "MOST" = some (.int 1000000 t_MOST)
  cq_law : Addr
  pq_law : Addr
/-- the code objects' tables and the names in them -/
def tabsL {K : PySem.W.Frag} {mg : Str → Option Value} (T : Txt K mg) : List (Addr × Str) := [(T.pq_law, ("law" : Str) ++ ".<locals>." ++ "<lambda>")]
class TabsOk {K : PySem.W.Frag} {mg : Str → Option Value} (T : Txt K mg) (base : Heap) : Prop where
  tb_law : LamX.TabB base mg T.cq_law T.pq_law
theorem tabsU_law {K : PySem.W.Frag} {mg : Str → Option Value} (T : Txt K mg) : ∀ p ∈ tabsL T, p.1 = T.pq_law → p.2 = ("law" : Str) ++ ".<locals>." ++ "<lambda>" := by
  intro p hp e
  rcases List.mem_cons.mp hp with z | hp
  · subst z
    exact rfl
  exact absurd hp List.not_mem_nil
/-! ### a lambda with one parameter -/
section
open LamX
/-- the names of a lambda: its one parameter a, captured ones and globals -/
structure LamP (up sc : Scope) (a : Str) : Prop where
  fn : sc.kind = .function
  nco : sc.isCoroutine = false
  ngen : sc.isGenerator = false
  par : sc.names.lookup a = some .local
  loc : ∀ y ∈ sc.names, y.2 = .local → y.1 = a
  nocell : ∀ y ∈ sc.names, y.2 ≠ .cell
  cap : ∀ y ∈ sc.names, y.2 = .free → up.names.lookup y.1 = some .cell ∨ up.names.lookup y.1 = some .free
def lamPB (up sc : Scope) (a : Str) : Bool :=
  decide (sc.kind = .function) && (!sc.isCoroutine && (!sc.isGenerator && (decide (sc.names.lookup a = some .local) && sc.names.all fun y => (!decide (y.2 = .local) || decide (y.1 = a)) && (!decide (y.2 = .cell) && (!decide (y.2 = .free) || (decide (up.names.lookup y.1 = some .cell) || decide (up.names.lookup y.1 = some .free)))))))
theorem lamP_by {up sc : Scope} {a : Str} (h : lamPB up sc a = true) : LamP up sc a := by
  unfold lamPB at h
  simp only [Bool.and_eq_true, Bool.or_eq_true, Bool.not_eq_true', decide_eq_true_eq, decide_eq_false_iff_not, List.all_eq_true] at h
  obtain ⟨q1, q2, q3, q4, q5⟩ := h
  refine ⟨q1, q2, q3, q4, fun y hy e => ?_, fun y hy => (q5 y hy).2.1, fun y hy e => ?_⟩
  · rcases (q5 y hy).1 with z | z
    · exact absurd e z
    · exact z
  · rcases (q5 y hy).2.2 with z | z
    · exact absurd e z
    · exact z
theorem LamP.caps {X : Cx} {sc : Scope} {a : Str} (L : LamP X.env.scope sc a) (ok : X.Ok) : ∀ y ∈ sc.names, y.2 = .free → ∃ c, X.env.cells.lookup y.1 = some c := fun y hy e => ok.has _ (L.cap y hy e)
/-- the context of its body, entered at s from the frames out -/
def lamCxP (X : Cx) (A : Around) (out : List Env) (s : Shared) (H : Hp) (E : XK) (sc : Scope) (a : Str) (f c' : Addr) : Cx where
  prog := X.prog
  w := X.w
  K := X.K
  mg := X.mg
  base := X.base
  A := A.deeper (lamEnv X sc s.heap.objs.size f c')
  N := X.N ++ [a]
  s_0 := s
  H_0 := H
  env := lamEnv X sc s.heap.objs.size f c'
  outer := out
  stack := lamEnv X sc s.heap.objs.size f c' :: out
  ex := []
  fn := fun _ => false
  calm := true
  pn := []
  xe := fun e s2 => wpAny (model X.prog X.w) (A.deeper (lamEnv X sc s.heap.objs.size f c')) (leaving (lamEnv X sc s.heap.objs.size f c') e) (fun _ s3 => L2.CX X.prog X.w out H s E e s3) (fun e' s3 => L2.CX X.prog X.w out H s E e' s3) s2
variable {X : Cx} {pins : List (Addr × Obj)} {σ : L2.St} {H HZ : Hp} {s s1 : Shared}
theorem lamP_start {A : Around} {out : List Env} {E : XK} {sc : Scope} {a : Str} {f c' : Addr} {g : Heap} {tk : Nat} {v : V} {u : Value} (I : Inv X pins σ H s) (L : LamP X.env.scope sc a) (na : X.N.all (fun y => decide (y ≠ a)) = true) (e0 : Env0 X.prog X.w X.K X.mg X.base A out s1 HZ) (hd : A.handled = none) (rv : L2.RelV v u)
    (un : Un (frs X.stack) [] H HZ s.heap s1.heap) (hns : g.Ns s1.heap.objs.size fun y => [(a, u)].reverse.lookup y) (kp : ∀ b o, s1.heap.get? b = some o → g.get? b = some o) :
    Inv (lamCxP X A out s1 HZ E sc a f c') [] (σ ++ [some v]) HZ { s1 with heap := g, toks := tk } := by
  have caps := L.caps I.ok
  have inCells : ∀ {y c}, (cloFrom X.env.cells sc.names []).lookup y = some c → X.env.cells.lookup y = some c := fun {y c} e => by
    rcases cloFrom_mem (PySem.mem_of_lookup e) with k | ⟨k1, k2⟩
    · cases k
    · obtain ⟨c1, z⟩ := caps _ k1 rfl
      have z : X.env.cells.lookup y = some c1 := z
      have same : c = c1 := by
        rw [k2, z] <;> rfl
      rw [same]
      exact z
  have found : ∀ {y}, sc.names.lookup y = some .free → ∃ c, (cloFrom X.env.cells sc.names []).lookup y = some c := fun {y} k => by
    have ky : (y, NameKind.free) ∈ sc.names := PySem.mem_of_lookup k
    exact mem_lookup (cloFrom_has (cells := X.env.cells) (acc := []) ky)
  have cells : ∀ {c : Addr} {x : Option Value}, H c = none → s.heap.IsCell c x → g.IsCell c x := fun {c x} k ⟨o, k1, k2⟩ => by
    obtain ⟨sl, z⟩ := un.any k1 k (by simp)
    exact ⟨_, kp _ _ z, k2⟩
  have exA : ∀ b : Addr, b ∉ (lamCxP X A out s1 HZ E sc a f c').ex := fun b z => absurd (show b ∈ ([] : List Addr) from z) (by simp)
  refine ⟨⟨e0.mod, L.fn, rfl, rfl, Nat.le_refl _, fun y z c k1 k2 => I.ok.inj y z c (inCells k1) (inCells k2), fun y k => ?_, fun y c z _ => ?_, fun _ => hd, Around.frames_deeper e0.frames, .inr ⟨rfl, rfl⟩, fun b z => absurd z (exA b), e0.bs, e0.bsz, fun b _ _ => exA b,
      fun b z => absurd z (exA b), e0.funs, e0.frf⟩,
    rfl, e0.bare, Un.kept kp, ⟨_, hns, fun i y x k1 k2 k3 => ?_⟩, fun y c k => ?_, e0.hok.fresh (Nat.le_refl _), fun y c k => ?_, fun q k => absurd (show q ∈ ([] : List (Addr × Obj)) ++ [] from k) (by simp), e0.hok.kept kp, by show (σ ++ [some v]).length = (X.N ++ [a]).length; rw [List.length_append, List.length_append, I.len]; rfl⟩
  · have k : sc.names.lookup y = some .cell ∨ sc.names.lookup y = some .free := k
    rcases k with k | k
    · exact absurd rfl (L.nocell _ (PySem.mem_of_lookup k))
    · exact found k
  · have z : false = true := z
    cases z
  · have k1 : (X.N ++ [a])[i]? = some y := k1
    have k3 : Vis sc y := k3
    have hlen : σ.length = X.N.length := I.len
    by_cases hi : i < X.N.length
    · rw [List.getElem?_append_left hi] at k1
      rw [List.getElem?_append_left (by omega)] at k2
      have hya : y ≠ a := of_decide_eq_true (List.all_eq_true.mp na y (List.mem_of_getElem? k1))
      rcases k3 with k | k | k
      · exact absurd (L.loc _ (PySem.mem_of_lookup k) rfl) hya
      · exact absurd rfl (L.nocell _ (PySem.mem_of_lookup k))
      · obtain ⟨m, _, hl⟩ := I.loc
        have vis : Vis X.env.scope y := (L.cap _ (PySem.mem_of_lookup k) rfl).elim (fun z => .inr (.inl z)) (fun z => .inr (.inr z))
        obtain ⟨w', r, q⟩ := hl i y x k1 k2 vis
        obtain ⟨c2, h2⟩ := found k
        refine ⟨w', r, .inr ⟨.inr k, c2, h2, ?_⟩⟩
        have c1 := inCells h2
        rcases q with ⟨k', _⟩ | ⟨_, c3, e', z⟩
        · have k' : X.env.scope.names.lookup y = some .local := k'
          rcases L.cap _ (PySem.mem_of_lookup k) rfl with k2 | k2 <;> rw [show X.env.scope.names.lookup y = _ from k2] at k' <;> cases k'
        · rw [c1] at e'
          cases e'
          exact cells (I.freeC y _ c1) z
    · rw [List.getElem?_append_right (by omega)] at k1 k2
      have hi1 := (List.getElem?_eq_some_iff.mp k1).1
      rw [List.length_cons, List.length_nil] at hi1
      rw [show i - X.N.length = 0 by omega] at k1
      rw [show i - σ.length = 0 by omega] at k2
      obtain rfl := Option.some.inj k1
      obtain rfl := Option.some.inj (Option.some.inj k2)
      exact ⟨u, rv, .inl ⟨L.par, by simp [List.lookup]⟩⟩
  · obtain ⟨w', z⟩ := I.cell y c (inCells k)
    exact ⟨w', cells (I.freeC y c (inCells k)) z⟩
  · obtain ⟨x, o, k1, k2⟩ := I.cell y c (inCells k)
    exact un.free c o k1 (I.freeC y c (inCells k)) (by simp)
/-- f(v), f the lambda: from any later state -/
theorem lamP_run {A : Around} {sc : Scope} {a : Str} {f c' : Addr} {pm ctv : Value} {params : Arguments} {body : Expr} {k : Nat} {E : XK} {tb : TE} {v : V} {u : Value} {Q : VK}
    (I : Inv X pins σ H s) (L : LamP X.env.scope sc a) (na : X.N.all (fun y => decide (y ≠ a)) = true) (e0 : Env0 X.prog X.w X.K X.mg X.base A X.stack s1 HZ) (un : Un (frs X.stack) [] H HZ s.heap s1.heap) (rv : L2.RelV v u) (hr : Room (k + 1) A)
    (hf : s1.heap.get? f = some (PySem.W.kla_obj "<lambda>" (X.env.qual ++ "<lambda>") params body sc (cloFrom X.env.cells sc.names []) pm c' ctv)) (hc : HZ c' = some (CodeO c' (X.env.qual ++ "<lambda>")))
    (hbind : bindArgs (PySem.W.kla_fn "<lambda>" (X.env.qual ++ "<lambda>") params body sc (cloFrom X.env.cells sc.names []) pm (.ref c') ctv) ⟨[u], []⟩ = pure [(a, u)])
    (hbody : ∀ (s : Shared) (H : Hp), Room k (A.deeper (lamEnv X sc s.heap.objs.size f c')) → PE (lamCxP X A X.stack s H E sc a f c') body tb) (lim : s1.heap.NoLimit)
    (ht : tb (σ ++ [some v]) HZ Q) : codeAny (model X.prog X.w) A (.call (.ref f) ⟨[u], []⟩) (CR (L2.CX X.prog X.w) X.stack X.prog X.w HZ s1 Q E) s1 := by
  obtain ⟨⟨oc, xs, t, hoc, hdc, hvc⟩, _, _⟩ := e0.hok c' _ hc
  refine PySem.W.kla_callFunE hr.depth hf rfl L.nco L.ngen rfl ⟨c', oc, xs, t, rfl, hoc, hdc, hvc⟩ ?_
  rw [hbind]
  refine wpAny_pure (wpAny_newFunctionEnv (fun y hy => L.nocell y hy) (fun y hy => ?_) (fun g hns hsb => ⟨lim.fresh _ hsb, ?_⟩) L.fn)
  · rw [List.mem_singleton.mp hy]
    exact L.par
  show codeAny _ _ (.expr body (lamEnv X sc s1.heap.objs.size f c')) _ _
  have kp : ∀ b o, s1.heap.get? b = some o → g.get? b = some o := fun b o e => hsb.extBut b o (Nat.ne_of_lt (Heap.lt_size e)) (Heap.get?_push_of_some _ e)
  have J : Inv (lamCxP X A X.stack s1 HZ E sc a f c') [] (σ ++ [some v]) HZ { s1 with heap := g, toks := s1.toks + [(a, u)].length } := lamP_start I L na e0 hr.hd rv un hns kp
  refine PySem.W.kla_codeExpr (wpAny_mono ((hbody s1 HZ (hr.deeper _)).run [] _ _ HZ Q J ht) (fun x s2 q => ?_) fun e s2 q => q)
  obtain ⟨w', H2, J2, r2, q⟩ := q
  exact ⟨w', H2, J2.os, J2.bare, J2.base, J2.hok, r2, q⟩
end

/-! ### sorted(xs, key=lambda ..): the keys are pairs of numbers -/
section
open LamX
variable {X : Cx} {pins : List (Addr × Obj)} {σ : L2.St} {H : Hp} {s : Shared}
/-- a place that the sort itself has made -/
structure Mine (X : Cx) (pins : List (Addr × Obj)) (b : Addr) : Prop where
  new : X.s_0.heap.objs.size ≤ b
  loc : b ≠ X.env.locals
  cell : ∀ x c, X.env.cells.lookup x = some c → c ≠ b
  pin : ∀ q ∈ X.pn ++ pins, q.1 ≠ b
  fr : b ∉ frs X.stack
theorem mine_of (I : Inv X pins σ H s) {b : Addr} (hb : s.heap.objs.size ≤ b) : Mine X pins b := by
  refine ⟨Nat.le_trans I.sz hb, Nat.ne_of_gt (Nat.lt_of_lt_of_le I.lt hb), fun x c e => ?_, fun q hq => ?_, fun z => ?_⟩
  · obtain ⟨v, o, ho, _⟩ := I.cell x c e
    exact Nat.ne_of_lt (Nat.lt_of_lt_of_le (Heap.lt_size ho) hb)
  · exact Nat.ne_of_lt (Nat.lt_of_lt_of_le (Heap.lt_size (I.pin q hq).1) hb)
  · rcases List.mem_cons.mp (I.stkSub _ z) with k | k
    · exact absurd k (Nat.ne_of_gt (Nat.lt_of_lt_of_le I.lt hb))
    · exact I.nofs hb k
def NoX : XK := fun _ _ _ => False
theorem noX_elim {out : List Env} {s1 s2 : Shared} {e : Value} (h : L2.CX X.prog X.w out H s1 NoX e s2) : False := by
  obtain ⟨_, _, _, _, _, _, _, _, _, _, _, _, _, _, _, _, z⟩ := h
/-- one of the sort's own objects is written -/
theorem inv_mine {b : Addr} {g : Heap} {tk : Nat} (I : Inv X pins σ H s) (M : Mine X pins b) (nb : H b = none) (k : ∀ c o, c ≠ b → s.heap.get? c = some o → g.get? c = some o) : Inv X pins σ H { s with heap := g, toks := tk } := by
  refine I.step (g' := s.gens) (d' := s.drawn) (ch := [b]) (fun c hc => ?_) (fun c o _ _ hc e _ => k c o (fun z => hc (List.mem_singleton.mpr z)) e) (fun c o _ _ hc e _ => ⟨o.slots, k c o (fun z => hc (List.mem_singleton.mpr z)) e⟩)
    (fun c o _ _ n => n) (fun c o hc e => ⟨o, k c o (fun z => hc (List.mem_singleton.mpr z)) e⟩) (fun c xs e => e) (fun c o u e => e) (fun c ps e => ⟨#[], by rw [e, Array.append_empty]⟩) (fun m hm => ?_) (fun c o e => ?_) I.bare
  · rw [List.mem_singleton.mp hc]
    exact ⟨.inr M.new, M.loc, M.cell, M.pin⟩
  · obtain ⟨o, es, ep, ho, r⟩ := hm
    exact ⟨o, es, ep, k _ o (Ne.symm M.loc) ho, r⟩
  · refine (I.hok c o e).stay (fun d u hd q => k d u (fun z => ?_) q) (fun d q => q) fun d xs q => q
    rcases hd with w | w
    · rw [← w, z, nb] at e
      cases e
    · rw [z, nb] at w
      cases w
def pairD (k : Int × Int) : PyData := .tuple [.int k.1, .int k.2]
/-- what a key is: a pair of numbers -/
def PairAt (H : Hp) (k : Int × Int) (y : V) : Prop := ∃ t : Addr, y = .ref t ∧ H t = some (.tup [.int k.1, .int k.2])
theorem PairAt.same {H H' : Hp} {k : Int × Int} {y : V} (h : PairAt H k y) (e : Same H H') : PairAt H' k y := by
  obtain ⟨t, h1, h2⟩ := h
  exact ⟨t, h1, e _ _ h2⟩
theorem PairAt.reads {H : Hp} {k : Int × Int} {y : V} {v : Value} {P : Program} {w : World} {h : Heap} (q : PairAt H k y) (hok : HOk P w H h) (r : L2.RelV y v) : Reads h v (pairD k) [] := by
  obtain ⟨t, rfl, h2⟩ := q
  obtain rfl : v = Value.ref t := r
  obtain ⟨_, its, rv, o, ho, hcl, n, hd⟩ := hok t _ h2
  obtain ⟨u1, u2, rfl, e1, e2⟩ := vals2 rv
  obtain ⟨t1, rfl⟩ : ∃ t1, u1 = Value.int k.1 t1 := e1
  obtain ⟨t2, rfl⟩ : ∃ t2, u2 = Value.int k.2 t2 := e2
  exact .tuple ho hcl hd (.cons (.int _ _) (.cons (.int _ _) .nil))
theorem each_ix {α β : Type} {R : α → β → Prop} : ∀ {as : List α} {bs : List β}, as.length = bs.length → (∀ (i : Nat) (a : α) (b : β), as[i]? = some a → bs[i]? = some b → R a b) → PySem.W.EachIs R as bs
  | [], [], _, _ => .nil
  | [], _ :: _, h, _ => by cases h
  | _ :: _, [], h, _ => by cases h
  | a :: as, b :: bs, h, e => .cons (e 0 a b rfl rfl) (each_ix (Nat.succ.inj h) fun i a' b' h1 h2 => e (i + 1) a' b' h1 h2)
theorem each_vals : ∀ {us : List Value} {xs : List V}, PySem.W.EachIs (fun v x => L2.RelV x v) us xs → Vals xs us
  | _, _, .nil => .nil
  | _, _, .cons h t => .cons h (each_vals t)
theorem vals_each : ∀ {xs : List V} {us : List Value}, Vals xs us → PySem.W.EachIs (fun v x => L2.RelV x v) us xs
  | _, _, .nil => .nil
  | _, _, .cons h t => .cons h (vals_each t)
theorem pair_alike {ks : List (Int × Int)} : PySem.W.AllAlike (ks.map pairD) := by
  intro d hd d' hd'
  obtain ⟨x, _, rfl⟩ := List.mem_map.mp hd
  obtain ⟨y, _, rfl⟩ := List.mem_map.mp hd'
  simp [pairD, PySem.W.alike, PySem.W.alikeAll]
theorem pair_sortable {ks : List (Int × Int)} : PySem.W.Sortable (ks.map pairD) := .inl fun d hd => by
  obtain ⟨x, _, rfl⟩ := List.mem_map.mp hd
  exact ⟨_, _, rfl⟩
/-- the sort's end: the keys' list is let go, the result stands -/
theorem inv_sorted {p kS : Addr} {g : Heap} {tk : Nat} {c : Nat} {out : List Value} {zs : List V} (I : L2.Inv X pins σ H s) (Mp : Mine X pins p) (MkS : Mine X pins kS) (np : H p = none) (nk : H kS = none) (hz : zs.length ≤ sizeLine) (rv : Vals zs out) (hp : g.get? p = some (seqObj "list" out.toArray c))
    (k : ∀ c o, c ≠ p → c ≠ kS → s.heap.get? c = some o → g.get? c = some o) : L2.Inv X pins σ (upd H p (.lst zs)) { s with heap := g, toks := tk } := by
  have ne : ∀ {b o}, H b = some o → b ≠ p ∧ b ≠ kS := fun {b o} e => ⟨fun z => (by rw [z, np] at e; cases e), fun z => (by rw [z, nk] at e; cases e)⟩
  refine I.step (g' := s.gens) (d' := s.drawn) (ch := [kS, p]) (fun c hc => ?_) (fun c o _ _ hc e _ => k c o (fun z => hc (by rw [z]; simp)) (fun z => hc (by rw [z]; simp)) e) (fun c o _ _ hc e _ => ⟨o.slots, k c o (fun z => hc (by rw [z]; simp)) (fun z => hc (by rw [z]; simp)) e⟩)
    (fun c o hc _ n => by rw [upd_ne fun z => hc (by rw [z]; simp)]; exact n) (fun c o hc e => ⟨o, k c o (fun z => hc (by rw [z]; simp)) (fun z => hc (by rw [z]; simp)) e⟩) (fun c xs e => by rw [upd_ne (ne e).1]; exact e) (fun c o u e => by rw [upd_ne (ne e).1]; exact e) (fun c ps e => ⟨#[], by rw [upd_ne (ne e).1, e, Array.append_empty]⟩) (fun m hm => ?_) (fun c o e => ?_) I.bare
  · rcases List.mem_cons.mp hc with z | z
    · rw [z]
      exact ⟨.inr MkS.new, MkS.loc, MkS.cell, MkS.pin⟩
    · rw [List.mem_singleton.mp z]
      exact ⟨.inr Mp.new, Mp.loc, Mp.cell, Mp.pin⟩
  · obtain ⟨o, es, ep, ho, r⟩ := hm
    exact ⟨o, es, ep, k _ o (Ne.symm Mp.loc) (Ne.symm MkS.loc) ho, r⟩
  · by_cases hcp : c = p
    · rw [hcp, upd_same] at e
      obtain rfl := Option.some.inj e
      rw [hcp]
      exact ⟨hz, out, _, rv, hp⟩
    · rw [upd_ne hcp] at e
      refine (I.hok c o e).stay (fun d u hd q => k d u (fun z => ?_) (fun z => ?_) q) (fun d q => by rw [upd_ne (ne q).1]; exact q) fun d xs q => by rw [upd_ne (ne q).1]; exact q
      · rcases hd with w | w
        · exact hcp (w.symm.trans z)
        · exact (ne w).1 z
      · rcases hd with w | w
        · exact (ne e).2 (w.symm.trans z)
        · exact (ne w).2 z
/-- the keys are made one after another -/
theorem keys_loop {A : Around} {f : Addr} {fo : Obj} {vs : List Value} {xs : List V} {k : V → Int × Int} {p kS : Addr} {e1 : Nat} {H2 : Hp} {s2 : Shared} {P : PySem.Fin → Shared → Prop} {E : Value → Shared → Prop}
    (I : Inv X pins σ H2 s2) (rv : Vals xs vs) (hz : vs.length ≤ sizeLine) (hu : A.units + 5 < cLine)
    (Mp : Mine X pins p) (MkS : Mine X pins kS) (np : H2 p = none) (nk : H2 kS = none) (hkp : kS ≠ p) (ep : s2.heap.get? p = some (seqObj "list" #[] e1)) (ek : s2.heap.get? kS = some (seqObj "list" #[] 0)) (ef : s2.heap.get? f = some fo) (nf : H2 f = none) (ff : f ∉ frs X.stack) (hfp : f ≠ p) (hfk : f ≠ kS)
    (turn : ∀ (x : V) (v : Value) (H3 : Hp) (s3 : Shared), x ∈ xs → L2.RelV x v → Inv X pins σ H3 s3 → Same H2 H3 → s3.heap.get? f = some fo → H3 f = none →
      codeAny (model X.prog X.w) A (.call (.ref f) ⟨[v], []⟩) (CR (L2.CX X.prog X.w) X.stack X.prog X.w H3 s3 (fun y H4 => Same H3 H4 ∧ PairAt H4 (k x) y) NoX) s3)
    (q : ∀ H4 s4, L2.Inv X pins σ (upd H4 p (.lst (xs.mergeSort (PySem.W.dataLe false fun x => pairD (k x))))) s4 → Same H2 H4 → H4 p = none → P (.done (.ret .none)) s4) :
    wpAny (model X.prog X.w) A (ksk_rest p (.ref f) false vs.toArray e1 (.ref kS)) P E s2 := by
  unfold ksk_rest
  refine wpAny_bind (wpAny_rule ?_)
  first
    | rw [List.forIn_toArray]
    | (rw [← Array.forIn_toList]; simp only [List.toList_toArray])
    | rw [← Array.forIn_toList]
  have hxl : xs.length = vs.length := rv.length
  refine wpAny_bind (ksk_fold (fun i s3 => ∃ (H3 : Hp) (kA : Array Value) (e : Nat) (ys : List V), Inv X pins σ H3 s3 ∧ Same H2 H3 ∧ H3 p = none ∧ H3 kS = none ∧ H3 f = none ∧ s3.heap.get? p = some (seqObj "list" #[] e1) ∧ s3.heap.get? kS = some (seqObj "list" kA e) ∧ s3.heap.get? f = some fo ∧ Vals ys kA.toList ∧ ys.length = i ∧ ∀ (j : Nat) (x y : V), xs[j]? = some x → ys[j]? = some y → PairAt H3 (k x) y) vs 0 s2
    ⟨H2, #[], 0, [], I, Same.refl _, np, nk, nf, ep, ek, ef, .nil, rfl, fun j x y _ h => by cases h⟩ ?step ?done)
  case step =>
    rintro j v s3 hv ⟨H3, kA, e, ys, I3, e3, np3, nk3, nf3, ep3, ek3, ef3, rk, hy, hP⟩
    rw [Nat.zero_add] at hy
    have hj : j < vs.length := (List.getElem?_eq_some_iff.mp hv).1
    obtain ⟨x, hx⟩ : ∃ x, xs[j]? = some x := ⟨_, List.getElem?_eq_getElem (by omega)⟩
    obtain ⟨v', hv', rx⟩ := rv.get hx
    rw [hv] at hv'
    obtain rfl := Option.some.inj hv'
    have hkl : ys.length = kA.size := rk.length.trans (Array.length_toList ..)
    refine wpAny_bind (wpAny_attempt (wpAny_call (codeAny_mono (turn x v H3 s3 (List.mem_of_getElem? hx) rx I3 e3 ef3 nf3) fun r s4 hq => ?_)))
    cases r with
    | error e => exact (noX_elim hq).elim
    | ok fl =>
      cases fl with
      | next => exact False.elim hq
      | brk => exact False.elim hq
      | cont => exact False.elim hq
      | ret u =>
        obtain ⟨y, H4, os, bare, un, hok, ry, e4, hy4⟩ := hq
        have I4 : L2.Inv X pins σ H4 s4 := I3.call' os un hok bare fun b z => absurd z (by simp)
        have ep4 := un.keep p _ ep3 np3 Mp.fr (by simp)
        have ek4 := un.keep kS _ ek3 nk3 MkS.fr (by simp)
        have ef4 := un.keep f _ ef3 nf3 ff (by simp)
        have np4 := un.free p _ ep3 np3 (by simp)
        have nk4 := un.free kS _ ek3 nk3 (by simp)
        have nf4 := un.free f _ ef3 nf3 (by simp)
        have sb := Heap.SameBut.update s4.heap kS (Obj.mapSeq (·.push u))
        obtain ⟨c2, hc2⟩ : ∃ c2, (s4.heap.update kS (Obj.mapSeq (·.push u))).get? kS = some (seqObj "list" (kA.push u) c2) := ⟨_, get?_update_seq ek4 (·.push u)⟩
        dsimp only
        refine wpAny_bind (listUpdate_at ek4 rfl ?_ (by omega) (by rw [Array.size_push]; omega))
        have I5 : L2.Inv X pins σ H4 { s4 with heap := s4.heap.update kS (Obj.mapSeq (·.push u)) } := inv_mine (tk := s4.toks) I4 MkS nk4 fun c o hc e => (sb.2 c hc).trans e
        refine wpAny_pure ⟨rfl, H4, kA.push u, c2, ys ++ [y], I5, e3.trans e4, np4, nk4, nf4, (sb.2 p hkp.symm).trans ep4, hc2, (sb.2 f hfk).trans ef4, by rw [Array.toList_push]; exact rk.append (.cons ry .nil), by rw [List.length_append]; show ys.length + 1 = 0 + j + 1; omega, fun i a b h1 h2 => ?_⟩
        by_cases hi : i < ys.length
        · rw [List.getElem?_append_left hi] at h2
          exact (hP i a b h1 h2).same e4
        · rw [List.getElem?_append_right (by omega)] at h2
          have hi2 := (List.getElem?_eq_some_iff.mp h2).1
          rw [List.length_cons, List.length_nil] at hi2
          rw [show i - ys.length = 0 by omega] at h2
          obtain rfl := Option.some.inj h2
          rw [show i = j by omega, hx] at h1
          obtain rfl := Option.some.inj h1
          exact hy4
  case done =>
    rintro s3 ⟨H3, kA, e, ys, I3, e3, np3, nk3, nf3, ep3, ek3, ef3, rk, hy, hP⟩
    have hkl : ys.length = kA.size := rk.length.trans (Array.length_toList ..)
    have hk : PySem.W.EachIs (fun v d => ∃ as, Reads s3.heap v d as) kA.toList (xs.map fun x => pairD (k x)) := by
      refine each_ix (by rw [List.length_map, Array.length_toList]; omega) fun i v d h1 h2 => ?_
      rw [List.getElem?_map] at h2
      cases hx : xs[i]? with
      | none => rw [hx] at h2; cases h2
      | some x =>
        rw [hx] at h2
        obtain rfl := Option.some.inj h2
        have hil := (List.getElem?_eq_some_iff.mp hx).1
        obtain ⟨y, hy2⟩ : ∃ y, ys[i]? = some y := ⟨_, List.getElem?_eq_getElem (by omega)⟩
        obtain ⟨v', hv', rx⟩ := rk.get hy2
        rw [h1] at hv'
        obtain rfl := Option.some.inj hv'
        exact ⟨[], (hP i x y hx hy2).reads I3.hok rx⟩
    have hkk : (xs.map fun x => pairD (k x)) = (xs.map k).map pairD := by rw [List.map_map]; rfl
    have hal : PySem.W.AllAlike (xs.map fun x => pairD (k x)) := by rw [hkk]; exact pair_alike
    have hso : PySem.W.Sortable (xs.map fun x => pairD (k x)) := by rw [hkk]; exact pair_sortable
    refine wpAny_bind (listItems_at ek3 rfl ?_)
    obtain ⟨G, g1, g2⟩ := restrict s3.heap fun b => decide (b ≠ kS)
    refine PySem.W.keyH_end (κ := PySem.W.dataKind s3.heap (xs.map fun x => pairD (k x))) (h₁ := G) (fun b o hb e => ?_) (g2 kS (by simp)) ek3 ep3 hkp (PySem.W.SortsAt.data hk hal hso fun d hd => ?_) (by omega) hz fun h' tk c kp hp => ?_
    · by_cases z : b = kS
      · rw [z, g2 kS (by simp)] at e
        cases e
      · rw [g1 b (by simp [z])] at e
        exact e
    · obtain ⟨x, _, rfl⟩ := List.mem_map.mp hd
      show A.units + (pairD (k x)).depth < cLine
      have : (pairD (k x)).depth ≤ 2 := by simp [pairD, PyData.depth, PyData.depthAll]
      omega
    · have ko := PySem.W.keyedOut_each (rev := false) (R := fun v x => L2.RelV x v) (fun x => pairD (k x)) ⟨s3.heap, kA.toList, hal, rfl, hk⟩ (vals_each rv)
      have rs := each_vals ko
      refine q H3 _ (inv_sorted I3 Mp MkS np3 nk3 ?_ rs hp fun b o b1 b2 e => kp b o b1 (by rw [g1 b (by simp [b2])]; exact e)) e3 np3
      rw [List.length_mergeSort, hxl]
      exact hz
end

/-! ### the rule for sorted(xs, key=lambda x: ..) -/
section
open LamX
variable {X : Cx} {pins : List (Addr × Obj)} {σ : L2.St} {H : Hp} {s : Shared}
def pairLe (k : V → Int × Int) : V → V → Bool := PySem.W.dataLe false fun x => pairD (k x)
/-- what is asked of the sort of l, and what it gives -/
def rSortLam (K : PySem.W.Frag) (tb : V → Hp → VK → Prop) (v : V) (H : Hp) (Q : VK) : Prop := ∃ (_ : Unit) (l : Addr) (xs : List V) (k : V → Int × Int), v = .ref l ∧ SqL K H l xs ∧
  (∀ x, x ∈ xs → ∀ H3, Same H H3 → tb x H3 fun y H4 => Same H3 H4 ∧ PairAt H4 (k x) y) ∧ ∀ (_ : Unit) (p : Addr) (H4 : Hp), Same H H4 → H p = none → H4 p = none → Q (.ref p) (upd H4 p (.lst (xs.mergeSort (pairLe k))))
theorem sortLam_run {sc : Scope} {a : Str} {f c' : Addr} {pm ctv : Value} {params : Arguments} {body : Expr} {j : Nat} {tb : TE} {v : V} {u : Value} {Q : VK}
    (I : L2.Inv X pins σ H s) (L : LamP X.env.scope sc a) (na : X.N.all (fun y => decide (y ≠ a)) = true) (hr : Room (j + 3) X.A)
    (hf : s.heap.get? f = some (PySem.W.kla_obj "<lambda>" (X.env.qual ++ "<lambda>") params body sc (cloFrom X.env.cells sc.names []) pm c' ctv)) (nf : H f = none) (ff : f ∉ frs X.stack) (hc : H c' = some (CodeO c' (X.env.qual ++ "<lambda>")))
    (hbind : ∀ u, bindArgs (PySem.W.kla_fn "<lambda>" (X.env.qual ++ "<lambda>") params body sc (cloFrom X.env.cells sc.names []) pm (.ref c') ctv) ⟨[u], []⟩ = pure [(a, u)])
    (hbody : ∀ (A : Around) (s : Shared) (H : Hp), Room j (A.deeper (lamEnv X sc s.heap.objs.size f c')) → PE (lamCxP X A X.stack s H NoX sc a f c') body tb)
    (rv : L2.RelV v u) (h : rSortLam X.K (fun x H3 Q3 => tb (σ ++ [some x]) H3 Q3) v H Q) : wpAny (model X.prog X.w) X.A (call (.builtin "sorted") [u] [(Str.ofString "key", .ref f)]) (EP X pins σ Q) X.xe s := by
  obtain ⟨_, l, xs, k, rfl, hs, ht, q⟩ := h
  obtain rfl : u = Value.ref l := rv
  obtain ⟨its, rx, hl, hz⟩ := I.list hs
  have hz' : its.length ≤ sizeLine := by rw [← rx.length]; exact hz
  refine PySem.W.sorted_of_sort hl.isList hz' (ksk_s1 _ _) (fun _ => ksk_l1 _ _) fun E' => ?_
  rw [ksk_t1]
  have ho := PySem.W.copyHeap_at s.heap its
  have kold : ∀ b o, s.heap.get? b = some o → (PySem.W.copyHeap s.heap its).get? b = some o := fun b o e => PySem.W.copyHeap_old e
  have hsz : s.heap.objs.size + 1 < (PySem.W.copyHeap s.heap its).objs.size := Heap.lt_size ho
  generalize PySem.W.copyHeap s.heap its = g0 at *
  obtain ⟨e1, ho1⟩ : ∃ e1, (g0.update (s.heap.objs.size + 1) (Obj.mapSeq fun _ => (#[] : Array Value))).get? (s.heap.objs.size + 1) = some (seqObj "list" #[] e1) := ⟨_, get?_update_seq ho fun _ => #[]⟩
  have sb := Heap.SameBut.update g0 (s.heap.objs.size + 1) (Obj.mapSeq fun _ => (#[] : Array Value))
  have hs1 : (g0.update (s.heap.objs.size + 1) (Obj.mapSeq fun _ => (#[] : Array Value))).objs.size = g0.objs.size := Heap.size_update ..
  unfold ksk_tree
  refine wpAny_bind (listItems_at ho rfl ?_)
  refine wpAny_bind (listUpdate_at ho rfl ?_ (by rw [List.size_toArray]; exact hz') (Nat.zero_le _))
  refine wpAny_bind (seqEpoch_at ho1 rfl ?_)
  refine wpAny_bind (wpAny_newTuple ?_ (by show its.length ≤ _; exact hz'))
  refine wpAny_bind (wpAny_newList ?_ (Nat.zero_le _))
  refine wpAny_holding ?_
  generalize g0.update (s.heap.objs.size + 1) (Obj.mapSeq fun _ => (#[] : Array Value)) = g1 at *
  have k1 : ∀ b o, b ≠ s.heap.objs.size + 1 → s.heap.get? b = some o → ((g1.push (seqObj "tuple" its.toArray 0)).push (seqObj "list" #[] 0)).get? b = some o := fun b o hb e =>
    Heap.get?_push_of_some _ (Heap.get?_push_of_some _ ((sb.2 b hb).trans (kold b o e)))
  have k2 : ∀ b o, s.heap.get? b = some o → ((g1.push (seqObj "tuple" its.toArray 0)).push (seqObj "list" #[] 0)).get? b = some o := fun b o e => k1 b o (Nat.ne_of_lt (Nat.lt_succ_of_lt (Heap.lt_size e))) e
  have hs2 : (g1.push (seqObj "tuple" its.toArray 0)).objs.size = g1.objs.size + 1 := by rw [size_push']
  have I2 : L2.Inv X pins σ H { s with heap := (g1.push (seqObj "tuple" its.toArray 0)).push (seqObj "list" #[] 0) } := I.kept (t' := s.toks) k2
  have hfl := Heap.lt_size hf
  have hkS : s.heap.objs.size + 1 < (g1.push (seqObj "tuple" its.toArray 0)).objs.size := by omega
  refine keys_loop (k := k) (H2 := H) (p := s.heap.objs.size + 1) (kS := (g1.push (seqObj "tuple" its.toArray 0)).objs.size) I2 rx hz' (by have := hr.units; show X.A.units + 1 + 1 + 5 < cLine; omega) (mine_of I (Nat.le_succ _)) (mine_of I (by omega)) (I.hok.fresh (Nat.le_succ _)) (I.hok.fresh (by omega)) (Nat.ne_of_gt hkS)
    (Heap.get?_push_of_some _ (Heap.get?_push_of_some _ ho1)) (Heap.get?_push_size _ rfl) (k2 f _ hf) nf ff (Nat.ne_of_lt (Nat.lt_succ_of_lt hfl)) (Nat.ne_of_lt (Nat.lt_trans (Nat.lt_succ_of_lt hfl) hkS)) (fun x v H3 s3 hx rx3 I3 e3 ef nf3 => ?_) fun H4 s4 I4 e4 np4 => ?_
  · exact lamP_run I3 L na I3.env0.in1.in1 (Un.kept fun _ _ e => e) rx3 (Room.in1 (Room.in1 hr)) ef (e3 _ _ hc) (hbind v) (fun s5 H5 r5 => hbody _ s5 H5 r5) I3.nolimit (ht x hx H3 e3)
  · exact ⟨rfl, .ref (s.heap.objs.size + 1), _, I4, rfl, q () _ H4 e4 (I.hok.fresh (Nat.le_succ _)) np4⟩
/-- the term: te the list, tb the lambda's body with its parameter as the last name -/
def tSortLam (K : PySem.W.Frag) (T : List (Addr × Str)) (te tb : TE) : TE := fun σ H Q => te σ H fun v H1 => Tabs T H1 ∧ ∀ H2, ExtN H1 H2 → Tabs T H2 → rSortLam K (fun x H3 Q3 => tb (σ ++ [some x]) H3 Q3) v H2 Q
theorem pe_sortLam {T : List (Addr × Str)} {c P : Addr} {j : Nat} {a : Str} {sc : Scope} {params : Arguments} {body e : Expr} {te tb : TE} {p lpos kpos pos : Pos} (he : PE X e te) (hg : Gl X "sorted") (hm : X.mg "sorted" = none)
    (TB : TabB X.base X.mg c P) (hcode : X.env.code = .ref c) (hmT : (P, X.env.qual ++ "<lambda>") ∈ T) (hu : ∀ p ∈ T, p.1 = P → p.2 = X.env.qual ++ "<lambda>") (hr : Room (j + 3) X.A) (L : LamP X.env.scope sc a) (na : X.N.all (fun y => decide (y ≠ a)) = true) (hdef : defaultsOf params X.env = ([], []))
    (hbind : ∀ (q : Str) (cl : List (Str × Addr)) (pm cv ctv u : Value), bindArgs (PySem.W.kla_fn "<lambda>" q params body sc cl pm cv ctv) ⟨[u], []⟩ = pure [(a, u)])
    (hbody : ∀ (A : Around) (s : Shared) (H : Hp) (f c' : Addr), Room j (A.deeper (lamEnv X sc s.heap.objs.size f c')) → PE (lamCxP X A X.stack s H NoX sc a f c') body tb)
    (star : starEach [e] X.env = (false, eval e X.env) :: starEach [] X.env := by rfl) (plain : backTo pos (starEach [e] X.env) = (false, eval e X.env) :: backTo pos (starEach [] X.env) := by rfl) (nostar : (backTo pos (starEach [e] X.env)).any (·.1) = false := by rfl) :
    PE X (.Call (.Name "sorted" p) [e] [⟨some "key", .Lambda params body sc lpos, kpos⟩] pos) (tSortLam X.K T te tb) := by
  refine ⟨fun pins s σ H Q I h => ?_⟩
  refine wpAny_Call_Name_kw (ld_blt I hg hm (by rfl) ?_ (by decide) (by decide))
  refine PyProof.Rows.callWith_kw (thn ((pa_cons he pa_nil (hs := star)).run pos pins s σ H (fun vs H1 => match vs with
    | [v] => Tabs T H1 ∧ ∀ H2, ExtN H1 H2 → Tabs T H2 → rSortLam X.K (fun x H3 Q3 => tb (σ ++ [some x]) H3 Q3) v H2 Q
    | _ => False) I h) fun us s1 ⟨vs, H1, I1, r1, h1⟩ => ?_) plain nostar rfl rfl
  match vs, r1, h1 with
  | [v], r1, h1 =>
    obtain ⟨u, rfl, ru⟩ := vals1 r1
    obtain ⟨hT, h1⟩ := h1
    show wpAny _ _ (evalAll [(do let v ← eval (.Lambda params body sc lpos) X.env; standAt pos; pure v)]) _ _ s1
    refine wpAny_evalAll_cons (wpAny_bind (lam_make2 I1 TB hcode hmT hu hT hdef (L.caps I.ok) fun f c' pm' ctv H2 s2 I2 eN T2 hf hfn hfr hco => wpAny_bind (wpAny_standAt (wpAny_pure ?_))))
    refine wpAny_evalAll_nil ?_
    exact sortLam_run I2 L na hr hf hfn hfr hco (fun u => hbind _ _ _ _ _ u) (fun A s H r => hbody A s H f c' r) ru (h1 H2 eN T2)
  | [], _, h1 => exact h1.elim
  | _ :: _ :: _, _, h1 => exact h1.elim
end

/-! ### defs that make lambdas: their code objects, the law's end -/
section
open LamX
variable {P : Program} {w : World} {K : PySem.W.Frag} {mg : Str → Option Value} {base : Heap}
/-- a def by its body, its code object known -/
theorem fun_okC {x qual : Str} {st : Stmt} {f c : Addr} {fd : FuncData} {N ps : List Str} {k : Nat} {sp : Sp} (F : Fun K x qual st f fd) (S : FnScope N ps (defScope st)) (hc : fd.code = .ref c) (len : ∀ vs H Q E, sp vs H Q E → vs.length = ps.length)
    (hb : ∀ (A : Around) (out : List Env) (s : Shared) (H : Hp) (vs : List V) (Q : VK) (E : XK), Room k (A.deeper (envOfC qual (defScope st) s.heap.objs.size f (.ref c))) → sp vs H Q E →
      ∃ t, PSs (cxOf CX0 P w K mg base N qual (defScope st) f (.ref c) A out s H E).nox (defBody st) t ∧ t { nx := fun _ H' => Q .non H', rt := Q } (start N vs) H) : FnOk P w K mg base CX0 (k + 1) f fd ps sp := by
  obtain ⟨oc, od, kV, doc, pm, an, cd, ct, sl, rfl, lk, hcd⟩ := F.ex
  obtain rfl : cd = Value.ref c := hc
  refine fn_of lk hcd S len fun A out s H vs Q E hr hsp => ?_
  obtain ⟨t, h, q⟩ := hb A out s H vs Q E hr hsp
  exact ⟨t, h.nox, q⟩
end

/-! ### set(xs), xs a list of numbers -/
section
open PySem
abbrev blankSet (w : World) : Obj := { cls := .type "set", dict := none, data := .set #[] 0 (.fresh 0 0 (!w.params.followText "set-order")) }
variable {P : Program} {w : World} {A : Around} {E : Value → Shared → Prop} {s : Shared}
set_option maxRecDepth 100000 in
set_option maxHeartbeats 3200000 in
theorem set_of_ints {z : Addr} {us : Array Value} (ks : List Int) {Q : Value → Shared → Prop} (free : A.handled = none) (lz : s.heap.IsList z us) (ik : IntsAre us.toList ks) (few : ks.length + 1 < scanBound)
    (q : ∀ (g : Heap) (tk c : Nat), SetR w g s.heap.objs.size (fun j => decide (j ∈ ks)) c → c ≤ ks.length → (∀ b o, s.heap.get? b = some o → g.get? b = some o) → Q (.ref s.heap.objs.size) { s with heap := g, toks := tk }) :
    wpAny (model P w) A (call (.type "set") [.ref z]) Q E s := by
  have nus : us.size = ks.length := by
    have e := IntsAre.length ik
    rw [Array.length_toList] at e
    exact e
  obtain ⟨cz, tz, mroz⟩ := F.called_set.mro
  have q1 := F.called_set.made
  have q2 := F.called_set.sub
  refine (wpAny_call (codeAny_of_tree ?_))
  change wpAny _ _ (callAny (.type "set") _) _ _ _
  refine wpAny_pure (And.intro (Code.quiet_builtin _ (by decide +kernel)) (codeAny_builtin F.entry_type_call ?_))
  rw [Around.under_plain (weight_type_call_type "set" [.ref z] []) rfl]
  have q3 := F.called_set.notType
  have q4 := F.called_set.canCreate
  have q5 := F.typeCall_set_1 (.ref z)
  repeat
    any_goals
      first
        | assumption
        | wp_step
  refine codeAny_mono (code_set_led1 (.ref z) (E := E) (Q₁ := fun a s2 => a = .ref s.heap.objs.size ∧ s2 = { s with heap := s.heap.push (blankSet w) }) ⟨rfl, rfl⟩) fun r s2 hr => ?_
  cases r with
  | error e => exact hr
  | ok fl =>
    cases fl with
    | ret a =>
      obtain ⟨rfl, rfl⟩ := hr
      have sS : (s.heap.push (blankSet w)).get? s.heap.objs.size = some (blankSet w) := Heap.get?_push_size _ rfl
      have sT : Shared.TypeIs { s with heap := s.heap.push (blankSet w) } (.ref s.heap.objs.size) "set" := ⟨_, sS, rfl⟩
      have q6 := F.called_set.init.lookup
      have q7 := F.called_set.init.bind (.ref s.heap.objs.size)
      repeat
        any_goals
          first
            | assumption
            | wp_step
      refine codeAny_mono (codeAny_call_builtin (R := wants (fun r s3 => r = .none ∧ ∃ g tk c, s3 = { s with heap := g, toks := tk } ∧ SetR w g s.heap.objs.size (fun j => decide (j ∈ ks)) c ∧ c ≤ ks.length ∧ ∀ b o, s.heap.get? b = some o → g.get? b = some o) E) F.called_set.init.plain F.entry_set_init (check_set_init_1 sT ?_)) fun r2 s2 hr2 => ?_
      · obtain ⟨ol, lo, lcl, nl, ldt⟩ := lz
        obtain ⟨ocls, odict, odata, oslots⟩ := ol
        simp only at lcl ldt
        subst lcl; subst ldt
        have lo2 : (s.heap.push (blankSet w)).get? z = some { cls := .type "list", dict := odict, data := .seq us nl, slots := oslots } := Heap.get?_push_of_some _ lo
        have q8 := F.sub_list_set
        have q9 := F.sub_list_frozenset
        have nd : (Value.type "list" == Value.type "dict") = false := by decide
        have lz1 : (s.heap.push (blankSet w)).IsList z us := ⟨_, lo2, rfl, nl, rfl⟩
        unfold Builtin.«set.__init__» noKeywords Builtin.Frozenset.updateFrom
        generalize hPI : pyIter = PI
        wp_walk
        subst hPI
        refine (wpAny_pyIter_list lz1 (wpAny_bind (wpAny_runValue ?_)))
        have zS : z < s.heap.objs.size := Heap.lt_size lo
        have free3 : A.in1.in1.in1.handled = none := by simp [free]
        have zI : z ≠ (s.heap.push (blankSet w)).objs.size := by
          rw [Heap.size_push]
          exact Nat.ne_of_lt (Nat.lt_succ_of_lt zS)
        have out : s.heap.objs.size ∉ [(s.heap.push (blankSet w)).objs.size, z] := by
          rw [Heap.size_push]
          simp only [List.mem_cons, List.mem_singleton, List.not_mem_nil, or_false, not_or]
          exact And.intro (Nat.ne_of_lt (Nat.lt_succ_self _)) (Nat.ne_of_gt zS)
        have each : ∀ (i : Nat) (v : Value), us[i]? = some v → ∃ k t, ks[i]? = some k ∧ v = .int k t := fun i v hv => by
          have hi : i < ks.length := by rw [← nus]; exact (Array.getElem?_eq_some_iff.mp hv).1
          obtain ⟨t, e⟩ := PyProof.Rows.IntsAre.int_at ik i v (by rw [Array.getElem?_toList]; exact hv)
          exact ⟨ks[i], t, List.getElem?_eq_getElem hi, by rw [e, List.getD_eq_getElem?_getD, List.getElem?_eq_getElem hi] <;> rfl⟩
        refine set_update_ints ((Walks.list free3 _ z zI us).toS) s.heap.objs.size out ks nus few each (us.size - 0) 0 _ (by omega) (Nat.zero_le _) ⟨⟨_, Heap.get?_push_size _ rfl, rfl, rfl⟩, (lz1.push _)⟩ ⟨0, Nat.le_refl 0, setR_new_at (Heap.get?_push_of_some _ sS)⟩ ?_
        intro s3 c' moved hc' hS'
        obtain ⟨g, g2, d', tk', os'⟩ := s3
        have eg : g2 = s.gens := moved.gens
        have ed : d' = s.drawn := moved.drawn
        have eo : os' = s.os := moved.os
        subst eg ed eo
        show wpAny _ _ _ _ _ _
        refine wpAny_pure ?_
        change wpAny _ _ (ret Value.none) _ _ _
        rw [nus] at hc'
        refine wpAny_pure ⟨rfl, g, tk', c', rfl, hS', hc', fun b o e => moved.heap b o ?_ (Heap.get?_push_of_some _ (Heap.get?_push_of_some _ e))⟩
        have b0 : b < s.heap.objs.size := Heap.lt_size e
        have b2 : b ≠ (s.heap.push (blankSet w)).objs.size := by
          rw [Heap.size_push]
          exact Nat.ne_of_lt (Nat.lt_succ_of_lt b0)
        simp only [List.mem_cons, List.mem_singleton, List.not_mem_nil, or_false, not_or]
        exact And.intro (Nat.ne_of_lt b0) b2
      · cases r2 with
        | error e => exact hr2
        | ok fl2 =>
          cases fl2 with
          | ret r =>
            obtain ⟨rfl, g, tk', c', rfl, k1, k2, k3⟩ := hr2
            repeat
              any_goals
                first
                  | assumption
                  | wp_step
            exact q _ _ _ k1 k2 k3
          | _ => exact hr2.elim
    | _ => exact hr.elim
end
section
variable {X : Cx}
/-- set(xs) of at most 1000 numbers -/
def rSetInts (K : PySem.W.Frag) (w : World) : List V → Hp → VK → Prop := fun vs H Q => ∃ (_ : Unit) (a : Addr) (ns : List Int), vs = [V.ref a] ∧ SqL K H a (ns.map V.int) ∧ ns.length ≤ 1000 ∧
  ∀ (p : Addr) (c : Nat), c ≤ ns.length → H p = none → Q (.ref p) (upd H p (SetO w p (fun j => decide (j ∈ ns)) c))
theorem cr_setInts (hc : X.calm = true) : CallR X (.type "set") (rSetInts X.K X.w) := by
  intro pins s σ H vs us Q I r h
  obtain ⟨_, a, ns, rfl, hs, few, q⟩ := h
  rw [Vals.ref1 r]
  obtain ⟨its, rv, pl, _⟩ := I.list hs
  refine set_of_ints ns (I.ok.hd hc) pl.isList (by simpa using rv.ints) (by unfold scanBound; omega) fun g tk c R hcn k => ?_
  exact ⟨.ref _, upd H s.heap.objs.size (SetO X.w s.heap.objs.size (fun j => decide (j ∈ ns)) c), I.laid (t' := tk) k (Nat.le_refl _) (setO_new R), rfl, q _ c hcn (I.hok.fresh (Nat.le_refl _))⟩
end

/-- how items of one kind are told as data; equal data are equal items -/
structure LayD {α : Type} [DecidableEq α] (L : α → PyData) (k : Nat) (G : α → Prop) : Prop where
  lay : ∀ x, G x → (L x).canLay0 = true
  dep : ∀ x, (L x).depth ≤ k
  eqv : ∀ x y, PyData.eqv (L x) (L y) = decide (x = y)
theorem LayD.shaped {α : Type} [DecidableEq α] {L : α → PyData} {k : Nat} {G : α → Prop} (h : LayD L k G) (hk : k ≤ 64) {x : α} (g : G x) : SeqAt.shaped (L x) = true := by
  have h1 := h.lay x g
  have h2 := h.dep x
  unfold SeqAt.shaped
  rw [h1, Bool.true_and]
  exact decide_eq_true (by omega)
theorem layD_int : LayD PyData.int 0 (fun _ => True) := ⟨fun _ _ => rfl, fun _ => Nat.le_refl _, fun x y => by simp only [PyData.eqv]; exact (Bool.beq_eq_decide_eq x y)⟩
theorem layD_str : LayD PyData.str 0 (fun x => PyData.strOk x = true) := ⟨fun _ h => by simp only [PyData.canLay0]; exact h, fun _ => Nat.le_refl _, fun x y => by simp only [PyData.eqv]; exact (Bool.beq_eq_decide_eq x y)⟩
theorem decide_and2 {p q r : Prop} [Decidable p] [Decidable q] [Decidable r] (h : r ↔ p ∧ q) : (decide p && decide q) = decide r := by
  by_cases hp : p <;> by_cases hq : q <;> simp [h, hp, hq]
theorem layD_all {α : Type} [DecidableEq α] {L : α → PyData} {k : Nat} {G : α → Prop} (h : LayD L k G) : (∀ xs : List α, (∀ x, x ∈ xs → G x) → PyData.canLayAll0 (xs.map L) = true) ∧ (∀ xs : List α, PyData.depthAll (xs.map L) ≤ k) ∧ ∀ xs ys : List α, PyData.eqvAll (xs.map L) (ys.map L) = decide (xs = ys) := by
  refine ⟨fun xs => ?_, fun xs => ?_, fun xs => ?_⟩
  · induction xs with
    | nil => exact fun _ => rfl
    | cons x xs ih =>
      intro g
      rw [List.map_cons]
      simp only [PyData.canLayAll0, ih fun y hy => g y (List.mem_cons_of_mem _ hy), h.lay x (g x List.mem_cons_self)]
      rfl
  · induction xs with
    | nil => exact Nat.zero_le _
    | cons x xs ih => rw [List.map_cons]; simp only [PyData.depthAll]; exact Nat.max_le.mpr ⟨h.dep x, ih⟩
  · induction xs with
    | nil =>
      intro ys
      cases ys with
      | nil => rfl
      | cons y ys => simp [PyData.eqvAll]
    | cons x xs ih =>
      intro ys
      cases ys with
      | nil => simp [PyData.eqvAll]
      | cons y ys =>
        rw [List.map_cons, List.map_cons]
        simp only [PyData.eqvAll]
        rw [ih ys, h.eqv x y]
        exact decide_and2 (by rw [List.cons.injEq])
theorem LayD.list {α : Type} [DecidableEq α] {L : α → PyData} {k : Nat} {G : α → Prop} (h : LayD L k G) : LayD (fun xs : List α => PyData.list (xs.map L)) (k + 1) (fun xs => ∀ x, x ∈ xs → G x) := by
  obtain ⟨h1, h2, h3⟩ := layD_all h
  refine ⟨fun xs g => ?_, fun xs => ?_, fun xs ys => ?_⟩
  · simp only [PyData.canLay0]; exact h1 xs g
  · simp only [PyData.depth]; exact Nat.succ_le_succ (h2 xs)
  · simp only [PyData.eqv]; exact h3 xs ys
theorem LayD.tup2 {α β : Type} [DecidableEq α] [DecidableEq β] {L : α → PyData} {M : β → PyData} {k : Nat} {G : α → Prop} {G2 : β → Prop} (h : LayD L k G) (g : LayD M k G2) : LayD (fun x : α × β => PyData.tuple [L x.1, M x.2]) (k + 1) (fun x => G x.1 ∧ G2 x.2) := by
  refine ⟨fun x a => ?_, fun x => ?_, fun x y => ?_⟩
  · simp only [PyData.canLay0, PyData.canLayAll0, h.lay _ a.1, g.lay _ a.2, Bool.and_true]
  · simp only [PyData.depth, PyData.depthAll]
    have := h.dep x.1
    have := g.dep x.2
    omega
  · simp only [PyData.eqv, PyData.eqvAll, h.eqv, g.eqv, Bool.and_true]
    exact decide_and2 (by rw [Prod.ext_iff])
theorem LayD.tup3 {α β γ : Type} [DecidableEq α] [DecidableEq β] [DecidableEq γ] {L : α → PyData} {M : β → PyData} {N : γ → PyData} {k : Nat} {G : α → Prop} {G2 : β → Prop} {G3 : γ → Prop} (h : LayD L k G) (g : LayD M k G2) (e : LayD N k G3) : LayD (fun x : α × β × γ => PyData.tuple [L x.1, M x.2.1, N x.2.2]) (k + 1) (fun x => G x.1 ∧ G2 x.2.1 ∧ G3 x.2.2) := by
  refine ⟨fun x a => ?_, fun x => ?_, fun x y => ?_⟩
  · simp only [PyData.canLay0, PyData.canLayAll0, h.lay _ a.1, g.lay _ a.2.1, e.lay _ a.2.2, Bool.and_true]
  · simp only [PyData.depth, PyData.depthAll]
    have := h.dep x.1
    have := g.dep x.2.1
    have := e.dep x.2.2
    omega
  · simp only [PyData.eqv, PyData.eqvAll, h.eqv, g.eqv, e.eqv, Bool.and_true]
    rw [decide_and2 (r := x.2 = y.2) (by rw [Prod.ext_iff])]
    exact decide_and2 (by rw [Prod.ext_iff])
theorem LayD.tup4 {α β γ δ : Type} [DecidableEq α] [DecidableEq β] [DecidableEq γ] [DecidableEq δ] {L : α → PyData} {M : β → PyData} {N : γ → PyData} {O : δ → PyData} {k : Nat} {G : α → Prop} {G2 : β → Prop} {G3 : γ → Prop} {G4 : δ → Prop} (h : LayD L k G) (g : LayD M k G2) (e : LayD N k G3) (d : LayD O k G4) : LayD (fun x : α × β × γ × δ => PyData.tuple [L x.1, M x.2.1, N x.2.2.1, O x.2.2.2]) (k + 1) (fun x => G x.1 ∧ G2 x.2.1 ∧ G3 x.2.2.1 ∧ G4 x.2.2.2) := by
  refine ⟨fun x a => ?_, fun x => ?_, fun x y => ?_⟩
  · simp only [PyData.canLay0, PyData.canLayAll0, h.lay _ a.1, g.lay _ a.2.1, e.lay _ a.2.2.1, d.lay _ a.2.2.2, Bool.and_true]
  · simp only [PyData.depth, PyData.depthAll]
    have := h.dep x.1
    have := g.dep x.2.1
    have := e.dep x.2.2.1
    have := d.dep x.2.2.2
    omega
  · simp only [PyData.eqv, PyData.eqvAll, h.eqv, g.eqv, e.eqv, d.eqv, Bool.and_true]
    rw [decide_and2 (r := x.2.2 = y.2.2) (by rw [Prod.ext_iff]), decide_and2 (r := x.2 = y.2) (by rw [Prod.ext_iff])]
    exact decide_and2 (by rw [Prod.ext_iff])
theorem eqL {α : Type} [DecidableEq α] {L : α → PyData} {k : Nat} {G : α → Prop} (h : LayD L k G) (hk : k ≤ 64) {K : PySem.W.Frag} {H : Hp} {x y : V} {a b : α} {Q : VK} (ga : G a) (gb : G b) (h1 : Dp K H x (L a)) (h2 : Dp K H y (L b)) (q : Q (.bl (decide (a = b))) H) : rEqD K x y H Q :=
  ⟨_, _, h1, h2, h.shaped hk ga, h.shaped hk gb, by rw [h.eqv]; exact q⟩
theorem neL {α : Type} [DecidableEq α] {L : α → PyData} {k : Nat} {G : α → Prop} (h : LayD L k G) (hk : k ≤ 64) {K : PySem.W.Frag} {H : Hp} {x y : V} {a b : α} {Q : VK} (ga : G a) (gb : G b) (h1 : Dp K H x (L a)) (h2 : Dp K H y (L b)) (q : Q (.bl (!decide (a = b))) H) : rNeD K x y H Q :=
  ⟨_, _, h1, h2, h.shaped hk ga, h.shaped hk gb, by rw [h.eqv]; exact q⟩
theorem dpAll_refs {α : Type} {L : α → PyData} {K : PySem.W.Frag} {H : Hp} : ∀ {ps : List Addr} {xs : List α}, ps.length = xs.length → (∀ (i : Nat) (p : Addr) (x : α), ps[i]? = some p → xs[i]? = some x → Dp K H (.ref p) (L x)) → DpAll K H (ps.map V.ref) (xs.map L)
  | [], [], _, _ => .nil
  | [], _ :: _, h, _ => by cases h
  | _ :: _, [], h, _ => by cases h
  | p :: ps, x :: xs, h, e => .cons (e 0 p x rfl rfl) (dpAll_refs (Nat.succ.inj h) fun i p' x' h1 h2 => e (i + 1) p' x' h1 h2)

/-! ### pairs and fours of numbers in their order -/
section
theorem item_inl {a b : Int} : itemLt (.inl a) (.inl b) = decide (a < b) := rfl
theorem lex_inl {a b : Int} {r t : List (Int ⊕ List Nat)} : PyProof.Rows.lexLt itemOrd (.inl a :: r) (.inl b :: t) = (decide (a < b) || (!decide (b < a) && PyProof.Rows.lexLt itemOrd r t)) := rfl
theorem pair_lt {x y : Int × Int} : PySem.W.dataLt (pairD x) (pairD y) = decide (x.1 < y.1 ∨ (x.1 = y.1 ∧ x.2 < y.2)) := by
  unfold PySem.W.dataLt pairD
  simp only [PySem.W.keyToks, PySem.W.keyToksAll, List.cons_append, List.nil_append, lex_inl]
  rw [Bool.eq_iff_iff]
  simp only [Bool.or_eq_true, Bool.and_eq_true, Bool.not_eq_true', decide_eq_true_eq, decide_eq_false_iff_not, PyProof.Rows.lexLt, item_inl, Bool.false_eq_true, or_false, and_false]
  omega
theorem pairLe_iff {k : V → Int × Int} {x y : V} : pairLe k x y = true ↔ (k x).1 < (k y).1 ∨ ((k x).1 = (k y).1 ∧ (k x).2 ≤ (k y).2) := by
  have e : pairLe k x y = !PySem.W.dataLt (pairD (k y)) (pairD (k x)) := rfl
  rw [e, pair_lt]
  by_cases h : (k y).1 < (k x).1 ∨ ((k y).1 = (k x).1 ∧ (k y).2 < (k x).2)
  · rw [decide_eq_true h]
    constructor
    · intro z
      cases z
    · intro z
      omega
  · rw [decide_eq_false h]
    exact ⟨fun _ => by omega, fun _ => rfl⟩
/-- four numbers -/
abbrev Four := Int × Int × Int × Int
def fourD (q : Four) : PyData := .tuple [.int q.1, .int q.2.1, .int q.2.2.1, .int q.2.2.2]
def FourLt (x y : Four) : Prop := x.1 < y.1 ∨ (x.1 = y.1 ∧ (x.2.1 < y.2.1 ∨ (x.2.1 = y.2.1 ∧ (x.2.2.1 < y.2.2.1 ∨ (x.2.2.1 = y.2.2.1 ∧ x.2.2.2 < y.2.2.2)))))
instance (x y : Four) : Decidable (FourLt x y) := by unfold FourLt; exact inferInstance
theorem four_lt {x y : Four} : PySem.W.dataLt (fourD x) (fourD y) = decide (FourLt x y) := by
  unfold PySem.W.dataLt fourD
  simp only [PySem.W.keyToks, PySem.W.keyToksAll, List.cons_append, List.nil_append, lex_inl]
  rw [Bool.eq_iff_iff, decide_eq_true_iff]
  simp only [Bool.or_eq_true, Bool.and_eq_true, Bool.not_eq_true', decide_eq_true_eq, decide_eq_false_iff_not, PyProof.Rows.lexLt, item_inl, Bool.false_eq_true, or_false, and_false]
  unfold FourLt
  omega
def minFour (x : Four) (xs : List Four) : Four := xs.foldl (fun a y => if FourLt y a then y else a) x
theorem minD_four (x : Four) : ∀ xs : List Four, PySem.W.minD (fourD x) (xs.map fourD) = fourD (minFour x xs) := by
  intro xs
  unfold PySem.W.minD minFour
  induction xs generalizing x with
  | nil => rfl
  | cons y r ih =>
    rw [List.map_cons, List.foldl_cons, List.foldl_cons, ← ih, four_lt]
    congr 1
    by_cases h : FourLt y x
    · rw [decide_eq_true h, if_pos rfl, if_pos h]
    · rw [decide_eq_false h, if_neg Bool.false_ne_true, if_neg h]
theorem minFour_least : ∀ (xs : List Four) (x y : Four), y ∈ x :: xs → ¬ FourLt y (minFour x xs) := by
  intro xs
  induction xs with
  | nil =>
    intro x y h
    rw [List.mem_singleton.mp h]
    show ¬ FourLt x x
    unfold FourLt
    omega
  | cons z r ih =>
    intro x y h
    have e : minFour x (z :: r) = minFour (if FourLt z x then z else x) r := rfl
    rw [e]
    have hm := ih (if FourLt z x then z else x)
    have h0 := hm _ (List.mem_cons_self ..)
    rcases List.mem_cons.mp h with rfl | h
    · by_cases c : FourLt z y
      · rw [if_pos c] at h0 ⊢
        unfold FourLt at c h0 ⊢
        omega
      · rw [if_neg c] at h0 ⊢
        exact h0
    · rcases List.mem_cons.mp h with rfl | h
      · by_cases c : FourLt y x
        · rw [if_pos c] at h0 ⊢
          exact h0
        · rw [if_neg c] at h0 ⊢
          unfold FourLt at c h0 ⊢
          omega
      · exact hm y (List.mem_cons_of_mem _ h)
variable {X : Cx}
def FourAt (H : Hp) (q : Four) (a : Addr) : Prop := H a = some (.tup [.int q.1, .int q.2.1, .int q.2.2.1, .int q.2.2.2])
/-- min(xs), xs a list of fours of numbers -/
def rMinFour (K : PySem.W.Frag) : List V → Hp → VK → Prop := fun vs H Q => ∃ (_ : Unit) (l : Addr) (as : List Addr) (x : Four) (xs : List Four), vs = [V.ref l] ∧ SqL K H l (as.map V.ref) ∧ as.length = xs.length + 1 ∧ (∀ (i : Nat) (a : Addr) (q : Four), as[i]? = some a → (x :: xs)[i]? = some q → FourAt H q a) ∧
  ∀ (_ : Unit) (a : Addr) (q : Four), q ∈ x :: xs → FourAt H q a → (∀ y, y ∈ x :: xs → ¬ FourLt y q) → Q (.ref a) H
theorem four_inj {x y : Four} (h : fourD x = fourD y) : x = y := by
  obtain ⟨a, b, c, d⟩ := x
  obtain ⟨a', b', c', d'⟩ := y
  unfold fourD at h
  simp only [PyData.tuple.injEq, List.cons.injEq, PyData.int.injEq, and_true] at h
  obtain ⟨h1, h2, h3, h4⟩ := h
  subst h1 h2 h3 h4
  rfl
theorem cr_minFour {k : Nat} (hr : Room k X.A) (hc : X.calm = true) : CallR X (.builtin "min") (rMinFour X.K) := by
  intro pins s σ H vs us Q I r h
  obtain ⟨_, l, as, x, xs, rfl, hs, hl, hf, q⟩ := h
  rw [Vals.ref1 r]
  obtain ⟨its, rv, pl, _⟩ := I.list hs
  have hd : DpAll X.K H (as.map V.ref) ((x :: xs).map fourD) := dpAll_refs (L := fourD) (by rw [hl]; rfl) fun i p q h1 h2 => .tup (SqT.of (hf i p q h1 h2)) (.cons (.int _) (.cons (.int _) (.cons (.int _) (.cons (.int _) .nil))))
  obtain ⟨ws, hrd⟩ := Dp.readsAll I _ _ _ hd rv
  have hal : PySem.W.AlikeAll (fourD x :: xs.map fourD) := by
    have all : ∀ d, d ∈ fourD x :: xs.map fourD → ∃ q, d = fourD q := fun d hd => by
      rcases List.mem_cons.mp hd with z | z
      · exact ⟨x, z⟩
      · obtain ⟨q, _, e⟩ := List.mem_map.mp z
        exact ⟨q, e.symm⟩
    refine ⟨fun d hd e he => ?_, fun d hd z => ?_⟩
    · obtain ⟨q1, rfl⟩ := all d hd
      obtain ⟨q2, rfl⟩ := all e he
      simp [fourD, PySem.W.alike, PySem.W.alikeAll]
    · obtain ⟨q1, rfl⟩ := all d hd
      cases z
  refine PySem.W.min_list_data (I.ok.hd hc) pl.isList (x := fourD x) (xs := xs.map fourD) (by simpa using hrd) hal ?_ fun i v g tk bs hv hrv hk => ?_
  · have hdep : PyData.depthAll (fourD x :: xs.map fourD) ≤ 2 := by
      have h2 : ∀ ys : List Four, PyData.depthAll (ys.map fourD) ≤ 2 := fun ys => by
        induction ys with
        | nil => exact Nat.zero_le _
        | cons y r ih =>
          rw [List.map_cons]
          simp only [PyData.depthAll]
          exact Nat.max_le.mpr ⟨by simp [fourD, PyData.depth, PyData.depthAll], ih⟩
      exact h2 (x :: xs)
    have := hr.units
    omega
  · rw [List.getElem?_toArray] at hv
    have hi := (List.getElem?_eq_some_iff.mp hv).1
    have hlen := rv.length
    rw [List.length_map] at hlen
    obtain ⟨a, ha⟩ : ∃ a, as[i]? = some a := ⟨_, List.getElem?_eq_getElem (by omega)⟩
    obtain ⟨y, hy⟩ : ∃ y, (x :: xs)[i]? = some y := ⟨_, List.getElem?_eq_getElem (by rw [List.length_cons]; omega)⟩
    obtain ⟨u, hu, ru⟩ := rv.get (i := i) (x := V.ref a) (by rw [List.getElem?_map, ha]; rfl)
    rw [hv] at hu
    obtain rfl := Option.some.inj hu
    obtain rfl : v = Value.ref a := ru
    have I2 : L2.Inv X pins σ H { s with heap := g, toks := tk } := I.kept hk
    have hfa := hf i a y ha hy
    obtain ⟨bs2, r2⟩ := Dp.reads I2 (fourD y) (.ref a) (.ref a) (.tup (SqT.of hfa) (.cons (.int _) (.cons (.int _) (.cons (.int _) (.cons (.int _) .nil))))) rfl
    rw [minD_four] at hrv
    have e : y = minFour x xs := four_inj (PySem.W.alike_unique _ _ _ _ _ (by simp [fourD, PySem.W.alike, PySem.W.alikeAll]) r2 hrv)
    exact ⟨.ref a, H, I2, rfl, q () a y (List.mem_of_getElem? hy) hfa fun z hz => by rw [e]; exact minFour_least xs x z hz⟩
end
section
variable {X : Cx}
/-- x < y of alike data -/
def rLtAlike (K : PySem.W.Frag) : R2 := fun x y H Q => ∃ (_ : Unit) (dx dy : PyData), Dp K H x dx ∧ Dp K H y dy ∧ PySem.W.alike dx dy = true ∧ dx ≠ .none ∧ dx.depth ≤ 60 ∧ Q (.bl (PySem.W.dataLt dx dy)) H
theorem op_ltAlike {k : Nat} (hr : Room k X.A) : OpR X (compareOp .Lt) (rLtAlike X.K) := by
  intro pins s σ H x y v u Q I rx ry h
  obtain ⟨_, dx, dy, h1, h2, h3, h4, h5, q⟩ := h
  obtain ⟨as, r1⟩ := Dp.reads I dx x v h1 rx
  obtain ⟨bs, r2⟩ := Dp.reads I dy y u h2 ry
  refine PySem.W.lt_data r1 r2 h3 h4 ?_ ⟨.bl (PySem.W.dataLt dx dy), H, I, rfl, q⟩
  have := hr.units
  omega
/-- four numbers in a list -/
theorem four_ltL {x y : Four} : PySem.W.dataLt (.list [.int x.1, .int x.2.1, .int x.2.2.1, .int x.2.2.2]) (.list [.int y.1, .int y.2.1, .int y.2.2.1, .int y.2.2.2]) = decide (FourLt x y) := by
  rw [← four_lt]
  rfl
end

section
variable {X : Cx}
/-- x > y, x >= y of alike data -/
def rGtAlike (K : PySem.W.Frag) : R2 := fun x y H Q => ∃ (_ : Unit) (dx dy : PyData), Dp K H x dx ∧ Dp K H y dy ∧ PySem.W.alike dx dy = true ∧ dx ≠ .none ∧ dx.depth ≤ 60 ∧ Q (.bl (PySem.W.dataLt dy dx)) H
def rGeAlike (K : PySem.W.Frag) : R2 := fun x y H Q => ∃ (_ : Unit) (dx dy : PyData), Dp K H x dx ∧ Dp K H y dy ∧ PySem.W.alike dx dy = true ∧ dx ≠ .none ∧ dx.depth ≤ 60 ∧ Q (.bl (!PySem.W.dataLt dx dy)) H
theorem op_gtAlike {k : Nat} (hr : Room k X.A) : OpR X (compareOp .Gt) (rGtAlike X.K) := by
  intro pins s σ H x y v u Q I rx ry h
  obtain ⟨_, dx, dy, h1, h2, h3, h4, h5, q⟩ := h
  obtain ⟨as, r1⟩ := Dp.reads I dx x v h1 rx
  obtain ⟨bs, r2⟩ := Dp.reads I dy y u h2 ry
  refine PySem.W.gt_data r1 r2 h3 h4 ?_ ⟨.bl (PySem.W.dataLt dy dx), H, I, rfl, q⟩
  have := hr.units
  omega
theorem op_geAlike {k : Nat} (hr : Room k X.A) : OpR X (compareOp .GtE) (rGeAlike X.K) := by
  intro pins s σ H x y v u Q I rx ry h
  obtain ⟨_, dx, dy, h1, h2, h3, h4, h5, q⟩ := h
  obtain ⟨as, r1⟩ := Dp.reads I dx x v h1 rx
  obtain ⟨bs, r2⟩ := Dp.reads I dy y u h2 ry
  refine PySem.W.ge_data r1 r2 h3 h4 ?_ ⟨.bl (!PySem.W.dataLt dx dy), H, I, rfl, q⟩
  have := hr.units
  omega
/-- three numbers in a list -/
abbrev Three := Int × Int × Int
def threeD (q : Three) : PyData := .list [.int q.1, .int q.2.1, .int q.2.2]
def ThreeLt (x y : Three) : Prop := x.1 < y.1 ∨ (x.1 = y.1 ∧ (x.2.1 < y.2.1 ∨ (x.2.1 = y.2.1 ∧ x.2.2 < y.2.2)))
instance (x y : Three) : Decidable (ThreeLt x y) := by unfold ThreeLt; exact inferInstance
theorem three_lt {x y : Three} : PySem.W.dataLt (threeD x) (threeD y) = decide (ThreeLt x y) := by
  unfold PySem.W.dataLt threeD
  simp only [PySem.W.keyToks, PySem.W.keyToksAll, List.cons_append, List.nil_append, lex_inl]
  rw [Bool.eq_iff_iff, decide_eq_true_iff]
  simp only [Bool.or_eq_true, Bool.and_eq_true, Bool.not_eq_true', decide_eq_true_eq, decide_eq_false_iff_not, PyProof.Rows.lexLt, item_inl, Bool.false_eq_true, or_false, and_false]
  unfold ThreeLt
  omega
theorem three_alike (x y : Three) : PySem.W.alike (threeD x) (threeD y) = true := by simp [threeD, PySem.W.alike, PySem.W.alikeAll]
theorem three_dep (x : Three) : (threeD x).depth ≤ 60 := by simp [threeD, PyData.depth, PyData.depthAll]
theorem three_ne (x : Three) : threeD x ≠ .none := by simp [threeD]
end

/-! ### sorted(xs, key=lambda ..): the keys are numbers -/
section
open LamX
variable {X : Cx} {pins : List (Addr × Obj)} {σ : L2.St} {H : Hp} {s : Shared}
theorem one_alike {ks : List Int} : PySem.W.AllAlike (ks.map PyData.int) := by
  intro d hd d' hd'
  obtain ⟨x, _, rfl⟩ := List.mem_map.mp hd
  obtain ⟨y, _, rfl⟩ := List.mem_map.mp hd'
  simp [PySem.W.alike]
theorem one_sortable {ks : List Int} : PySem.W.Sortable (ks.map PyData.int) := .inr fun d hd => by
  obtain ⟨x, _, rfl⟩ := List.mem_map.mp hd
  exact ⟨fun z => (by cases z), fun xs z => (by cases z)⟩
/-- the keys are made one after another -/
theorem keys_loop1 {A : Around} {f : Addr} {fo : Obj} {vs : List Value} {xs : List V} {k : V → Int} {p kS : Addr} {e1 : Nat} {H2 : Hp} {s2 : Shared} {P : PySem.Fin → Shared → Prop} {E : Value → Shared → Prop}
    (I : Inv X pins σ H2 s2) (rv : Vals xs vs) (hz : vs.length ≤ sizeLine) (hu : A.units + 5 < cLine)
    (Mp : Mine X pins p) (MkS : Mine X pins kS) (np : H2 p = none) (nk : H2 kS = none) (hkp : kS ≠ p) (ep : s2.heap.get? p = some (seqObj "list" #[] e1)) (ek : s2.heap.get? kS = some (seqObj "list" #[] 0)) (ef : s2.heap.get? f = some fo) (nf : H2 f = none) (ff : f ∉ frs X.stack) (hfp : f ≠ p) (hfk : f ≠ kS)
    (turn : ∀ (x : V) (v : Value) (H3 : Hp) (s3 : Shared), x ∈ xs → L2.RelV x v → Inv X pins σ H3 s3 → Same H2 H3 → s3.heap.get? f = some fo → H3 f = none →
      codeAny (model X.prog X.w) A (.call (.ref f) ⟨[v], []⟩) (CR (L2.CX X.prog X.w) X.stack X.prog X.w H3 s3 (fun y H4 => Same H3 H4 ∧ y = V.int (k x)) NoX) s3)
    (q : ∀ H4 s4, L2.Inv X pins σ (upd H4 p (.lst (xs.mergeSort (PySem.W.dataLe false fun x => PyData.int (k x))))) s4 → Same H2 H4 → H4 p = none → P (.done (.ret .none)) s4) :
    wpAny (model X.prog X.w) A (ksk_rest p (.ref f) false vs.toArray e1 (.ref kS)) P E s2 := by
  unfold ksk_rest
  refine wpAny_bind (wpAny_rule ?_)
  first
    | rw [List.forIn_toArray]
    | (rw [← Array.forIn_toList]; simp only [List.toList_toArray])
    | rw [← Array.forIn_toList]
  have hxl : xs.length = vs.length := rv.length
  refine wpAny_bind (ksk_fold (fun i s3 => ∃ (H3 : Hp) (kA : Array Value) (e : Nat) (ys : List V), Inv X pins σ H3 s3 ∧ Same H2 H3 ∧ H3 p = none ∧ H3 kS = none ∧ H3 f = none ∧ s3.heap.get? p = some (seqObj "list" #[] e1) ∧ s3.heap.get? kS = some (seqObj "list" kA e) ∧ s3.heap.get? f = some fo ∧ Vals ys kA.toList ∧ ys.length = i ∧ ∀ (j : Nat) (x y : V), xs[j]? = some x → ys[j]? = some y → y = V.int (k x)) vs 0 s2
    ⟨H2, #[], 0, [], I, Same.refl _, np, nk, nf, ep, ek, ef, .nil, rfl, fun j x y _ h => by cases h⟩ ?step ?done)
  case step =>
    rintro j v s3 hv ⟨H3, kA, e, ys, I3, e3, np3, nk3, nf3, ep3, ek3, ef3, rk, hy, hP⟩
    rw [Nat.zero_add] at hy
    have hj : j < vs.length := (List.getElem?_eq_some_iff.mp hv).1
    obtain ⟨x, hx⟩ : ∃ x, xs[j]? = some x := ⟨_, List.getElem?_eq_getElem (by omega)⟩
    obtain ⟨v', hv', rx⟩ := rv.get hx
    rw [hv] at hv'
    obtain rfl := Option.some.inj hv'
    have hkl : ys.length = kA.size := rk.length.trans (Array.length_toList ..)
    refine wpAny_bind (wpAny_attempt (wpAny_call (codeAny_mono (turn x v H3 s3 (List.mem_of_getElem? hx) rx I3 e3 ef3 nf3) fun r s4 hq => ?_)))
    cases r with
    | error e => exact (noX_elim hq).elim
    | ok fl =>
      cases fl with
      | next => exact False.elim hq
      | brk => exact False.elim hq
      | cont => exact False.elim hq
      | ret u =>
        obtain ⟨y, H4, os, bare, un, hok, ry, e4, hy4⟩ := hq
        have I4 : L2.Inv X pins σ H4 s4 := I3.call' os un hok bare fun b z => absurd z (by simp)
        have ep4 := un.keep p _ ep3 np3 Mp.fr (by simp)
        have ek4 := un.keep kS _ ek3 nk3 MkS.fr (by simp)
        have ef4 := un.keep f _ ef3 nf3 ff (by simp)
        have np4 := un.free p _ ep3 np3 (by simp)
        have nk4 := un.free kS _ ek3 nk3 (by simp)
        have nf4 := un.free f _ ef3 nf3 (by simp)
        have sb := Heap.SameBut.update s4.heap kS (Obj.mapSeq (·.push u))
        obtain ⟨c2, hc2⟩ : ∃ c2, (s4.heap.update kS (Obj.mapSeq (·.push u))).get? kS = some (seqObj "list" (kA.push u) c2) := ⟨_, get?_update_seq ek4 (·.push u)⟩
        dsimp only
        refine wpAny_bind (listUpdate_at ek4 rfl ?_ (by omega) (by rw [Array.size_push]; omega))
        have I5 : L2.Inv X pins σ H4 { s4 with heap := s4.heap.update kS (Obj.mapSeq (·.push u)) } := inv_mine (tk := s4.toks) I4 MkS nk4 fun c o hc e => (sb.2 c hc).trans e
        refine wpAny_pure ⟨rfl, H4, kA.push u, c2, ys ++ [y], I5, e3.trans e4, np4, nk4, nf4, (sb.2 p hkp.symm).trans ep4, hc2, (sb.2 f hfk).trans ef4, by rw [Array.toList_push]; exact rk.append (.cons ry .nil), by rw [List.length_append]; show ys.length + 1 = 0 + j + 1; omega, fun i a b h1 h2 => ?_⟩
        by_cases hi : i < ys.length
        · rw [List.getElem?_append_left hi] at h2
          exact hP i a b h1 h2
        · rw [List.getElem?_append_right (by omega)] at h2
          have hi2 := (List.getElem?_eq_some_iff.mp h2).1
          rw [List.length_cons, List.length_nil] at hi2
          rw [show i - ys.length = 0 by omega] at h2
          obtain rfl := Option.some.inj h2
          rw [show i = j by omega, hx] at h1
          obtain rfl := Option.some.inj h1
          exact hy4
  case done =>
    rintro s3 ⟨H3, kA, e, ys, I3, e3, np3, nk3, nf3, ep3, ek3, ef3, rk, hy, hP⟩
    have hkl : ys.length = kA.size := rk.length.trans (Array.length_toList ..)
    have hk : PySem.W.EachIs (fun v d => ∃ as, Reads s3.heap v d as) kA.toList (xs.map fun x => PyData.int (k x)) := by
      refine each_ix (by rw [List.length_map, Array.length_toList]; omega) fun i v d h1 h2 => ?_
      rw [List.getElem?_map] at h2
      cases hx : xs[i]? with
      | none => rw [hx] at h2; cases h2
      | some x =>
        rw [hx] at h2
        obtain rfl := Option.some.inj h2
        have hil := (List.getElem?_eq_some_iff.mp hx).1
        obtain ⟨y, hy2⟩ : ∃ y, ys[i]? = some y := ⟨_, List.getElem?_eq_getElem (by omega)⟩
        obtain ⟨v', hv', rx⟩ := rk.get hy2
        rw [h1] at hv'
        obtain rfl := Option.some.inj hv'
        rw [hP i x y hx hy2] at rx
        obtain ⟨t1, rfl⟩ : ∃ t1, v = Value.int (k x) t1 := rx
        exact ⟨[], .int _ _⟩
    have hkk : (xs.map fun x => PyData.int (k x)) = (xs.map k).map PyData.int := by rw [List.map_map]; rfl
    have hal : PySem.W.AllAlike (xs.map fun x => PyData.int (k x)) := by rw [hkk]; exact one_alike
    have hso : PySem.W.Sortable (xs.map fun x => PyData.int (k x)) := by rw [hkk]; exact one_sortable
    refine wpAny_bind (listItems_at ek3 rfl ?_)
    obtain ⟨G, g1, g2⟩ := restrict s3.heap fun b => decide (b ≠ kS)
    refine PySem.W.keyH_end (κ := PySem.W.dataKind s3.heap (xs.map fun x => PyData.int (k x))) (h₁ := G) (fun b o hb e => ?_) (g2 kS (by simp)) ek3 ep3 hkp (PySem.W.SortsAt.data hk hal hso fun d hd => ?_) (by omega) hz fun h' tk c kp hp => ?_
    · by_cases z : b = kS
      · rw [z, g2 kS (by simp)] at e
        cases e
      · rw [g1 b (by simp [z])] at e
        exact e
    · obtain ⟨x, _, rfl⟩ := List.mem_map.mp hd
      show A.units + (PyData.int (k x)).depth < cLine
      have : (PyData.int (k x)).depth ≤ 2 := by simp [PyData.depth]
      omega
    · have ko := PySem.W.keyedOut_each (rev := false) (R := fun v x => L2.RelV x v) (fun x => PyData.int (k x)) ⟨s3.heap, kA.toList, hal, rfl, hk⟩ (vals_each rv)
      have rs := each_vals ko
      refine q H3 _ (inv_sorted I3 Mp MkS np3 nk3 ?_ rs hp fun b o b1 b2 e => kp b o b1 (by rw [g1 b (by simp [b2])]; exact e)) e3 np3
      rw [List.length_mergeSort, hxl]
      exact hz
end
/-! ### the rule for sorted(xs, key=lambda x: ..) -/
section
open LamX
variable {X : Cx} {pins : List (Addr × Obj)} {σ : L2.St} {H : Hp} {s : Shared}
def oneLe (k : V → Int) : V → V → Bool := PySem.W.dataLe false fun x => PyData.int (k x)
/-- what is asked of the sort of l, and what it gives -/
def rSortLam1 (K : PySem.W.Frag) (tb : V → Hp → VK → Prop) (v : V) (H : Hp) (Q : VK) : Prop := ∃ (_ : Unit) (l : Addr) (xs : List V) (k : V → Int), v = .ref l ∧ SqL K H l xs ∧
  (∀ x, x ∈ xs → ∀ H3, Same H H3 → tb x H3 fun y H4 => Same H3 H4 ∧ y = V.int (k x)) ∧ ∀ (_ : Unit) (p : Addr) (H4 : Hp), Same H H4 → H p = none → H4 p = none → Q (.ref p) (upd H4 p (.lst (xs.mergeSort (oneLe k))))
theorem sortLam_run1 {sc : Scope} {a : Str} {f c' : Addr} {pm ctv : Value} {params : Arguments} {body : Expr} {j : Nat} {tb : TE} {v : V} {u : Value} {Q : VK}
    (I : L2.Inv X pins σ H s) (L : LamP X.env.scope sc a) (na : X.N.all (fun y => decide (y ≠ a)) = true) (hr : Room (j + 3) X.A)
    (hf : s.heap.get? f = some (PySem.W.kla_obj "<lambda>" (X.env.qual ++ "<lambda>") params body sc (cloFrom X.env.cells sc.names []) pm c' ctv)) (nf : H f = none) (ff : f ∉ frs X.stack) (hc : H c' = some (CodeO c' (X.env.qual ++ "<lambda>")))
    (hbind : ∀ u, bindArgs (PySem.W.kla_fn "<lambda>" (X.env.qual ++ "<lambda>") params body sc (cloFrom X.env.cells sc.names []) pm (.ref c') ctv) ⟨[u], []⟩ = pure [(a, u)])
    (hbody : ∀ (A : Around) (s : Shared) (H : Hp), Room j (A.deeper (lamEnv X sc s.heap.objs.size f c')) → PE (lamCxP X A X.stack s H NoX sc a f c') body tb)
    (rv : L2.RelV v u) (h : rSortLam1 X.K (fun x H3 Q3 => tb (σ ++ [some x]) H3 Q3) v H Q) : wpAny (model X.prog X.w) X.A (call (.builtin "sorted") [u] [(Str.ofString "key", .ref f)]) (EP X pins σ Q) X.xe s := by
  obtain ⟨_, l, xs, k, rfl, hs, ht, q⟩ := h
  obtain rfl : u = Value.ref l := rv
  obtain ⟨its, rx, hl, hz⟩ := I.list hs
  have hz' : its.length ≤ sizeLine := by rw [← rx.length]; exact hz
  refine PySem.W.sorted_of_sort hl.isList hz' (ksk_s1 _ _) (fun _ => ksk_l1 _ _) fun E' => ?_
  rw [ksk_t1]
  have ho := PySem.W.copyHeap_at s.heap its
  have kold : ∀ b o, s.heap.get? b = some o → (PySem.W.copyHeap s.heap its).get? b = some o := fun b o e => PySem.W.copyHeap_old e
  have hsz : s.heap.objs.size + 1 < (PySem.W.copyHeap s.heap its).objs.size := Heap.lt_size ho
  generalize PySem.W.copyHeap s.heap its = g0 at *
  obtain ⟨e1, ho1⟩ : ∃ e1, (g0.update (s.heap.objs.size + 1) (Obj.mapSeq fun _ => (#[] : Array Value))).get? (s.heap.objs.size + 1) = some (seqObj "list" #[] e1) := ⟨_, get?_update_seq ho fun _ => #[]⟩
  have sb := Heap.SameBut.update g0 (s.heap.objs.size + 1) (Obj.mapSeq fun _ => (#[] : Array Value))
  have hs1 : (g0.update (s.heap.objs.size + 1) (Obj.mapSeq fun _ => (#[] : Array Value))).objs.size = g0.objs.size := Heap.size_update ..
  unfold ksk_tree
  refine wpAny_bind (listItems_at ho rfl ?_)
  refine wpAny_bind (listUpdate_at ho rfl ?_ (by rw [List.size_toArray]; exact hz') (Nat.zero_le _))
  refine wpAny_bind (seqEpoch_at ho1 rfl ?_)
  refine wpAny_bind (wpAny_newTuple ?_ (by show its.length ≤ _; exact hz'))
  refine wpAny_bind (wpAny_newList ?_ (Nat.zero_le _))
  refine wpAny_holding ?_
  generalize g0.update (s.heap.objs.size + 1) (Obj.mapSeq fun _ => (#[] : Array Value)) = g1 at *
  have k1 : ∀ b o, b ≠ s.heap.objs.size + 1 → s.heap.get? b = some o → ((g1.push (seqObj "tuple" its.toArray 0)).push (seqObj "list" #[] 0)).get? b = some o := fun b o hb e =>
    Heap.get?_push_of_some _ (Heap.get?_push_of_some _ ((sb.2 b hb).trans (kold b o e)))
  have k2 : ∀ b o, s.heap.get? b = some o → ((g1.push (seqObj "tuple" its.toArray 0)).push (seqObj "list" #[] 0)).get? b = some o := fun b o e => k1 b o (Nat.ne_of_lt (Nat.lt_succ_of_lt (Heap.lt_size e))) e
  have hs2 : (g1.push (seqObj "tuple" its.toArray 0)).objs.size = g1.objs.size + 1 := by rw [size_push']
  have I2 : L2.Inv X pins σ H { s with heap := (g1.push (seqObj "tuple" its.toArray 0)).push (seqObj "list" #[] 0) } := I.kept (t' := s.toks) k2
  have hfl := Heap.lt_size hf
  have hkS : s.heap.objs.size + 1 < (g1.push (seqObj "tuple" its.toArray 0)).objs.size := by omega
  refine keys_loop1 (k := k) (H2 := H) (p := s.heap.objs.size + 1) (kS := (g1.push (seqObj "tuple" its.toArray 0)).objs.size) I2 rx hz' (by have := hr.units; show X.A.units + 1 + 1 + 5 < cLine; omega) (mine_of I (Nat.le_succ _)) (mine_of I (by omega)) (I.hok.fresh (Nat.le_succ _)) (I.hok.fresh (by omega)) (Nat.ne_of_gt hkS)
    (Heap.get?_push_of_some _ (Heap.get?_push_of_some _ ho1)) (Heap.get?_push_size _ rfl) (k2 f _ hf) nf ff (Nat.ne_of_lt (Nat.lt_succ_of_lt hfl)) (Nat.ne_of_lt (Nat.lt_trans (Nat.lt_succ_of_lt hfl) hkS)) (fun x v H3 s3 hx rx3 I3 e3 ef nf3 => ?_) fun H4 s4 I4 e4 np4 => ?_
  · exact lamP_run I3 L na I3.env0.in1.in1 (Un.kept fun _ _ e => e) rx3 (Room.in1 (Room.in1 hr)) ef (e3 _ _ hc) (hbind v) (fun s5 H5 r5 => hbody _ s5 H5 r5) I3.nolimit (ht x hx H3 e3)
  · exact ⟨rfl, .ref (s.heap.objs.size + 1), _, I4, rfl, q () _ H4 e4 (I.hok.fresh (Nat.le_succ _)) np4⟩
/-- the term: te the list, tb the lambda's body with its parameter as the last name -/
def tSortLam1 (K : PySem.W.Frag) (T : List (Addr × Str)) (te tb : TE) : TE := fun σ H Q => te σ H fun v H1 => Tabs T H1 ∧ ∀ H2, ExtN H1 H2 → Tabs T H2 → rSortLam1 K (fun x H3 Q3 => tb (σ ++ [some x]) H3 Q3) v H2 Q
theorem pe_sortLam1 {T : List (Addr × Str)} {c P : Addr} {j : Nat} {a : Str} {sc : Scope} {params : Arguments} {body e : Expr} {te tb : TE} {p lpos kpos pos : Pos} (he : PE X e te) (hg : Gl X "sorted") (hm : X.mg "sorted" = none)
    (TB : TabB X.base X.mg c P) (hcode : X.env.code = .ref c) (hmT : (P, X.env.qual ++ "<lambda>") ∈ T) (hu : ∀ p ∈ T, p.1 = P → p.2 = X.env.qual ++ "<lambda>") (hr : Room (j + 3) X.A) (L : LamP X.env.scope sc a) (na : X.N.all (fun y => decide (y ≠ a)) = true) (hdef : defaultsOf params X.env = ([], []))
    (hbind : ∀ (q : Str) (cl : List (Str × Addr)) (pm cv ctv u : Value), bindArgs (PySem.W.kla_fn "<lambda>" q params body sc cl pm cv ctv) ⟨[u], []⟩ = pure [(a, u)])
    (hbody : ∀ (A : Around) (s : Shared) (H : Hp) (f c' : Addr), Room j (A.deeper (lamEnv X sc s.heap.objs.size f c')) → PE (lamCxP X A X.stack s H NoX sc a f c') body tb)
    (star : starEach [e] X.env = (false, eval e X.env) :: starEach [] X.env := by rfl) (plain : backTo pos (starEach [e] X.env) = (false, eval e X.env) :: backTo pos (starEach [] X.env) := by rfl) (nostar : (backTo pos (starEach [e] X.env)).any (·.1) = false := by rfl) :
    PE X (.Call (.Name "sorted" p) [e] [⟨some "key", .Lambda params body sc lpos, kpos⟩] pos) (tSortLam1 X.K T te tb) := by
  refine ⟨fun pins s σ H Q I h => ?_⟩
  refine wpAny_Call_Name_kw (ld_blt I hg hm (by rfl) ?_ (by decide) (by decide))
  refine PyProof.Rows.callWith_kw (thn ((pa_cons he pa_nil (hs := star)).run pos pins s σ H (fun vs H1 => match vs with
    | [v] => Tabs T H1 ∧ ∀ H2, ExtN H1 H2 → Tabs T H2 → rSortLam1 X.K (fun x H3 Q3 => tb (σ ++ [some x]) H3 Q3) v H2 Q
    | _ => False) I h) fun us s1 ⟨vs, H1, I1, r1, h1⟩ => ?_) plain nostar rfl rfl
  match vs, r1, h1 with
  | [v], r1, h1 =>
    obtain ⟨u, rfl, ru⟩ := vals1 r1
    obtain ⟨hT, h1⟩ := h1
    show wpAny _ _ (evalAll [(do let v ← eval (.Lambda params body sc lpos) X.env; standAt pos; pure v)]) _ _ s1
    refine wpAny_evalAll_cons (wpAny_bind (lam_make2 I1 TB hcode hmT hu hT hdef (L.caps I.ok) fun f c' pm' ctv H2 s2 I2 eN T2 hf hfn hfr hco => wpAny_bind (wpAny_standAt (wpAny_pure ?_))))
    refine wpAny_evalAll_nil ?_
    exact sortLam_run1 I2 L na hr hf hfn hfr hco (fun u => hbind _ _ _ _ _ u) (fun A s H r => hbody A s H f c' r) ru (h1 H2 eN T2)
  | [], _, h1 => exact h1.elim
  | _ :: _ :: _, _, h1 => exact h1.elim
end
theorem one_lt {a b : Int} : PySem.W.dataLt (.int a) (.int b) = decide (a < b) := by
  unfold PySem.W.dataLt
  simp only [PySem.W.keyToks, lex_inl]
  rw [Bool.eq_iff_iff]
  simp only [Bool.or_eq_true, Bool.and_eq_true, Bool.not_eq_true', decide_eq_true_eq, decide_eq_false_iff_not, PyProof.Rows.lexLt, item_inl, Bool.false_eq_true, or_false, and_false]
theorem oneLe_iff {k : V → Int} {x y : V} : oneLe k x y = true ↔ k x ≤ k y := by
  have e : oneLe k x y = !PySem.W.dataLt (.int (k y)) (.int (k x)) := rfl
  rw [e, one_lt]
  by_cases h : k y < k x
  · rw [decide_eq_true h]
    exact ⟨fun z => (by cases z), fun z => (by omega)⟩
  · rw [decide_eq_false h]
    exact ⟨fun _ => by omega, fun _ => rfl⟩
/-- what stands in order stays so -/
theorem oneLe_sorted {k : V → Int} {xs : List V} (h : xs.Pairwise fun x y => k x ≤ k y) : xs.mergeSort (oneLe k) = xs := List.mergeSort_of_pairwise (h.imp fun z => oneLe_iff.mpr z)

/-! own short words -/
theorem iteD {p A B : Prop} [Decidable p] (h1 : p → A) (h2 : ¬ p → B) : if decide p = true then A else B := by
  by_cases h : p
  · rw [decide_eq_true h, if_pos rfl]; exact h1 h
  · rw [decide_eq_false h, if_neg Bool.false_ne_true]; exact h2 h
theorem iteDN {p A B : Prop} [Decidable p] (h1 : ¬ p → A) (h2 : p → B) : if (!decide p) = true then A else B := by
  by_cases h : p
  · rw [decide_eq_true h]; exact iteF (h2 h)
  · rw [decide_eq_false h]; exact iteT (h1 h)
theorem len_le {n : Nat} (h : Nat.ble n 1000 = true) : n ≤ sizeLine := Nat.le_trans (Nat.le_of_ble_eq_true h) (by decide)
theorem iteB {b : Bool} {A B : Prop} (h1 : b = true → A) (h2 : b = false → B) : if b = true then A else B := by
  cases b with
  | true => exact iteT (h1 rfl)
  | false => exact iteF (h2 rfl)
theorem cmul_l {i j : Int} (h : -(2 ^ 64) < i) (h' : i < 2 ^ 64) : CMul i j := .inl ⟨h, h'⟩
theorem cmul_r {i j : Int} (h : -(2 ^ 64) < j) (h' : j < 2 ^ 64) : CMul i j := .inr ⟨h, h'⟩
theorem dec_t {p : Prop} [Decidable p] (h : decide p = true) : p := of_decide_eq_true h
theorem dec_f {p : Prop} [Decidable p] (h : decide p = false) : ¬ p := of_decide_eq_false h
theorem ndec_t {p : Prop} [Decidable p] (h : (!decide p) = true) : ¬ p := fun q => by rw [decide_eq_true q] at h; cases h
theorem ndec_f {p : Prop} [Decidable p] (h : (!decide p) = false) : p := by
  by_cases q : p
  · exact q
  · rw [decide_eq_false q] at h; cases h
theorem fld_lt {n : Nat} (h : Nat.ble (n + 1) 1000 = true) : n < 1000 := Nat.le_of_ble_eq_true h
def rLen (K : PySem.W.Frag) : List V → Hp → VK → Prop := fun xs H Q => ∃ p ys, xs = [.ref p] ∧ (SqL K H p ys ∨ SqT K H p ys) ∧ Q (.int ys.length) H
def rListOf (K : PySem.W.Frag) : List V → Hp → VK → Prop := fun xs H Q => ∃ p ys, xs = [.ref p] ∧ (SqL K H p ys ∨ SqT K H p ys) ∧ ∀ l, H l = none → Q (.ref l) (upd H l (.lst ys))
def rTupleOf (K : PySem.W.Frag) : List V → Hp → VK → Prop := fun xs H Q => ∃ p ys, xs = [.ref p] ∧ ((SqL K H p ys ∧ ∀ l, H l = none → Q (.ref l) (upd H l (.tup ys))) ∨ (SqT K H p ys ∧ Q (.ref p) H))
theorem len0 : ([] : List V).length ≤ sizeLine := len_le rfl
theorem len1 {a : V} : [a].length ≤ sizeLine := len_le rfl
theorem len2 {a b : V} : [a, b].length ≤ sizeLine := len_le rfl
theorem len3 {a b c : V} : [a, b, c].length ≤ sizeLine := len_le rfl
theorem len4 {a b c d : V} : [a, b, c, d].length ≤ sizeLine := len_le rfl
theorem len5 {a b c d e : V} : [a, b, c, d, e].length ≤ sizeLine := len_le rfl
local macro_rules | `(tactic| walk_at "st") => `(tactic| repeat (first
  | (apply Exists.intro (α := V))
  | (apply Exists.intro (α := Int))
  | (apply Exists.intro (α := Bool))
  | (apply Exists.intro (α := Addr))
  | (apply Exists.intro (α := List V))
  | (apply Exists.intro (α := List Int))
  | (apply Exists.intro (α := List (Str × V)))
  | (apply Exists.intro (α := Str))
  | (apply And.intro; focus (first | omega | (dsimp only; omega) | (simp only [List.length_map, List.length_replicate]; omega) | exact rfl | assumption | exact SqL.of (by assumption) | exact Or.inl (by assumption) | exact Or.inr (by assumption) | exact Or.inr (SqT.of (by assumption)) | exact Or.inl (Or.inl upd_same) | exact Or.inl (Or.inl (Or.inl upd_same)) | (with_reducible exact len0) | (with_reducible exact len1) | (with_reducible exact len2) | (with_reducible exact len3) | (with_reducible exact len4) | (with_reducible exact len5) | exact upd_same | exact ⟨_, Or.inl (Or.inl upd_same)⟩ | exact ⟨_, SqL.of (by assumption)⟩ | exact ⟨_, by assumption⟩ | exact Or.inl ⟨rfl, _, SqL.of (by assumption)⟩ | exact Or.inl ⟨rfl, _, SqL.of upd_same⟩ | exact cmul_l (by omega) (by omega) | exact cmul_r (by omega) (by omega) | exact ⟨by omega, by omega⟩ | (simp only [List.length_map, List.length_replicate]; omega) | exact Or.inl (SqL.of (by assumption)) | exact SqT.of (by assumption) | exact fld_lt rfl | exact Or.inl ⟨_, by assumption, rfl⟩))))
/-- the script's cell at j, 0 where there is none -/
def cellOf (ns : List Int) (j : Nat) : Int := ns.getD j 0
theorem atI_ints {ns : List Int} {j : Nat} (h : j < ns.length) : atI (ns.map V.int) (j : Int) = some (.int (cellOf ns j)) := by
  refine at_of (j := j) rfl ?_
  rw [List.getElem?_map, List.getElem?_eq_getElem h]
  unfold cellOf
  rw [List.getD_eq_getElem?_getD, List.getElem?_eq_getElem h]
  rfl
theorem cellOf_out {ns : List Int} {j : Nat} (h : ¬ j < ns.length) : cellOf ns j = 0 := by
  unfold cellOf
  rw [List.getD_eq_getElem?_getD, List.getElem?_eq_none (by omega)]
  rfl
theorem same_upd {H : Hp} {p : Addr} {o : HO} (h : H p = none) : Same H (upd H p o) := fun b x e => by
  rw [upd_ne (ne_of_none e h)]
  exact e
/-- a slice of a list of ints -/
def cutI (ns : List Int) (lo hi : Option Int) : List Int := (ns.drop (HT.sIx ns.length 0 lo)).take (HT.sIx ns.length ns.length hi - HT.sIx ns.length 0 lo)
theorem cutV_ints (ns : List Int) (lo hi : Option Int) : cutV (ns.map V.int) lo hi = (cutI ns lo hi).map V.int := by
  unfold cutV cutI
  rw [List.length_map, List.map_take, List.map_drop]
theorem cutI_len (ns : List Int) (lo hi : Option Int) : (cutI ns lo hi).length ≤ ns.length := by
  unfold cutI
  rw [List.length_take, List.length_drop]
  omega
theorem ints_at {ns : List Int} {i : Nat} {x : V} (h : (ns.map V.int)[i]? = some x) : ∃ z, ns[i]? = some z ∧ x = V.int z := by
  rw [List.getElem?_map] at h
  cases e : ns[i]? with
  | none => rw [e] at h; cases h
  | some z => rw [e] at h; exact ⟨z, rfl, (Option.some.inj h).symm⟩
theorem take_succ {α : Type} {xs : List α} {i : Nat} {x : α} (h : xs[i]? = some x) : xs.take (i + 1) = xs.take i ++ [x] := by
  rw [List.take_add_one, h]
  rfl
theorem sum_le_mul : ∀ (ws : List Int) (b : Int), (∀ w, w ∈ ws → w ≤ b) → ws.sum ≤ (ws.length : Int) * b
  | [], b, _ => by show (0 : Int) ≤ ((0 : Nat) : Int) * b; omega
  | w :: ws, b, h => by
    rw [List.sum_cons, List.length_cons, Int.natCast_add, Int.add_mul]
    have h1 := h w List.mem_cons_self
    have h2 := sum_le_mul ws b fun x hx => h x (List.mem_cons_of_mem _ hx)
    omega
theorem ixN_nat {n j : Nat} (h : j < n) : ixN n (j : Int) = some j := by
  unfold ixN
  rw [if_pos (by omega), if_pos (by omega), Int.toNat_natCast]
theorem call_int_i {X : Cx} : CallR X (.type "int") (fun xs H Q => ∃ i : Int, xs = [.int i] ∧ Q (.int i) H) := by
  intro pins s σ H xs us Q I r h
  obtain ⟨i, e, q⟩ := h
  exact call_int1 pins s σ H xs us Q I r (.inl ⟨i, e, q⟩)
theorem dpAll_ints {K : PySem.W.Frag} {H : Hp} : ∀ xs : List Int, DpAll K H (xs.map V.int) (xs.map PyData.int)
  | [] => .nil
  | x :: xs => .cons (.int x) (dpAll_ints xs)
theorem eqvAll_ints : ∀ xs ys : List Int, PyData.eqvAll (xs.map PyData.int) (ys.map PyData.int) = decide (xs = ys)
  | [], [] => by simp [PyData.eqvAll]
  | [], _ :: _ => by simp [PyData.eqvAll]
  | _ :: _, [] => by simp [PyData.eqvAll]
  | x :: xs, y :: ys => by
    rw [List.map_cons, List.map_cons]
    simp only [PyData.eqvAll, PyData.eqv]
    rw [eqvAll_ints xs ys]
    by_cases h : x = y <;> by_cases h2 : xs = ys <;> simp [h, h2]
theorem lay_ints : ∀ xs : List Int, PyData.canLayAll0 (xs.map PyData.int) = true
  | [] => rfl
  | x :: xs => by
    rw [List.map_cons]
    simp only [PyData.canLayAll0, PyData.canLay0, Bool.true_and]
    exact lay_ints xs
theorem depth_ints : ∀ xs : List Int, PyData.depthAll (xs.map PyData.int) = 0
  | [] => rfl
  | x :: xs => by
    rw [List.map_cons]
    simp only [PyData.depthAll, PyData.depth, depth_ints xs]
    rfl
theorem shaped_ints (xs : List Int) : SeqAt.shaped (.list (xs.map PyData.int)) = true := by
  unfold SeqAt.shaped
  simp only [PyData.canLay0, PyData.depth, lay_ints, depth_ints]
  rfl
theorem eqD_ints {K : PySem.W.Frag} {H : Hp} {a b : Addr} {xs ys : List Int} {Q : VK} (h1 : SqL K H a (xs.map V.int)) (h2 : SqL K H b (ys.map V.int)) (q : Q (.bl (decide (xs = ys))) H) : rEqD K (.ref a) (.ref b) H Q :=
  ⟨_, _, .lst h1 (dpAll_ints xs), .lst h2 (dpAll_ints ys), shaped_ints xs, shaped_ints ys, by rw [show PyData.eqv (.list (xs.map PyData.int)) (.list (ys.map PyData.int)) = decide (xs = ys) by simp only [PyData.eqv, eqvAll_ints]]; exact q⟩
theorem neD_ints {K : PySem.W.Frag} {H : Hp} {a b : Addr} {xs ys : List Int} {Q : VK} (h1 : SqL K H a (xs.map V.int)) (h2 : SqL K H b (ys.map V.int)) (q : Q (.bl (!decide (xs = ys))) H) : rNeD K (.ref a) (.ref b) H Q :=
  ⟨_, _, .lst h1 (dpAll_ints xs), .lst h2 (dpAll_ints ys), shaped_ints xs, shaped_ints ys, by rw [show PyData.eqv (.list (xs.map PyData.int)) (.list (ys.map PyData.int)) = decide (xs = ys) by simp only [PyData.eqv, eqvAll_ints]]; exact q⟩

theorem refs_at {ps : List Addr} {i : Nat} {x : V} (h : (ps.map V.ref)[i]? = some x) : ∃ p, ps[i]? = some p ∧ x = V.ref p := by
  rw [List.getElem?_map] at h
  cases e : ps[i]? with
  | none => rw [e] at h; cases h
  | some z => rw [e] at h; exact ⟨z, rfl, (Option.some.inj h).symm⟩

/-- a list of tuples: the tuple of each item -/
structure Tups {α : Type} (enc : α → List V) (H : Hp) (l : Addr) (ps : List Addr) (xs : List α) : Prop where
  lst : H l = some (.lst (ps.map V.ref))
  len : ps.length = xs.length
  row : ∀ (i : Nat) (p : Addr) (x : α), ps[i]? = some p → xs[i]? = some x → H p = some (.tup (enc x))
theorem Tups.nil {α : Type} {enc : α → List V} {H : Hp} {l : Addr} (h : H l = some (.lst [])) : Tups enc H l [] ([] : List α) :=
  ⟨h, rfl, fun _ _ _ e => (by rw [List.getElem?_nil] at e; cases e)⟩
theorem Tups.same {α : Type} {enc : α → List V} {H H' : Hp} {l : Addr} {ps : List Addr} {xs : List α} (h : Tups enc H l ps xs) (e : Same H H') : Tups enc H' l ps xs :=
  ⟨e _ _ h.lst, h.len, fun i p x a b => e _ _ (h.row i p x a b)⟩
theorem Tups.at {α : Type} {enc : α → List V} {H : Hp} {l : Addr} {ps : List Addr} {xs : List α} (h : Tups enc H l ps xs) {i : Nat} {x : α} (e : xs[i]? = some x) : ∃ p, ps[i]? = some p ∧ atI (ps.map V.ref) (i : Int) = some (.ref p) ∧ H p = some (.tup (enc x)) := by
  have hi := (List.getElem?_eq_some_iff.mp e).1
  have hl : i < ps.length := by rw [h.len]; exact hi
  refine ⟨ps[i], List.getElem?_eq_getElem hl, at_of (j := i) rfl ?_, h.row i _ x (List.getElem?_eq_getElem hl) e⟩
  rw [List.getElem?_map, List.getElem?_eq_getElem hl]
  rfl
theorem Tups.item {α : Type} {enc : α → List V} {H : Hp} {l : Addr} {ps : List Addr} {xs : List α} (h : Tups enc H l ps xs) {i : Nat} {v : V} (e : (ps.map V.ref)[i]? = some v) : ∃ p x, ps[i]? = some p ∧ xs[i]? = some x ∧ v = .ref p ∧ H p = some (.tup (enc x)) := by
  obtain ⟨p, hp, rfl⟩ := refs_at e
  have hi := (List.getElem?_eq_some_iff.mp hp).1
  rw [h.len] at hi
  exact ⟨p, xs[i], hp, List.getElem?_eq_getElem hi, rfl, h.row i p _ hp (List.getElem?_eq_getElem hi)⟩
theorem Tups.push {α : Type} {enc : α → List V} {H H' : Hp} {l p : Addr} {ps : List Addr} {xs : List α} {x : α} (h : Tups enc H l ps xs) (e : Same H H') (np : H p = none) (hp : H' p = some (.tup (enc x))) : Tups enc (upd H' l (.lst (ps.map V.ref ++ [V.ref p]))) l (ps ++ [p]) (xs ++ [x]) := by
  have hpl : p ≠ l := fun z => by rw [z, h.lst] at np; cases np
  refine ⟨?_, ?_, fun i q y hq hy => ?_⟩
  · rw [upd_same, List.map_append]
    rfl
  · rw [List.length_append, List.length_append, h.len]
    rfl
  · by_cases hi : i < ps.length
    · rw [List.getElem?_append_left hi] at hq
      rw [List.getElem?_append_left (by rw [← h.len]; exact hi)] at hy
      have hq2 := h.row i q y hq hy
      rw [upd_ne (fun z => by rw [z, h.lst] at hq2; cases hq2)]
      exact e _ _ hq2
    · rw [List.getElem?_append_right (by omega)] at hq
      rw [List.getElem?_append_right (by have := h.len; omega)] at hy
      have h1 := (List.getElem?_eq_some_iff.mp hq).1
      rw [List.length_cons, List.length_nil] at h1
      have e0 : i - ps.length = 0 := by omega
      have e1 : i - xs.length = 0 := by have := h.len; omega
      rw [e0] at hq
      rw [e1] at hy
      have z1 : p = q := Option.some.inj hq
      have z2 : x = y := Option.some.inj hy
      rw [← z1, ← z2, upd_ne hpl]
      exact hp
theorem Tups.dp {α : Type} {enc : α → List V} {L : α → PyData} {K : PySem.W.Frag} {H : Hp} {l : Addr} {ps : List Addr} {xs : List α} (h : Tups enc H l ps xs) (he : ∀ x (p : Addr), H p = some (.tup (enc x)) → Dp K H (.ref p) (L x)) : Dp K H (.ref l) (PyData.list (xs.map L)) :=
  .lst (SqL.of h.lst) (dpAll_refs h.len fun i p x h1 h2 => he x p (h.row i p x h1 h2))
def enc2 (x : Int × Int) : List V := [.int x.1, .int x.2]
def enc3 (x : Int × Int × Int) : List V := [.int x.1, .int x.2.1, .int x.2.2]
def lay3 (x : Int × Int × Int) : PyData := .tuple [.int x.1, .int x.2.1, .int x.2.2]
theorem layD_3 : LayD lay3 1 (fun x => True ∧ True ∧ True) := layD_int.tup3 layD_int layD_int
theorem dp3 {K : PySem.W.Frag} {H : Hp} (x : Int × Int × Int) (p : Addr) (h : H p = some (.tup (enc3 x))) : Dp K H (.ref p) (lay3 x) :=
  .tup (SqT.of h) (.cons (.int _) (.cons (.int _) (.cons (.int _) .nil)))
theorem Tups.push2 {α : Type} {enc : α → List V} {H : Hp} {l p : Addr} {ps : List Addr} {xs : List α} {x : α} (h : Tups enc H l ps xs) (hp : H p = some (.tup (enc x))) : Tups enc (upd H l (.lst (ps.map V.ref ++ [V.ref p]))) l (ps ++ [p]) (xs ++ [x]) := by
  have hpl : p ≠ l := fun z => by rw [z, h.lst] at hp; cases hp
  refine ⟨?_, ?_, fun i q y hq hy => ?_⟩
  · rw [upd_same, List.map_append]
    rfl
  · rw [List.length_append, List.length_append, h.len]
    rfl
  · by_cases hi : i < ps.length
    · rw [List.getElem?_append_left hi] at hq
      rw [List.getElem?_append_left (by rw [← h.len]; exact hi)] at hy
      have hq2 := h.row i q y hq hy
      rw [upd_ne (fun z => by rw [z, h.lst] at hq2; cases hq2)]
      exact hq2
    · rw [List.getElem?_append_right (by omega)] at hq
      rw [List.getElem?_append_right (by have := h.len; omega)] at hy
      have h1 := (List.getElem?_eq_some_iff.mp hq).1
      rw [List.length_cons, List.length_nil] at h1
      have e0 : i - ps.length = 0 := by omega
      have e1 : i - xs.length = 0 := by have := h.len; omega
      rw [e0] at hq
      rw [e1] at hy
      have z1 : p = q := Option.some.inj hq
      have z2 : x = y := Option.some.inj hy
      rw [← z1, ← z2, upd_ne hpl]
      exact hp
theorem Tups.copy {α : Type} {enc : α → List V} {H H' : Hp} {l l2 : Addr} {ps : List Addr} {xs : List α} (h : Tups enc H l ps xs) (e : Same H H') (h2 : H' l2 = some (.lst (ps.map V.ref))) : Tups enc H' l2 ps xs :=
  ⟨h2, h.len, fun i p x a b => e _ _ (h.row i p x a b)⟩
theorem Tups.other {α : Type} {enc : α → List V} {H : Hp} {l A : Addr} {ps : List Addr} {xs : List α} {ys zs : List V} (h : Tups enc H l ps xs) (hA : H A = some (.lst ys)) (ne : l ≠ A) : Tups enc (upd H A (.lst zs)) l ps xs :=
  ⟨by rw [upd_ne ne]; exact h.lst, h.len, fun i p x a b => by
    have hp := h.row i p x a b
    rw [upd_ne (fun z => by rw [z, hA] at hp; cases hp)]
    exact hp⟩

/-- for i, x in enumerate(xs): each turn a new pair -/
theorem for_enum {K : PySem.W.Frag} {a : Addr} {xs : List V} {g : TG} {tb : TS} {D : Ends} {σ : L2.St} {H : Hp} (Pv : Nat → L2.St → Hp → Prop) (h0 : Pv 0 σ H) (hl : ∀ i σ H, i ≤ xs.length → Pv i σ H → SqL K H a xs)
    (hs : ∀ (i : Nat) (x : V) (σ : L2.St) (H : Hp) (T : Addr), xs[i]? = some x → Pv i σ H → H T = none → g (.ref T) σ (upd H T (.tup [.int (i : Int), x])) fun σ2 H2 => tb { D with nx := Pv (i + 1), ct := Pv (i + 1), bk := D.nx } σ2 H2) (hd : ∀ σ H, Pv xs.length σ H → D.nx σ H) :
    ∃ W : Nat → Nat → L2.St → Hp → Prop, (∃ m, W 0 m σ H) ∧ ∀ i m σ H, W i m σ H →
      ((Ite K a).stop i H ∧ D.nx σ H) ∨ ((Ite K a).go i H ∧ ∃ N : L2.St → Hp → Prop, (∀ σ' H', N σ' H' → ∃ m', m' < m ∧ W (i + 1) m' σ' H') ∧ ∀ x H', (Ite K a).yld i H x H' → g x σ H' fun σ2 H2 => tb { D with nx := N, ct := N, bk := D.nx } σ2 H2) := by
  refine ⟨fun i m σ H => m + i = xs.length ∧ Pv i σ H, ⟨xs.length, rfl, h0⟩, ?_⟩
  rintro i m σ H ⟨em, p⟩
  have q := hl i σ H (by omega) p
  by_cases hlt : i < xs.length
  · refine .inr ⟨⟨xs, xs[i], q, List.getElem?_eq_getElem hlt⟩, Pv (i + 1), fun σ' H' p' => ⟨m - 1, by omega, by omega, p'⟩, fun x H' y => ?_⟩
    obtain ⟨T, z, rfl, nT, rfl, hz⟩ := y
    exact hs i z σ H T (hz xs q) p nT
  · have e : i = xs.length := by omega
    subst e
    exact .inl ⟨⟨xs, q, Nat.le_refl _⟩, hd σ H p⟩
theorem call_int_b {X : Cx} : CallR X (.type "int") (fun xs H Q => ∃ b : Bool, xs = [.bl b] ∧ Q (.int (if b = true then 1 else 0)) H) := by
  intro pins s σ H xs us Q I r h
  obtain ⟨i, e, q⟩ := h
  exact call_int1 pins s σ H xs us Q I r (.inr ⟨i, e, q⟩)

/-! methods that raise, methods called with keywords (own rules over the library's run_fnN and methodCall_KW) -/
def tMx (C : Addr) (m : Str) (sp : Sp) (dvs : List V) (E : L2.St → XK) (to : TE) (t : TA) : TE := fun σ H Q => to σ H fun x H1 => ∃ (a dx : Addr) (fs : List (Str × V)), x = .ref a ∧ H1 a = some (.ins C dx fs) ∧ fs.lookup m = none ∧ t σ H1 fun vs H2 => sp (.ref a :: vs ++ dvs) H2 Q (E σ)
theorem passLat {X : Cx} {σ : L2.St} : PassesAt (L2.CX X.prog X.w) X σ E0 := fun pn Hh st ev st' inv got => passL pn σ Hh st ev st' inv got
theorem pass0at {X : Cx} {σ : L2.St} : PassesAt CX0 X σ E0 := fun _ _ _ _ _ _ h => h.elim
def tMk (C : Addr) (m : Str) (n k : Nat) (sp : Sp) (gV : List V → List V → List V) (E : L2.St → XK) (to : TE) (t tk : TA) : TE := fun σ H Q => to σ H fun x H1 => ∃ (a dx : Addr) (fs : List (Str × V)), x = .ref a ∧ H1 a = some (.ins C dx fs) ∧ fs.lookup m = none ∧
  t σ H1 fun vs H2 => tk σ H2 fun zs H3 => vs.length = n ∧ zs.length = k ∧ sp (gV (.ref a :: vs) zs) H3 Q (E σ)
section
variable {X : Cx} {CX : CXT} {k n : Nat} {f C : Addr} {fd : FuncData} {ps ks : List Str} {sp : Sp} {E : L2.St → XK} {m : Str} {pos apos : Pos} {e o : Expr} {es : List Expr} {kws : List Keyword} {to : TE} {t tk : TA} {g : List Value → List Value → List Value} {gV : List V → List V → List V} {pl : Sem Bool} {dvs : List V} {ds : List Value}
theorem run_kw {pn : List (Addr × Obj)} {sh : L2.St} {Hh : Hp} {st : Shared} {Q : VK} {us ws : List Value} {vs zs : List V} (prom : FnOk X.prog X.w X.K X.mg X.base CX k f fd ps sp) (room : Room k X.A) (bnd : KBn X.K fd ps n ks g gV) (way : PassesAt CX X sh (E sh))
    (inv : Inv X pn sh Hh st) (rel : Vals vs us) (relz : Vals zs ws) (len1 : vs.length = n) (len2 : zs.length = ks.length) (hyp : sp (gV vs zs) Hh Q (E sh)) : wpAny (model X.prog X.w) X.A (call (.ref f) us (ks.zip ws)) (EP X pn sh Q) X.xe st := by
  have both := bnd.rel rel relz
  have bind := bnd.to st us ws inv.kIn (rel.length.symm.trans len1) (relz.length.symm.trans len2)
  refine wpAny_call (codeAny_mono (prom.run X.A X.stack st Hh ⟨us, ks.zip ws⟩ (g us ws) (gV vs zs) Q (E sh) room inv.env0 bind both hyp) fun out st' got => ?_)
  cases out with
  | error ev => exact way pn Hh st ev st' inv got
  | ok fl =>
    cases fl with
    | ret u => exact inv.after got
    | next => exact (False.elim got)
    | brk => exact (False.elim got)
    | cont => exact (False.elim got)
theorem pe_mx (obj : PE X o to) (cls : Cls X.K C) (mt : Meth X.K C m f) (prom : FnOk X.prog X.w X.K X.mg X.base CX k f fd ps sp) (room : Room k X.A) (bnd : Binds X.K fd ps ds) (dfl : Vals dvs ds) (way : ∀ σ, PassesAt CX X σ (E σ)) (args : PA X (e :: es) t)
    (st1 : starEach (e :: es) X.env = (false, eval e X.env) :: starEach es X.env := by rfl) (st2 : (backTo pos (starEach es X.env)).any (·.1) = false := by rfl)
    (form : eval (.Call (.Attribute o m apos) (e :: es) [] pos) X.env = (do let ov ← eval o X.env; standAt apos.atName; let (fn, fst) ← holding [ov] (getMethod ov m pl); callWith pos fn fst (backTo pos (starEach (e :: es) X.env)) (backToKw pos (keywordEach [] X.env))) := by rfl) :
    PE X (.Call (.Attribute o m apos) (e :: es) [] pos) (tMx C m sp dvs E to t) := by
  refine ⟨fun pn sh st Hh Q inv hyp => ?_⟩
  refine PySem.W.methodCall_KW (pl := pl) (thn (obj.run pn sh st Hh _ inv hyp) fun ov s1 ⟨x, H1, I1, rel, a, dx, fs, ex, ins, noat, more⟩ => ?_) form
  subst ex
  obtain rfl : ov = Value.ref a := rel
  refine getmeth_ok I1 ins cls mt noat ?_
  refine PySem.W.callWith_K (first := [.ref a]) (h₀ := X.base) I1.ok.mod.kin mt.kp (thn (args.run pos pn s1 st H1 _ I1 more) fun us s2 ⟨vs, H2, I2, rels, fin⟩ => ⟨I2.kIn, ?_⟩) st1 st2
  exact run_fnSD (us := Value.ref a :: us) (vs := V.ref a :: vs) prom room bnd dfl (way st) I2 (.cons rfl rels) fin
/-- o.m(e, .., k = v, ..) -/
theorem pe_mk (obj : PE X o to) (cls : Cls X.K C) (mt : Meth X.K C m f) (prom : FnOk X.prog X.w X.K X.mg X.base CX k f fd ps sp) (room : Room k X.A) (bnd : KBn X.K fd ps (n + 1) ks g gV) (way : ∀ σ, PassesAt CX X σ (E σ)) (args : PA X (e :: es) t) (kargs : PK X kws tk)
    (ka : (backToKw pos (keywordEach kws X.env)).all (·.1.isSome) = true := by rfl) (kn : (backToKw pos (keywordEach kws X.env)).filterMap (·.1) = ks := by rfl)
    (st1 : starEach (e :: es) X.env = (false, eval e X.env) :: starEach es X.env := by rfl)
    (st2 : ((backTo pos (starEach (e :: es) X.env)).any (·.1) || (backToKw pos (keywordEach kws X.env)).any (·.1.isNone)) = false := by rfl)
    (form : eval (.Call (.Attribute o m apos) (e :: es) kws pos) X.env = (do let ov ← eval o X.env; standAt apos.atName; let (fn, fst) ← holding [ov] (getMethod ov m pl); callWith pos fn fst (backTo pos (starEach (e :: es) X.env)) (backToKw pos (keywordEach kws X.env))) := by rfl) :
    PE X (.Call (.Attribute o m apos) (e :: es) kws pos) (tMk C m n ks.length sp gV E to t tk) := by
  refine ⟨fun pn sh st Hh Q inv hyp => ?_⟩
  refine PySem.W.methodCall_KW (pl := pl) (thn (obj.run pn sh st Hh _ inv hyp) fun ov s1 ⟨x, H1, I1, rel, a, dx, fs, ex, ins, noat, more⟩ => ?_) form
  subst ex
  obtain rfl : ov = Value.ref a := rel
  refine getmeth_ok I1 ins cls mt noat ?_
  refine PySem.W.callWith_KW (first := [.ref a]) (h₀ := X.base) I1.ok.mod.kin mt.kp ka (thn (args.run pos pn s1 st H1 _ I1 more) fun us s2 ⟨vs, H2, I2, rels, mid⟩ => ?_) st2 st1
  refine thn (kargs.run pos pn s2 st H2 _ I2 mid) fun ws s3 ⟨zs, H3, I3, relz, l1, l2, fin⟩ => ⟨I3.kIn, ?_⟩
  rw [kn]
  exact run_kw (us := Value.ref a :: us) (vs := V.ref a :: vs) prom room bnd (way st) I3 (.cons rfl rels) relz (congrArg (· + 1) l1) l2 fin
end

/-! one try with any except clauses, with names or without (the library has one named clause, or several without names) -/
section
variable {X : Cx}
inductive Clause (X : Cx) : ExceptHandler → (WX → Ends → WX) → Prop
  | named {x n : Str} {c : Value} {i : Nat} {np pp : Pos} {ff : Stmt} {ss : List Stmt} {tt : Addr → Value → Option Addr → TS} (nm : Names X x c) (at_i : X.N[i]? = some n) (loc_n : X.env.kindOf n = some .local)
      (hsu : ∀ (a : Addr) (o : Obj) (cls : Value) (d : Option Addr) (pn : List (Addr × Obj)), Zc cls d o → (∃ vs, o.data = .fields vs) → PSs (X.suite a ((a, o) :: pn)) (ff :: ss) (tt a cls d)) :
      Clause X (.ExceptHandler (some (.Name x np)) (some n) (ff :: ss) pp) (fun Wn D => wAs X.K c i tt Wn D)
  | plain {x : Str} {c : Value} {np pp : Pos} {ff : Stmt} {ss : List Stmt} {tt : Addr → Value → Option Addr → TS} (nm : Names X x c)
      (hsu : ∀ (a : Addr) (o : Obj) (cls : Value) (d : Option Addr) (pn : List (Addr × Obj)), Zc cls d o → (∃ vs, o.data = .fields vs) → PSs (X.suite a ((a, o) :: pn)) (ff :: ss) (tt a cls d)) :
      Clause X (.ExceptHandler (some (.Name x np)) none (ff :: ss) pp) (fun Wn D cls d σ H => ∃ b, PySem.W.exmOne X.K cls c = some b ∧ (b = true → ∀ a, H a = none → tt a cls d D σ H) ∧ (b = false → Wn cls d σ H))
inductive Clauses (X : Cx) : List ExceptHandler → List (WX → Ends → WX) → Prop
  | nil : Clauses X [] []
  | cons {h : ExceptHandler} {w : WX → Ends → WX} {hs : List ExceptHandler} {ws : List (WX → Ends → WX)} : Clause X h w → Clauses X hs ws → Clauses X (h :: hs) (w :: ws)
def wishes (D : Ends) (Wout : WX) : List (WX → Ends → WX) → WX
  | [] => Wout
  | w :: ws => w (wishes D Wout ws) D
theorem ps_try_any {body : List Stmt} {h0 : ExceptHandler} {hds : List ExceptHandler} {ws : List (WX → Ends → WX)} {pos : Pos} {tb : WX → TS} {Wout : WX} (hst : X.stack = X.env :: X.outer) (hfr : X.env.frame = some X.env.locals) (nd : X.N.Nodup) (tk : Takes X Wout)
    (hbody : ∀ (W : WX) (pn : List (Addr × Obj)) (xe : Value → Shared → Prop), Takes (X.tr pn xe) W → PassesOwn (model X.prog X.w) X.A X.env xe → PSs (X.tr pn xe) body (tb W))
    (cl : Clauses X (h0 :: hds) ws) : PS X (.Try body (h0 :: hds) [] [] pos) (fun D σ H => tb (wishes D Wout ws) D σ H) := by
  refine ⟨fun pins sh st Hh D inv hyp => ?_⟩
  have okX := inv.ok
  have frs0 : X.A.frames = some (X.env :: X.outer) := okX.frames.trans (congrArg some hst)
  refine wpAny_Try_except ?_
  refine wpAny_mono ((hbody (wishes D Wout ws) (X.pn ++ pins) (fun ev q₁ => wpAny (model X.prog X.w) X.A (noteFrame ev X.env) (fun _ q₂ => wpAny (model X.prog X.w) X.A (setFlight ev none) (fun _ q₃ =>
    wpAny (model X.prog X.w) X.A (handleBy ev X.env (h0 :: hds)) (SP X pins D) X.xe q₃) X.xe q₂) X.xe q₁) (fun u z xx => ?_) PassesOwn.looking).run [] sh st Hh D (inv.toTry _) hyp) (fun fl z1 left => ?_) (fun _ _ same => same)
  · obtain ⟨a, B, zI, pins2, st2, Hh2, cls, d, rfl, JT, nb, up, sky, na, os, ag, wish⟩ := xx
    have J : Inv X pins st2 Hh2 zI := JT.ofTry okX
    have skyX : Sky B (X.env :: X.outer) a (Zc cls d) X.env.locals z.heap := hst ▸ sky
    show wpAny (model X.prog X.w) X.A (noteFrame (Value.ref a) X.env) _ _ _
    refine Sky.land Zc.steady frs0 hfr skyX fun hp flz upz => ?_
    have J3 : Inv X pins st2 Hh2 { z with heap := hp } := J.landed nb flz.1 (up.trans upz) os ag
    obtain ⟨oA, vsA, atA, zA, dA⟩ := flz.there
    have apart : a ∉ frs (X.env :: X.outer) := fun hm => by
      obtain ⟨_, o', e', hnf⟩ := flz.2.2.1.mem hm
      rw [atA] at e'
      cases e'
      exact hnf _ dA
    have n1 : a ≠ X.env.locals := fun w => apart (List.mem_filterMap.mpr ⟨X.env, List.mem_cons_self, hfr.trans (congrArg some w.symm)⟩)
    have n2 : a ∉ X.fs := fun hm => by
      obtain ⟨ee, he, q⟩ := List.mem_filterMap.mp hm
      exact apart (List.mem_filterMap.mpr ⟨ee, List.mem_cons_of_mem _ he, q⟩)
    have S3 := J3.suite atA dA na n1 n2
    have onward : ∀ {hs' : List ExceptHandler} {ws' : List (WX → Ends → WX)}, Clauses X hs' ws' → wishes D Wout ws' cls d st2 Hh2 → wpAny (model X.prog X.w) X.A (handleBy (.ref a) X.env hs') (SP X pins D) X.xe { z with heap := hp } := by
      intro hs' ws' all
      induction all with
      | nil =>
        intro out
        refine wpAny_handleBy_nil ?_
        obtain ⟨j1, j2, j3, oC, vC, T, oT, tC, atC, zC, dC, fC, rC⟩ := id flz
        unfold PySem.passOn
        refine wpAny_bind (wpAny_field atC dC fC ?_)
        rw [if_neg (show ¬ ((Value.ref T == Value.none) = true) by simp)]
        have fin : wpAny (model X.prog X.w) X.A (setFlight (.ref a) X.env.frame) (fun _ q4 => wpAny (model X.prog X.w) X.A (throw (.ref a) : Sem Flow) (SP X pins D) X.xe q4) X.xe { z with heap := hp } := by
          rw [hfr]
          refine HandSPX.setFlight_upZ flz fun hq fq uq => wpAny_throw (tk _ _ ?_)
          exact ⟨a, B, zI, pins, st2, Hh2, cls, d, rfl, J, nb, (up.trans upz).trans uq, .inr (.inr (hst.symm ▸ fq)), na, os, ag, out⟩
        first | (exact wpAny_bind (wpAny_pure (wpAny_bind fin))) | (exact wpAny_bind fin)
      | @cons h w more ws2 c1 _ ih =>
        intro wish2
        have looks : PySem.W.Looks (model X.prog X.w) hp (typeOf (.ref a)) cls := fun A Q E s k q => wpAny_typeOf_ref (k _ _ atA) (by rw [zA.1]; exact q)
        have test : ∀ {x' : Str} {c' : Value} {np : Pos} {Q E : Value → Shared → Prop}, Names X x' c' → Q c' { z with heap := hp } → wpAny (model X.prog X.w) (X.A.mark (some (.ref a))) (eval (.Name x' np) X.env) Q E { z with heap := hp } := fun {x' c' np Q E} nm q => by
          rcases nm with ⟨gl, nodb, known | ⟨unk, boot, nn⟩⟩
          · exact ld_glob (X := X.suite a ((a, oA) :: (X.pn ++ pins))) S3 gl known q nodb
          · exact ld_blt (X := X.suite a ((a, oA) :: (X.pn ++ pins))) S3 gl unk boot q nn nodb
        cases c1 with
        | @plain x' c' np pp ff ss tt nm hsu =>
          obtain ⟨b, isb, yes, no⟩ := wish2
          refine wpAny_handleBy_cons (codeAny_handlers_test ?_) (fun q => by cases q)
          refine test nm ((PySem.W.exm_one (M := model X.prog X.w) J3.kIn looks isb).here ?_)
          cases b with
          | false => exact ih (no rfl)
          | true =>
            refine (codeAny_handlers_suite ?_)
            refine HandSPX.lands_againZ flz fun hq flq upq => ?_
            have J4 : Inv X pins st2 Hh2 { z with heap := hq } := J.landed nb flq.1 ((up.trans upz).trans upq) os ag
            obtain ⟨oB, vsB, atB, zB, dB⟩ := flq.there
            have S4 := J4.suite atB dB na n1 n2
            refine wpAny_mono ((hsu a oB cls d (X.pn ++ pins) zB ⟨_, dB⟩).run [] _ _ Hh2 _ S4 (yes rfl a na)) (fun fl r6 got => ?_) (fun _ _ w => False.elim w)
            cases fl with
            | next =>
              obtain ⟨σ6, H6, S6, w⟩ := got
              exact ⟨_, _, S6.unsuite okX, w⟩
            | brk =>
              obtain ⟨σ6, H6, S6, w⟩ := got
              exact ⟨_, _, S6.unsuite okX, w⟩
            | cont =>
              obtain ⟨σ6, H6, S6, w⟩ := got
              exact ⟨_, _, S6.unsuite okX, w⟩
            | ret u =>
              obtain ⟨v6, σ6, H6, S6, r6', w⟩ := got
              exact ⟨_, _, _, S6.unsuite okX, r6', w⟩
        | @named x' n c' i np pp ff ss tt nm at_i loc_n hsu =>
          obtain ⟨b, isb, yes, no⟩ := wish2
          refine wpAny_handleBy_cons (codeAny_handlers_test ?_) (fun q => by cases q)
          refine test nm ((PySem.W.exm_one (M := model X.prog X.w) J3.kIn looks isb).here ?_)
          cases b with
          | false => exact ih (no rfl)
          | true =>
            refine (codeAny_handlers_suite_as ?_)
            refine HandSPX.lands_againZ flz fun hq flq upq => ?_
            have J4 : Inv X pins st2 Hh2 { z with heap := hq } := J.landed nb flq.1 ((up.trans upz).trans upq) os ag
            obtain ⟨oB, vsB, atB, zB, dB⟩ := flq.there
            have S4 := J4.suite atB dB na n1 n2
            refine store_ok (X := X.suite a ((a, oB) :: (X.pn ++ pins))) (v := .ref a) S4 nd at_i (.inl loc_n) rfl (fun r5 S5 => ?_) (.inr loc_n)
            refine wpAny_mono ((hsu a oB cls d (X.pn ++ pins) zB ⟨_, dB⟩).run [] r5 _ Hh2 _ S5 (yes rfl a na)) (fun fl r6 got => ?_) (fun _ _ w => False.elim w)
            have close : ∀ {σ6 : L2.St} {H6 : Hp} {Q : Shared → Prop}, Inv (X.suite a ((a, oB) :: (X.pn ++ pins))) [] σ6 H6 r6 → (∀ r7, Inv X pins (σ6.set i none) H6 r7 → Q r7) →
                wpAny (model X.prog X.w) X.A (do bindName X.env n .none; unbindBehindTheSuite X.env n pp) (fun _ r7 => Q r7) X.xe r6 := fun {σ6 H6 Q} S6 hq => gone_ok (S6.unsuite okX) nd at_i loc_n hq
            cases fl with
            | next =>
              obtain ⟨σ6, H6, S6, w⟩ := got
              exact close S6 fun r7 J7 => ⟨_, _, J7, w⟩
            | brk =>
              obtain ⟨σ6, H6, S6, w⟩ := got
              exact close S6 fun r7 J7 => ⟨_, _, J7, w⟩
            | cont =>
              obtain ⟨σ6, H6, S6, w⟩ := got
              exact close S6 fun r7 J7 => ⟨_, _, J7, w⟩
            | ret u =>
              obtain ⟨v6, σ6, H6, S6, r6', w⟩ := got
              exact close S6 fun r7 J7 => ⟨_, _, _, J7, r6', w⟩
    exact onward cl wish
  · cases fl with
    | next =>
      obtain ⟨σ', H', J', q⟩ := left
      exact wpAny_execs_nil ⟨σ', H', J'.ofTry okX, q⟩
    | brk =>
      obtain ⟨σ', H', J', q⟩ := left
      exact ⟨σ', H', J'.ofTry okX, q⟩
    | cont =>
      obtain ⟨σ', H', J', q⟩ := left
      exact ⟨σ', H', J'.ofTry okX, q⟩
    | ret u =>
      obtain ⟨v, σ', H', J', r, q⟩ := left
      exact ⟨v, σ', H', J'.ofTry okX, r, q⟩
end

section
variable {P : Program} {w : World} {K : PySem.W.Frag} {mg : Str → Option Value} {base : Heap}
/-- a field of an instance, set and read -/
theorem setF {K : PySem.W.Frag} {C x dx : Addr} {fs : List (Str × V)} {f : Str} {y : V} {H : Hp} {W : Hp → Prop} (hx : H x = some (.ins C dx fs)) (c : Cls K C) (na : NoAttr K C f) (hl : Nat.ble (fs.length + 1) 1000 = true)
    (h : W (upd H x (.ins C dx (putF f y fs)))) : ∃ (a C : Addr) (dx : Addr) (fs : List (Str × V)), V.ref x = V.ref a ∧ H a = some (.ins C dx fs) ∧ Cls K C ∧ NoAttr K C f ∧ fs.length < 1000 ∧ W (upd H a (.ins C dx (putF f y fs))) :=
  ⟨x, C, dx, fs, rfl, hx, c, na, Nat.le_of_ble_eq_true hl, h⟩
theorem getF {K : PySem.W.Frag} {C x dx : Addr} {fs : List (Str × V)} {f : Str} {v : V} {H : Hp} {σ : L2.St} {Q : VK} (hx : H x = some (.ins C dx fs)) (c : Cls K C) (na : NoAttr K C f) (hl : fs.lookup f = some v) (h : Q v H) :
    tFld K (tC (.ref x)) f σ H Q := ⟨x, C, dx, fs, v, rfl, hx, c, na, hl, h⟩

/-! ### xs.remove(x), x an object at any place of xs: it is found by identity, the objects ahead of it are other ones (no own ==) -/
section
open PySem.SeqAt PySem.MeetsSeq PySem.AutoSeq1 PySem.W
theorem obj_bound {M : Model} {A : Around} {E : Value → Shared → Prop} {s : Shared} {K : Frag} {x C : Addr} {ox : Obj} {od : Option Obj} {name : Str} {id : String} {args : List Value} {Q : Option Value → Shared → Prop}
    (hX : K.In s.heap) (J : InstAt s.heap x ox C od) (hs : findIn K (.ref C) name = some (some (.builtin id))) (hbd : ∀ v, bindSpecial (.builtin id) v = pure (.builtin id, [v]))
    (h : wpAny M A (call (.builtin id) (.ref x :: args)) (fun v => Q (some v)) E s) : wpAny M A (callSpecialIfBound? (.ref x) name args) Q E s := by
  simp only [callSpecialIfBound?, bindSpecialIfBound?]
  refine wpAny_holding (wpAny_bind (wpAny_bind (wpAny_bind (J.type.here ((looks_findIn hX hs).here ?_)))))
  simp only [hbd]
  refine wpAny_bind (wpAny_askSetting (wpAny_ite ?_))
  have fin : wpAny M A (call (.builtin id) ([.ref x] ++ args) >>= fun v => pure (some v)) Q E s := wpAny_bind (wpAny_mono h (fun v s' h' => wpAny_pure h') fun _ _ h' => h')
  split
  · exact wpAny_bind (wpAny_pure (wpAny_pure fin))
  · exact wpAny_tryCatch (wpAny_bind (wpAny_pure (wpAny_pure fin)))
theorem obj_check {M : Model} {A : Around} {E : Value → Shared → Prop} {s : Shared} {K : Frag} {x C : Addr} {ox : Obj} {od : Option Obj} {id owner n : String} {rest : List Value} {Q : Unit → Shared → Prop}
    (hX : K.In s.heap) (J : InstAt s.heap x ox C od) (hk : builtinKind id = some .slot) (hs : splitId id = some (owner, n)) (ha : argsOk id ⟨.ref x :: rest, []⟩)
    (hm : mroIn K C (.type owner) = some true) (hq : Q () s) : wpAny M A (checkBuiltinCall id ⟨.ref x :: rest, []⟩) Q E s := by
  have hL := looks_mroIn (M := M) hX hm
  simp only [checkBuiltinCall, hk, hs]
  refine wpAny_bind ?_
  unfold isInstance
  refine wpAny_bind (J.type.here ?_)
  refine (hL.here ?_)
  simp only [Bool.not_true, Bool.false_eq_true, if_false]
  cases hsig : Manifest.signature? id with
  | none => exact wpAny_pure hq
  | some sig =>
    simp only [argsOk, hsig] at ha
    have h2 : Bind.checkArgs id sig ⟨.ref x :: rest, []⟩ = pure () := ha
    show wpAny M A (Bind.checkArgs id sig ⟨.ref x :: rest, []⟩) Q E _
    rw [h2]; exact wpAny_pure hq
theorem obj_try {prog : Program} {w : World} {A : Around} {E : Value → Shared → Prop} {s : Shared} {K : Frag} {x y C : Addr} {ox oy : Obj} {od : Option Obj} {Q : Option Value → Shared → Prop}
    (hX : K.In s.heap) (J : InstAt s.heap x ox C od) (hy : s.heap.get? y = some oy) (hxy : x ≠ y) (hs : findIn K (.ref C) "__eq__" = some (some (.builtin "object.__eq__")))
    (hm : mroIn K C (.type "object") = some true) (hq : Q none s) : wpAny (model prog w) A (tryCompare (.ref x) "__eq__" (.ref y)) Q E s := by
  have hnt : ox.cls ≠ .type "tuple" := by rw [J.cls]; intro e; cases e
  simp only [tryCompare]
  refine wpAny_bind (obj_bound hX J hs F.cmp_object.eq.bind (wpAny_call (codeAny_call_builtin F.cmp_object.eq.plain F.cmpEntry_eq (obj_check hX J F.cmpKind_eq F.cmpSplit_eq (F.cmpArgs_eq _ _) hm ?_))))
  refine objEq_entry_other hxy J.at_ hy hnt ?_
  exact wpAny_pure hq
theorem obj_rich {prog : Program} {w : World} {A : Around} {E : Value → Shared → Prop} {s : Shared} {K : Frag} {x y C : Addr} {ox oy : Obj} {od od' : Option Obj} {Q : Value → Shared → Prop}
    (hu : A.units < cLine) (hX : K.In s.heap) (J : InstAt s.heap x ox C od) (J' : InstAt s.heap y oy C od') (hxy : x ≠ y) (hs : findIn K (.ref C) "__eq__" = some (some (.builtin "object.__eq__")))
    (hm : mroIn K C (.type "object") = some true) (hq : Q (.bool false) s) : wpAny (model prog w) A (richCompare .Eq (.ref x) (.ref y)) Q E s := by
  have hnt : ox.cls ≠ .type "tuple" := by rw [J.cls]; intro e; cases e
  unfold richCompare
  simp only [oneThing_ref]
  refine wpAny_holding (wpAny_bind (wpAny_cRoomFor hu ?_))
  refine wpAny_bind (J.type.here (wpAny_bind (J'.type.here ?_)))
  rw [if_neg (by simp)]
  refine wpAny_bind (wpAny_pure ?_)
  simp only [Bool.false_eq_true, if_false, Bool.not_false, if_true]
  refine wpAny_bind (obj_try hX J J'.at_ hxy hs hm ?_)
  dsimp only
  refine wpAny_bind (obj_try hX J' J.at_ hxy.symm hs hm ?_)
  dsimp only
  refine wpAny_bind (wpAny_rule ?_)
  refine wpAny_bind (wpAny_isSame_ref_other hxy J.at_ J'.at_ hnt ?_)
  exact wpAny_pure hq
theorem obj_eqAt {A : Around} {s : Shared} {K : Frag} {x y C : Addr} {ox oy : Obj} {od od' : Option Obj} (hu : A.units < cLine) (hX : K.In s.heap) (J : InstAt s.heap x ox C od) (J' : InstAt s.heap y oy C od')
    (hs : findIn K (.ref C) "__eq__" = some (some (.builtin "object.__eq__"))) (hm : mroIn K C (.type "object") = some true) : EqAt A s (.ref x) (.ref y) (x == y) := by
  by_cases hxy : x = y
  · subst hxy
    rw [beq_self_eq_true]
    exact EqAt.same (A := A) (s := s) (.ref x)
  · rw [show (x == y) = false from beq_false_of_ne hxy]
    intro prog w E Q hq
    exact GQ.eqBool_refG hxy (obj_rich hu hX J J' hxy hs hm ⟨false, rfl, hq⟩)
end
theorem erase_mapR (a : Addr) : ∀ (as : List Addr), (as.map V.ref).eraseIdx (as.idxOf a) = (as.erase a).map V.ref
  | [] => rfl
  | b :: r => by
    have ih := erase_mapR a r
    by_cases h : b = a
    · subst h
      rw [List.idxOf_cons_self, List.erase_cons_head]
      rfl
    · rw [List.idxOf_cons, show (b == a) = false from beq_false_of_ne h, cond_false, List.erase_cons_tail (by simpa using h), List.map_cons, List.map_cons, List.eraseIdx_cons_succ, ih]
theorem vals_refs : ∀ {as : List Addr} {its : List Value}, Vals (as.map V.ref) its → its = as.map Value.ref
  | [], _, .nil => rfl
  | _ :: _, _, .cons h t => by
    cases h
    rw [vals_refs t]
    rfl
theorem hu_in {k : Nat} {A : Around} (hr : Room k A) : A.in1.units < cLine := by
  have := hr.units
  show A.units + 1 < cLine
  omega
section
open PySem.SeqAt
variable {X : Cx}
/-- one object of the class at C out of several -/
def rRemO (C : Addr) : V → List V → Hp → VK → Prop := fun x xs H Q => ∃ (l a : Addr) (as : List Addr), x = .ref l ∧ xs = [.ref a] ∧ H l = some (.lst (as.map V.ref)) ∧ a ∈ as ∧ (∀ b, b ∈ as → ∃ dx fs, H b = some (.ins C dx fs)) ∧ Q .non (upd H l (.lst ((as.erase a).map V.ref)))
theorem mt_removeO {k : Nat} {C : Addr} (hr : Room k X.A) (hs : PySem.W.findIn X.K (.ref C) "__eq__" = some (some (.builtin "object.__eq__"))) (hm : PySem.W.mroIn X.K C (.type "object") = some true) : MtM X "list.remove" (rRemO C) := by
  intro pins s σ H x xs v us Q I rx rxs h
  obtain ⟨l, a, as, rfl, rfl, hH, ha, hobj, q⟩ := h
  cases rx
  obtain ⟨u, rfl, ru⟩ := rxs.one
  cases ru
  obtain ⟨z, its, n, r, hl, e⟩ := I.lstM hH
  have hi := vals_refs r
  rw [List.length_map] at hl z
  have hj : as.idxOf a < as.length := List.idxOf_lt_length_iff.mpr ha
  have hjl : as.idxOf a < its.toArray.size := by rw [List.size_toArray]; omega
  have look : ∀ b, b ∈ as → ∃ ob od, PySem.W.InstAt s.heap b ob C od := by
    intro b hb
    obtain ⟨dx, fs, hb2⟩ := hobj b hb
    obtain ⟨mA, J, _⟩ := ins_get I.hok hb2
    obtain ⟨od, J, _⟩ := J.look
    exact ⟨_, _, J⟩
  have item : ∀ m (hm : m < its.toArray.size), ∃ hm2 : m < as.length, its.toArray[m] = .ref as[m] := by
    intro m hm
    subst hi
    have h2 : m < as.length := by simpa using hm
    exact ⟨h2, by simp⟩
  refine call_meets PySem.F.slot_list_remove ⟨_, e, rfl⟩ PySem.F.entry_list_remove (PySem.F.args_list_remove_2 _ _)
    (list_removeAt l its.toArray n none #[] (.ref a) (fun y => y == .ref a) (as.idxOf a) hjl ?_ ?_ (by rw [List.size_toArray]; omega)) ⟨e, ?_, ?_⟩
  · obtain ⟨h2, e2⟩ := item _ hjl
    show (its.toArray[as.idxOf a] == Value.ref a) = true
    rw [e2, List.getElem_idxOf]
    exact beq_self_eq_true _
  · intro m hm2 hmj
    obtain ⟨h2, e2⟩ := item _ hm2
    show (its.toArray[m] == Value.ref a) = false
    rw [e2]
    refine beq_eq_false_iff_ne.mpr fun e3 => ?_
    injection e3 with e3
    have e4 := List.not_of_lt_findIdx (p := (· == a)) hmj
    rw [e3] at e4
    simp at e4
  · intro y hy
    obtain ⟨m, hm2, e2⟩ := Array.getElem_of_mem hy
    obtain ⟨h2, e3⟩ := item m hm2
    rw [← e2, e3]
    obtain ⟨_, _, J⟩ := look _ (List.getElem_mem h2)
    obtain ⟨_, _, J'⟩ := look _ ha
    have q2 := obj_eqAt (A := X.A.in1) (s := s) (hu_in hr) I.kIn J J' hs hm
    have e4 : (Value.ref as[m] == Value.ref a) = (as[m] == a) := by
      by_cases h : as[m] = a
      · rw [h, beq_self_eq_true, beq_self_eq_true]
      · rw [beq_false_of_ne h]
        exact beq_eq_false_iff_ne.mpr fun e5 => h (by injection e5)
    rw [← e4] at q2
    exact q2
  · have rr := r.eraseIdx (as.idxOf a)
    rw [erase_mapR] at rr
    refine ⟨.non, _, I.lset (its' := its.eraseIdx (as.idxOf a)) (t' := s.toks) hH e ?_ rr ?_, rfl, q⟩
    · show its.toArray.eraseIdxIfInBounds (as.idxOf a) = (its.eraseIdx (as.idxOf a)).toArray
      rw [List.eraseIdxIfInBounds_toArray]
    · rw [List.length_map]
      have := (List.erase_sublist (a := a) (l := as)).length_le
      omega
end

/-! ### xs.remove(x), nested data: the first item that is equal -/
section
open PySem.SeqAt PySem.MeetsSeq PySem.AutoSeq1 PySem.W
variable {X : Cx}
def rRemD (K : PySem.W.Frag) : V → List V → Hp → VK → Prop := fun x xs H Q => ∃ (_ : Unit) (l : Addr) (ys : List V) (y : V) (d : PyData) (ds : List PyData) (j : Nat) (z : PyData), x = .ref l ∧ xs = [y] ∧ H l = some (.lst ys) ∧ DpAll K H ys ds ∧ Dp K H y d ∧
  SeqAt.shaped (.list ds) = true ∧ SeqAt.shaped d = true ∧ ds[j]? = some z ∧ PyData.eqv z d = true ∧ (∀ (m : Nat) (z' : PyData), m < j → ds[m]? = some z' → PyData.eqv z' d = false) ∧ Q .non (upd H l (.lst (ys.eraseIdx j)))
theorem mt_removeD (hu : X.A.units + 65 < cLine) : MtM X "list.remove" (rRemD X.K) := by
  intro pins s σ H x xs v us Q I rx rxs h
  obtain ⟨_, l, ys, y, d, ds, j, zz, rfl, rfl, hH, ha, hy, sl, sd, hz, hzj, hno, q⟩ := h
  cases rx
  obtain ⟨uy, rfl, ry⟩ := rxs.one
  obtain ⟨z, its, n, r, hl, e⟩ := I.lstM hH
  obtain ⟨bs, r1⟩ := Dp.reads I d y uy hy ry
  have hxs : PyData.canLayAll0 ds = true := SeqAt.canLay_of_shaped sl
  have hroom : X.A.units + 1 + min (PyData.depthAll ds) d.depth < cLine := room_in_shaped sd hu
  obtain ⟨as, h4⟩ := Dp.readsAll I ds _ its ha r
  have hn : its.length = ds.length := SeqAt.ReadsAll.length ds its as h4
  have hmap : its.map (SeqAt.readOf s.heap) = ds := SeqAt.readsAll_map ds its as hxs h4
  obtain ⟨hjd, _⟩ := List.getElem?_eq_some_iff.mp hz
  have hjl : j < its.length := by omega
  have hj : j < its.toArray.size := by simpa using hjl
  have at_ : ∀ (m : Nat) (hm : m < its.toArray.size) (z' : PyData), ds[m]? = some z' → SeqAt.readOf s.heap its.toArray[m] = z' := by
    intro m hm z' hz'
    have hml : m < its.length := by simpa using hm
    rw [← hmap, List.getElem?_map, List.getElem?_eq_getElem hml] at hz'
    have e1 : SeqAt.readOf s.heap its[m] = z' := Option.some.inj (show some (SeqAt.readOf s.heap its[m]) = some z' from hz')
    simpa using e1
  refine call_meets PySem.F.slot_list_remove ⟨_, e, rfl⟩ PySem.F.entry_list_remove (PySem.F.args_list_remove_2 _ _)
    (list_removeAt l its.toArray n none #[] uy (fun u => PyData.eqv (SeqAt.readOf s.heap u) d) j hj ?_ ?_ (by rw [List.size_toArray]; omega)) ⟨e, SeqAt.items_eqAt (vs := its.toArray) (show ReadsAll s.heap its.toArray.toList ds as from h4) r1 hxs (SeqAt.canLay_of_shaped sd) hroom, ?_⟩
  · show PyData.eqv (SeqAt.readOf s.heap its.toArray[j]) d = true
    rw [at_ j hj zz hz]
    exact hzj
  · intro m hm hmj
    have hmd : m < ds.length := by omega
    have hz' : ds[m]? = some ds[m] := List.getElem?_eq_getElem hmd
    show PyData.eqv (SeqAt.readOf s.heap its.toArray[m]) d = false
    rw [at_ m hm _ hz']
    exact hno m _ hmj hz'
  · have rr := r.eraseIdx j
    refine ⟨.non, _, I.lset (its' := its.eraseIdx j) (t' := s.toks) hH e ?_ rr ?_, rfl, q⟩
    · show its.toArray.eraseIdxIfInBounds j = (its.eraseIdx j).toArray
      rw [List.eraseIdxIfInBounds_toArray]
    · have h5 := List.length_eraseIdx_le ys j
      omega
theorem hu65 {k : Nat} {A : Around} (hr : Room k A) : A.units + 65 < cLine := by have := hr.un; omega
end

/-- an order as the program keeps it -/
structure Ord where
  number : Int
  house : Str
  side : Str
  price : Option Int
  shown : Int
  left : Int
  visible : Int
def optV : Option Int → V
  | none => .non
  | some i => .int i
/-- its place in the heap -/
def ordO (C dx : Addr) (o : Ord) : HO := .ins C dx [("number", .int o.number), ("house", .str o.house), ("side", .str o.side), ("price", optV o.price), ("shown", .int o.shown), ("left", .int o.left), ("visible", .int o.visible)]
def buyS (s : Str) : Bool := decide (V.str s = V.str "buy")
/-- whether the limit takes the price -/
def takes (side : Str) (limit : Option Int) (p : Int) : Bool := match limit with
  | none => true
  | some l => if buyS side then decide (p ≤ l) else decide (l ≤ p)
def sp_accepts (K : PySem.W.Frag) : Sp := fun vs H Q _ => ∃ (s : Str) (l : Option Int) (p : Int), vs = [.str s, optV l, .int p] ∧ Q (.bl (takes s l p)) H
set_option maxHeartbeats 0 in
theorem ok_accepts (T : Txt K mg) [TB : TabsOk T base] : FnOk P w K mg base CX0 1 T.f_accepts T.d_accepts ["side", "limit", "price"] (sp_accepts K) := by
  refine T.F_accepts.ok sc_accepts (fun vs H Q E h => ?_) (fun cdv A outer s H vs Q E hr h => ?_)
  · obtain ⟨s, l, p, rfl, _⟩ := h
    rfl
  · obtain ⟨s, l, p, rfl, q⟩ := h
    refine ⟨_, (pss_cons (ps_if (pt_cmpR op_isN (pv 1) pe_non (nomark _))
      (pss_one (ps_ret pe_bl))
      pss_nil)
    (pss_one (ps_ret (pe_ifExp (pt_cmpR op_eq (pv 0) pe_str (nomark _)) (pe_cmpR op_le (pv 2) (pv 1) (nomark _)) (pe_cmpR op_ge (pv 2) (pv 1) (nomark _)))))), ?_⟩
    cases l with
    | none =>
      walk_at "st"
      exact q
    | some l =>
      walk_at "st"
      refine iteB (fun h => ?_) (fun h => ?_)
      · walk_at "st"
        have e : takes s (some l) p = decide (p ≤ l) := by
          show (if buyS s = true then _ else _) = _
          rw [show buyS s = true from h, if_pos rfl]
        rw [e] at q
        exact q
      · walk_at "st"
        have e : takes s (some l) p = decide (l ≤ p) := by
          show (if buyS s = true then _ else _) = _
          rw [show buyS s = false from h, if_neg Bool.false_ne_true]
        rw [e] at q
        exact q
def sp_Order_init (K : PySem.W.Frag) (C : Addr) : Sp := fun vs H Q _ => ∃ (x dx : Addr) (n : Int) (ho si : Str) (pr : Option Int) (qu sh : Int), vs = [.ref x, .int n, .str ho, .str si, optV pr, .int qu, .int sh] ∧
  H x = some (.ins C dx []) ∧ Q .non (upd H x (ordO C dx ⟨n, ho, si, pr, sh, qu, 0⟩))
set_option maxHeartbeats 0 in
theorem ok_Order_init (T : Txt K mg) [TB : TabsOk T base] : FnOk P w K mg base CX0 1 T.f_Order_init T.d_Order_init ["self", "number", "house", "side", "price", "quantity", "shown"] (sp_Order_init K T.c_Order) := by
  refine T.F_Order_init.ok sc_Order_init (fun vs H Q E h => ?_) (fun cdv A outer s H vs Q E hr h => ?_)
  · obtain ⟨x, dx, n, ho, si, pr, qu, sh, rfl, _⟩ := h
    rfl
  · obtain ⟨x, dx, n, ho, si, pr, qu, sh, rfl, hx, q⟩ := h
    refine ⟨_, (pss_cons (ps_fld (pv 0) (pv 1) rfl)
    (pss_cons (ps_fld (pv 0) (pv 2) rfl)
    (pss_cons (ps_fld (pv 0) (pv 3) rfl)
    (pss_cons (ps_fld (pv 0) (pv 4) rfl)
    (pss_cons (ps_fld (pv 0) (pv 6) rfl)
    (pss_cons (ps_fld (pv 0) (pv 5) rfl)
    (pss_one (ps_fld (pv 0) pe_int rfl)))))))), ?_⟩
    refine ⟨_, rfl, _, rfl, setF hx T.cl_Order T.na_Order_number rfl ?_⟩
    refine ⟨_, rfl, _, rfl, setF upd_same T.cl_Order T.na_Order_house rfl ?_⟩
    refine ⟨_, rfl, _, rfl, setF upd_same T.cl_Order T.na_Order_side rfl ?_⟩
    refine ⟨_, rfl, _, rfl, setF upd_same T.cl_Order T.na_Order_price rfl ?_⟩
    refine ⟨_, rfl, _, rfl, setF upd_same T.cl_Order T.na_Order_shown rfl ?_⟩
    refine ⟨_, rfl, _, rfl, setF upd_same T.cl_Order T.na_Order_left rfl ?_⟩
    refine ⟨_, rfl, setF upd_same T.cl_Order T.na_Order_visible rfl ?_⟩
    simp only [upd_upd]
    exact q
def sp_Order_accepts_price (K : PySem.W.Frag) (C : Addr) : Sp := fun vs H Q _ => ∃ (x dx : Addr) (o : Ord) (p : Int), vs = [.ref x, .int p] ∧ H x = some (ordO C dx o) ∧ Q (.bl (takes o.side o.price p)) H
set_option maxHeartbeats 0 in
theorem ok_Order_accepts_price (T : Txt K mg) [TB : TabsOk T base] : FnOk P w K mg base CX0 2 T.f_Order_accepts_price T.d_Order_accepts_price ["self", "price"] (sp_Order_accepts_price K T.c_Order) := by
  refine T.F_Order_accepts_price.ok sc_Order_accepts_price (fun vs H Q E h => ?_) (fun cdv A outer s H vs Q E hr h => ?_)
  · obtain ⟨x, dx, o, p, rfl, _⟩ := h
    rfl
  · obtain ⟨x, dx, o, p, rfl, hx, q⟩ := h
    have G_accepts : FnOk P w K mg base CX0 1 T.f_accepts T.d_accepts ["side", "limit", "price"] (sp_accepts K) := ok_accepts T
    refine ⟨_, (pss_one (ps_ret (pe_call G_accepts hr (by rfl) T.m_accepts T.F_accepts.kp T.b_accepts .nil pass0 (pa_cons (pe_fld (pv 0) rfl) (pa_cons (pe_fld (pv 0) rfl) (pa_cons (pv 1) pa_nil)))))), ?_⟩
    have fact_Order_0 := T.cl_Order; have fact_Order_1 := T.na_Order_number; have fact_Order_2 := T.na_Order_house; have fact_Order_3 := T.na_Order_side; have fact_Order_4 := T.na_Order_price; have fact_Order_5 := T.na_Order_shown; have fact_Order_6 := T.na_Order_left; have fact_Order_7 := T.na_Order_visible
    walk_at "st"
    exact ⟨_, _, rfl, q⟩
def Ord.showNext (o : Ord) : Ord := { o with visible := if o.shown = 0 then o.left else if o.left < o.shown then o.left else o.shown }
def sp_Order_show_next_part (K : PySem.W.Frag) (C : Addr) : Sp := fun vs H Q _ => ∃ (x dx : Addr) (o : Ord), vs = [.ref x] ∧ H x = some (ordO C dx o) ∧ Q .non (upd H x (ordO C dx o.showNext))
set_option maxHeartbeats 0 in
theorem ok_Order_show_next_part (T : Txt K mg) [TB : TabsOk T base] : FnOk P w K mg base CX0 1 T.f_Order_show_next_part T.d_Order_show_next_part ["self"] (sp_Order_show_next_part K T.c_Order) := by
  refine T.F_Order_show_next_part.ok sc_Order_show_next_part (fun vs H Q E h => ?_) (fun cdv A outer s H vs Q E hr h => ?_)
  · obtain ⟨x, dx, o, rfl, _⟩ := h
    rfl
  · obtain ⟨x, dx, o, rfl, hx, q⟩ := h
    refine ⟨_, (pss_one (ps_fld (pv 0) (pe_ifExp (pt_cmpR op_eq (pe_fld (pv 0) rfl) pe_int (nomark _)) (pe_fld (pv 0) rfl) (pe_callB (call_min2 rfl) (by rfl) T.z_min (by decide +kernel) (pa_cons (pe_fld (pv 0) rfl) (pa_cons (pe_fld (pv 0) rfl) pa_nil)))) rfl)), ?_⟩
    have fact_Order_0 := T.cl_Order; have fact_Order_1 := T.na_Order_number; have fact_Order_2 := T.na_Order_house; have fact_Order_3 := T.na_Order_side; have fact_Order_4 := T.na_Order_price; have fact_Order_5 := T.na_Order_shown; have fact_Order_6 := T.na_Order_left; have fact_Order_7 := T.na_Order_visible
    walk_at "st"
    refine iteB (fun h => ?_) (fun h => ?_)
    · have e : o.showNext = { o with visible := o.left } := by
        unfold Ord.showNext
        rw [if_pos (V.int.inj (dec_t h))]
      rw [e] at q
      walk_at "st"
      exact q
    · have e : o.showNext = { o with visible := if o.left < o.shown then o.left else o.shown } := by
        unfold Ord.showNext
        rw [if_neg (fun z => dec_f h (congrArg V.int z))]
      rw [e] at q
      walk_at "st"
      exact q
def sp_Order_trade_visible (K : PySem.W.Frag) (C : Addr) : Sp := fun vs H Q _ => ∃ (x dx : Addr) (o : Ord) (n : Int), vs = [.ref x, .int n] ∧ H x = some (ordO C dx o) ∧ Q .non (upd H x (ordO C dx { o with left := o.left - n, visible := o.visible - n }))
set_option maxHeartbeats 0 in
theorem ok_Order_trade_visible (T : Txt K mg) [TB : TabsOk T base] : FnOk P w K mg base CX0 1 T.f_Order_trade_visible T.d_Order_trade_visible ["self", "quantity"] (sp_Order_trade_visible K T.c_Order) := by
  refine T.F_Order_trade_visible.ok sc_Order_trade_visible (fun vs H Q E h => ?_) (fun cdv A outer s H vs Q E hr h => ?_)
  · obtain ⟨x, dx, o, n, rfl, _⟩ := h
    rfl
  · obtain ⟨x, dx, o, n, rfl, hx, q⟩ := h
    refine ⟨_, (pss_cons (ps_fldaug (pv 0) (pv 1) in_sub)
    (pss_one (ps_fldaug (pv 0) (pv 1) in_sub))), ?_⟩
    have fact_Order_0 := T.cl_Order; have fact_Order_1 := T.na_Order_number; have fact_Order_2 := T.na_Order_house; have fact_Order_3 := T.na_Order_side; have fact_Order_4 := T.na_Order_price; have fact_Order_5 := T.na_Order_shown; have fact_Order_6 := T.na_Order_left; have fact_Order_7 := T.na_Order_visible
    walk_at "st"
    rw [upd_upd]
    exact q

/-! ### one side of a book -/
abbrev Ent := Addr × Addr × Ord
def refs (es : List Ent) : List V := es.map fun e => V.ref e.1
structure SideAt (CO CB : Addr) (H : Hp) (b db l : Addr) (es : List Ent) : Prop where
  ob : H b = some (.ins CB db [("_orders", .ref l)])
  li : H l = some (.lst (refs es))
  en : ∀ e, e ∈ es → H e.1 = some (ordO CO e.2.1 e.2.2)
  nd : (es.map (·.1)).Nodup
  sm : es.length ≤ 1000
theorem SideAt.bl {CO CB : Addr} {H : Hp} {b db l : Addr} {es : List Ent} (S : SideAt CO CB H b db l es) : b ≠ l := fun e => by
  have := S.ob
  rw [e, S.li] at this
  cases this
theorem SideAt.be {CO CB : Addr} {H : Hp} {b db l : Addr} {es : List Ent} (S : SideAt CO CB H b db l es) {e : Ent} (h : e ∈ es) : e.1 ≠ b := fun q => by
  have := S.en e h
  rw [q, S.ob] at this
  unfold ordO at this
  injection this with this
  injection this with _ _ this
  injection this with h1 _
  injection h1 with h1 _
  exact absurd h1 (by decide)
theorem SideAt.le {CO CB : Addr} {H : Hp} {b db l : Addr} {es : List Ent} (S : SideAt CO CB H b db l es) {e : Ent} (h : e ∈ es) : e.1 ≠ l := fun q => by
  have := S.en e h
  rw [q, S.li] at this
  cases this
def sp_BookSide_init (K : PySem.W.Frag) (CO CB : Addr) : Sp := fun vs H Q _ => ∃ (x dx : Addr), vs = [.ref x] ∧ H x = some (.ins CB dx []) ∧ ∀ l, H l = none → Q .non (upd (upd H l (.lst [])) x (.ins CB dx [("_orders", .ref l)]))
set_option maxHeartbeats 0 in
theorem ok_BookSide_init (T : Txt K mg) [TB : TabsOk T base] : FnOk P w K mg base CX0 1 T.f_BookSide_init T.d_BookSide_init ["self"] (sp_BookSide_init K T.c_Order T.c_BookSide) := by
  refine T.F_BookSide_init.ok sc_BookSide_init (fun vs H Q E h => ?_) (fun cdv A outer s H vs Q E hr h => ?_)
  · obtain ⟨x, dx, rfl, _⟩ := h
    rfl
  · obtain ⟨x, dx, rfl, hx, q⟩ := h
    refine ⟨_, (pss_one (ps_fld (pv 0) (pe_lst pa_nil) rfl)), ?_⟩
    have fact_BookSide_0 := T.cl_BookSide; have fact_BookSide_1 := T.na_BookSide__orders
    walk_at "st"
    intro l nl
    have hx2 := (upd_ne (o := HO.lst []) (ne_of_none hx nl)).trans hx
    walk_at "st"
    exact q l nl
def sp_BookSide_first (K : PySem.W.Frag) (CO CB : Addr) : Sp := fun vs H Q _ => ∃ (b db l : Addr) (es : List Ent), vs = [.ref b] ∧ SideAt CO CB H b db l es ∧ Q (match es with | [] => .non | e :: _ => .ref e.1) H
set_option maxHeartbeats 0 in
theorem ok_BookSide_first (T : Txt K mg) [TB : TabsOk T base] : FnOk P w K mg base CX0 1 T.f_BookSide_first T.d_BookSide_first ["self"] (sp_BookSide_first K T.c_Order T.c_BookSide) := by
  refine T.F_BookSide_first.ok sc_BookSide_first (fun vs H Q E h => ?_) (fun cdv A outer s H vs Q E hr h => ?_)
  · obtain ⟨b, db, l, es, rfl, _⟩ := h
    rfl
  · obtain ⟨b, db, l, es, rfl, S, q⟩ := h
    refine ⟨_, (pss_one (ps_ret (pe_ifExp (pt_truth (pe_fld (pv 0) rfl) (by intro _; rfl)) (pe_ix ix_list (pe_fld (pv 0) rfl) pe_int (fun _ _ => rfl)) pe_non))), ?_⟩
    have fact_BookSide_0 := T.cl_BookSide; have fact_BookSide_1 := T.na_BookSide__orders
    have hob := S.ob
    have hli := S.li
    walk_at "st"
    refine ⟨.inl ⟨refs es, SqL.of hli, rfl⟩, ?_⟩
    cases es with
    | nil => exact q
    | cons e r =>
      refine iteT ?_
      walk_at "st"
      refine ⟨atI_nat (j := 0) rfl, ?_⟩
      exact q
theorem refs_map (es : List Ent) : refs es = (es.map (·.1)).map V.ref := by
  unfold refs
  rw [List.map_map]
  rfl
theorem erase_mid {pre post : List Ent} {e : Ent} (nd : ((pre ++ e :: post).map (·.1)).Nodup) : ((pre ++ e :: post).map (·.1)).erase e.1 = (pre ++ post).map (·.1) := by
  rw [List.map_append, List.map_cons] at nd ⊢
  have h := (List.nodup_append.mp nd).2.2
  rw [List.erase_append_right _ (fun z => h _ z _ List.mem_cons_self rfl), List.erase_cons_head, List.map_append]
def sp_BookSide_leave (K : PySem.W.Frag) (CO CB : Addr) : Sp := fun vs H Q _ => ∃ (b db l : Addr) (pre : List Ent) (e : Ent) (es : List Ent), vs = [.ref b, .ref e.1] ∧ SideAt CO CB H b db l (pre ++ e :: es) ∧ Q .non (upd H l (.lst (refs (pre ++ es))))
set_option maxHeartbeats 0 in
theorem ok_BookSide_leave (T : Txt K mg) [TB : TabsOk T base] : FnOk P w K mg base CX0 1 T.f_BookSide_leave T.d_BookSide_leave ["self", "order"] (sp_BookSide_leave K T.c_Order T.c_BookSide) := by
  refine T.F_BookSide_leave.ok sc_BookSide_leave (fun vs H Q E h => ?_) (fun cdv A outer s H vs Q E hr h => ?_)
  · obtain ⟨b, db, l, pre, e, es, rfl, _⟩ := h
    rfl
  · obtain ⟨b, db, l, pre, e, es, rfl, S, q⟩ := h
    refine ⟨_, (pss_one (ps_expr (pe_bm PySem.F.plainAttrs_list PySem.F.slot_list_remove PySem.F.type_list_remove (mt_removeO hr T.eq_Order T.mo_Order) (pe_fld (pv 0) rfl) (pa_cons (pv 1) pa_nil)))), ?_⟩
    have fact_BookSide_0 := T.cl_BookSide; have fact_BookSide_1 := T.na_BookSide__orders
    have hob := S.ob
    have hli := S.li
    rw [refs_map] at hli
    have hmem : e.1 ∈ (pre ++ e :: es).map (·.1) := List.mem_map.mpr ⟨e, List.mem_append_right _ List.mem_cons_self, rfl⟩
    have hobj : ∀ b, b ∈ (pre ++ e :: es).map (·.1) → ∃ dx fs, H b = some (.ins T.c_Order dx fs) := fun b hb => by
      obtain ⟨y, hy, rfl⟩ := List.mem_map.mp hb
      exact ⟨_, _, S.en y hy⟩
    walk_at "st"
    refine ⟨_, rfl, rfl, hli, hmem, hobj, ?_⟩
    rw [erase_mid S.nd, ← refs_map]
    exact q
theorem ents_at {es : List Ent} {i : Nat} {x : V} (h : (refs es)[i]? = some x) : ∃ e, es[i]? = some e ∧ x = .ref e.1 := by
  unfold refs at h
  rw [List.getElem?_map] at h
  cases e : es[i]? with
  | none => rw [e] at h; cases h
  | some z => rw [e] at h; exact ⟨z, rfl, (Option.some.inj h).symm⟩
theorem find_hit {α : Type} {p : α → Bool} {es : List α} {i : Nat} {e : α} (h : es[i]? = some e) (h0 : (es.take i).find? p = none) (hp : p e = true) : es.find? p = some e := by
  rw [← List.take_append_drop (i + 1) es, List.find?_append, take_succ h, List.find?_append, h0]
  simp [hp]
theorem find_miss {α : Type} {p : α → Bool} {es : List α} {i : Nat} {e : α} (h : es[i]? = some e) (h0 : (es.take i).find? p = none) (hp : p e = false) : (es.take (i + 1)).find? p = none := by
  rw [take_succ h, List.find?_append, h0]
  simp [hp]
def sp_BookSide_with_number (K : PySem.W.Frag) (CO CB : Addr) : Sp := fun vs H Q _ => ∃ (b db l : Addr) (es : List Ent) (n : Int), vs = [.ref b, .int n] ∧ SideAt CO CB H b db l es ∧
  Q (match es.find? (fun e => decide (e.2.2.number = n)) with | none => .non | some e => .ref e.1) H
set_option maxHeartbeats 0 in
theorem ok_BookSide_with_number (T : Txt K mg) [TB : TabsOk T base] : FnOk P w K mg base CX0 1 T.f_BookSide_with_number T.d_BookSide_with_number ["self", "number"] (sp_BookSide_with_number K T.c_Order T.c_BookSide) := by
  refine T.F_BookSide_with_number.ok sc_BookSide_with_number (fun vs H Q E h => ?_) (fun cdv A outer s H vs Q E hr h => ?_)
  · obtain ⟨b, db, l, es, n, rfl, _⟩ := h
    rfl
  · obtain ⟨b, db, l, es, n, rfl, S, q⟩ := h
    refine ⟨_, (pss_cons (ps_for PassesOwn.never rfl (pi_list (pe_fld (pv 0) rfl)) (pg_name (i := 2) sc_BookSide_with_number.nd rfl (Or.inl rfl))
      (pss_one (ps_if (pt_cmpR op_eq (pe_fld (pv 2) rfl) (pv 1) (nomark _))
        (pss_one (ps_ret (pv 2)))
        pss_nil)))
    (pss_one (ps_ret pe_non))), ?_⟩
    have fact_BookSide_0 := T.cl_BookSide; have fact_BookSide_1 := T.na_BookSide__orders; have fact_Order_0 := T.cl_Order; have fact_Order_1 := T.na_Order_number; have fact_Order_2 := T.na_Order_house; have fact_Order_3 := T.na_Order_side; have fact_Order_4 := T.na_Order_price; have fact_Order_5 := T.na_Order_shown; have fact_Order_6 := T.na_Order_left; have fact_Order_7 := T.na_Order_visible
    have hob := S.ob
    have hli := S.li
    walk_at "st"
    refine for_list (K := K) (a := l) (xs := refs es) (fun i σ H' => H' = H ∧ ∃ v : Option V, σ = [some (.ref b), some (.int n), v] ∧ (es.take i).find? (fun e => decide (e.2.2.number = n)) = none) ⟨rfl, none, rfl, rfl⟩ (fun i σ H' _ ⟨e, _⟩ => by rw [e]; exact SqL.of hli) ?_ ?_
    · rintro i x σ H' hx ⟨rfl, v, rfl, hf⟩
      obtain ⟨e, he, rfl⟩ := ents_at hx
      have hen := S.en e (List.mem_of_getElem? he)
      walk_at "st"
      refine iteB (fun h => ?_) (fun h => ?_)
      · rw [find_hit he hf (decide_eq_true (V.int.inj (dec_t h)))] at q
        walk_at "st"
        exact q
      · exact ⟨rfl, _, rfl, find_miss he hf (decide_eq_false fun z => dec_f h (congrArg V.int z))⟩
    · rintro σ H' ⟨rfl, v, rfl, hf⟩
      rw [show (refs es).length = es.length from List.length_map .., List.take_of_length_le (Nat.le_refl _)] at hf
      rw [hf] at q
      exact q
def accE (p : Int) (e : Ent) : Bool := takes e.2.2.side e.2.2.price p
/-- behind all that take the price -/
def place (es : List Ent) (p : Int) : Nat := (es.takeWhile (accE p)).length
def Mono (es : List Ent) (p : Int) : Prop := ∀ (i j : Nat) (e e' : Ent), i ≤ j → es[i]? = some e → es[j]? = some e' → accE p e' = true → accE p e = true
theorem place_is {p : Int} : ∀ {es : List Ent} {k : Nat}, k ≤ es.length → (∀ i e, i < k → es[i]? = some e → accE p e = true) → (∀ e, es[k]? = some e → accE p e = false) → place es p = k
  | [], k, hk, _, _ => by
    simp at hk
    rw [hk]
    rfl
  | e :: r, 0, _, _, h2 => by
    unfold place
    rw [List.takeWhile_cons, if_neg (by rw [h2 e rfl]; exact Bool.false_ne_true)]
    rfl
  | e :: r, k + 1, hk, h1, h2 => by
    have ih := place_is (p := p) (es := r) (k := k) (by simpa using hk) (fun i e hi he => h1 (i + 1) e (by omega) he) (fun e he => h2 e he)
    unfold place at ih ⊢
    rw [List.takeWhile_cons, if_pos (h1 0 e (by omega) rfl), List.length_cons, ih]
theorem place_le (es : List Ent) (p : Int) : place es p ≤ es.length := by
  unfold place
  exact (List.takeWhile_prefix _).length_le
def sp_BookSideplace_behind (K : PySem.W.Frag) (CO CB : Addr) : Sp := fun vs H Q _ => ∃ (b db l x dx : Addr) (es : List Ent) (o : Ord) (p : Int), vs = [.ref b, .ref x] ∧ SideAt CO CB H b db l es ∧ H x = some (ordO CO dx o) ∧ o.price = some p ∧ Mono es p ∧
  Q (.int (place es p : Nat)) H
set_option maxHeartbeats 0 in
theorem ok_BookSideplace_behind (T : Txt K mg) [TB : TabsOk T base] : FnOk P w K mg base CX0 3 T.f_BookSideplace_behind T.d_BookSideplace_behind ["self", "order"] (sp_BookSideplace_behind K T.c_Order T.c_BookSide) := by
  refine T.F_BookSideplace_behind.ok sc_BookSideplace_behind (fun vs H Q E h => ?_) (fun cdv A outer s H vs Q E hr h => ?_)
  · obtain ⟨b, db, l, x, dx, es, o, p, rfl, _⟩ := h
    rfl
  · obtain ⟨b, db, l, x, dx, es, o, p, rfl, S, hx, hp, hm, q⟩ := h
    have G_Order_accepts_price : FnOk P w K mg base CX0 2 T.f_Order_accepts_price T.d_Order_accepts_price ["self", "price"] (sp_Order_accepts_price K T.c_Order) := ok_Order_accepts_price T
    refine ⟨_, (pss_cons (ps_set (i := 2) sc_BookSideplace_behind.nd rfl (Or.inl rfl) pe_int)
    (pss_cons (ps_set (i := 3) sc_BookSideplace_behind.nd rfl (Or.inl rfl) (pe_callB call_len_seq (by rfl) T.z_len PySem.boot_len (pa_cons (pe_fld (pv 0) rfl) pa_nil)))
    (pss_cons (ps_while PassesOwn.never (pt_cmpR op_lt (pv 2) (pv 3) (nomark _))
      (pss_cons (ps_set (i := 4) sc_BookSideplace_behind.nd rfl (Or.inl rfl) (pe_op op_fdiv (pe_op op_add (pv 2) (pv 3)) pe_int))
      (pss_one (ps_if (pt_val (pe_meth (pe_ix ix_list (pe_fld (pv 0) rfl) (pv 4) (fun _ _ => rfl)) T.cl_Order T.mt_Order_accepts_price G_Order_accepts_price hr T.b_Order_accepts_price .nil pass0 (pa_cons (pe_fld (pv 1) rfl) pa_nil)))
        (pss_one (ps_set (i := 2) sc_BookSideplace_behind.nd rfl (Or.inl rfl) (pe_op op_add (pv 4) pe_int)))
        (pss_one (ps_set (i := 3) sc_BookSideplace_behind.nd rfl (Or.inl rfl) (pv 4)))))))
    (pss_one (ps_ret (pv 2)))))), ?_⟩
    have fact_BookSide_0 := T.cl_BookSide; have fact_BookSide_1 := T.na_BookSide__orders; have fact_Order_0 := T.cl_Order; have fact_Order_1 := T.na_Order_number; have fact_Order_2 := T.na_Order_house; have fact_Order_3 := T.na_Order_side; have fact_Order_4 := T.na_Order_price; have fact_Order_5 := T.na_Order_shown; have fact_Order_6 := T.na_Order_left; have fact_Order_7 := T.na_Order_visible
    have hob := S.ob
    have hli := S.li
    have hsm := S.sm
    walk_at "st"
    have lenR : (refs es).length = es.length := List.length_map ..
    refine while_by (fun σ H' => H' = H ∧ ∃ (lo hi : Nat) (v : Option V), σ = [some (.ref b), some (.ref x), some (.int (lo : Int)), some (.int (hi : Int)), v] ∧ lo ≤ hi ∧ hi ≤ es.length ∧
        (∀ i e, i < lo → es[i]? = some e → accE p e = true) ∧ (∀ i e, hi ≤ i → es[i]? = some e → accE p e = false))
      (fun σ _ => match σ with | [_, _, some (.int lo), some (.int hi), _] => (hi - lo).toNat | _ => 0)
      ⟨rfl, 0, es.length, none, by rw [lenR]; rfl, Nat.zero_le _, Nat.le_refl _, fun i e h => absurd h (Nat.not_lt_zero _), fun i e h he => by rw [List.getElem?_eq_none h] at he; cases he⟩ ?_ ?_
    · rintro σ H' ⟨rfl, lo, hi, v, rfl, h1, h2, ha, hb⟩
      walk_at "st"
      refine iteD (fun h => ?_) (fun h => ?_)
      · have hmid : ((lo : Int) + hi) / 2 = (((lo + hi) / 2 : Nat) : Int) := by omega
        have hlt : (lo + hi) / 2 < es.length := by omega
        have he := List.getElem?_eq_getElem hlt
        have hen := S.en _ (List.mem_of_getElem? he)
        walk_at "st"
        rw [hmid]
        refine ⟨atI_nat (show (refs es)[(lo + hi) / 2]? = some (.ref (es[(lo + hi) / 2]).1) by unfold refs; rw [List.getElem?_map, he]; rfl), ?_⟩
        generalize hee : es[(lo + hi) / 2] = e0 at he hen
        generalize (lo + hi) / 2 = mid at *
        walk_at "st"
        refine ⟨e0.2.2, p, by rw [hp]; rfl, hen, ?_⟩
        walk_at "st"
        refine iteB (fun ht => ?_) (fun ht => ?_)
        · refine ⟨_, rfl, _, _, rfl, rfl, ⟨rfl, mid + 1, hi, some (.int (mid : Int)), ?_, by omega, h2, fun i e hi' he' => hm i mid e e0 (by omega) he' he ht, hb⟩, ?_⟩
          · show [some (V.ref b), some (V.ref x), some (V.int (((lo : Int) + hi) / 2 + 1)), some (V.int (hi : Int)), some (V.int (((lo : Int) + hi) / 2))] = _
            rw [hmid]
            rfl
          · show ((hi : Int) - (((lo : Int) + hi) / 2 + 1)).toNat < ((hi : Int) - (lo : Int)).toNat
            omega
        · refine ⟨_, rfl, ⟨rfl, lo, mid, some (.int (mid : Int)), ?_, by omega, by omega, ha, fun i e hi' he' => ?_⟩, ?_⟩
          · show [some (V.ref b), some (V.ref x), some (V.int (lo : Int)), some (V.int (((lo : Int) + hi) / 2)), some (V.int (((lo : Int) + hi) / 2))] = _
            rw [hmid]
          · cases ea : accE p e with
            | false => rfl
            | true =>
              have := hm mid i e0 e hi' he he' ea
              unfold accE at this
              rw [this] at ht
              cases ht
          · show ((((lo : Int) + hi) / 2) - (lo : Int)).toNat < ((hi : Int) - (lo : Int)).toNat
            omega
      · have e : lo = hi := by omega
        subst e
        have := place_is (p := p) h2 ha (fun e he => hb _ e (Nat.le_refl _) he)
        rw [this] at q
        walk_at "st"
        exact q
    · rintro σ H Q Q' h ⟨v1, e1, v2, e2, i, j, r1, r2, k, r3, q⟩
      exact ⟨v1, e1, v2, e2, i, j, r1, r2, k, r3, h _ _ q⟩
theorem SideAt.upd {CO CB : Addr} {H : Hp} {b db l x : Addr} {es : List Ent} {o : HO} (S : SideAt CO CB H b db l es) (hb : b ≠ x) (hl : l ≠ x) (hx : ∀ e, e ∈ es → e.1 ≠ x) : SideAt CO CB (upd H x o) b db l es :=
  ⟨(upd_ne hb).trans S.ob, (upd_ne hl).trans S.li, fun e he => (upd_ne (hx e he)).trans (S.en e he), S.nd, S.sm⟩
theorem SideAt.ord_ne {CO CB : Addr} {H : Hp} {b db l x dx : Addr} {es : List Ent} {o : Ord} (S : SideAt CO CB H b db l es) (hx : H x = some (ordO CO dx o)) : b ≠ x ∧ l ≠ x := by
  constructor
  · intro e
    have := S.ob
    rw [e, hx] at this
    unfold ordO at this
    injection this with this
    injection this with _ _ this
    injection this with h1 _
    injection h1 with h1 _
    exact absurd h1 (by decide)
  · intro e
    have := S.li
    rw [e, hx] at this
    cases this
/-- put in at a place -/
def insE (es : List Ent) (k : Nat) (e : Ent) : List Ent := es.take k ++ [e] ++ es.drop k
def sp_BookSide_enter (K : PySem.W.Frag) (CO CB : Addr) : Sp := fun vs H Q _ => ∃ (b db l x dx : Addr) (es : List Ent) (o : Ord) (p : Int), vs = [.ref b, .ref x] ∧ SideAt CO CB H b db l es ∧ H x = some (ordO CO dx o) ∧ (∀ e, e ∈ es → e.1 ≠ x) ∧ o.price = some p ∧ Mono es p ∧
  Q .non (upd (upd H x (ordO CO dx o.showNext)) l (.lst (refs (insE es (place es p) (x, dx, o.showNext)))))
set_option maxHeartbeats 0 in
theorem ok_BookSide_enter (T : Txt K mg) [TB : TabsOk T base] : FnOk P w K mg base CX0 4 T.f_BookSide_enter T.d_BookSide_enter ["self", "order"] (sp_BookSide_enter K T.c_Order T.c_BookSide) := by
  refine T.F_BookSide_enter.ok sc_BookSide_enter (fun vs H Q E h => ?_) (fun cdv A outer s H vs Q E hr h => ?_)
  · obtain ⟨b, db, l, x, dx, es, o, p, rfl, _⟩ := h
    rfl
  · obtain ⟨b, db, l, x, dx, es, o, p, rfl, S, hx, hne, hp, hm, q⟩ := h
    have G_Order_show_next_part : FnOk P w K mg base CX0 1 T.f_Order_show_next_part T.d_Order_show_next_part ["self"] (sp_Order_show_next_part K T.c_Order) := ok_Order_show_next_part T
    have G_BookSideplace_behind : FnOk P w K mg base CX0 3 T.f_BookSideplace_behind T.d_BookSideplace_behind ["self", "order"] (sp_BookSideplace_behind K T.c_Order T.c_BookSide) := ok_BookSideplace_behind T
    obtain ⟨nb, nl⟩ := S.ord_ne hx
    have S1 := S.upd (o := ordO T.c_Order dx o.showNext) nb nl hne
    have hx1 : (upd H x (ordO T.c_Order dx o.showNext)) x = some (ordO T.c_Order dx o.showNext) := upd_same
    refine ⟨_, (pss_cons (ps_expr (pe_meth0 (pv 1) T.cl_Order T.mt_Order_show_next_part G_Order_show_next_part (hr.mono (by decide)) T.b_Order_show_next_part .nil pass0))
    (pss_one (ps_expr (pe_bm PySem.F.plainAttrs_list PySem.F.slot_list_insert PySem.F.type_list_insert mt_insert (pe_fld (pv 0) rfl) (pa_cons (pe_meth (pv 0) T.cl_BookSide T.mt_BookSideplace_behind G_BookSideplace_behind hr T.b_BookSideplace_behind .nil pass0 (pa_cons (pv 1) pa_nil)) (pa_cons (pv 1) pa_nil)))))), ?_⟩
    have fact_BookSide_0 := T.cl_BookSide; have fact_BookSide_1 := T.na_BookSide__orders; have fact_Order_0 := T.cl_Order; have fact_Order_1 := T.na_Order_number; have fact_Order_2 := T.na_Order_house; have fact_Order_3 := T.na_Order_side; have fact_Order_4 := T.na_Order_price; have fact_Order_5 := T.na_Order_shown; have fact_Order_6 := T.na_Order_left; have fact_Order_7 := T.na_Order_visible
    have hob := S1.ob
    have hli := S1.li
    have hsm := S1.sm
    walk_at "st"
    refine ⟨o, rfl, hx, ?_⟩
    generalize upd H x (ordO T.c_Order dx o.showNext) = H1 at *
    walk_at "st"
    refine ⟨es, o.showNext, p, rfl, S1, hx1, hp, hm, ?_⟩
    have hpl := place_le es p
    have lenR : (refs es).length = es.length := List.length_map ..
    have hsz : (refs es).length < sizeLine := small1000 (by omega)
    refine ⟨_, rfl, l, refs es, ((place es p : Nat) : Int), .ref x, rfl, rfl, hli, hsz, by omega, by omega, ?_⟩
    have e : refs (insE es (place es p) (x, dx, o.showNext)) = (refs es).take ((place es p : Nat) : Int).toNat ++ [V.ref x] ++ (refs es).drop ((place es p : Nat) : Int).toNat := by
      unfold insE refs
      rw [Int.toNat_natCast, List.map_append, List.map_append, List.map_take, List.map_drop]
      rfl
    rw [e] at q
    exact q
theorem insE_mem {es : List Ent} {k : Nat} {e x : Ent} : x ∈ insE es k e ↔ x = e ∨ x ∈ es := by
  unfold insE
  rw [List.mem_append, List.mem_append, List.mem_singleton]
  constructor
  · rintro ((h | h) | h)
    · exact .inr (List.mem_of_mem_take h)
    · exact .inl h
    · exact .inr (List.mem_of_mem_drop h)
  · rintro (h | h)
    · exact .inl (.inr h)
    · rw [← List.take_append_drop k es] at h
      rcases List.mem_append.mp h with h | h
      · exact .inl (.inl h)
      · exact .inr h
theorem insE_perm (es : List Ent) (k : Nat) (e : Ent) : List.Perm (insE es k e) (e :: es) := by
  unfold insE
  have h : List.Perm (es.take k ++ [e] ++ es.drop k) (e :: (es.take k ++ es.drop k)) := by
    rw [List.append_assoc]
    exact List.perm_middle
  rw [List.take_append_drop] at h
  exact h
theorem SideAt.put {CO CB : Addr} {H : Hp} {b db l : Addr} {es es' : List Ent} (S : SideAt CO CB H b db l es) (he : ∀ e, e ∈ es' → H e.1 = some (ordO CO e.2.1 e.2.2)) (nd : (es'.map (·.1)).Nodup) (sm : es'.length ≤ 1000) :
    SideAt CO CB (L2.upd H l (.lst (refs es'))) b db l es' := by
  have hl : ∀ e, e ∈ es' → e.1 ≠ l := fun e h q => by
    have := he e h
    rw [q, S.li] at this
    cases this
  exact ⟨(upd_ne S.bl).trans S.ob, upd_same, fun e h => (upd_ne (hl e h)).trans (he e h), nd, sm⟩
theorem SideAt.insert {CO CB : Addr} {H : Hp} {b db l : Addr} {es : List Ent} {k : Nat} {e : Ent} (S : SideAt CO CB H b db l es) (hx : H e.1 = some (ordO CO e.2.1 e.2.2)) (hne : ∀ d, d ∈ es → d.1 ≠ e.1) (sm : es.length < 1000) :
    SideAt CO CB (L2.upd H l (.lst (refs (insE es k e)))) b db l (insE es k e) := by
  refine S.put (fun d hd => ?_) ?_ ?_
  · rcases insE_mem.mp hd with h | h
    · rw [h]
      exact hx
    · exact S.en d h
  · refine ((insE_perm es k e).map _).nodup_iff.mpr (List.nodup_cons.mpr ⟨fun hm => ?_, S.nd⟩)
    obtain ⟨d, hd, hq⟩ := List.mem_map.mp hm
    exact hne d hd hq
  · rw [(insE_perm es k e).length_eq]
    exact sm
/-- what a trade with the first leaves -/
def tradeF (e : Ent) (es : List Ent) (n p : Int) : List Ent :=
  let o := { e.2.2 with left := e.2.2.left - n, visible := e.2.2.visible - n }
  if o.visible = 0 then (if 0 < o.left then insE es (place es p) (e.1, e.2.1, o.showNext) else es) else (e.1, e.2.1, o) :: es
def sp_BookSide_trade_first (K : PySem.W.Frag) (CO CB : Addr) : Sp := fun vs H Q _ => ∃ (b db l : Addr) (e : Ent) (es : List Ent) (n p : Int), vs = [.ref b, .int n] ∧ SideAt CO CB H b db l (e :: es) ∧ e.2.2.price = some p ∧ Mono es p ∧
  ∀ H' o, SideAt CO CB H' b db l (tradeF e es n p) → H' e.1 = some (ordO CO e.2.1 o) → o.number = e.2.2.number → o.house = e.2.2.house → o.side = e.2.2.side → o.price = e.2.2.price → (∀ a, a ≠ l → a ≠ e.1 → H' a = H a) → Q .non H'
set_option maxHeartbeats 0 in
theorem ok_BookSide_trade_first (T : Txt K mg) [TB : TabsOk T base] : FnOk P w K mg base CX0 5 T.f_BookSide_trade_first T.d_BookSide_trade_first ["self", "quantity"] (sp_BookSide_trade_first K T.c_Order T.c_BookSide) := by
  refine T.F_BookSide_trade_first.ok sc_BookSide_trade_first (fun vs H Q E h => ?_) (fun cdv A outer s H vs Q E hr h => ?_)
  · obtain ⟨b, db, l, e, es, n, p, rfl, _⟩ := h
    rfl
  · obtain ⟨b, db, l, e, es, n, p, rfl, S, hp, hm, q⟩ := h
    have G_Order_trade_visible : FnOk P w K mg base CX0 1 T.f_Order_trade_visible T.d_Order_trade_visible ["self", "quantity"] (sp_Order_trade_visible K T.c_Order) := ok_Order_trade_visible T
    have G_BookSide_leave : FnOk P w K mg base CX0 1 T.f_BookSide_leave T.d_BookSide_leave ["self", "order"] (sp_BookSide_leave K T.c_Order T.c_BookSide) := ok_BookSide_leave T
    have G_BookSide_enter : FnOk P w K mg base CX0 4 T.f_BookSide_enter T.d_BookSide_enter ["self", "order"] (sp_BookSide_enter K T.c_Order T.c_BookSide) := ok_BookSide_enter T
    have hee := S.en e List.mem_cons_self
    have nd := List.nodup_cons.mp S.nd
    have hne : ∀ d, d ∈ es → d.1 ≠ e.1 := fun d hd hq => nd.1 (List.mem_map.mpr ⟨d, hd, hq⟩)
    obtain ⟨nb, nl⟩ := S.ord_ne hee
    refine ⟨_, (pss_cons (ps_set (i := 2) sc_BookSide_trade_first.nd rfl (Or.inl rfl) (pe_ix ix_list (pe_fld (pv 0) rfl) pe_int (fun _ _ => rfl)))
    (pss_cons (ps_expr (pe_meth (pv 2) T.cl_Order T.mt_Order_trade_visible G_Order_trade_visible (hr.mono (by decide)) T.b_Order_trade_visible .nil pass0 (pa_cons (pv 1) pa_nil)))
    (pss_one (ps_if (pt_cmpR op_eq (pe_fld (pv 2) rfl) pe_int (nomark _))
      (pss_cons (ps_expr (pe_meth (pv 0) T.cl_BookSide T.mt_BookSide_leave G_BookSide_leave (hr.mono (by decide)) T.b_BookSide_leave .nil pass0 (pa_cons (pv 2) pa_nil)))
      (pss_one (ps_if (pt_cmpR op_gt (pe_fld (pv 2) rfl) pe_int (nomark _))
        (pss_one (ps_expr (pe_meth (pv 0) T.cl_BookSide T.mt_BookSide_enter G_BookSide_enter hr T.b_BookSide_enter .nil pass0 (pa_cons (pv 2) pa_nil))))
        pss_nil)))
      pss_nil)))), ?_⟩
    have fact_BookSide_0 := T.cl_BookSide; have fact_BookSide_1 := T.na_BookSide__orders; have fact_Order_0 := T.cl_Order; have fact_Order_1 := T.na_Order_number; have fact_Order_2 := T.na_Order_house; have fact_Order_3 := T.na_Order_side; have fact_Order_4 := T.na_Order_price; have fact_Order_5 := T.na_Order_shown; have fact_Order_6 := T.na_Order_left; have fact_Order_7 := T.na_Order_visible
    have hob := S.ob
    have hli := S.li
    have hsm := S.sm
    have h0 : atI (refs (e :: es)) 0 = some (.ref e.1) := atI_nat (j := 0) rfl
    obtain ⟨o', ho'⟩ : ∃ o' : Ord, o' = { e.2.2 with left := e.2.2.left - n, visible := e.2.2.visible - n } := ⟨_, rfl⟩
    have hp' : o'.price = some p := by rw [ho']; exact hp
    have S1 : SideAt T.c_Order T.c_BookSide (upd H e.1 (ordO T.c_Order e.2.1 o')) b db l ((e.1, e.2.1, o') :: es) :=
      ⟨(upd_ne nb).trans S.ob, (upd_ne nl).trans S.li, fun d hd => by
        rcases List.mem_cons.mp hd with h | h
        · rw [h]
          exact upd_same
        · exact (upd_ne (hne d h)).trans (S.en d (List.mem_cons_of_mem _ h)), S.nd, S.sm⟩
    have fr1 : ∀ a, a ≠ e.1 → (upd H e.1 (ordO T.c_Order e.2.1 o')) a = H a := fun a h => upd_ne h
    have ht : tradeF e es n p = if o'.visible = 0 then (if 0 < o'.left then insE es (place es p) (e.1, e.2.1, o'.showNext) else es) else (e.1, e.2.1, o') :: es := by
      rw [ho']
      rfl
    walk_at "st"
    refine ⟨e.2.2, n, rfl, hee, ?_⟩
    rw [← ho']
    generalize upd H e.1 (ordO T.c_Order e.2.1 o') = H1 at S1 fr1
    have hob1 := S1.ob
    have hli1 := S1.li
    have hx1 := S1.en _ List.mem_cons_self
    have n1 : o'.number = e.2.2.number := by rw [ho']
    have n2 : o'.house = e.2.2.house := by rw [ho']
    have n3 : o'.side = e.2.2.side := by rw [ho']
    have n4 : o'.price = e.2.2.price := by rw [ho']
    have nd1 := List.nodup_cons.mp S1.nd
    have S2 : SideAt T.c_Order T.c_BookSide (upd H1 l (.lst (refs es))) b db l es := S1.put (fun d hd => S1.en d (List.mem_cons_of_mem _ hd)) nd1.2 (by simp at hsm; omega)
    have hx2 : (upd H1 l (.lst (refs es))) e.1 = some (ordO T.c_Order e.2.1 o') := (upd_ne (Ne.symm nl)).trans hx1
    walk_at "st"
    refine iteB (fun hv => ?_) (fun hv => ?_)
    · have hv0 : o'.visible = 0 := V.int.inj (dec_t hv)
      rw [if_pos hv0] at ht
      walk_at "st"
      refine ⟨[], (e.1, e.2.1, o'), es, rfl, S1, ?_⟩
      rw [List.nil_append]
      have fr2 : ∀ a, a ≠ l → a ≠ e.1 → (upd H1 l (.lst (refs es))) a = H a := fun a h1 h2 => (upd_ne h1).trans (fr1 a h2)
      generalize upd H1 l (.lst (refs es)) = H2 at S2 hx2 fr2
      have hob2 := S2.ob
      have hli2 := S2.li
      walk_at "st"
      refine iteD (fun hl => ?_) (fun hl => ?_)
      · rw [if_pos hl] at ht
        walk_at "st"
        refine ⟨es, o', p, rfl, S2, hx2, hne, hp', hm, ?_⟩
        have S3 := (S2.upd (o := ordO T.c_Order e.2.1 o'.showNext) nb nl hne).insert (k := place es p) (e := (e.1, e.2.1, o'.showNext)) upd_same hne (by simp at hsm; omega)
        rw [ht] at q
        refine q _ o'.showNext S3 ?_ n1 n2 n3 n4 fun a h1 h2 => ?_
        · exact (upd_ne (Ne.symm nl)).trans upd_same
        · exact (upd_ne h1).trans ((upd_ne h2).trans (fr2 a h1 h2))
      · rw [if_neg hl] at ht
        rw [ht] at q
        exact q H2 o' S2 hx2 n1 n2 n3 n4 fr2
    · have hv0 : ¬ o'.visible = 0 := fun z => dec_f hv (congrArg V.int z)
      rw [if_neg hv0] at ht
      rw [ht] at q
      exact q H1 o' S1 hx1 n1 n2 n3 n4 (fun a _ h => fr1 a h)
def rowV (o : Ord) : List V := [.int o.number, .str o.house, optV o.price, .int o.left, .int o.visible]
def sp_BookSide_rows (K : PySem.W.Frag) (CO CB : Addr) : Sp := fun vs H Q _ => ∃ (b db l : Addr) (es : List Ent), vs = [.ref b] ∧ SideAt CO CB H b db l es ∧
  ∀ D H' (ts : List (Addr × Ord)), Same H H' → H D = none → H' D = some (.lst (ts.map fun t => V.ref t.1)) → ts.map (·.2) = es.map (·.2.2) → (∀ t, t ∈ ts → H' t.1 = some (.tup (rowV t.2))) → Q (.ref D) H'
set_option maxHeartbeats 0 in
theorem ok_BookSide_rows (T : Txt K mg) [TB : TabsOk T base] : FnOk P w K mg base CX0 1 T.f_BookSide_rows T.d_BookSide_rows ["self"] (sp_BookSide_rows K T.c_Order T.c_BookSide) := by
  refine T.F_BookSide_rows.ok sc_BookSide_rows (fun vs H Q E h => ?_) (fun cdv A outer s H vs Q E hr h => ?_)
  · obtain ⟨b, db, l, es, rfl, _⟩ := h
    rfl
  · obtain ⟨b, db, l, es, rfl, S, q⟩ := h
    refine ⟨_, (pss_one (ps_ret (pe_lc (own := [("order", 1)]) (g := gName 1) (tt := tYes) rfl sc_BookSide_rows.nd (pi_list (pe_fld (pv 0) rfl)) (blkOk_by (own := [("order", 1)]) (N := N_BookSide_rows) (sc := defScope s_BookSide_rows) (by decide +kernel)) (fun _ _ _ _ _ => (pg_name (i := 1) sc_BookSide_rows.nd rfl (Or.inl rfl))) (fun _ _ _ _ _ => pts_nil) (fun _ _ _ _ _ => (pe_tup (pa_cons (show PE _ (Expr.Attribute _ "number" _) (tFld K _ "number") from pe_fld (pv 1) rfl) (pa_cons (show PE _ (Expr.Attribute _ "house" _) (tFld K _ "house") from pe_fld (pv 1) rfl) (pa_cons (show PE _ (Expr.Attribute _ "price" _) (tFld K _ "price") from pe_fld (pv 1) rfl) (pa_cons (show PE _ (Expr.Attribute _ "left" _) (tFld K _ "left") from pe_fld (pv 1) rfl) (pa_cons (show PE _ (Expr.Attribute _ "visible" _) (tFld K _ "visible") from pe_fld (pv 1) rfl) pa_nil)))))))))), ?_⟩
    have fact_BookSide_0 := T.cl_BookSide; have fact_BookSide_1 := T.na_BookSide__orders; have fact_Order_0 := T.cl_Order; have fact_Order_1 := T.na_Order_number; have fact_Order_2 := T.na_Order_house; have fact_Order_3 := T.na_Order_side; have fact_Order_4 := T.na_Order_price; have fact_Order_5 := T.na_Order_shown; have fact_Order_6 := T.na_Order_left; have fact_Order_7 := T.na_Order_visible
    have hob := S.ob
    have hli := S.li
    have hsm := S.sm
    have lenR : (refs es).length = es.length := List.length_map ..
    walk_at "st"
    intro D nD
    refine lc_list (K := K) (a := l) (xs := refs es) (fun i H' => ∃ ts : List (Addr × Ord), H' D = some (.lst (ts.map fun t => V.ref t.1)) ∧ (∀ t, t ∈ ts → H' t.1 = some (.tup (rowV t.2))) ∧ ts.map (·.2) = (es.take i).map (·.2.2) ∧ ts.length ≤ i ∧ Same H H')
      ⟨[], upd_same, (fun _ ht => by cases ht), rfl, Nat.le_refl _, same_upd nD⟩ (fun i H' _ ⟨_, _, _, _, _, e⟩ => e.seq (SqL.of hli)) ?_ ?_
    · rintro i x H' hx ⟨ts, hD, hts, hd, hlen, sa⟩
      obtain ⟨e, he, rfl⟩ := ents_at hx
      have hi := (List.getElem?_eq_some_iff.mp he).1
      have hen := sa _ _ (S.en e (List.mem_of_getElem? he))
      refine ⟨rfl, ?_⟩
      walk_at "st"
      intro p np
      have npD : D ≠ p := ne_of_none hD np
      refine ⟨_, (upd_ne npD).trans hD, ?_, ts ++ [(p, e.2.2)], ?_, fun t h => ?_, ?_, ?_, fun b' o' z => ?_⟩
      · rw [List.length_map]
        exact small1000 (by omega)
      · rw [upd_same, List.map_append]
        rfl
      · have hnD : t.1 ≠ D := fun e' => by
          rcases List.mem_append.mp h with h | h
          · have := hts t h
            rw [e', hD] at this
            cases this
          · rw [List.mem_singleton.mp h] at e'
            exact npD e'.symm
        rw [upd_ne hnD]
        rcases List.mem_append.mp h with h | h
        · rw [upd_ne (ne_of_none (hts t h) np)]
          exact hts t h
        · rw [List.mem_singleton.mp h, upd_same]
          rfl
      · rw [List.map_append, hd, take_succ he, List.map_append]
        rfl
      · rw [List.length_append]
        show ts.length + 1 ≤ i + 1
        omega
      · have hbD : b' ≠ D := fun e' => by rw [e'] at z; rw [z] at nD; cases nD
        rw [upd_ne hbD, upd_ne (ne_of_none (sa _ _ z) np)]
        exact sa _ _ z
    · rintro H' ⟨ts, hD, hts, hd, hlen, sa⟩
      rw [lenR, List.take_of_length_le (Nat.le_refl _)] at hd
      exact q D H' ts sa nD hD hd hts
/-- whether the taker could trade with it -/
def canT (t : Ord) (e : Ent) : Bool := decide (e.2.2.house ≠ t.house) && (match e.2.2.price with | some p => takes t.side t.price p | none => false)
def sp_BookSide_available (K : PySem.W.Frag) (CO CB : Addr) : Sp := fun vs H Q _ => ∃ (b db l x dx : Addr) (es : List Ent) (t : Ord), vs = [.ref b, .ref x] ∧ SideAt CO CB H b db l es ∧ H x = some (ordO CO dx t) ∧ (∀ e, e ∈ es → ∃ p, e.2.2.price = some p) ∧
  ∀ H', Same H H' → Q (.int ((es.filter (canT t)).map (fun e => e.2.2.left)).sum) H'
set_option maxHeartbeats 0 in
theorem ok_BookSide_available (T : Txt K mg) [TB : TabsOk T base] : FnOk P w K mg base CX0 3 T.f_BookSide_available T.d_BookSide_available ["self", "taker"] (sp_BookSide_available K T.c_Order T.c_BookSide) := by
  refine T.F_BookSide_available.ok sc_BookSide_available (fun vs H Q E h => ?_) (fun cdv A outer s H vs Q E hr h => ?_)
  · obtain ⟨b, db, l, x, dx, es, t, rfl, _⟩ := h
    rfl
  · obtain ⟨b, db, l, x, dx, es, t, rfl, S, hx, hp, q⟩ := h
    have G_Order_accepts_price : FnOk P w K mg base CX0 2 T.f_Order_accepts_price T.d_Order_accepts_price ["self", "price"] (sp_Order_accepts_price K T.c_Order) := ok_Order_accepts_price T
    refine ⟨_, (pss_cons (ps_setLc (i := 2) (own := [("order", 3)]) (g := gName 3) rfl sc_BookSide_available.nd rfl rfl (sw_true rfl rfl rfl (by decide +kernel)) (pi_list (pe_fld (pv 0) rfl)) (blkOk_by (own := [("order", 3)]) (N := N_BookSide_available) (sc := defScope s_BookSide_available) (by decide +kernel)) (fun _ _ _ _ _ => (pg_name (i := 3) sc_BookSide_available.nd rfl (Or.inl rfl))) (fun _ _ _ _ _ => pts_one (PW.pt (pw_and (pt_cmpR op_ne (show PE _ (Expr.Attribute _ "house" _) (tFld K _ "house") from pe_fld (pv 3) rfl) (show PE _ (Expr.Attribute _ "house" _) (tFld K _ "house") from pe_fld (pv 1) rfl) (nomark _)) (pw_and1 (pt_val (pe_meth (pv 1) T.cl_Order T.mt_Order_accepts_price G_Order_accepts_price hr T.b_Order_accepts_price .nil pass0 (pa_cons (show PE _ (Expr.Attribute _ "price" _) (tFld K _ "price") from pe_fld (pv 3) rfl) pa_nil))))))) (fun _ _ _ _ _ => (show PE _ (Expr.Attribute _ "left" _) (tFld K _ "left") from pe_fld (pv 3) rfl)))
    (pss_one (ps_ret (pe_callB (cr_sum rfl) (by rfl) T.z_sum (by decide +kernel) (pa_cons (pv 2) pa_nil))))), ?_⟩
    have fact_BookSide_0 := T.cl_BookSide; have fact_BookSide_1 := T.na_BookSide__orders; have fact_Order_0 := T.cl_Order; have fact_Order_1 := T.na_Order_number; have fact_Order_2 := T.na_Order_house; have fact_Order_3 := T.na_Order_side; have fact_Order_4 := T.na_Order_price; have fact_Order_5 := T.na_Order_shown; have fact_Order_6 := T.na_Order_left; have fact_Order_7 := T.na_Order_visible
    have hob := S.ob
    have hli := S.li
    have hsm := S.sm
    have lenR : (refs es).length = es.length := List.length_map ..
    walk_at "st"
    intro D nD
    refine lc_list (K := K) (a := l) (xs := refs es) (fun i H' => H' = upd H D (.lst ((((es.take i).filter (canT t)).map fun e => e.2.2.left).map V.int))) rfl (fun i H' _ e => by rw [e]; exact (same_upd nD).seq (SqL.of hli)) ?_ ?_
    · rintro i v H' hv rfl
      obtain ⟨e, he, rfl⟩ := ents_at hv
      have sD := same_upd (o := .lst ((((es.take i).filter (canT t)).map fun e => e.2.2.left).map V.int)) nD
      have hi := (List.getElem?_eq_some_iff.mp he).1
      have hen := sD _ _ (S.en e (List.mem_of_getElem? he))
      have hx1 := sD _ _ hx
      obtain ⟨p, hpe⟩ := hp e (List.mem_of_getElem? he)
      refine ⟨rfl, ?_⟩
      walk_at "st"
      have pos : canT t e = true → ((es.take (i + 1)).filter (canT t)) = ((es.take i).filter (canT t)) ++ [e] := fun h => by
        rw [take_succ he, List.filter_append, List.filter_cons_of_pos h, List.filter_nil]
      have neg : canT t e = false → ((es.take (i + 1)).filter (canT t)) = ((es.take i).filter (canT t)) := fun h => by
        rw [take_succ he, List.filter_append, List.filter_cons_of_neg (by rw [h]; exact Bool.false_ne_true), List.filter_nil, List.append_nil]
      refine iteB (fun h1 => ?_) (fun h1 => ?_)
      · have hh : e.2.2.house ≠ t.house := fun z => ndec_t h1 (congrArg V.str z)
        walk_at "st"
        refine ⟨t, p, by rw [hpe]; rfl, hx1, ?_⟩
        walk_at "st"
        refine iteB (fun h2 => ?_) (fun h2 => ?_)
        · have hc : canT t e = true := by
            unfold canT
            rw [hpe, decide_eq_true hh]
            exact h2
          rw [pos hc]
          have hll := List.length_filter_le (canT t) (es.take i)
          rw [List.length_take] at hll
          walk_at "st"
          rw [upd_upd, List.map_append, List.map_append]
          refine ⟨small1000 ?_, rfl⟩
          rw [List.length_map, List.length_map]
          omega
        · have hc : canT t e = false := by
            unfold canT
            rw [hpe, decide_eq_true hh]
            exact h2
          rw [neg hc]
      · have hh : e.2.2.house = t.house := V.str.inj (ndec_f h1)
        have hc : canT t e = false := by
          unfold canT
          rw [decide_eq_false (fun z => z hh)]
          rfl
        rw [neg hc]
        rfl
    · rintro H' rfl
      walk_at "st"
      rw [lenR, List.take_of_length_le (Nat.le_refl _)]
      exact q _ (same_upd nD)

/-! ### the book -/
def bookO (C dx : Addr) (last : Option Int) (next : Int) (sd st : Addr) : HO := .ins C dx [("last", optV last), ("_next_number", .int next), ("_sides", .ref sd), ("_stops", .ref st)]
def sidesO (b1 b2 : Addr) : HO := .dK [(Sum.inr "buy", .ref b1), (Sum.inr "sell", .ref b2)]
structure BookAt (CO CB CK : Addr) (H : Hp) (x dx sd st b1 d1 l1 b2 d2 l2 : Addr) (last : Option Int) (next : Int) (es1 es2 : List Ent) : Prop where
  ob : H x = some (bookO CK dx last next sd st)
  sd : H sd = some (sidesO b1 b2)
  st : H st = some (.lst [])
  s1 : SideAt CO CB H b1 d1 l1 es1
  s2 : SideAt CO CB H b2 d2 l2 es2
theorem SideAt.same {CO CB : Addr} {H H' : Hp} {b db l : Addr} {es : List Ent} (S : SideAt CO CB H b db l es) (e : Same H H') : SideAt CO CB H' b db l es :=
  ⟨e _ _ S.ob, e _ _ S.li, fun x hx => e _ _ (S.en x hx), S.nd, S.sm⟩
theorem side_new {CO CB : Addr} {H : Hp} {b d l : Addr} (nb : H b = none) (nd : H d = none) (hne : d ≠ b) (nl : upd (upd H d (.own b)) b (.ins CB d []) l = none) :
    SideAt CO CB (upd (upd (upd (upd H d (.own b)) b (.ins CB d [])) l (.lst [])) b (.ins CB d [("_orders", .ref l)])) b d l [] ∧ Same H (upd (upd (upd (upd H d (.own b)) b (.ins CB d [])) l (.lst [])) b (.ins CB d [("_orders", .ref l)])) := by
  have hlb : l ≠ b := fun z => by rw [z, upd_same] at nl; cases nl
  refine ⟨⟨upd_same, ?_, (fun e h => by cases h), List.nodup_nil, Nat.zero_le _⟩, fun c o e => ?_⟩
  · rw [upd_ne hlb, upd_same]
    rfl
  · have c1 : c ≠ b := ne_of_none e nb
    have c2 : c ≠ d := ne_of_none e nd
    have c3 : c ≠ l := fun z => by
      rw [← z, upd_ne c1, upd_ne c2, e] at nl
      cases nl
    rw [upd_ne c1, upd_ne c3, upd_ne c1, upd_ne c2]
    exact e
def sp_Book_init (K : PySem.W.Frag) (CO CB CK : Addr) : Sp := fun vs H Q _ => ∃ (x dx : Addr) (n : Int), vs = [.ref x, .int n] ∧ H x = some (.ins CK dx []) ∧ ∀ H' sd st b1 d1 l1 b2 d2 l2, BookAt CO CB CK H' x dx sd st b1 d1 l1 b2 d2 l2 none n [] [] → l1 ≠ l2 ∧ st ≠ l1 ∧ st ≠ l2 → H l1 = none ∧ H l2 = none → (∀ c o, c ≠ x → H c = some o → H' c = some o) → Q .non H'
set_option maxHeartbeats 0 in
theorem ok_Book_init (T : Txt K mg) [TB : TabsOk T base] : FnOk P w K mg base CX0 3 T.f_Book_init T.d_Book_init ["self", "first_number"] (sp_Book_init K T.c_Order T.c_BookSide T.c_Book) := by
  refine T.F_Book_init.ok sc_Book_init (fun vs H Q E h => ?_) (fun cdv A outer s H vs Q E hr h => ?_)
  · obtain ⟨x, dx, n, rfl, _⟩ := h
    rfl
  · obtain ⟨x, dx, n, rfl, hx, q⟩ := h
    have G_BookSide_init : FnOk P w K mg base CX0 1 T.f_BookSide_init T.d_BookSide_init ["self"] (sp_BookSide_init K T.c_Order T.c_BookSide) := ok_BookSide_init T
    refine ⟨_, (PSs.nox (pss_cons (ps_fld (pv 0) pe_non rfl)
    (pss_cons (ps_fld (pv 0) (pv 1) rfl)
    (pss_cons (ps_fld (pv 0) (pe_disp (pps_cons pe_str (pe_make0 T.mk_BookSide G_BookSide_init hr (by rfl) T.m_BookSide T.b_BookSide_init .nil pass0) (pps_cons pe_str (pe_make0 T.mk_BookSide G_BookSide_init hr (by rfl) T.m_BookSide T.b_BookSide_init .nil pass0) pps_nil)) (by rfl) (by rfl) (fun z => by cases z) (by decide)) rfl)
    (pss_one (ps_fld (pv 0) (pe_lst pa_nil) rfl)))))), ?_⟩
    have fact_BookSide_0 := T.cl_BookSide; have fact_BookSide_1 := T.na_BookSide__orders; have fact_Book_0 := T.cl_Book; have fact_Book_1 := T.na_Book_last; have fact_Book_2 := T.na_Book__next_number; have fact_Book_3 := T.na_Book__sides; have fact_Book_4 := T.na_Book__stops
    walk_at "st"
    rw [upd_upd, show putF "_next_number" (V.int n) (putF "last" V.non []) = ([("last", V.non), ("_next_number", .int n)] : List (Str × V)) from rfl]
    have hx1 : upd H x (.ins T.c_Book dx [("last", V.non), ("_next_number", .int n)]) x = some (.ins T.c_Book dx [("last", V.non), ("_next_number", .int n)]) := upd_same
    have fr1 : ∀ b o, b ≠ x → H b = some o → upd H x (.ins T.c_Book dx [("last", V.non), ("_next_number", .int n)]) b = some o := fun b o hb z => by rw [upd_ne hb]; exact z
    generalize upd H x (.ins T.c_Book dx [("last", V.non), ("_next_number", .int n)]) = H1 at *
    walk_at "st"
    intro D nD
    rw [tPairs]
    intro b1 d1 nb1 nd1 hne1
    walk_at "st"
    intro l1 nl1
    have nD1 : upd H1 D (.dK []) D = some (.dK []) := upd_same
    have sD : Same H1 (upd H1 D (.dK [])) := same_upd nD
    generalize upd H1 D (.dK []) = H2 at *
    have e0' : Same H2 (upd (upd H2 d1 (.own b1)) b1 (.ins T.c_BookSide d1 [])) := (same_upd nd1).trans (same_upd (by rw [upd_ne (Ne.symm hne1)]; exact nb1))
    obtain ⟨S1, e1⟩ := side_new (CO := T.c_Order) (CB := T.c_BookSide) nb1 nd1 hne1 nl1
    refine ⟨rfl, ?_⟩
    generalize upd (upd (upd (upd H2 d1 (.own b1)) b1 (.ins T.c_BookSide d1 [])) l1 (.lst [])) b1 (.ins T.c_BookSide d1 [("_orders", .ref l1)]) = H3 at *
    rw [tPairs]
    intro b2 d2 nb2 nd2 hne2
    walk_at "st"
    intro l2 nl2
    have e1' : Same H3 (upd (upd H3 d2 (.own b2)) b2 (.ins T.c_BookSide d2 [])) := (same_upd nd2).trans (same_upd (by rw [upd_ne (Ne.symm hne2)]; exact nb2))
    obtain ⟨S2, e2⟩ := side_new (CO := T.c_Order) (CB := T.c_BookSide) nb2 nd2 hne2 nl2
    refine ⟨rfl, ?_⟩
    generalize upd (upd (upd (upd H3 d2 (.own b2)) b2 (.ins T.c_BookSide d2 [])) l2 (.lst [])) b2 (.ins T.c_BookSide d2 [("_orders", .ref l2)]) = H4 at *
    have S1' := S1.same e2
    have hD4 := e2 _ _ (e1 _ _ nD1)
    rw [tPairs]
    refine ⟨hD4, [(Sum.inr "buy", .ref b1), (Sum.inr "sell", .ref b2)], rfl, (show 2 ≤ 15 by decide), ?_⟩
    rw [show mergeK [] ([(Sum.inr "buy", V.ref b1), (Sum.inr "sell", V.ref b2)] : List (Key × V)) = ([(Sum.inr "buy", V.ref b1), (Sum.inr "sell", V.ref b2)] : List (Key × V)) from rfl]
    have hxD : x ≠ D := ne_of_none hx1 nD
    have dif : ∀ {c : Addr} {o o' : HO}, H4 c = some o → o ≠ .dK [] → c ≠ D := fun e z w => by
      rw [w, hD4] at e
      exact z (Option.some.inj e).symm
    have hb1D : b1 ≠ D := fun w => by have := S1'.ob; rw [w, hD4] at this; cases this
    have hl1D : l1 ≠ D := fun w => by have := S1'.li; rw [w, hD4] at this; cases this
    have hb2D : b2 ≠ D := fun w => by have := S2.ob; rw [w, hD4] at this; cases this
    have hl2D : l2 ≠ D := fun w => by have := S2.li; rw [w, hD4] at this; cases this
    have S1a := S1'.upd (o := sidesO b1 b2) hb1D hl1D fun e h => by cases h
    have S2a := S2.upd (o := sidesO b1 b2) hb2D hl2D fun e h => by cases h
    have hx4 := e2 _ _ (e1 _ _ (sD _ _ hx1))
    have hx5 : upd H4 D (sidesO b1 b2) x = some (.ins T.c_Book dx [("last", V.non), ("_next_number", .int n)]) := (upd_ne hxD).trans hx4
    have hD5 : upd H4 D (sidesO b1 b2) D = some (sidesO b1 b2) := upd_same
    have fr5 : ∀ c o, c ≠ x → H c = some o → upd H4 D (sidesO b1 b2) c = some o := fun c o hc z => by
      have z1 := fr1 c o hc z
      rw [upd_ne (ne_of_none z1 nD)]
      exact e2 _ _ (e1 _ _ (sD _ _ z1))
    unfold sidesO at S1a S2a hx5 hD5 fr5
    generalize upd H4 D (.dK [(Sum.inr "buy", .ref b1), (Sum.inr "sell", .ref b2)]) = H5 at *
    walk_at "st"
    intro st nst
    have hxs : st ≠ x := fun z => by rw [z, upd_same] at nst; cases nst
    have nst5 : H5 st = none := by rw [← nst, upd_ne hxs]
    have nb1x : b1 ≠ x := fun w => by
      have := S1a.ob
      rw [w, hx5] at this
      injection (Option.some.inj this) with _ _ h3
      exact absurd (congrArg List.length h3) (show ¬ (2 = 1) by decide)
    have nl1x : l1 ≠ x := fun w => by have := S1a.li; rw [w, hx5] at this; cases this
    have nb2x : b2 ≠ x := fun w => by
      have := S2a.ob
      rw [w, hx5] at this
      injection (Option.some.inj this) with _ _ h3
      exact absurd (congrArg List.length h3) (show ¬ (2 = 1) by decide)
    have nl2x : l2 ≠ x := fun w => by have := S2a.li; rw [w, hx5] at this; cases this
    have hx6 : ∀ o, upd (upd H5 x o) st (.lst []) x = some o := fun o => by rw [upd_ne (Ne.symm hxs), upd_same]
    refine ⟨_, rfl, ?_⟩
    refine ⟨_, _, _, _, rfl, hx6 _, ‹_›, ‹_›, ?_, ?_⟩
    · show (3 : Nat) < 1000
      decide
    have g1 : ∀ {c : Addr} {o v w : HO}, c ≠ x → H5 c = some o → upd (upd (upd H5 x v) st (.lst [])) x w c = some o := fun hc hz => by
      rw [upd_ne hc, upd_ne (ne_of_none hz nst5), upd_ne hc]
      exact hz
    walk_at "st"
    have nst1 : st ≠ l1 := fun z => by rw [z, S1a.li] at nst5; cases nst5
    have nst2 : st ≠ l2 := fun z => by rw [z, S2a.li] at nst5; cases nst5
    have nll : l1 ≠ l2 := fun z => by
      have y := nl2
      have h1 := e1' _ _ S1.li
      rw [z] at h1
      rw [h1] at y
      cases y
    have nl10 : H l1 = none := by
      cases hh : H l1 with
      | none => rfl
      | some v =>
        have y := sD _ _ (fr1 _ _ nl1x hh)
        have z := nl1
        rw [e0' _ _ y] at z
        cases z
    have nl20 : H l2 = none := by
      cases hh : H l2 with
      | none => rfl
      | some v =>
        have y := e1 _ _ (sD _ _ (fr1 _ _ nl2x hh))
        have z := nl2
        rw [e1' _ _ y] at z
        cases z
    refine q _ D st b1 d1 l1 b2 d2 l2 ⟨?_, g1 (Ne.symm hxD) hD5, ?_, ⟨g1 nb1x S1a.ob, g1 nl1x S1a.li, (fun e h => by cases h), S1a.nd, S1a.sm⟩, ⟨g1 nb2x S2a.ob, g1 nl2x S2a.li, (fun e h => by cases h), S2a.nd, S2a.sm⟩⟩ ⟨nll, nst1, nst2⟩ ⟨nl10, nl20⟩ (fun c o hc z => g1 hc (fr5 c o hc z))
    · exact upd_same
    · rw [upd_ne hxs, upd_same]
theorem sides_buy {H : Hp} {sd b1 b2 : Addr} (h : H sd = some (sidesO b1 b2)) : DGet H sd (.str "buy") (some (.ref b1)) := DGet.k (k := Sum.inr "buy") h
theorem sides_sell {H : Hp} {sd b1 b2 : Addr} (h : H sd = some (sidesO b1 b2)) : DGet H sd (.str "sell") (some (.ref b2)) := DGet.k (k := Sum.inr "sell") h
/-- the order with the number, of the buyers first -/
def withNum (es1 es2 : List Ent) (n : Int) : Option Ent :=
  match es1.find? (fun e => decide (e.2.2.number = n)) with
  | some e => some e
  | none => es2.find? (fun e => decide (e.2.2.number = n))
def entV : Option Ent → V
  | none => .non
  | some e => .ref e.1
/-- a book's two sides -/
structure SidesAt (CO CB CK : Addr) (H : Hp) (x dx sd st b1 d1 l1 b2 d2 l2 : Addr) (last : Option Int) (next : Int) (es1 es2 : List Ent) : Prop where
  ob : H x = some (bookO CK dx last next sd st)
  sd : H sd = some (sidesO b1 b2)
  s1 : SideAt CO CB H b1 d1 l1 es1
  s2 : SideAt CO CB H b2 d2 l2 es2
def sp_Bookorder_with (K : PySem.W.Frag) (CO CB CK : Addr) : Sp := fun vs H Q _ => ∃ (x dx sd st b1 d1 l1 b2 d2 l2 : Addr) (last : Option Int) (next : Int) (es1 es2 : List Ent) (n : Int), vs = [.ref x, .int n] ∧ SidesAt CO CB CK H x dx sd st b1 d1 l1 b2 d2 l2 last next es1 es2 ∧
  Q (entV (withNum es1 es2 n)) H
set_option maxHeartbeats 0 in
theorem ok_Bookorder_with (T : Txt K mg) [TB : TabsOk T base] : FnOk P w K mg base CX0 2 T.f_Bookorder_with T.d_Bookorder_with ["self", "number"] (sp_Bookorder_with K T.c_Order T.c_BookSide T.c_Book) := by
  refine T.F_Bookorder_with.ok sc_Bookorder_with (fun vs H Q E h => ?_) (fun cdv A outer s H vs Q E hr h => ?_)
  · obtain ⟨x, dx, sd, st, b1, d1, l1, b2, d2, l2, last, next, es1, es2, n, rfl, _⟩ := h
    rfl
  · obtain ⟨x, dx, sd, st, b1, d1, l1, b2, d2, l2, last, next, es1, es2, n, rfl, B, q⟩ := h
    have G_BookSide_with_number : FnOk P w K mg base CX0 1 T.f_BookSide_with_number T.d_BookSide_with_number ["self", "number"] (sp_BookSide_with_number K T.c_Order T.c_BookSide) := ok_BookSide_with_number T
    refine ⟨_, (pss_cons (ps_set (i := 2) sc_Bookorder_with.nd rfl (Or.inl rfl) (pe_meth (pe_dget (hu_of hr) (pe_fld (pv 0) rfl) pe_str (fun _ _ => rfl)) T.cl_BookSide T.mt_BookSide_with_number G_BookSide_with_number hr T.b_BookSide_with_number .nil pass0 (pa_cons (pv 1) pa_nil)))
    (pss_one (ps_ret (pe_ifExp (pt_cmpR op_isN (pv 2) pe_non (nomark _)) (pe_meth (pe_dget (hu_of hr) (pe_fld (pv 0) rfl) pe_str (fun _ _ => rfl)) T.cl_BookSide T.mt_BookSide_with_number G_BookSide_with_number hr T.b_BookSide_with_number .nil pass0 (pa_cons (pv 1) pa_nil)) (pv 2))))), ?_⟩
    have fact_BookSide_0 := T.cl_BookSide; have fact_BookSide_1 := T.na_BookSide__orders; have fact_Book_0 := T.cl_Book; have fact_Book_1 := T.na_Book_last; have fact_Book_2 := T.na_Book__next_number; have fact_Book_3 := T.na_Book__sides; have fact_Book_4 := T.na_Book__stops; have fact_Order_0 := T.cl_Order; have fact_Order_1 := T.na_Order_number; have fact_Order_2 := T.na_Order_house; have fact_Order_3 := T.na_Order_side; have fact_Order_4 := T.na_Order_price; have fact_Order_5 := T.na_Order_shown; have fact_Order_6 := T.na_Order_left; have fact_Order_7 := T.na_Order_visible
    have hob := B.ob
    have hsd1 := sides_buy B.sd
    have hsd2 := sides_sell B.sd
    have S1 := B.s1
    have S2 := B.s2
    have hb1 := S1.ob
    have hb2 := S2.ob
    walk_at "st"
    refine ⟨es1, n, rfl, S1, ?_⟩
    unfold withNum at q
    cases hf : es1.find? (fun e => decide (e.2.2.number = n)) with
    | some e =>
      rw [hf] at q
      walk_at "st"
      exact q
    | none =>
      rw [hf] at q
      walk_at "st"
      refine ⟨es2, n, rfl, S2, ?_⟩
      cases hf2 : es2.find? (fun e => decide (e.2.2.number = n)) with
      | some e =>
        rw [hf2] at q
        exact q
      | none =>
        rw [hf2] at q
        exact q
/-- a book and its side of this name -/
structure BookSideAt (CO CB CK : Addr) (H : Hp) (x dx sd st : Addr) (last : Option Int) (next : Int) (s : Str) (b d l : Addr) (es : List Ent) : Prop where
  ob : H x = some (bookO CK dx last next sd st)
  sd : DGet H sd (.str s) (some (.ref b))
  sb : SideAt CO CB H b d l es
def sp_Book_orders (K : PySem.W.Frag) (CO CB CK : Addr) : Sp := fun vs H Q _ => ∃ (x dx sd st b d l : Addr) (last : Option Int) (next : Int) (es : List Ent) (s : Str), vs = [.ref x, .str s] ∧ BookSideAt CO CB CK H x dx sd st last next s b d l es ∧
  ∀ D H' (ts : List (Addr × Ord)), Same H H' → H D = none → H' D = some (.lst (ts.map fun t => V.ref t.1)) → ts.map (·.2) = es.map (·.2.2) → (∀ t, t ∈ ts → H' t.1 = some (.tup (rowV t.2))) → Q (.ref D) H'
set_option maxHeartbeats 0 in
theorem ok_Book_orders (T : Txt K mg) [TB : TabsOk T base] : FnOk P w K mg base CX0 2 T.f_Book_orders T.d_Book_orders ["self", "side"] (sp_Book_orders K T.c_Order T.c_BookSide T.c_Book) := by
  refine T.F_Book_orders.ok sc_Book_orders (fun vs H Q E h => ?_) (fun cdv A outer s H vs Q E hr h => ?_)
  · obtain ⟨x, dx, sd, st, b, d, l, last, next, es, s, rfl, _⟩ := h
    rfl
  · obtain ⟨x, dx, sd, st, b, d, l, last, next, es, s, rfl, B, q⟩ := h
    have G_BookSide_rows : FnOk P w K mg base CX0 1 T.f_BookSide_rows T.d_BookSide_rows ["self"] (sp_BookSide_rows K T.c_Order T.c_BookSide) := ok_BookSide_rows T
    refine ⟨_, (pss_one (ps_ret (pe_meth0 (pe_dget (hu_of hr) (pe_fld (pv 0) rfl) (pv 1) (fun _ _ => rfl)) T.cl_BookSide T.mt_BookSide_rows G_BookSide_rows hr T.b_BookSide_rows .nil pass0))), ?_⟩
    have fact_BookSide_0 := T.cl_BookSide; have fact_BookSide_1 := T.na_BookSide__orders; have fact_Book_0 := T.cl_Book; have fact_Book_1 := T.na_Book_last; have fact_Book_2 := T.na_Book__next_number; have fact_Book_3 := T.na_Book__sides; have fact_Book_4 := T.na_Book__stops; have fact_Order_0 := T.cl_Order; have fact_Order_1 := T.na_Order_number; have fact_Order_2 := T.na_Order_house; have fact_Order_3 := T.na_Order_side; have fact_Order_4 := T.na_Order_price; have fact_Order_5 := T.na_Order_shown; have fact_Order_6 := T.na_Order_left; have fact_Order_7 := T.na_Order_visible
    have hob := B.ob
    have hsd := B.sd
    have S := B.sb
    have hb := S.ob
    unfold bookO at hob
    walk_at "st"
    exact ⟨es, rfl, S, q⟩
def sp_Book_best (K : PySem.W.Frag) (CO CB CK : Addr) : Sp := fun vs H Q _ => ∃ (x dx sd st b d l : Addr) (last : Option Int) (next : Int) (es : List Ent) (s : Str), vs = [.ref x, .str s] ∧ BookSideAt CO CB CK H x dx sd st last next s b d l es ∧
  Q (match es with | [] => .non | e :: _ => optV e.2.2.price) H
set_option maxHeartbeats 0 in
theorem ok_Book_best (T : Txt K mg) [TB : TabsOk T base] : FnOk P w K mg base CX0 2 T.f_Book_best T.d_Book_best ["self", "side"] (sp_Book_best K T.c_Order T.c_BookSide T.c_Book) := by
  refine T.F_Book_best.ok sc_Book_best (fun vs H Q E h => ?_) (fun cdv A outer s H vs Q E hr h => ?_)
  · obtain ⟨x, dx, sd, st, b, d, l, last, next, es, s, rfl, _⟩ := h
    rfl
  · obtain ⟨x, dx, sd, st, b, d, l, last, next, es, s, rfl, B, q⟩ := h
    have G_BookSide_first : FnOk P w K mg base CX0 1 T.f_BookSide_first T.d_BookSide_first ["self"] (sp_BookSide_first K T.c_Order T.c_BookSide) := ok_BookSide_first T
    refine ⟨_, (pss_cons (ps_set (i := 2) sc_Book_best.nd rfl (Or.inl rfl) (pe_meth0 (pe_dget (hu_of hr) (pe_fld (pv 0) rfl) (pv 1) (fun _ _ => rfl)) T.cl_BookSide T.mt_BookSide_first G_BookSide_first hr T.b_BookSide_first .nil pass0))
    (pss_one (ps_ret (pe_ifExp (pt_cmpR op_isN (pv 2) pe_non (nomark _)) pe_non (pe_fld (pv 2) rfl))))), ?_⟩
    have fact_BookSide_0 := T.cl_BookSide; have fact_BookSide_1 := T.na_BookSide__orders; have fact_Book_0 := T.cl_Book; have fact_Book_1 := T.na_Book_last; have fact_Book_2 := T.na_Book__next_number; have fact_Book_3 := T.na_Book__sides; have fact_Book_4 := T.na_Book__stops; have fact_Order_0 := T.cl_Order; have fact_Order_1 := T.na_Order_number; have fact_Order_2 := T.na_Order_house; have fact_Order_3 := T.na_Order_side; have fact_Order_4 := T.na_Order_price; have fact_Order_5 := T.na_Order_shown; have fact_Order_6 := T.na_Order_left; have fact_Order_7 := T.na_Order_visible
    have hob := B.ob
    have hsd := B.sd
    have S := B.sb
    have hb := S.ob
    unfold bookO at hob
    cases es with
    | nil =>
      walk_at "st"
      refine ⟨[], rfl, S, ?_⟩
      walk_at "st"
      exact q
    | cons e r =>
      have he := S.en e (List.mem_cons_self ..)
      unfold ordO at he
      walk_at "st"
      refine ⟨e :: r, rfl, S, ?_⟩
      walk_at "st"
      exact q
def sp_Booktake_number (K : PySem.W.Frag) (CO CB CK : Addr) : Sp := fun vs H Q _ => ∃ (x dx sd st : Addr) (last : Option Int) (next : Int), vs = [.ref x] ∧ H x = some (bookO CK dx last next sd st) ∧ Q (.int next) (upd H x (bookO CK dx last (next + 1) sd st))
set_option maxHeartbeats 0 in
theorem ok_Booktake_number (T : Txt K mg) [TB : TabsOk T base] : FnOk P w K mg base CX0 1 T.f_Booktake_number T.d_Booktake_number ["self"] (sp_Booktake_number K T.c_Order T.c_BookSide T.c_Book) := by
  refine T.F_Booktake_number.ok sc_Booktake_number (fun vs H Q E h => ?_) (fun cdv A outer s H vs Q E hr h => ?_)
  · obtain ⟨x, dx, sd, st, last, next, rfl, _⟩ := h
    rfl
  · obtain ⟨x, dx, sd, st, last, next, rfl, hob, q⟩ := h
    
    refine ⟨_, (pss_cons (ps_set (i := 1) sc_Booktake_number.nd rfl (Or.inl rfl) (pe_fld (pv 0) rfl))
    (pss_cons (ps_fldaug (pv 0) pe_int in_add)
    (pss_one (ps_ret (pv 1))))), ?_⟩
    have fact_BookSide_0 := T.cl_BookSide; have fact_BookSide_1 := T.na_BookSide__orders; have fact_Book_0 := T.cl_Book; have fact_Book_1 := T.na_Book_last; have fact_Book_2 := T.na_Book__next_number; have fact_Book_3 := T.na_Book__sides; have fact_Book_4 := T.na_Book__stops; have fact_Order_0 := T.cl_Order; have fact_Order_1 := T.na_Order_number; have fact_Order_2 := T.na_Order_house; have fact_Order_3 := T.na_Order_side; have fact_Order_4 := T.na_Order_price; have fact_Order_5 := T.na_Order_shown; have fact_Order_6 := T.na_Order_left; have fact_Order_7 := T.na_Order_visible
    unfold bookO at hob q
    walk_at "st"
    exact q

/-! ### the order of a side, and what an order does to the other side -/
theorem takes_trans {s : Str} {a p p' : Int} (h1 : takes s (some a) p = true) (h2 : takes s (some p) p' = true) : takes s (some a) p' = true := by
  unfold takes at *
  dsimp only at *
  by_cases b : buyS s = true
  · rw [if_pos b] at *
    have := of_decide_eq_true h1
    have := of_decide_eq_true h2
    exact decide_eq_true (by omega)
  · rw [if_neg b] at *
    have := of_decide_eq_true h1
    have := of_decide_eq_true h2
    exact decide_eq_true (by omega)
theorem takes_step {s : Str} {d p p' : Int} (h1 : takes s (some d) p = false) (h2 : takes s (some d) p' = true) : takes s (some p) p' = true := by
  unfold takes at *
  dsimp only at *
  by_cases b : buyS s = true
  · rw [if_pos b] at *
    have := of_decide_eq_false h1
    have := of_decide_eq_true h2
    exact decide_eq_true (by omega)
  · rw [if_neg b] at *
    have := of_decide_eq_false h1
    have := of_decide_eq_true h2
    exact decide_eq_true (by omega)
theorem takes_self (s : Str) (p : Int) : takes s (some p) p = true := by
  unfold takes
  dsimp only
  split <;> exact decide_eq_true (by omega)
theorem mono_iff {es : List Ent} {p : Int} : Mono es p ↔ es.Pairwise fun a b => accE p b = true → accE p a = true := by
  rw [List.pairwise_iff_getElem]
  constructor
  · intro h i j hi hj hij
    exact h i j _ _ (by omega) (List.getElem?_eq_getElem hi) (List.getElem?_eq_getElem hj)
  · intro h i j e e' hij hi hj hp
    obtain ⟨hi1, hi2⟩ := List.getElem?_eq_some_iff.mp hi
    obtain ⟨hj1, hj2⟩ := List.getElem?_eq_some_iff.mp hj
    by_cases z : i = j
    · subst z
      rw [hi] at hj
      cases hj
      exact hp
    · have := h i j hi1 hj1 (by omega)
      rw [hi2, hj2] at this
      exact this hp
theorem place_split {p : Int} : ∀ {es : List Ent}, Mono es p → (∀ x, x ∈ es.take (place es p) → accE p x = true) ∧ ∀ x, x ∈ es.drop (place es p) → accE p x = false
  | [], _ => ⟨fun x h => (by rw [List.take_nil] at h; cases h), fun x h => (by rw [List.drop_nil] at h; cases h)⟩
  | e :: r, hm => by
    have hpw := List.pairwise_cons.mp (mono_iff.mp hm)
    have ih := place_split (mono_iff.mpr hpw.2)
    by_cases a : accE p e = true
    · have e1 : place (e :: r) p = place r p + 1 := by
        unfold place
        rw [List.takeWhile_cons, if_pos a, List.length_cons]
      rw [e1, List.take_succ_cons, List.drop_succ_cons]
      refine ⟨fun x h => ?_, ih.2⟩
      rcases List.mem_cons.mp h with h | h
      · rw [h]
        exact a
      · exact ih.1 x h
    · have e1 : place (e :: r) p = 0 := by
        unfold place
        rw [List.takeWhile_cons, if_neg a]
        rfl
      rw [e1, List.take_zero, List.drop_zero]
      refine ⟨fun x h => (by cases h), fun x h => ?_⟩
      cases c : accE p x with
      | false => rfl
      | true =>
        exfalso
        rcases List.mem_cons.mp h with h | h
        · rw [h] at c
          exact a c
        · exact a (hpw.1 x h c)
/-- one side in its order: sides and prices stand, each shows a part -/
structure Rank (s : Str) (es : List Ent) : Prop where
  side : ∀ e, e ∈ es → e.2.2.side = s
  price : ∀ e, e ∈ es → ∃ p, e.2.2.price = some p
  vis : ∀ e, e ∈ es → 1 ≤ e.2.2.visible ∧ e.2.2.visible ≤ e.2.2.left ∧ 0 ≤ e.2.2.shown
  mono : ∀ p, Mono es p
theorem Rank.nil (s : Str) : Rank s [] := ⟨fun _ h => (by cases h), fun _ h => (by cases h), fun _ h => (by cases h), fun p => mono_iff.mpr List.Pairwise.nil⟩
theorem Rank.tail {s : Str} {e : Ent} {es : List Ent} (h : Rank s (e :: es)) : Rank s es :=
  ⟨fun x hx => h.side x (List.mem_cons_of_mem _ hx), fun x hx => h.price x (List.mem_cons_of_mem _ hx), fun x hx => h.vis x (List.mem_cons_of_mem _ hx), fun p => mono_iff.mpr (List.pairwise_cons.mp (mono_iff.mp (h.mono p))).2⟩
theorem accE_of {p q : Int} {e : Ent} (h : e.2.2.price = some q) : accE p e = takes e.2.2.side (some q) p := by
  unfold accE
  rw [h]
theorem Rank.insert {s : Str} {e : Ent} {es : List Ent} {p : Int} (h : Rank s es) (hs : e.2.2.side = s) (hp : e.2.2.price = some p) (hv : 1 ≤ e.2.2.visible ∧ e.2.2.visible ≤ e.2.2.left ∧ 0 ≤ e.2.2.shown) : Rank s (insE es (place es p) e) := by
  have mem : ∀ {x}, x ∈ insE es (place es p) e → x = e ∨ x ∈ es := fun hx => insE_mem.mp hx
  obtain ⟨hb, ha⟩ := place_split (h.mono p)
  refine ⟨fun x hx => ?_, fun x hx => ?_, fun x hx => ?_, fun p' => mono_iff.mpr ?_⟩
  · rcases mem hx with z | z
    · rw [z]; exact hs
    · exact h.side x z
  · rcases mem hx with z | z
    · rw [z]; exact ⟨p, hp⟩
    · exact h.price x z
  · rcases mem hx with z | z
    · rw [z]; exact hv
    · exact h.vis x z
  · have hpw := mono_iff.mp (h.mono p')
    have hpw2 : (es.take (place es p) ++ es.drop (place es p)).Pairwise fun a b => accE p' b = true → accE p' a = true := by
      rw [List.take_append_drop]
      exact hpw
    rw [List.pairwise_append] at hpw2
    have before : ∀ x, x ∈ es.take (place es p) → accE p' e = true → accE p' x = true := fun x hx hz => by
      have hm := List.mem_of_mem_take hx
      obtain ⟨q, hq⟩ := h.price x hm
      have h1 := hb x hx
      rw [accE_of hq, h.side x hm] at h1 ⊢
      rw [accE_of hp, hs] at hz
      exact takes_trans h1 hz
    have after : ∀ x, x ∈ es.drop (place es p) → accE p' x = true → accE p' e = true := fun x hx hz => by
      have hm := List.mem_of_mem_drop hx
      obtain ⟨q, hq⟩ := h.price x hm
      have h1 := ha x hx
      rw [accE_of hq, h.side x hm] at h1 hz
      rw [accE_of hp, hs]
      exact takes_step h1 hz
    unfold insE
    rw [List.append_assoc, List.pairwise_append]
    refine ⟨hpw2.1, List.pairwise_cons.mpr ⟨fun x hx => after x hx, hpw2.2.1⟩, fun x hx y hy => ?_⟩
    rcases List.mem_cons.mp hy with z | z
    · rw [z]
      exact before x hx
    · exact hpw2.2.2 x hx y z
theorem showNext_vis {o : Ord} (h1 : 1 ≤ o.left) (h2 : 0 ≤ o.shown) : 1 ≤ o.showNext.visible ∧ o.showNext.visible ≤ o.showNext.left ∧ 0 ≤ o.showNext.shown := by
  unfold Ord.showNext
  dsimp only
  split
  · omega
  · split <;> omega
theorem Rank.trade {s : Str} {e : Ent} {es : List Ent} {n p : Int} (h : Rank s (e :: es)) (hp : e.2.2.price = some p) (hn : 1 ≤ n ∧ n ≤ e.2.2.visible) : Rank s (tradeF e es n p) := by
  have hv := h.vis e List.mem_cons_self
  have hs := h.side e List.mem_cons_self
  unfold tradeF
  dsimp only
  split
  · next z =>
    split
    · next z2 =>
      refine h.tail.insert (e := (e.1, e.2.1, Ord.showNext { e.2.2 with left := e.2.2.left - n, visible := e.2.2.visible - n })) ?_ ?_ ?_
      · exact hs
      · exact hp
      · exact showNext_vis (o := { e.2.2 with left := e.2.2.left - n, visible := e.2.2.visible - n }) (by dsimp only; omega) hv.2.2
    · exact h.tail
  · next z =>
    have ht := h.tail
    refine ⟨fun x hx => ?_, fun x hx => ?_, fun x hx => ?_, fun p' => mono_iff.mpr ?_⟩
    · rcases List.mem_cons.mp hx with c | c
      · rw [c]; exact hs
      · exact ht.side x c
    · rcases List.mem_cons.mp hx with c | c
      · rw [c]; exact ⟨p, hp⟩
      · exact ht.price x c
    · rcases List.mem_cons.mp hx with c | c
      · rw [c]; dsimp only; omega
      · exact ht.vis x c
    · have hpw := List.pairwise_cons.mp (mono_iff.mp (h.mono p'))
      refine List.pairwise_cons.mpr ⟨fun x hx => ?_, hpw.2⟩
      exact hpw.1 x hx
/-- how far an order has come -/
structure Mt where
  es : List Ent
  left : Int
  last : Option Int
  fills : List (Int × Str × Int × Int)
  gone : List Int
def prcE (e : Ent) : Int := e.2.2.price.getD 0
def goesM (t : Ord) (m : Mt) : Option Ent := match m.es with
  | [] => none
  | e :: _ => if 0 < m.left ∧ takes t.side t.price (prcE e) = true then some e else none
def qtyM (m : Mt) (e : Ent) : Int := if e.2.2.visible < m.left then e.2.2.visible else m.left
def stepM (t : Ord) (m : Mt) (e : Ent) : Mt := if e.2.2.house = t.house then { m with es := m.es.tail, gone := m.gone ++ [e.2.2.number] } else ⟨tradeF e m.es.tail (qtyM m e) (prcE e), m.left - qtyM m e, some (prcE e), m.fills ++ [(e.2.2.number, e.2.2.house, prcE e, qtyM m e)], m.gone⟩
def runM (t : Ord) : Nat → Mt → Mt
  | 0, m => m
  | k + 1, m => match goesM t m with
    | none => m
    | some e => runM t k (stepM t m e)
def sizeM (m : Mt) : Nat := m.left.toNat + m.es.length
theorem tradeF_len (e : Ent) (es : List Ent) (n p : Int) : (tradeF e es n p).length ≤ es.length + 1 := by
  unfold tradeF
  dsimp only
  split
  · split
    · rw [(insE_perm _ _ _).length_eq, List.length_cons]
      exact Nat.le_refl _
    · exact Nat.le_succ _
  · exact Nat.le_refl _
theorem goesM_some {t : Ord} {m : Mt} {e : Ent} (h : goesM t m = some e) : m.es = e :: m.es.tail ∧ 0 < m.left ∧ takes t.side t.price (prcE e) = true := by
  unfold goesM at h
  split at h
  · cases h
  · next e' r hes =>
    split at h
    · next z =>
      cases h
      rw [hes]
      exact ⟨rfl, z.1, z.2⟩
    · cases h
theorem stepM_less {t : Ord} {m : Mt} {e : Ent} {s : Str} (hr : Rank s m.es) (h : goesM t m = some e) : sizeM (stepM t m e) < sizeM m ∧ 0 ≤ (stepM t m e).left ∧ Rank s (stepM t m e).es := by
  obtain ⟨h1, h2, h3⟩ := goesM_some h
  rw [h1] at hr
  have hv := hr.vis e List.mem_cons_self
  obtain ⟨p, hp⟩ := hr.price e List.mem_cons_self
  have hpp : prcE e = p := by unfold prcE; rw [hp]; rfl
  have hl : m.es.length = m.es.tail.length + 1 := by rw [h1]; rfl
  unfold stepM sizeM
  split
  · dsimp only
    exact ⟨by omega, by omega, hr.tail⟩
  · dsimp only
    have hq : 1 ≤ qtyM m e ∧ qtyM m e ≤ e.2.2.visible ∧ qtyM m e ≤ m.left := by
      unfold qtyM
      split <;> omega
    have := tradeF_len e m.es.tail (qtyM m e) (prcE e)
    exact ⟨by omega, by omega, hr.trade (by rw [hpp]; exact hp) ⟨hq.1, hq.2.1⟩⟩
theorem runM_stop {t : Ord} {m : Mt} (h : goesM t m = none) : ∀ k, runM t k m = m
  | 0 => rfl
  | k + 1 => by
    show (match goesM t m with | none => m | some e => runM t k (stepM t m e)) = m
    rw [h]
theorem runM_go {t : Ord} {m : Mt} {e : Ent} (h : goesM t m = some e) (k : Nat) : runM t (k + 1) m = runM t k (stepM t m e) := by
  show (match goesM t m with | none => m | some e => runM t k (stepM t m e)) = _
  rw [h]
theorem runM_fuel {s : Str} {t : Ord} : ∀ (k : Nat) {m : Mt}, Rank s m.es → sizeM m ≤ k → ∀ j, sizeM m ≤ j → runM t k m = runM t j m := by
  intro k
  induction k with
  | zero =>
    intro m hr hk j hj
    cases h : goesM t m with
    | none => rw [runM_stop h, runM_stop h]
    | some e =>
      have := stepM_less hr h
      omega
  | succ k ih =>
    intro m hr hk j hj
    cases h : goesM t m with
    | none => rw [runM_stop h, runM_stop h]
    | some e =>
      have hs := stepM_less hr h
      obtain ⟨j', rfl⟩ : ∃ j', j = j' + 1 := ⟨j - 1, by omega⟩
      rw [runM_go h, runM_go h]
      exact ih hs.2.2 (by omega) j' (by omega)
theorem runM_next {s : Str} {t : Ord} {m : Mt} {e : Ent} (hr : Rank s m.es) (h : goesM t m = some e) : runM t (sizeM m) m = runM t (sizeM (stepM t m e)) (stepM t m e) := by
  have hs := stepM_less hr h
  obtain ⟨j, ej⟩ : ∃ j, sizeM m = j + 1 := ⟨sizeM m - 1, by omega⟩
  rw [ej, runM_go h]
  exact runM_fuel j hs.2.2 (by omega) _ (Nat.le_refl _)
def firstV : List Ent → V
  | [] => .non
  | e :: _ => .ref e.1

/-- all but one object stay -/
def KeepX (x : Addr) (H H' : Hp) : Prop := ∀ z o, z ≠ x → H z = some o → H' z = some o
theorem KeepX.then {x : Addr} {H H1 H2 : Hp} (h : KeepX x H H1) (e : Same H1 H2) : KeepX x H H2 := fun z o nz hz => e z o (h z o nz hz)
theorem KeepX.set {x : Addr} {H H1 : Hp} {o : HO} (h : KeepX x H H1) : KeepX x H (upd H1 x o) := fun z o nz hz => by
  rw [upd_ne nz]
  exact h z o nz hz
theorem keepX_of {x : Addr} {H H' : Hp} (e : Same H H') : KeepX x H H' := fun z o _ hz => e z o hz
theorem KeepX.lst {x : Addr} {H H' : Hp} (k : KeepX x H H') {c d : Addr} {l : List (Str × V)} (hx : H x = some (.ins c d l)) {a : Addr} {xs : List V} (h : H a = some (.lst xs)) : H' a = some (.lst xs) := k a _ (fun z => by rw [z, hx] at h; cases h) h

theorem smallM {n : Nat} (h : n ≤ 2000000) : n < sizeLine := Nat.lt_of_le_of_lt h (by decide)
def otherS (s : Str) : Str := if buyS s = true then "sell" else "buy"
def sp_other_side (K : PySem.W.Frag) : Sp := fun vs H Q _ => ∃ s : Str, vs = [.str s] ∧ Q (.str (otherS s)) H
set_option maxHeartbeats 0 in
theorem ok_other_side (T : Txt K mg) [TB : TabsOk T base] : FnOk P w K mg base CX0 1 T.f_other_side T.d_other_side ["side"] (sp_other_side K) := by
  refine T.F_other_side.ok sc_other_side (fun vs H Q E h => ?_) (fun cdv A outer s H vs Q E hr h => ?_)
  · obtain ⟨s, rfl, _⟩ := h
    rfl
  · obtain ⟨s, rfl, q⟩ := h
    refine ⟨_, (pss_one (ps_ret (pe_ifExp (pt_cmpR op_eq (pv 0) pe_str (nomark _)) pe_str pe_str))), ?_⟩
    unfold otherS at q
    walk_at "st"
    refine iteB (fun h => ?_) (fun h => ?_)
    · rw [if_pos (show buyS s = true from h)] at q
      exact q
    · rw [if_neg (by rw [show buyS s = false from h]; exact Bool.false_ne_true)] at q
      exact q
def repO (C dx : Addr) (n : Int) (ho si : Str) (fl rm : Addr) (rest : Int) : HO := .ins C dx [("number", .int n), ("house", .str ho), ("side", .str si), ("fills", .ref fl), ("removed", .ref rm), ("resting", .int rest)]
def sp_Report_init (K : PySem.W.Frag) (C : Addr) : Sp := fun vs H Q _ => ∃ (x dx : Addr) (n : Int) (ho si : Str), vs = [.ref x, .int n, .str ho, .str si] ∧ H x = some (.ins C dx []) ∧
  ∀ fl rm H', KeepX x H H' → H' x = some (repO C dx n ho si fl rm 0) → H' fl = some (.lst []) → H' rm = some (.lst []) → H fl = none → H rm = none → fl ≠ rm → Q .non H'
set_option maxHeartbeats 0 in
theorem ok_Report_init (T : Txt K mg) [TB : TabsOk T base] : FnOk P w K mg base CX0 1 T.f_Report_init T.d_Report_init ["self", "number", "house", "side"] (sp_Report_init K T.c_Report) := by
  refine T.F_Report_init.ok sc_Report_init (fun vs H Q E h => ?_) (fun cdv A outer s H vs Q E hr h => ?_)
  · obtain ⟨x, dx, n, ho, si, rfl, _⟩ := h
    rfl
  · obtain ⟨x, dx, n, ho, si, rfl, hx, q⟩ := h
    
    refine ⟨_, (pss_cons (ps_fld (pv 0) (pv 1) rfl)
    (pss_cons (ps_fld (pv 0) (pv 2) rfl)
    (pss_cons (ps_fld (pv 0) (pv 3) rfl)
    (pss_cons (ps_fld (pv 0) (pe_lst pa_nil) rfl)
    (pss_cons (ps_fld (pv 0) (pe_lst pa_nil) rfl)
    (pss_one (ps_fld (pv 0) pe_int rfl))))))), ?_⟩
    have fact_Report_0 := T.cl_Report; have fact_Report_1 := T.na_Report_number; have fact_Report_2 := T.na_Report_house; have fact_Report_3 := T.na_Report_side; have fact_Report_4 := T.na_Report_fills; have fact_Report_5 := T.na_Report_removed; have fact_Report_6 := T.na_Report_resting
    refine ⟨_, rfl, _, rfl, setF hx T.cl_Report T.na_Report_number rfl ?_⟩
    refine ⟨_, rfl, _, rfl, setF upd_same T.cl_Report T.na_Report_house rfl ?_⟩
    refine ⟨_, rfl, _, rfl, setF upd_same T.cl_Report T.na_Report_side rfl ?_⟩
    simp only [upd_upd]
    have k1 : KeepX x H (upd H x (.ins T.c_Report dx (putF "side" (.str si) (putF "house" (.str ho) (putF "number" (.int n) []))))) := (keepX_of (Same.refl H)).set
    have hx1 : upd H x (.ins T.c_Report dx (putF "side" (.str si) (putF "house" (.str ho) (putF "number" (.int n) [])))) x = some (.ins T.c_Report dx [("number", .int n), ("house", .str ho), ("side", .str si)]) := upd_same
    have fr1 : ∀ z, z ≠ x → upd H x (.ins T.c_Report dx (putF "side" (.str si) (putF "house" (.str ho) (putF "number" (.int n) [])))) z = H z := fun z hz => upd_ne hz
    generalize upd H x _ = H1 at *
    walk_at "st"
    intro fl nfl
    have nfx : fl ≠ x := fun z => by rw [z, hx1] at nfl; cases nfl
    have hx2 : upd H1 fl (.lst []) x = some (.ins T.c_Report dx [("number", .int n), ("house", .str ho), ("side", .str si)]) := (upd_ne nfx.symm).trans hx1
    refine ⟨_, rfl, setF hx2 T.cl_Report T.na_Report_fills rfl ?_⟩
    have nfl0 : H fl = none := by rw [← fr1 fl nfx]; exact nfl
    have k2 : KeepX x H (upd (upd H1 fl (.lst [])) x (.ins T.c_Report dx (putF "fills" (.ref fl) [("number", .int n), ("house", .str ho), ("side", .str si)]))) := (k1.then (same_upd nfl)).set
    have hx3 : upd (upd H1 fl (.lst [])) x (.ins T.c_Report dx (putF "fills" (.ref fl) [("number", .int n), ("house", .str ho), ("side", .str si)])) x = some (.ins T.c_Report dx [("number", .int n), ("house", .str ho), ("side", .str si), ("fills", .ref fl)]) := upd_same
    have hfl3 : upd (upd H1 fl (.lst [])) x (.ins T.c_Report dx (putF "fills" (.ref fl) [("number", .int n), ("house", .str ho), ("side", .str si)])) fl = some (.lst []) := (upd_ne nfx).trans upd_same
    have fr3 : ∀ z, z ≠ x → z ≠ fl → upd (upd H1 fl (.lst [])) x (.ins T.c_Report dx (putF "fills" (.ref fl) [("number", .int n), ("house", .str ho), ("side", .str si)])) z = H z := fun z hz hf => by rw [upd_ne hz, upd_ne hf, fr1 z hz]
    generalize upd (upd H1 fl _) x _ = H3 at *
    walk_at "st"
    intro rm nrm
    have nrx : rm ≠ x := fun z => by rw [z, hx3] at nrm; cases nrm
    have nrf : rm ≠ fl := fun z => by rw [z, hfl3] at nrm; cases nrm
    have hx4 : upd H3 rm (.lst []) x = some (.ins T.c_Report dx [("number", .int n), ("house", .str ho), ("side", .str si), ("fills", .ref fl)]) := (upd_ne nrx.symm).trans hx3
    refine ⟨_, rfl, setF hx4 T.cl_Report T.na_Report_removed rfl ?_⟩
    refine ⟨_, rfl, setF upd_same T.cl_Report T.na_Report_resting rfl ?_⟩
    rw [upd_upd]
    have nrm0 : H rm = none := by rw [← fr3 rm nrx nrf]; exact nrm
    refine q fl rm _ ((k2.then (same_upd nrm)).set) upd_same ?_ ?_ nfl0 nrm0 nrf.symm
    · rw [upd_ne nfx, upd_ne nrf.symm]
      exact hfl3
    · rw [upd_ne nrx]
      exact upd_same
def encFill (x : Int × Str × Int × Int) : List V := [.int x.1, .str x.2.1, .int x.2.2.1, .int x.2.2.2]
/-- what stays but for the places that a match may touch -/
def FrM (A : List Addr) (la o x fl rm : Addr) (H H' : Hp) : Prop := ∀ z v, z ∉ A → z ≠ la → z ≠ o → z ≠ x → z ≠ fl → z ≠ rm → H z = some v → H' z = some v
structure EnterIn (CO CB CK : Addr) (H : Hp) (x dx sd st b d l b2 d2 l2 o dxo : Addr) (last : Option Int) (next : Int) (es es2 : List Ent) (t : Ord) : Prop where
  ob : H x = some (bookO CK dx last next sd st)
  sdo : DGet H sd (.str (otherS t.side)) (some (.ref b))
  sds : DGet H sd (.str t.side) (some (.ref b2))
  s1 : SideAt CO CB H b d l es
  s2 : SideAt CO CB H b2 d2 l2 es2
  r1 : Rank (otherS t.side) es
  r2 : Rank t.side es2
  ho : H o = some (ordO CO dxo t)
  n1 : ∀ e, e ∈ es → e.1 ≠ o
  n2 : ∀ e, e ∈ es2 → e.1 ≠ o
  l0 : 1 ≤ t.left
  sh : 0 ≤ t.shown
  dj : ∀ e, e ∈ es → ∀ y, y ∈ es2 → e.1 ≠ y.1
  nll : l ≠ l2
  sdv : ∃ c1 c2, H sd = some (sidesO c1 c2)
theorem dget_keep {H H' : Hp} {a : Addr} {s : Str} {o : Option V} (h : DGet H a (.str s) o) (k : ∀ v, H a = some v → H' a = some v) : DGet H' a (.str s) o := by
  rcases h with ⟨kvs, y, h | ⟨z, h⟩, e1, e2⟩ | ⟨kvs, y, c, _, e1, _⟩
  · exact .inl ⟨kvs, y, .inl (k _ h), e1, e2⟩
  · exact .inl ⟨kvs, y, .inr ⟨z, k _ h⟩, e1, e2⟩
  · cases e1
theorem EnterIn.same {CO CB CK : Addr} {H H' : Hp} {x dx sd st b d l b2 d2 l2 o dxo : Addr} {last : Option Int} {next : Int} {es es2 : List Ent} {t : Ord} (E : EnterIn CO CB CK H x dx sd st b d l b2 d2 l2 o dxo last next es es2 t) (e : Same H H') : EnterIn CO CB CK H' x dx sd st b d l b2 d2 l2 o dxo last next es es2 t :=
  ⟨e _ _ E.ob, dget_keep E.sdo fun v => e _ v, dget_keep E.sds fun v => e _ v, E.s1.same e, E.s2.same e, E.r1, E.r2, e _ _ E.ho, E.n1, E.n2, E.l0, E.sh, E.dj, E.nll, E.sdv.elim fun c1 h => h.elim fun c2 h => ⟨c1, c2, e _ _ h⟩⟩
theorem Tups.frame {α : Type} {enc : α → List V} {H H' : Hp} {l : Addr} {ps : List Addr} {xs : List α} (h : Tups enc H l ps xs) (k1 : H' l = H l) (k2 : ∀ a ys, H a = some (.tup ys) → H' a = some (.tup ys)) : Tups enc H' l ps xs :=
  ⟨k1.trans h.lst, h.len, fun i p x a b => k2 _ _ (h.row i p x a b)⟩
theorem tradeF_mem {e y : Ent} {es : List Ent} {n p : Int} (h : y ∈ tradeF e es n p) : y.1 = e.1 ∨ y ∈ es := by
  unfold tradeF at h
  dsimp only at h
  split at h
  · split at h
    · rcases insE_mem.mp h with z | z
      · exact .inl (by rw [z])
      · exact .inr z
    · exact .inr h
  · rcases List.mem_cons.mp h with z | z
    · exact .inl (by rw [z])
    · exact .inr z
def muM (o l : Addr) (H : Hp) : Nat := match H o, H l with
  | some (.ins _ _ [_, _, _, _, _, (_, .int lf), _]), some (.lst xs) => lf.toNat + xs.length
  | _, _ => 0
theorem muM_eq {o l C dxo : Addr} {H : Hp} {t : Ord} {m : Mt} (h1 : H o = some (ordO C dxo { t with left := m.left })) (h2 : H l = some (.lst (refs m.es))) : muM o l H = sizeM m := by
  unfold muM
  rw [h1, h2]
  unfold ordO refs sizeM
  show m.left.toNat + (List.map _ m.es).length = _
  rw [List.length_map]
def availM (t : Ord) (es : List Ent) : Int := ((es.filter (canT t)).map (fun e => e.2.2.left)).sum
def restsM (kind : Str) (m : Mt) : Bool := decide (V.str kind = V.str "rest") && decide (m.left > 0)
def sp_Bookenter (K : PySem.W.Frag) (CO CB CK CR : Addr) : Sp := fun vs H Q _ => ∃ (_ : Unit) (x dx sd st b d l b2 d2 l2 o dxo : Addr) (last : Option Int) (next : Int) (es es2 : List Ent) (t : Ord) (kind : Str), vs = [.ref x, .ref o, .str kind] ∧ EnterIn CO CB CK H x dx sd st b d l b2 d2 l2 o dxo last next es es2 t ∧ (V.str kind = V.str "rest" → ∃ p, t.price = some p) ∧ es.length + es2.length ≤ 900 ∧ t.left ≤ 1000000 ∧
  (V.str kind = V.str "all" → availM t es < t.left → ∀ r dr fl rm H', Same H H' → H r = none → H fl = none → H rm = none → H' r = some (repO CR dr t.number t.house t.side fl rm 0) → H' fl = some (.lst []) → H' rm = some (.lst []) → Q (.ref r) H') ∧
  (¬ (V.str kind = V.str "all" ∧ availM t es < t.left) → ∀ (r dr fl rm : Addr) (fs : List Addr) (m : Mt) (H' : Hp), m = runM t (sizeM ⟨es, t.left, last, [], []⟩) ⟨es, t.left, last, [], []⟩ → H r = none → H fl = none → H rm = none → H' r = some (repO CR dr t.number t.house t.side fl rm (if restsM kind m = true then m.left else 0)) → Tups encFill H' fl fs m.fills → H' rm = some (.lst (m.gone.map V.int)) → H' x = some (bookO CK dx m.last next sd st) →
    SideAt CO CB H' b d l m.es → SideAt CO CB H' b2 d2 l2 (if restsM kind m = true then insE es2 (place es2 (t.price.getD 0)) (o, dxo, Ord.showNext { t with left := m.left }) else es2) → (∀ z v, z ∉ es.map (·.1) → z ≠ l → z ≠ l2 → z ≠ o → z ≠ x → H z = some v → H' z = some v) → Q (.ref r) H')
set_option maxHeartbeats 0 in
theorem ok_Bookenter (T : Txt K mg) [TB : TabsOk T base] : FnOk P w K mg base CX0 6 T.f_Bookenter T.d_Bookenter ["self", "order", "kind"] (sp_Bookenter K T.c_Order T.c_BookSide T.c_Book T.c_Report) := by
  refine T.F_Bookenter.ok sc_Bookenter (fun vs H Q E h => ?_) (fun cdv A outer s H vs Q E hr h => ?_)
  · obtain ⟨_, x, dx, sd, st, b, d, l, b2, d2, l2, o, dxo, last, next, es, es2, t, kind, rfl, _⟩ := h
    rfl
  · obtain ⟨_, x, dx, sd, st, b, d, l, b2, d2, l2, o, dxo, last, next, es, es2, t, kind, rfl, E, hkp, hsz, hszl, qall, qrun⟩ := h
    have G_Report_init : FnOk P w K mg base CX0 1 T.f_Report_init T.d_Report_init ["self", "number", "house", "side"] (sp_Report_init K T.c_Report) := ok_Report_init T
    have G_BookSide_first : FnOk P w K mg base CX0 1 T.f_BookSide_first T.d_BookSide_first ["self"] (sp_BookSide_first K T.c_Order T.c_BookSide) := ok_BookSide_first T
    have G_other_side : FnOk P w K mg base CX0 1 T.f_other_side T.d_other_side ["side"] (sp_other_side K) := ok_other_side T
    have G_Order_accepts_price : FnOk P w K mg base CX0 2 T.f_Order_accepts_price T.d_Order_accepts_price ["self", "price"] (sp_Order_accepts_price K T.c_Order) := ok_Order_accepts_price T
    have G_BookSide_enter : FnOk P w K mg base CX0 4 T.f_BookSide_enter T.d_BookSide_enter ["self", "order"] (sp_BookSide_enter K T.c_Order T.c_BookSide) := ok_BookSide_enter T
    have G_BookSide_available : FnOk P w K mg base CX0 3 T.f_BookSide_available T.d_BookSide_available ["self", "taker"] (sp_BookSide_available K T.c_Order T.c_BookSide) := ok_BookSide_available T
    have G_BookSide_leave : FnOk P w K mg base CX0 1 T.f_BookSide_leave T.d_BookSide_leave ["self", "order"] (sp_BookSide_leave K T.c_Order T.c_BookSide) := ok_BookSide_leave T
    have G_BookSide_trade_first : FnOk P w K mg base CX0 5 T.f_BookSide_trade_first T.d_BookSide_trade_first ["self", "quantity"] (sp_BookSide_trade_first K T.c_Order T.c_BookSide) := ok_BookSide_trade_first T
    refine ⟨_, (pss_cons (ps_set (i := 3) sc_Bookenter.nd rfl (Or.inl rfl) (pe_make T.mk_Report G_Report_init (hr.mono (by decide)) (by rfl) T.m_Report T.b_Report_init .nil pass0 (pa_cons (pe_fld (pv 1) rfl) (pa_cons (pe_fld (pv 1) rfl) (pa_cons (pe_fld (pv 1) rfl) pa_nil)))))
    (pss_cons (ps_set (i := 4) sc_Bookenter.nd rfl (Or.inl rfl) (pe_dget (hu_of hr) (pe_fld (pv 0) rfl) (pe_call G_other_side (hr.mono (by decide)) (by rfl) T.m_other_side T.F_other_side.kp T.b_other_side .nil pass0 (pa_cons (pe_fld (pv 1) rfl) pa_nil)) (fun _ _ => rfl)))
    (C8.pss_cut (ps_if (PW.pt (pw_and (pt_cmpR op_eq (pv 2) pe_str (nomark _)) (pw_and1 (pt_cmpR op_lt (pe_meth (pv 4) T.cl_BookSide T.mt_BookSide_available G_BookSide_available (hr.mono (by decide)) T.b_BookSide_available .nil pass0 (pa_cons (pv 1) pa_nil)) (pe_fld (pv 1) rfl) (nomark _)))))
      (pss_one (ps_ret (pv 3)))
      pss_nil)
    (pss_cons (ps_set (i := 5) sc_Bookenter.nd rfl (Or.inl rfl) (pe_meth0 (pv 4) T.cl_BookSide T.mt_BookSide_first G_BookSide_first (hr.mono (by decide)) T.b_BookSide_first .nil pass0))
    (C8.pss_cut (ps_while PassesOwn.never (PW.pt (pw_and (pt_cmpR op_gt (pe_fld (pv 1) rfl) pe_int (nomark _)) (pw_and (pt_cmpR op_notN (pv 5) pe_non (nomark _)) (pw_and1 (pt_val (pe_meth (pv 1) T.cl_Order T.mt_Order_accepts_price G_Order_accepts_price (hr.mono (by decide)) T.b_Order_accepts_price .nil pass0 (pa_cons (pe_fld (pv 5) rfl) pa_nil)))))))
      (pss_cons (ps_if (pt_cmpR op_eq (pe_fld (pv 5) rfl) (pe_fld (pv 1) rfl) (nomark _))
        (pss_cons (ps_expr (pe_meth (pv 4) T.cl_BookSide T.mt_BookSide_leave G_BookSide_leave (hr.mono (by decide)) T.b_BookSide_leave .nil pass0 (pa_cons (pv 5) pa_nil)))
        (pss_one (ps_expr (pe_bm PySem.F.plainAttrs_list PySem.F.slot_list_append PySem.F.type_list_append mt_append (pe_fld (pv 3) rfl) (pa_cons (pe_fld (pv 5) rfl) pa_nil)))))
        (pss_cons (ps_set (i := 6) sc_Bookenter.nd rfl (Or.inl rfl) (pe_callB (call_min2 rfl) (by rfl) T.z_min (by decide +kernel) (pa_cons (pe_fld (pv 1) rfl) (pa_cons (pe_fld (pv 5) rfl) pa_nil))))
        (pss_cons (ps_fldaug (pv 1) (pv 6) in_sub)
        (pss_cons (ps_expr (pe_meth (pv 4) T.cl_BookSide T.mt_BookSide_trade_first G_BookSide_trade_first hr T.b_BookSide_trade_first .nil pass0 (pa_cons (pv 6) pa_nil)))
        (pss_cons (ps_expr (pe_bm PySem.F.plainAttrs_list PySem.F.slot_list_append PySem.F.type_list_append mt_append (pe_fld (pv 3) rfl) (pa_cons (pe_tup (pa_cons (pe_fld (pv 5) rfl) (pa_cons (pe_fld (pv 5) rfl) (pa_cons (pe_fld (pv 5) rfl) (pa_cons (pv 6) pa_nil))))) pa_nil)))
        (pss_one (ps_fld (pv 0) (pe_fld (pv 5) rfl) rfl)))))))
      (pss_one (ps_set (i := 5) sc_Bookenter.nd rfl (Or.inl rfl) (pe_meth0 (pv 4) T.cl_BookSide T.mt_BookSide_first G_BookSide_first (hr.mono (by decide)) T.b_BookSide_first .nil pass0)))))
    (pss_cons (ps_if (PW.pt (pw_and (pt_cmpR op_eq (pv 2) pe_str (nomark _)) (pw_and1 (pt_cmpR op_gt (pe_fld (pv 1) rfl) pe_int (nomark _)))))
      (pss_cons (ps_expr (pe_meth (pe_dget (hu_of hr) (pe_fld (pv 0) rfl) (pe_fld (pv 1) rfl) (fun _ _ => rfl)) T.cl_BookSide T.mt_BookSide_enter G_BookSide_enter (hr.mono (by decide)) T.b_BookSide_enter .nil pass0 (pa_cons (pv 1) pa_nil)))
      (pss_one (ps_fld (pv 3) (pe_fld (pv 1) rfl) rfl)))
      pss_nil)
    (pss_one (ps_ret (pv 3))))))))), ?_⟩
    have fact_BookSide_0 := T.cl_BookSide; have fact_BookSide_1 := T.na_BookSide__orders; have fact_Book_0 := T.cl_Book; have fact_Book_1 := T.na_Book_last; have fact_Book_2 := T.na_Book__next_number; have fact_Book_3 := T.na_Book__sides; have fact_Book_4 := T.na_Book__stops; have fact_Order_0 := T.cl_Order; have fact_Order_1 := T.na_Order_number; have fact_Order_2 := T.na_Order_house; have fact_Order_3 := T.na_Order_side; have fact_Order_4 := T.na_Order_price; have fact_Order_5 := T.na_Order_shown; have fact_Order_6 := T.na_Order_left; have fact_Order_7 := T.na_Order_visible; have fact_Report_0 := T.cl_Report; have fact_Report_1 := T.na_Report_number; have fact_Report_2 := T.na_Report_house; have fact_Report_3 := T.na_Report_side; have fact_Report_4 := T.na_Report_fills; have fact_Report_5 := T.na_Report_removed; have fact_Report_6 := T.na_Report_resting
    have hob := E.ob
    unfold bookO at hob
    have ho := E.ho
    unfold ordO at ho
    have hsd := E.sdo
    have hb := E.s1.ob
    walk_at "st"
    intro r dr nr ndr hne
    have nr' : upd H dr (.own r) r = none := by
      first
        | (rw [upd_ne hne]; exact nr)
        | (rw [upd_ne (Ne.symm hne)]; exact nr)
    have sx : Same H (upd (upd H dr (.own r)) r (.ins T.c_Report dr [])) := (same_upd ndr).trans (same_upd nr')
    refine ⟨r, dr, t.number, t.house, t.side, rfl, upd_same, fun fl rm H1 kx hr hfl hrm nfl nrm hfr => ?_⟩
    have fresh0 : ∀ {z : Addr}, upd (upd H dr (.own r)) r (.ins T.c_Report dr []) z = none → H z = none := fun {z} hz => by
      cases hh : H z with
      | none => rfl
      | some v =>
        have := sx z v hh
        rw [hz] at this
        cases this
    have nfl0 := fresh0 nfl
    have nrm0 := fresh0 nrm
    have e1 : Same H H1 := fun z v hz => kx z v (ne_of_none hz nr) (sx z v hz)
    have E1 := E.same e1
    have hob1 := E1.ob
    unfold bookO at hob1
    have ho1 := E1.ho
    unfold ordO at ho1
    have hsd1 := E1.sdo
    have hb1 := E1.s1.ob
    refine ⟨rfl, ?_⟩
    walk_at "st"
    refine ⟨fun σ' H' => σ' = [some (.ref x), some (.ref o), some (.str kind), some (.ref r), some (.ref b), none, none] ∧ Same H1 H' ∧ ¬ (V.str kind = V.str "all" ∧ availM t es < t.left), ?_, ?_⟩
    · walk_at "st"
      dsimp only
      refine iteB (fun h => ?_) (fun h => ⟨rfl, Same.refl H1, fun z => of_decide_eq_false h z.1⟩)
      walk_at "st"
      refine ⟨es, t, rfl, E1.s1, E1.ho, E1.r1.price, fun H2 e2 => ?_⟩
      have ho2 := e2 _ _ ho1
      have hr2 := e2 _ _ hr
      unfold repO at hr2
      walk_at "st"
      refine iteB (fun h2 => ?_) (fun h2 => ⟨rfl, e2, fun z => of_decide_eq_false h2 z.2⟩)
      walk_at "st"
      exact qall (of_decide_eq_true h) (of_decide_eq_true h2) r dr fl rm H2 (e1.trans e2) nr nfl0 nrm0 (e2 _ _ hr) (e2 _ _ hfl) (e2 _ _ hrm)
    · rintro σ H2 ⟨rfl, e2, hna⟩
      have E2 := E1.same e2
      have e02 := e1.trans e2
      have S2 := E2.s1
      have hb2 := S2.ob
      walk_at "st"
      refine ⟨es, rfl, S2, ?_⟩
      refine ⟨fun σ H' => ∃ (_ : Unit) (v6 : Option V) (m : Mt) (fs : List Addr), m = runM t (sizeM ⟨es, t.left, last, [], []⟩) ⟨es, t.left, last, [], []⟩ ∧ σ = [some (.ref x), some (.ref o), some (.str kind), some (.ref r), some (.ref b), some (firstV m.es), v6] ∧
          0 ≤ m.left ∧ Rank (otherS t.side) m.es ∧ (∀ e, e ∈ m.es → e.1 ∈ es.map (·.1)) ∧ sizeM m + m.fills.length + m.gone.length ≤ 2000000 ∧
          H' r = some (repO T.c_Report dr t.number t.house t.side fl rm 0) ∧ H' o = some (ordO T.c_Order dxo { t with left := m.left }) ∧ Tups encFill H' fl fs m.fills ∧ H' rm = some (.lst (m.gone.map V.int)) ∧ H' x = some (bookO T.c_Book dx m.last next sd st) ∧ SideAt T.c_Order T.c_BookSide H' b d l m.es ∧ (∀ f, f ∈ fs → True) ∧
          ∀ z v, z ∉ es.map (·.1) → z ≠ l → z ≠ o → z ≠ x → H z = some v → H' z = some v, ?_, ?_⟩
      · refine while_by (fun σ H' => ∃ (_ : Unit) (v6 : Option V) (m : Mt) (fs : List Addr), runM t (sizeM m) m = runM t (sizeM ⟨es, t.left, last, [], []⟩) ⟨es, t.left, last, [], []⟩ ∧ σ = [some (.ref x), some (.ref o), some (.str kind), some (.ref r), some (.ref b), some (firstV m.es), v6] ∧
          0 ≤ m.left ∧ Rank (otherS t.side) m.es ∧ (∀ e, e ∈ m.es → e.1 ∈ es.map (·.1)) ∧ sizeM m + m.fills.length + m.gone.length ≤ 2000000 ∧
          H' r = some (repO T.c_Report dr t.number t.house t.side fl rm 0) ∧ H' o = some (ordO T.c_Order dxo { t with left := m.left }) ∧ Tups encFill H' fl fs m.fills ∧ H' rm = some (.lst (m.gone.map V.int)) ∧ H' x = some (bookO T.c_Book dx m.last next sd st) ∧ SideAt T.c_Order T.c_BookSide H' b d l m.es ∧ (∀ f, f ∈ fs → True) ∧
          ∀ z v, z ∉ es.map (·.1) → z ≠ l → z ≠ o → z ≠ x → H z = some v → H' z = some v)
          (fun _ H' => muM o l H')
          ⟨(), none, ⟨es, t.left, last, [], []⟩, [], rfl, rfl, ?_, E.r1, fun e he => List.mem_map.mpr ⟨e, he, rfl⟩, ?_, e2 _ _ hr, E2.ho, .nil (e2 _ _ hfl), e2 _ _ hrm, E2.ob, S2, fun _ _ => trivial, fun z v _ _ _ _ hz => e02 z v hz⟩ ?_ ?_
        · have := E.l0
          show 0 ≤ t.left
          omega
        · show t.left.toNat + es.length + 0 + 0 ≤ 2000000
          omega
        · rintro σ H3 ⟨_, v6, m, fs, hrun, rfl, hl0, hrank, hmem, hsz3, hr3, ho3, hf3, hg3, hx3, S3, hfn, hfr3⟩
          have ho3' : H3 o = some (.ins T.c_Order dxo [("number", .int t.number), ("house", .str t.house), ("side", .str t.side), ("price", optV t.price), ("shown", .int t.shown), ("left", .int m.left), ("visible", .int t.visible)]) := ho3
          have stop : goesM t m = none → m = runM t (sizeM ⟨es, t.left, last, [], []⟩) ⟨es, t.left, last, [], []⟩ := fun z => by rw [← hrun, runM_stop z]
          cases hes : m.es with
          | nil =>
            have hg : goesM t m = none := by
              unfold goesM
              rw [hes]
            have hE := stop hg
            rw [show firstV [] = V.non from rfl]
            have hst : ([some (.ref x), some (.ref o), some (.str kind), some (.ref r), some (.ref b), some V.non, v6] : L2.St) = [some (.ref x), some (.ref o), some (.str kind), some (.ref r), some (.ref b), some (firstV m.es), v6] := by rw [hes]; rfl
            walk_at "st"
            dsimp only
            refine iteB (fun h => ?_) (fun h => ⟨(), v6, m, fs, hE, hst, hl0, hrank, hmem, hsz3, hr3, ho3, hf3, hg3, hx3, S3, hfn, hfr3⟩)
            walk_at "st"
            exact ⟨(), v6, m, fs, hE, hst, hl0, hrank, hmem, hsz3, hr3, ho3, hf3, hg3, hx3, S3, hfn, hfr3⟩
          | cons e rest =>
            have hst : ([some (.ref x), some (.ref o), some (.str kind), some (.ref r), some (.ref b), some (V.ref e.1), v6] : L2.St) = [some (.ref x), some (.ref o), some (.str kind), some (.ref r), some (.ref b), some (firstV m.es), v6] := by rw [hes]; rfl
            have exi : goesM t m = none → ∃ (_ : Unit) (v6' : Option V) (m' : Mt) (fs' : List Addr), m' = runM t (sizeM ⟨es, t.left, last, [], []⟩) ⟨es, t.left, last, [], []⟩ ∧ ([some (.ref x), some (.ref o), some (.str kind), some (.ref r), some (.ref b), some (V.ref e.1), v6] : L2.St) = [some (.ref x), some (.ref o), some (.str kind), some (.ref r), some (.ref b), some (firstV m'.es), v6'] ∧
          0 ≤ m'.left ∧ Rank (otherS t.side) m'.es ∧ (∀ e, e ∈ m'.es → e.1 ∈ es.map (·.1)) ∧ sizeM m' + m'.fills.length + m'.gone.length ≤ 2000000 ∧
          H3 r = some (repO T.c_Report dr t.number t.house t.side fl rm 0) ∧ H3 o = some (ordO T.c_Order dxo { t with left := m'.left }) ∧ Tups encFill H3 fl fs' m'.fills ∧ H3 rm = some (.lst (m'.gone.map V.int)) ∧ H3 x = some (bookO T.c_Book dx m'.last next sd st) ∧ SideAt T.c_Order T.c_BookSide H3 b d l m'.es ∧ (∀ f, f ∈ fs' → True) ∧
          ∀ z v, z ∉ es.map (·.1) → z ≠ l → z ≠ o → z ≠ x → H z = some v → H3 z = some v := fun z => ⟨(), v6, m, fs, stop z, hst, hl0, hrank, hmem, hsz3, hr3, ho3, hf3, hg3, hx3, S3, hfn, hfr3⟩
            rw [show firstV (e :: rest) = V.ref e.1 from rfl]
            have S4 := S3
            rw [hes] at S4
            have hr4 := hrank
            rw [hes] at hr4
            obtain ⟨p, hp⟩ := hr4.price e List.mem_cons_self
            have hv := hr4.vis e List.mem_cons_self
            have hpp : prcE e = p := by unfold prcE; rw [hp]; rfl
            have hee := S4.en e List.mem_cons_self
            unfold ordO at hee
            rw [hp, show optV (some p) = V.int p from rfl] at hee
            walk_at "st"
            dsimp only
            refine iteB (fun h => ?_) (fun h => exi (by
              have := of_decide_eq_false h
              unfold goesM
              rw [hes]
              exact if_neg fun z => this z.1))
            have hlp := of_decide_eq_true h
            walk_at "st"
            refine ⟨{ t with left := m.left }, p, rfl, ho3, ?_⟩
            walk_at "st"
            refine iteB (fun h2 => ?_) (fun h2 => exi (by
              unfold goesM
              rw [hes]
              refine if_neg fun z => ?_
              have z2 := z.2
              rw [hpp] at z2
              rw [show takes t.side t.price p = false from h2] at z2
              cases z2))
            have hg : goesM t m = some e := by
              unfold goesM
              rw [hes]
              exact if_pos ⟨hlp, by rw [hpp]; exact h2⟩
            have hnx := runM_next hrank hg
            have hsl := stepM_less hrank hg
            have hli3 := S4.li
            have hb3 := S4.ob
            have ndl := List.nodup_cons.mp S4.nd
            have oldl : H l ≠ none := fun z => by rw [E.s1.li] at z; cases z
            have nrl : r ≠ l := fun z => by rw [z, hli3] at hr3; cases hr3
            have nol : o ≠ l := fun z => by rw [z, hli3] at ho3; cases ho3
            have nxl : x ≠ l := fun z => by rw [z, hli3] at hx3; cases hx3
            have nfll : fl ≠ l := fun z => oldl (by rw [← z]; exact nfl0)
            have nrml : rm ≠ l := fun z => oldl (by rw [← z]; exact nrm0)
            have nrmr : rm ≠ r := fun z => by rw [z, hr3] at hg3; cases hg3
            have nrmo : rm ≠ o := fun z => by rw [z, ho3] at hg3; cases hg3
            have nrmx : rm ≠ x := fun z => by rw [z, hx3] at hg3; cases hg3
            have nel : e.1 ≠ l := S4.le List.mem_cons_self
            walk_at "st"
            dsimp only
            refine iteB (fun hh => ?_) (fun hh => ?_)
            · have hh := V.str.inj (of_decide_eq_true hh)
              have hm' : stepM t m e = ⟨rest, m.left, m.last, m.fills, m.gone ++ [e.2.2.number]⟩ := by
                unfold stepM
                rw [if_pos hh, hes]
                rfl
              rw [hm'] at hnx hsl
              have S5 : SideAt T.c_Order T.c_BookSide (upd H3 l (.lst (refs rest))) b d l rest := S4.put (fun y hy => S4.en y (List.mem_cons_of_mem _ hy)) ndl.2 (by have := S4.sm; rw [List.length_cons] at this; omega)
              have hr5 : upd H3 l (.lst (refs rest)) r = _ := (upd_ne nrl).trans hr3
              unfold repO at hr5
              have hg5 : upd H3 l (.lst (refs rest)) rm = _ := (upd_ne nrml).trans hg3
              have he5 : upd H3 l (.lst (refs rest)) e.1 = _ := (upd_ne nel).trans hee
              walk_at "st"
              refine ⟨[], e, rest, rfl, S4, ?_⟩
              rw [List.nil_append]
              walk_at "st"
              have nbr : b ≠ rm := fun z => by rw [z, hg3] at hb3; cases hb3
              have her : ∀ y, y ∈ rest → y.1 ≠ rm := fun y hy z => by
                have := S4.en y (List.mem_cons_of_mem _ hy)
                rw [z, hg3] at this
                unfold ordO at this
                cases this
              have S6 := S5.upd (o := .lst (m.gone.map V.int ++ [V.int e.2.2.number])) nbr nrml.symm her
              have hb6 := S6.ob
              have hgs : (m.gone.map V.int).length < sizeLine := smallM (by rw [List.length_map]; omega)
              walk_at "st"
              refine ⟨rest, rfl, S6, ?_⟩
              refine ⟨⟨(), v6, ⟨rest, m.left, m.last, m.fills, m.gone ++ [e.2.2.number]⟩, fs, by rw [← hnx]; exact hrun, rfl, hl0, hsl.2.2, fun y hy => hmem y (by rw [hes]; exact List.mem_cons_of_mem _ hy), ?_, (upd_ne nrmr.symm).trans ((upd_ne nrl).trans hr3), (upd_ne nrmo.symm).trans ((upd_ne nol).trans ho3), (hf3.other hli3 nfll).other hg5 hfr, ?_, (upd_ne nrmx.symm).trans ((upd_ne nxl).trans hx3), S6, hfn, fun z v h1 h2 h3 h4 hz => ?_⟩, ?_⟩
              · have h1 := hsl.1
                show sizeM _ + m.fills.length + (m.gone ++ [e.2.2.number]).length ≤ 2000000
                rw [List.length_append]
                show _ + _ + (_ + 1) ≤ 2000000
                omega
              · rw [upd_same, List.map_append]
                rfl
              · rw [upd_ne (fun y => by rw [y, nrm0] at hz; cases hz), upd_ne h2]
                exact hfr3 z v h1 h2 h3 h4 hz
              · show muM o l _ < muM o l H3
                rw [muM_eq (m := m) ho3 (by rw [hes]; exact hli3), muM_eq (m := ⟨rest, m.left, m.last, m.fills, m.gone ++ [e.2.2.number]⟩) ((upd_ne nrmo.symm).trans ((upd_ne nol).trans ho3)) S6.li]
                exact hsl.1
            · have hh : ¬ e.2.2.house = t.house := fun z => of_decide_eq_false hh (congrArg V.str z)
              obtain ⟨qt, eqt⟩ : ∃ z, qtyM m e = z := ⟨_, rfl⟩
              have hqt : (if e.2.2.visible < m.left then e.2.2.visible else m.left) = qt := eqt
              have hm' : stepM t m e = ⟨tradeF e rest qt p, m.left - qt, some p, m.fills ++ [(e.2.2.number, e.2.2.house, p, qt)], m.gone⟩ := by
                unfold stepM
                rw [if_neg hh, hes, eqt, hpp]
                rfl
              rw [hm'] at hnx hsl
              have nro : r ≠ o := fun z => by
                rw [z, ho3] at hr3
                unfold ordO repO at hr3
                injection hr3 with hr3
                injection hr3 with _ _ h3
                exact absurd (congrArg List.length h3) (show ¬ 7 = 6 by decide)
              have nxo : x ≠ o := fun z => by
                rw [z, ho3] at hx3
                unfold ordO bookO at hx3
                injection hx3 with hx3
                injection hx3 with _ _ h3
                exact absurd (congrArg List.length h3) (show ¬ 7 = 4 by decide)
              have neo : ∀ y, y ∈ e :: rest → y.1 ≠ o := fun y hy => by
                obtain ⟨y2, hy2, hy3⟩ := List.mem_map.mp (hmem y (by rw [hes]; exact hy))
                rw [← hy3]
                exact E.n1 y2 hy2
              obtain ⟨nbo, nlo⟩ := S4.ord_ne ho3
              have hbA : upd H3 o (.ins T.c_Order dxo (putF "left" (.int (m.left - (if e.2.2.visible < m.left then e.2.2.visible else m.left))) [("number", .int t.number), ("house", .str t.house), ("side", .str t.side), ("price", optV t.price), ("shown", .int t.shown), ("left", .int m.left), ("visible", .int t.visible)])) b = _ := (upd_ne nbo).trans hb3
              have eO : HO.ins T.c_Order dxo (putF "left" (.int (m.left - qt)) [("number", .int t.number), ("house", .str t.house), ("side", .str t.side), ("price", optV t.price), ("shown", .int t.shown), ("left", .int m.left), ("visible", .int t.visible)]) = ordO T.c_Order dxo { t with left := m.left - qt } := rfl
              have SA := S4.upd (o := ordO T.c_Order dxo { t with left := m.left - qt }) nbo nlo neo
              walk_at "st"
              dsimp only
              rw [hqt, eO]
              have neos := neo e List.mem_cons_self
              refine ⟨e, rest, qt, p, rfl, SA, hp, (hr4.tail).mono p, fun HB ob SB heB hn1 hn2 hn3 hn4 hfB => ?_⟩
              have ner : r ≠ e.1 := fun z => by
                rw [z, hee] at hr3
                unfold repO at hr3
                injection hr3 with hr3
                injection hr3 with _ _ h3
                exact absurd (congrArg List.length h3) (show ¬ 7 = 6 by decide)
              have nex : x ≠ e.1 := fun z => by
                rw [z, hee] at hx3
                unfold bookO at hx3
                injection hx3 with hx3
                injection hx3 with _ _ h3
                exact absurd (congrArg List.length h3) (show ¬ 7 = 4 by decide)
              have hfl3 := hf3.lst
              have nefl : fl ≠ e.1 := fun z => by rw [z, hee] at hfl3; cases hfl3
              have nerm : rm ≠ e.1 := fun z => by rw [z, hee] at hg3; cases hg3
              have nflo : fl ≠ o := fun z => by rw [z, ho3] at hfl3; cases hfl3
              have nflx : fl ≠ x := fun z => by rw [z, hx3] at hfl3; cases hfl3
              have nflr : fl ≠ r := fun z => by rw [z, hr3] at hfl3; cases hfl3
              have nxr : x ≠ r := fun z => by
                rw [z, hr3] at hx3
                unfold repO bookO at hx3
                injection hx3 with hx3
                injection hx3 with _ _ h3
                exact absurd (congrArg List.length h3) (show ¬ 6 = 4 by decide)
              have hrB : HB r = _ := (hfB r nrl ner).trans ((upd_ne nro).trans hr3)
              have hxB : HB x = _ := (hfB x nxl nex).trans ((upd_ne nxo).trans hx3)
              have hoB : HB o = _ := (hfB o nol neos.symm).trans upd_same
              have hgB : HB rm = _ := (hfB rm nrml nerm).trans ((upd_ne nrmo).trans hg3)
              have hfB3 : Tups encFill HB fl fs m.fills := hf3.frame ((hfB fl nfll nefl).trans (upd_ne nflo)) fun a ys ha => (hfB a (fun z => by rw [z, hli3] at ha; cases ha) (fun z => by rw [z, hee] at ha; cases ha)).trans ((upd_ne (fun z => by rw [z, ho3] at ha; cases ha)).trans ha)
              have heB2 : HB e.1 = some (.ins T.c_Order e.2.1 [("number", .int e.2.2.number), ("house", .str e.2.2.house), ("side", .str ob.side), ("price", .int p), ("shown", .int ob.shown), ("left", .int ob.left), ("visible", .int ob.visible)]) := by
                have z := heB
                unfold ordO at z
                rw [hn1, hn2, hn4, hp] at z
                exact z
              have hrB2 := hrB
              unfold repO at hrB2
              have hxB2 := hxB
              unfold bookO at hxB2
              have hflB := hfB3.lst
              walk_at "st"
              intro TT nTT
              have sTT := same_upd (o := .tup [.int e.2.2.number, .str e.2.2.house, .int p, .int qt]) nTT
              have hTT : upd HB TT (.tup [.int e.2.2.number, .str e.2.2.house, .int p, .int qt]) TT = some (.tup (encFill (e.2.2.number, e.2.2.house, p, qt))) := upd_same
              have hfC := hfB3.push sTT nTT hTT
              have hrC := sTT _ _ hrB2
              have hxC := sTT _ _ hxB2
              have hflC := sTT _ _ hflB
              have heC := sTT _ _ heB2
              have SC := SB.same sTT
              have hsfl : (fs.map V.ref).length < sizeLine := smallM (by rw [List.length_map, hf3.len]; omega)
              generalize upd HB TT _ = HC at *
              have hxD : upd HC fl (.lst (fs.map V.ref ++ [.ref TT])) x = _ := (upd_ne nflx.symm).trans hxC
              have heD : upd HC fl (.lst (fs.map V.ref ++ [.ref TT])) e.1 = _ := (upd_ne nefl.symm).trans heC
              have nbfl : b ≠ fl := fun z => by have := SC.ob; rw [z, hflC] at this; cases this
              have enf : ∀ y, y ∈ tradeF e rest qt p → y.1 ≠ fl := fun y hy z => by
                have := SC.en y hy
                rw [z, hflC] at this
                unfold ordO at this
                cases this
              have enx : ∀ y, y ∈ tradeF e rest qt p → y.1 ≠ x := fun y hy z => by
                have := SC.en y hy
                rw [z, hxC] at this
                unfold ordO at this
                injection this with this
                injection this with _ _ h3
                exact absurd (congrArg List.length h3) (show ¬ 4 = 7 by decide)
              have nbx : b ≠ x := fun z => by
                have := SC.ob
                rw [z, hxC] at this
                injection this with this
                injection this with _ _ h3
                exact absurd (congrArg List.length h3) (show ¬ 4 = 1 by decide)
              have SD := SC.upd (o := .lst (fs.map V.ref ++ [.ref TT])) nbfl nfll.symm enf
              have SE := SD.upd (o := bookO T.c_Book dx (some p) next sd st) nbx nxl.symm enx
              have hbE := SE.ob
              have eB : HO.ins T.c_Book dx (putF "last" (.int p) [("last", optV m.last), ("_next_number", .int next), ("_sides", .ref sd), ("_stops", .ref st)]) = bookO T.c_Book dx (some p) next sd st := rfl
              have hbE2 : upd (upd HC fl (.lst (fs.map V.ref ++ [.ref TT]))) x (HO.ins T.c_Book dx (putF "last" (.int p) [("last", optV m.last), ("_next_number", .int next), ("_sides", .ref sd), ("_stops", .ref st)])) b = _ := hbE
              walk_at "st"
              rw [eB]
              refine ⟨tradeF e rest qt p, rfl, SE, ?_⟩
              have hoE : upd (upd HC fl (.lst (fs.map V.ref ++ [.ref TT]))) x (bookO T.c_Book dx (some p) next sd st) o = some (ordO T.c_Order dxo { t with left := m.left - qt }) := (upd_ne nxo.symm).trans ((upd_ne nflo.symm).trans (sTT _ _ hoB))
              refine ⟨⟨(), some (.int qt), ⟨tradeF e rest qt p, m.left - qt, some p, m.fills ++ [(e.2.2.number, e.2.2.house, p, qt)], m.gone⟩, fs ++ [TT], by rw [← hnx]; exact hrun, rfl, hsl.2.1, hsl.2.2, fun y hy => ?_, ?_, (upd_ne nxr.symm).trans ((upd_ne nflr.symm).trans (sTT _ _ hrB)), hoE, hfC.frame (upd_ne nflx) (fun a ys ha => (upd_ne (fun z => by rw [z, hxD] at ha; cases ha)).trans ha), (upd_ne nrmx).trans ((upd_ne hfr.symm).trans (sTT _ _ hgB)), upd_same, SE, fun _ _ => trivial, fun z v h1 h2 h3 h4 hz => ?_⟩, ?_⟩
              · rcases tradeF_mem hy with z | z
                · rw [z]
                  exact hmem e (by rw [hes]; exact List.mem_cons_self)
                · exact hmem y (by rw [hes]; exact List.mem_cons_of_mem _ z)
              · have h1 := hsl.1
                show sizeM _ + (m.fills ++ [_]).length + m.gone.length ≤ 2000000
                rw [List.length_append]
                show _ + (_ + 1) + _ ≤ 2000000
                omega
              · rw [upd_ne h4, upd_ne (fun y => by rw [y, nfl0] at hz; cases hz)]
                refine sTT _ _ ((hfB z h2 fun y => h1 (by rw [y]; exact hmem e (by rw [hes]; exact List.mem_cons_self))).trans ((upd_ne h3).trans (hfr3 z v h1 h2 h3 h4 hz)))
              · show muM o l _ < muM o l H3
                rw [muM_eq (m := m) ho3 (by rw [hes]; exact hli3), muM_eq (m := ⟨tradeF e rest qt p, m.left - qt, some p, m.fills ++ [(e.2.2.number, e.2.2.house, p, qt)], m.gone⟩) hoE SE.li]
                exact hsl.1
        · rintro σ H Q Q' h ⟨v, e1, a, C, dx, fs, v2, e2, e3, e4, e5, e6, i, j, e7, e8, k, e9, q⟩
          refine ⟨v, e1, a, C, dx, fs, v2, e2, e3, e4, e5, e6, i, j, e7, e8, k, e9, ?_⟩
          cases k with
          | false => exact h _ _ q
          | true =>
            obtain ⟨v3, f1, f2, k2, f3, q⟩ := q
            refine ⟨v3, f1, f2, k2, f3, ?_⟩
            cases k2 with
            | false => exact h _ _ q
            | true =>
              obtain ⟨v4, g1, a4, dx4, fs4, g2, g3, g4, v5, g5, a5, C5, dx5, fs5, v6, g6, g7, g8, g9, g10, x6, dx6, o6, p6, g11, g12, c, g13, q⟩ := q
              exact ⟨v4, g1, a4, dx4, fs4, g2, g3, g4, v5, g5, a5, C5, dx5, fs5, v6, g6, g7, g8, g9, g10, x6, dx6, o6, p6, g11, g12, c, g13, h _ _ q⟩
      · rintro σ H3 ⟨_, v6, m, fs, hrun, rfl, hl0, hrank, hmem, hsz3, hr3, ho3, hf3, hg3, hx3, S3, hfn, hfr3⟩
        have ho3' : H3 o = some (.ins T.c_Order dxo [("number", .int t.number), ("house", .str t.house), ("side", .str t.side), ("price", optV t.price), ("shown", .int t.shown), ("left", .int m.left), ("visible", .int t.visible)]) := ho3
        have hr3' := hr3
        unfold repO at hr3'
        walk_at "st"
        dsimp only
        have notE : ∀ {z : Addr} {v : HO}, H z = some v → (∀ y : Ent, v ≠ ordO T.c_Order y.2.1 y.2.2) → z ∉ es.map (·.1) := fun {z v} hz hv hm => by
          obtain ⟨y, hy, e⟩ := List.mem_map.mp hm
          have := E.s1.en y hy
          rw [e, hz] at this
          exact hv y (Option.some.inj this)
        have sep : ∀ {z : Addr} {v : HO}, H z = some v → (∀ y : Ent, v ≠ ordO T.c_Order y.2.1 y.2.2) → v ≠ bookO T.c_Book dx last next sd st → z ≠ l → H3 z = some v := fun {z v} hz hv hb hl => hfr3 z v (notE hz hv) hl (fun e => by rw [e, E.ho] at hz; exact hv (o, dxo, t) (Option.some.inj hz).symm) (fun e => by rw [e, E.ob] at hz; exact hb (Option.some.inj hz).symm) hz
        have S2 : SideAt T.c_Order T.c_BookSide H3 b2 d2 l2 es2 := by
          refine ⟨sep E.s2.ob (fun y z => ?_) (fun z => ?_) (fun z => ?_), sep E.s2.li (fun y z => ?_) (fun z => ?_) E.nll.symm, fun y hy => hfr3 y.1 _ (fun hm => ?_) (fun z => ?_) (E.n2 y hy) (fun z => ?_) (E.s2.en y hy), E.s2.nd, E.s2.sm⟩
          · unfold ordO at z
            injection z with _ _ h3
            exact absurd (congrArg List.length h3) (show ¬ 1 = 7 by decide)
          · unfold bookO at z
            injection z with _ _ h3
            exact absurd (congrArg List.length h3) (show ¬ 1 = 4 by decide)
          · have h1 := E.s2.ob
            rw [z, E.s1.li] at h1
            cases h1
          · unfold ordO at z
            cases z
          · unfold bookO at z
            cases z
          · obtain ⟨y2, hy2, e⟩ := List.mem_map.mp hm
            exact E.dj y2 hy2 y hy e
          · have h1 := E.s2.en y hy
            rw [z, E.s1.li] at h1
            unfold ordO at h1
            cases h1
          · have h1 := E.s2.en y hy
            rw [z, E.ob] at h1
            unfold ordO bookO at h1
            injection h1 with h1
            injection h1 with _ _ h3
            exact absurd (congrArg List.length h3) (show ¬ 4 = 7 by decide)
        have hds : DGet H3 sd (.str t.side) (some (.ref b2)) := by
          obtain ⟨c1, c2, hsd⟩ := E.sdv
          have h1 := sep hsd (fun y z => by unfold ordO sidesO at z; cases z) (fun z => by unfold bookO sidesO at z; cases z) (fun z => by rw [z, E.s1.li] at hsd; unfold sidesO at hsd; cases hsd)
          exact dget_keep E.sds fun v hv => by rw [hsd] at hv; cases hv; exact h1
        have hb2o := S2.ob
        have qn : restsM kind m = false → Q (.ref r) H3 := fun hz => by
          refine qrun hna r dr fl rm fs m H3 hrun nr nfl0 nrm0 (by rw [hz]; exact hr3) hf3 hg3 hx3 S3 ?_ (fun z v h1 h2 _ h4 h5 h6 => hfr3 z v h1 h2 h4 h5 h6)
          rw [hz]
          exact S2
        refine iteB (fun h => ?_) (fun h => ?_)
        · walk_at "st"
          refine iteB (fun h2 => ?_) (fun h2 => ?_)
          · have hrm : restsM kind m = true := by
              unfold restsM
              rw [show decide (V.str kind = V.str "rest") = true from h, show decide (m.left > 0) = true from h2]
              rfl
            obtain ⟨p, hp⟩ := hkp (of_decide_eq_true h)
            walk_at "st"
            refine ⟨es2, { t with left := m.left }, p, rfl, S2, ho3, E.n2, hp, E.r2.mono p, ?_⟩
            obtain ⟨o', eo'⟩ : ∃ o' : Ord, Ord.showNext { t with left := m.left } = o' := ⟨_, rfl⟩
            have hol : o'.left = m.left := by rw [← eo']; rfl
            rw [eo']
            obtain ⟨nb2o, nl2o⟩ := S2.ord_ne ho3
            obtain ⟨nbo, nlo⟩ := S3.ord_ne ho3
            have alr : ∀ {z : Addr} {v : HO}, H z = some v → z ≠ r := fun hz => ne_of_none hz nr
            have nrl2 : r ≠ l2 := (alr E.s2.li).symm
            have nro : r ≠ o := (alr E.ho).symm
            have hl2 := S2.li
            have hoF : upd (upd H3 o (ordO T.c_Order dxo o')) l2 (.lst (refs (insE es2 (place es2 p) (o, dxo, o')))) o = some (.ins T.c_Order dxo [("number", .int o'.number), ("house", .str o'.house), ("side", .str o'.side), ("price", optV o'.price), ("shown", .int o'.shown), ("left", .int o'.left), ("visible", .int o'.visible)]) := (upd_ne nl2o.symm).trans upd_same
            rw [hol] at hoF
            have hrF : upd (upd H3 o (ordO T.c_Order dxo o')) l2 (.lst (refs (insE es2 (place es2 p) (o, dxo, o')))) r = _ := (upd_ne nrl2).trans ((upd_ne nro).trans hr3')
            have neo : ∀ y, y ∈ m.es → y.1 ≠ o := fun y hy => by
              obtain ⟨y2, hy2, hy3⟩ := List.mem_map.mp (hmem y hy)
              rw [← hy3]
              exact E.n1 y2 hy2
            have nel2 : ∀ y, y ∈ m.es → y.1 ≠ l2 := fun y hy z => by
              have := S3.en y hy
              rw [z, hl2] at this
              unfold ordO at this
              cases this
            have ner : ∀ y, y ∈ m.es → y.1 ≠ r := fun y hy => by
              obtain ⟨y2, hy2, hy3⟩ := List.mem_map.mp (hmem y hy)
              rw [← hy3]
              exact alr (E.s1.en y2 hy2)
            have nbl2 : b ≠ l2 := fun z => by
              have := S3.ob
              rw [z, hl2] at this
              cases this
            have nxl2 : x ≠ l2 := fun z => by rw [z, hl2] at hx3; unfold bookO at hx3; cases hx3
            have nxo : x ≠ o := fun z => by
              rw [z, ho3] at hx3
              unfold ordO bookO at hx3
              injection hx3 with hx3
              injection hx3 with _ _ h3
              exact absurd (congrArg List.length h3) (show ¬ 7 = 4 by decide)
            have alf : ∀ {z : Addr} {v : HO}, H z = some v → z ≠ fl := fun hz => ne_of_none hz nfl0
            have alm : ∀ {z : Addr} {v : HO}, H z = some v → z ≠ rm := fun hz => ne_of_none hz nrm0
            have nflr : fl ≠ r := fun z => by have := hf3.lst; rw [z, hr3] at this; unfold repO at this; cases this
            have nrmr : rm ≠ r := fun z => by rw [z, hr3] at hg3; unfold repO at hg3; cases hg3
            have SO := (S2.upd (o := ordO T.c_Order dxo o') nb2o nl2o E.n2).insert (k := place es2 p) (e := (o, dxo, o')) upd_same E.n2 (by omega)
            walk_at "st"
            have eR : HO.ins T.c_Report dr (putF "resting" (.int m.left) [("number", .int t.number), ("house", .str t.house), ("side", .str t.side), ("fills", .ref fl), ("removed", .ref rm), ("resting", .int 0)]) = repO T.c_Report dr t.number t.house t.side fl rm m.left := rfl
            rw [eR]
            have g1 : ∀ {z : Addr} {w : HO}, z ≠ r → z ≠ l2 → z ≠ o → upd (upd (upd H3 o (ordO T.c_Order dxo o')) l2 (.lst (refs (insE es2 (place es2 p) (o, dxo, o'))))) r w z = H3 z := fun h1 h2 h3 => (upd_ne h1).trans ((upd_ne h2).trans (upd_ne h3))
            refine qrun hna r dr fl rm fs m _ hrun nr nfl0 nrm0 (by rw [hrm, if_pos rfl]; exact upd_same) (hf3.frame (g1 nflr (alf E.s2.li).symm (alf E.ho).symm) fun z ys hz => (g1 (fun y => by rw [y, hr3] at hz; unfold repO at hz; cases hz) (fun y => by rw [y, hl2] at hz; cases hz) (fun y => by rw [y, ho3] at hz; unfold ordO at hz; cases hz)).trans hz) ((g1 nrmr (alm E.s2.li).symm (alm E.ho).symm).trans hg3) ((g1 (alr E.ob) nxl2 nxo).trans hx3) (((S3.upd nbo nlo neo).upd nbl2 E.nll nel2).upd (alr E.s1.ob) (alr E.s1.li) ner) ?_ fun z v h1 h2 h3 h4 h5 h6 => (g1 (alr h6) h3 h4).trans (hfr3 z v h1 h2 h4 h5 h6)
            rw [hrm, if_pos rfl, eo', show t.price.getD 0 = p by rw [hp]; rfl]
            refine SO.upd (alr E.s2.ob) (alr E.s2.li) fun y hy => ?_
            rcases insE_mem.mp hy with z | z
            · rw [z]
              exact nro.symm
            · exact alr (E.s2.en y z)
          · walk_at "st"
            exact qn (by unfold restsM; rw [show decide (m.left > 0) = false from h2, Bool.and_false])
        · walk_at "st"
          exact qn (by unfold restsM; rw [show decide (V.str kind = V.str "rest") = false from h]; rfl)

theorem buyS_buy : buyS "buy" = true := by decide +kernel
theorem buyS_sell : buyS "sell" = false := by decide +kernel
/-! ### what an order does to a book -/
structure SubR where
  oth : List Ent
  own : List Ent
  last : Option Int
  fills : List (Int × Str × Int × Int)
  gone : List Int
  rest : Int
def startM (t : Ord) (last : Option Int) (oth : List Ent) : Mt := ⟨oth, t.left, last, [], []⟩
def endM (t : Ord) (last : Option Int) (oth : List Ent) : Mt := runM t (sizeM (startM t last oth)) (startM t last oth)
def heldM (kd : Str) (t : Ord) (oth : List Ent) : Bool := decide (V.str kd = V.str "all") && decide (availM t oth < t.left)
def subF (kd : Str) (t : Ord) (o dxo : Addr) (last : Option Int) (oth own : List Ent) : SubR :=
  if heldM kd t oth = true then ⟨oth, own, last, [], [], 0⟩
  else ⟨(endM t last oth).es, if restsM kd (endM t last oth) = true then insE own (place own (t.price.getD 0)) (o, dxo, Ord.showNext { t with left := (endM t last oth).left }) else own,
    (endM t last oth).last, (endM t last oth).fills, (endM t last oth).gone, if restsM kd (endM t last oth) = true then (endM t last oth).left else 0⟩
theorem tradeF_addr {e y : Ent} {es : List Ent} {n p : Int} (h : y ∈ tradeF e es n p) : y.1 = e.1 ∨ ∃ z, z ∈ es ∧ z.1 = y.1 := by
  rcases tradeF_mem h with z | z
  · exact .inl z
  · exact .inr ⟨y, z, rfl⟩
theorem runM_keeps {s : Str} {t : Ord} : ∀ (k : Nat) {m : Mt}, Rank s m.es → 0 ≤ m.left → Rank s (runM t k m).es ∧ 0 ≤ (runM t k m).left ∧ (runM t k m).left ≤ m.left ∧ ∀ y, y ∈ (runM t k m).es → ∃ e, e ∈ m.es ∧ e.1 = y.1
  | 0, m, hr, h0 => ⟨hr, h0, Int.le_refl _, fun y hy => ⟨y, hy, rfl⟩⟩
  | k + 1, m, hr, h0 => by
    cases h : goesM t m with
    | none =>
      rw [runM_stop h]
      exact ⟨hr, h0, Int.le_refl _, fun y hy => ⟨y, hy, rfl⟩⟩
    | some e =>
      rw [runM_go h]
      have hs := stepM_less hr h
      obtain ⟨h1, h2, h3⟩ := goesM_some h
      have ih := runM_keeps (s := s) (t := t) k (m := stepM t m e) hs.2.2 hs.2.1
      have hl : (stepM t m e).left ≤ m.left := by
        unfold stepM
        split
        · exact Int.le_refl _
        · show m.left - qtyM m e ≤ m.left
          rw [h1] at hr
          have hv := hr.vis e List.mem_cons_self
          unfold qtyM
          split <;> omega
      refine ⟨ih.1, ih.2.1, Int.le_trans ih.2.2.1 hl, fun y hy => ?_⟩
      obtain ⟨z, hz, ez⟩ := ih.2.2.2 y hy
      have hz2 : ∃ e', e' ∈ m.es ∧ e'.1 = z.1 := by
        rw [h1]
        unfold stepM at hz
        split at hz
        · exact ⟨z, List.mem_cons_of_mem _ hz, rfl⟩
        · rcases tradeF_mem hz with q | q
          · exact ⟨e, List.mem_cons_self, q.symm⟩
          · exact ⟨z, List.mem_cons_of_mem _ q, rfl⟩
      obtain ⟨e', he', ee⟩ := hz2
      exact ⟨e', he', ee.trans ez⟩
theorem sub_rank {kd : Str} {t : Ord} {o dxo : Addr} {last : Option Int} {oth own : List Ent} (h1 : Rank (otherS t.side) oth) (h2 : Rank t.side own) (hl : 1 ≤ t.left) (hs : 0 ≤ t.shown) (hkp : V.str kd = V.str "rest" → ∃ p, t.price = some p) :
    Rank (otherS t.side) (subF kd t o dxo last oth own).oth ∧ Rank t.side (subF kd t o dxo last oth own).own ∧ (∀ y, y ∈ (subF kd t o dxo last oth own).oth → ∃ e, e ∈ oth ∧ e.1 = y.1) ∧ ∀ y, y ∈ (subF kd t o dxo last oth own).own → y.1 = o ∨ y ∈ own := by
  unfold subF
  split
  · exact ⟨h1, h2, fun y hy => ⟨y, hy, rfl⟩, fun y hy => .inr hy⟩
  · have k := runM_keeps (t := t) (sizeM (startM t last oth)) (m := startM t last oth) h1 (by show 0 ≤ t.left; omega)
    refine ⟨k.1, ?_, k.2.2.2, ?_⟩
    · split
      · next hr =>
        unfold restsM at hr
        rw [Bool.and_eq_true] at hr
        obtain ⟨p, hp⟩ := hkp (of_decide_eq_true hr.1)
        have hl2 := of_decide_eq_true hr.2
        rw [show t.price.getD 0 = p by rw [hp]; rfl]
        refine h2.insert (p := p) rfl hp ?_
        exact showNext_vis (o := { t with left := (endM t last oth).left }) (by show 1 ≤ (endM t last oth).left; omega) hs
      · exact h2
    · intro y hy
      split at hy
      · rcases insE_mem.mp hy with z | z
        · exact .inl (by rw [z])
        · exact .inr z
      · exact .inr hy
def othE (si : Str) (es1 es2 : List Ent) : List Ent := if buyS si = true then es2 else es1
def ownE (si : Str) (es1 es2 : List Ent) : List Ent := if buyS si = true then es1 else es2

/-! ### stop orders that wait -/
structure Stp where
  number : Int
  house : Str
  side : Str
  trigger : Int
  price : Option Int
  quantity : Int
def stopO (C dx : Addr) (s : Stp) : HO := .ins C dx [("number", .int s.number), ("house", .str s.house), ("side", .str s.side), ("trigger", .int s.trigger), ("price", optV s.price), ("quantity", .int s.quantity)]
abbrev EntS := Addr × Addr × Stp
def refsS (ss : List EntS) : List V := ss.map fun e => V.ref e.1
def entVS : Option EntS → V
  | none => .non
  | some e => .ref e.1
structure StopsAt (CS : Addr) (H : Hp) (st : Addr) (ss : List EntS) : Prop where
  li : H st = some (.lst (refsS ss))
  en : ∀ e, e ∈ ss → H e.1 = some (stopO CS e.2.1 e.2.2)
  nd : (ss.map (·.1)).Nodup
  sm : ss.length ≤ 900
theorem StopsAt.same {CS : Addr} {H H' : Hp} {st : Addr} {ss : List EntS} (S : StopsAt CS H st ss) (e : Same H H') : StopsAt CS H' st ss := ⟨e _ _ S.li, fun y hy => e _ _ (S.en y hy), S.nd, S.sm⟩
def sp_Stop_init (K : PySem.W.Frag) (C : Addr) : Sp := fun vs H Q _ => ∃ (x dx : Addr) (n : Int) (ho si : Str) (tr : Int) (pr : Option Int) (qu : Int), vs = [.ref x, .int n, .str ho, .str si, .int tr, optV pr, .int qu] ∧
  H x = some (.ins C dx []) ∧ Q .non (upd H x (stopO C dx ⟨n, ho, si, tr, pr, qu⟩))
set_option maxHeartbeats 0 in
theorem ok_Stop_init (T : Txt K mg) [TB : TabsOk T base] : FnOk P w K mg base CX0 1 T.f_Stop_init T.d_Stop_init ["self", "number", "house", "side", "trigger", "price", "quantity"] (sp_Stop_init K T.c_Stop) := by
  refine T.F_Stop_init.ok sc_Stop_init (fun vs H Q E h => ?_) (fun cdv A outer s H vs Q E hr h => ?_)
  · obtain ⟨x, dx, n, ho, si, tr, pr, qu, rfl, _⟩ := h
    rfl
  · obtain ⟨x, dx, n, ho, si, tr, pr, qu, rfl, hx, q⟩ := h
    refine ⟨_, (pss_cons (ps_fld (pv 0) (pv 1) rfl)
    (pss_cons (ps_fld (pv 0) (pv 2) rfl)
    (pss_cons (ps_fld (pv 0) (pv 3) rfl)
    (pss_cons (ps_fld (pv 0) (pv 4) rfl)
    (pss_cons (ps_fld (pv 0) (pv 5) rfl)
    (pss_one (ps_fld (pv 0) (pv 6) rfl))))))), ?_⟩
    refine ⟨_, rfl, _, rfl, setF hx T.cl_Stop T.na_Stop_number rfl ?_⟩
    refine ⟨_, rfl, _, rfl, setF upd_same T.cl_Stop T.na_Stop_house rfl ?_⟩
    refine ⟨_, rfl, _, rfl, setF upd_same T.cl_Stop T.na_Stop_side rfl ?_⟩
    refine ⟨_, rfl, _, rfl, setF upd_same T.cl_Stop T.na_Stop_trigger rfl ?_⟩
    refine ⟨_, rfl, _, rfl, setF upd_same T.cl_Stop T.na_Stop_price rfl ?_⟩
    refine ⟨_, rfl, _, rfl, setF upd_same T.cl_Stop T.na_Stop_quantity rfl ?_⟩
    simp only [upd_upd]
    exact q
def reachedS (s : Stp) : Option Int → Bool
  | none => false
  | some p => if buyS s.side = true then decide (s.trigger ≤ p) else decide (p ≤ s.trigger)
def sp_Stop_is_reached (K : PySem.W.Frag) (C : Addr) : Sp := fun vs H Q _ => ∃ (x dx : Addr) (s : Stp) (p : Option Int), vs = [.ref x, optV p] ∧ H x = some (stopO C dx s) ∧ Q (.bl (reachedS s p)) H
set_option maxHeartbeats 0 in
theorem ok_Stop_is_reached (T : Txt K mg) [TB : TabsOk T base] : FnOk P w K mg base CX0 1 T.f_Stop_is_reached T.d_Stop_is_reached ["self", "last"] (sp_Stop_is_reached K T.c_Stop) := by
  refine T.F_Stop_is_reached.ok sc_Stop_is_reached (fun vs H Q E h => ?_) (fun cdv A outer s H vs Q E hr h => ?_)
  · obtain ⟨x, dx, s, p, rfl, _⟩ := h
    rfl
  · obtain ⟨x, dx, s, p, rfl, hx, q⟩ := h
    refine ⟨_, (pss_cons (ps_if (pt_cmpR op_isN (pv 1) pe_non (nomark _))
      (pss_one (ps_ret pe_bl))
      pss_nil)
    (pss_one (ps_ret (pe_ifExp (pt_cmpR op_eq (pe_fld (pv 0) rfl) pe_str (nomark _)) (pe_cmpR op_ge (pv 1) (pe_fld (pv 0) rfl) (nomark _)) (pe_cmpR op_le (pv 1) (pe_fld (pv 0) rfl) (nomark _)))))), ?_⟩
    have fact_Stop_0 := T.cl_Stop; have fact_Stop_1 := T.na_Stop_number; have fact_Stop_2 := T.na_Stop_house; have fact_Stop_3 := T.na_Stop_side; have fact_Stop_4 := T.na_Stop_trigger; have fact_Stop_5 := T.na_Stop_price; have fact_Stop_6 := T.na_Stop_quantity
    unfold stopO at hx
    cases p with
    | none =>
      walk_at "st"
      exact q
    | some p =>
      have e : reachedS s (some p) = if buyS s.side = true then decide (s.trigger ≤ p) else decide (p ≤ s.trigger) := rfl
      rw [e] at q
      walk_at "st"
      refine iteB (fun h => ?_) (fun h => ?_)
      · rw [if_pos (show buyS s.side = true from h)] at q
        walk_at "st"
        exact q
      · rw [if_neg (by rw [show buyS s.side = false from h]; exact Bool.false_ne_true)] at q
        walk_at "st"
        exact q
def rowS (s : Stp) : List V := [.int s.number, .str s.house, .str s.side, .int s.trigger, optV s.price, .int s.quantity]
def sp_Stop_row (K : PySem.W.Frag) (C : Addr) : Sp := fun vs H Q _ => ∃ (x dx : Addr) (s : Stp), vs = [.ref x] ∧ H x = some (stopO C dx s) ∧ ∀ p, H p = none → Q (.ref p) (upd H p (.tup (rowS s)))
set_option maxHeartbeats 0 in
theorem ok_Stop_row (T : Txt K mg) [TB : TabsOk T base] : FnOk P w K mg base CX0 1 T.f_Stop_row T.d_Stop_row ["self"] (sp_Stop_row K T.c_Stop) := by
  refine T.F_Stop_row.ok sc_Stop_row (fun vs H Q E h => ?_) (fun cdv A outer s H vs Q E hr h => ?_)
  · obtain ⟨x, dx, s, rfl, _⟩ := h
    rfl
  · obtain ⟨x, dx, s, rfl, hx, q⟩ := h
    refine ⟨_, (pss_one (ps_ret (pe_tup (pa_cons (pe_fld (pv 0) rfl) (pa_cons (pe_fld (pv 0) rfl) (pa_cons (pe_fld (pv 0) rfl) (pa_cons (pe_fld (pv 0) rfl) (pa_cons (pe_fld (pv 0) rfl) (pa_cons (pe_fld (pv 0) rfl) pa_nil))))))))), ?_⟩
    have fact_Stop_0 := T.cl_Stop; have fact_Stop_1 := T.na_Stop_number; have fact_Stop_2 := T.na_Stop_house; have fact_Stop_3 := T.na_Stop_side; have fact_Stop_4 := T.na_Stop_trigger; have fact_Stop_5 := T.na_Stop_price; have fact_Stop_6 := T.na_Stop_quantity
    unfold stopO at hx
    walk_at "st"
    exact ⟨len_le rfl, q⟩
theorem refsS_at {ss : List EntS} {i : Nat} {x : V} (h : (refsS ss)[i]? = some x) : ∃ e, ss[i]? = some e ∧ x = .ref e.1 := by
  unfold refsS at h
  rw [List.getElem?_map] at h
  cases e : ss[i]? with
  | none => rw [e] at h; cases h
  | some z => rw [e] at h; exact ⟨z, rfl, (Option.some.inj h).symm⟩
def sp_Bookstop_with (K : PySem.W.Frag) (CS CK : Addr) : Sp := fun vs H Q _ => ∃ (x dx sd st : Addr) (last : Option Int) (next : Int) (ss : List EntS) (n : Int), vs = [.ref x, .int n] ∧ H x = some (bookO CK dx last next sd st) ∧ StopsAt CS H st ss ∧
  Q (entVS (ss.find? fun e => decide (e.2.2.number = n))) H
set_option maxHeartbeats 0 in
theorem ok_Bookstop_with (T : Txt K mg) [TB : TabsOk T base] : FnOk P w K mg base CX0 1 T.f_Bookstop_with T.d_Bookstop_with ["self", "number"] (sp_Bookstop_with K T.c_Stop T.c_Book) := by
  refine T.F_Bookstop_with.ok sc_Bookstop_with (fun vs H Q E h => ?_) (fun cdv A outer s H vs Q E hr h => ?_)
  · obtain ⟨x, dx, sd, st, last, next, ss, n, rfl, _⟩ := h
    rfl
  · obtain ⟨x, dx, sd, st, last, next, ss, n, rfl, hob, S, q⟩ := h
    
    refine ⟨_, (pss_cons (ps_for PassesOwn.never rfl (pi_list (pe_fld (pv 0) rfl)) (pg_name (i := 2) sc_Bookstop_with.nd rfl (Or.inl rfl))
      (pss_one (ps_if (pt_cmpR op_eq (pe_fld (pv 2) rfl) (pv 1) (nomark _))
        (pss_one (ps_ret (pv 2)))
        pss_nil)))
    (pss_one (ps_ret pe_non))), ?_⟩
    have fact_Book_0 := T.cl_Book; have fact_Book_1 := T.na_Book_last; have fact_Book_2 := T.na_Book__next_number; have fact_Book_3 := T.na_Book__sides; have fact_Book_4 := T.na_Book__stops; have fact_Stop_0 := T.cl_Stop; have fact_Stop_1 := T.na_Stop_number; have fact_Stop_2 := T.na_Stop_house; have fact_Stop_3 := T.na_Stop_side; have fact_Stop_4 := T.na_Stop_trigger; have fact_Stop_5 := T.na_Stop_price; have fact_Stop_6 := T.na_Stop_quantity
    unfold bookO at hob
    have hst := S.li
    walk_at "st"
    refine for_list (K := K) (a := st) (xs := refsS ss) (fun i σ H' => H' = H ∧ (ss.take i).find? (fun e => decide (e.2.2.number = n)) = none ∧ ∃ v : Option V, σ = [some (.ref x), some (.int n), v]) ⟨rfl, rfl, none, rfl⟩ (fun i σ H' _ ⟨e, _⟩ => by rw [e]; exact SqL.of hst) ?_ ?_
    · rintro i y σ H' hy ⟨rfl, h0, v, rfl⟩
      obtain ⟨e, he, rfl⟩ := refsS_at hy
      have hen := S.en e (List.mem_of_getElem? he)
      unfold stopO at hen
      walk_at "st"
      refine iteB (fun h => ?_) (fun h => ?_)
      · have hn : e.2.2.number = n := V.int.inj (dec_t h)
        rw [find_hit (p := fun e : EntS => decide (e.2.2.number = n)) he h0 (decide_eq_true hn)] at q
        walk_at "st"
        exact q
      · have hn : ¬ e.2.2.number = n := fun z => dec_f h (by rw [z])
        exact ⟨rfl, find_miss (p := fun e : EntS => decide (e.2.2.number = n)) he h0 (decide_eq_false hn), _, rfl⟩
    · rintro σ H' ⟨rfl, h0, v, rfl⟩
      rw [List.take_of_length_le (by unfold refsS; rw [List.length_map]; exact Nat.le_refl _)] at h0
      rw [h0] at q
      walk_at "st"
      exact q
def firstS (last : Option Int) (ss : List EntS) : Option EntS := ss.find? fun e => reachedS e.2.2 last
def sp_Bookfirst_reached (K : PySem.W.Frag) (CS CK : Addr) : Sp := fun vs H Q _ => ∃ (x dx sd st : Addr) (last : Option Int) (next : Int) (ss : List EntS), vs = [.ref x] ∧ H x = some (bookO CK dx last next sd st) ∧ StopsAt CS H st ss ∧ Q (entVS (firstS last ss)) H
set_option maxHeartbeats 0 in
theorem ok_Bookfirst_reached (T : Txt K mg) [TB : TabsOk T base] : FnOk P w K mg base CX0 2 T.f_Bookfirst_reached T.d_Bookfirst_reached ["self"] (sp_Bookfirst_reached K T.c_Stop T.c_Book) := by
  refine T.F_Bookfirst_reached.ok sc_Bookfirst_reached (fun vs H Q E h => ?_) (fun cdv A outer s H vs Q E hr h => ?_)
  · obtain ⟨x, dx, sd, st, last, next, ss, rfl, _⟩ := h
    rfl
  · obtain ⟨x, dx, sd, st, last, next, ss, rfl, hob, S, q⟩ := h
    have G_Stop_is_reached : FnOk P w K mg base CX0 1 T.f_Stop_is_reached T.d_Stop_is_reached ["self", "last"] (sp_Stop_is_reached K T.c_Stop) := ok_Stop_is_reached T
    refine ⟨_, (pss_cons (ps_for PassesOwn.never rfl (pi_list (pe_fld (pv 0) rfl)) (pg_name (i := 1) sc_Bookfirst_reached.nd rfl (Or.inl rfl))
      (pss_one (ps_if (pt_val (pe_meth (pv 1) T.cl_Stop T.mt_Stop_is_reached G_Stop_is_reached hr T.b_Stop_is_reached .nil pass0 (pa_cons (pe_fld (pv 0) rfl) pa_nil)))
        (pss_one (ps_ret (pv 1)))
        pss_nil)))
    (pss_one (ps_ret pe_non))), ?_⟩
    have fact_Book_0 := T.cl_Book; have fact_Book_1 := T.na_Book_last; have fact_Book_2 := T.na_Book__next_number; have fact_Book_3 := T.na_Book__sides; have fact_Book_4 := T.na_Book__stops; have fact_Stop_0 := T.cl_Stop; have fact_Stop_1 := T.na_Stop_number; have fact_Stop_2 := T.na_Stop_house; have fact_Stop_3 := T.na_Stop_side; have fact_Stop_4 := T.na_Stop_trigger; have fact_Stop_5 := T.na_Stop_price; have fact_Stop_6 := T.na_Stop_quantity
    unfold bookO at hob
    have hst := S.li
    walk_at "st"
    refine for_list (K := K) (a := st) (xs := refsS ss) (fun i σ H' => H' = H ∧ firstS last (ss.take i) = none ∧ ∃ v : Option V, σ = [some (.ref x), v]) ⟨rfl, rfl, none, rfl⟩ (fun i σ H' _ ⟨e, _⟩ => by rw [e]; exact SqL.of hst) ?_ ?_
    · rintro i y σ H' hy ⟨rfl, h0, v, rfl⟩
      obtain ⟨e, he, rfl⟩ := refsS_at hy
      have hen := S.en e (List.mem_of_getElem? he)
      have hen2 := hen
      unfold stopO at hen2
      walk_at "st"
      refine ⟨e.2.2, last, rfl, hen, ?_⟩
      walk_at "st"
      refine iteB (fun h => ?_) (fun h => ?_)
      · unfold firstS at q h0
        rw [find_hit (p := fun e : EntS => reachedS e.2.2 last) he h0 h] at q
        walk_at "st"
        exact q
      · exact ⟨rfl, find_miss (p := fun e : EntS => reachedS e.2.2 last) he h0 h, _, rfl⟩
    · rintro σ H' ⟨rfl, h0, v, rfl⟩
      rw [List.take_of_length_le (by unfold refsS; rw [List.length_map]; exact Nat.le_refl _)] at h0
      rw [h0] at q
      walk_at "st"
      exact q
def sp_Book_stops (K : PySem.W.Frag) (CS CK : Addr) : Sp := fun vs H Q _ => ∃ (x dx sd st : Addr) (last : Option Int) (next : Int) (ss : List EntS), vs = [.ref x] ∧ H x = some (bookO CK dx last next sd st) ∧ StopsAt CS H st ss ∧
  ∀ D ps H', Same H H' → H D = none → Tups rowS H' D ps (ss.map fun e => e.2.2) → Q (.ref D) H'
set_option maxHeartbeats 0 in
theorem ok_Book_stops (T : Txt K mg) [TB : TabsOk T base] : FnOk P w K mg base CX0 2 T.f_Book_stops T.d_Book_stops ["self"] (sp_Book_stops K T.c_Stop T.c_Book) := by
  refine T.F_Book_stops.ok sc_Book_stops (fun vs H Q E h => ?_) (fun cdv A outer s H vs Q E hr h => ?_)
  · obtain ⟨x, dx, sd, st, last, next, ss, rfl, _⟩ := h
    rfl
  · obtain ⟨x, dx, sd, st, last, next, ss, rfl, hob, S, q⟩ := h
    have G_Stop_row : FnOk P w K mg base CX0 1 T.f_Stop_row T.d_Stop_row ["self"] (sp_Stop_row K T.c_Stop) := ok_Stop_row T
    refine ⟨_, (pss_one (ps_ret (pe_lc (own := [("stop", 1)]) (g := gName 1) (tt := tYes) rfl sc_Book_stops.nd (pi_list (pe_fld (pv 0) rfl)) (blkOk_by (own := [("stop", 1)]) (N := N_Book_stops) (sc := defScope s_Book_stops) (by decide +kernel)) (fun _ _ _ _ _ => (pg_name (i := 1) sc_Book_stops.nd rfl (Or.inl rfl))) (fun _ _ _ _ _ => pts_nil) (fun _ _ _ _ _ => (pe_meth0 (pv 1) T.cl_Stop T.mt_Stop_row G_Stop_row hr T.b_Stop_row .nil pass0))))), ?_⟩
    have fact_Book_0 := T.cl_Book; have fact_Book_1 := T.na_Book_last; have fact_Book_2 := T.na_Book__next_number; have fact_Book_3 := T.na_Book__sides; have fact_Book_4 := T.na_Book__stops; have fact_Stop_0 := T.cl_Stop; have fact_Stop_1 := T.na_Stop_number; have fact_Stop_2 := T.na_Stop_house; have fact_Stop_3 := T.na_Stop_side; have fact_Stop_4 := T.na_Stop_trigger; have fact_Stop_5 := T.na_Stop_price; have fact_Stop_6 := T.na_Stop_quantity
    unfold bookO at hob
    have hst := S.li
    have hsm := S.sm
    have lenR : (refsS ss).length = ss.length := List.length_map ..
    walk_at "st"
    intro D nD
    refine lc_list (K := K) (a := st) (xs := refsS ss) (fun i H' => ∃ ps : List Addr, Tups rowS H' D ps ((ss.take i).map fun e => e.2.2) ∧ Same H H')
      ⟨[], Tups.nil upd_same, same_upd nD⟩ (fun i H' _ ⟨_, _, e⟩ => e.seq (SqL.of hst)) ?_ ?_
    · rintro i y H' hy ⟨ps, hT, sa⟩
      obtain ⟨e, he, rfl⟩ := refsS_at hy
      have hi := (List.getElem?_eq_some_iff.mp he).1
      have hen := sa _ _ (S.en e (List.mem_of_getElem? he))
      have hen2 := hen
      unfold stopO at hen2
      refine ⟨rfl, ?_⟩
      walk_at "st"
      refine ⟨e.2.2, rfl, hen, fun p np => ?_⟩
      have sp := same_upd (o := .tup (rowS e.2.2)) np
      have hp : upd H' p (.tup (rowS e.2.2)) p = some (.tup (rowS e.2.2)) := upd_same
      generalize upd H' p _ = H2 at *
      refine ⟨_, sp _ _ hT.lst, small1000 (by have := hT.len; rw [List.length_map, List.length_take] at this; rw [List.length_map]; omega), ps ++ [p], ?_, fun b' o' z => ?_⟩
      · rw [take_succ he, List.map_append]
        exact hT.push sp np hp
      · rw [upd_ne (fun e' => by rw [e', nD] at z; cases z)]
        exact sp _ _ (sa _ _ z)
    · rintro H' ⟨ps, hT, sa⟩
      rw [lenR, List.take_of_length_le (Nat.le_refl _)] at hT
      exact q D ps H' sa nD hT

/-! ### a book with stop orders that wait -/
structure BA where
  x : Addr
  dx : Addr
  sd : Addr
  st : Addr
  b1 : Addr
  d1 : Addr
  l1 : Addr
  b2 : Addr
  d2 : Addr
  l2 : Addr
structure BC where
  CO : Addr
  CB : Addr
  CK : Addr
  CS : Addr
  CR : Addr
structure BS where
  last : Option Int
  next : Int
  es1 : List Ent
  es2 : List Ent
  ss : List EntS
structure BookW (C : BC) (H : Hp) (a : BA) (s : BS) : Prop where
  ob : H a.x = some (bookO C.CK a.dx s.last s.next a.sd a.st)
  sd : H a.sd = some (sidesO a.b1 a.b2)
  sp : StopsAt C.CS H a.st s.ss
  s1 : SideAt C.CO C.CB H a.b1 a.d1 a.l1 s.es1
  s2 : SideAt C.CO C.CB H a.b2 a.d2 a.l2 s.es2
  r1 : Rank "buy" s.es1
  r2 : Rank "sell" s.es2
  dj : ∀ e, e ∈ s.es1 → ∀ y, y ∈ s.es2 → e.1 ≠ y.1
  nll : a.l1 ≠ a.l2
  n1 : a.st ≠ a.l1
  n2 : a.st ≠ a.l2
  gs : ∀ e, e ∈ s.ss → (e.2.2.side = "buy" ∨ e.2.2.side = "sell") ∧ 1 ≤ e.2.2.quantity ∧ e.2.2.quantity ≤ 1000000
  sz : s.es1.length + s.es2.length + s.ss.length ≤ 900
/-- what a book's commands may write -/
def foot (a : BA) (s : BS) : List Addr := [a.x, a.l1, a.l2, a.st] ++ (s.es1.map (·.1) ++ s.es2.map (·.1))
theorem foot_iff {a : BA} {s : BS} {z : Addr} : z ∈ foot a s ↔ z = a.x ∨ z = a.l1 ∨ z = a.l2 ∨ z = a.st ∨ z ∈ s.es1.map (·.1) ∨ z ∈ s.es2.map (·.1) := by
  unfold foot
  rw [List.mem_append, List.mem_append]
  simp only [List.mem_cons, List.not_mem_nil, or_false, or_assoc]
/-- the kinds of object that a command may write -/
def Mov (v : HO) : Prop := (∃ xs, v = .lst xs) ∨ ∃ C dx fs, v = .ins C dx fs ∧ (fs.length = 7 ∨ fs.length = 4)
theorem BookW.kind {C : BC} {H : Hp} {a : BA} {s : BS} (B : BookW C H a s) {z : Addr} (h : z ∈ foot a s) : ∃ v, H z = some v ∧ Mov v := by
  rcases foot_iff.mp h with rfl | rfl | rfl | rfl | h | h
  · exact ⟨_, B.ob, .inr ⟨_, _, _, rfl, .inr rfl⟩⟩
  · exact ⟨_, B.s1.li, .inl ⟨_, rfl⟩⟩
  · exact ⟨_, B.s2.li, .inl ⟨_, rfl⟩⟩
  · exact ⟨_, B.sp.li, .inl ⟨_, rfl⟩⟩
  · obtain ⟨e, he, rfl⟩ := List.mem_map.mp h
    exact ⟨_, B.s1.en e he, .inr ⟨_, _, _, rfl, .inl rfl⟩⟩
  · obtain ⟨e, he, rfl⟩ := List.mem_map.mp h
    exact ⟨_, B.s2.en e he, .inr ⟨_, _, _, rfl, .inl rfl⟩⟩
theorem BookW.out {C : BC} {H : Hp} {a : BA} {s : BS} (B : BookW C H a s) {z : Addr} {v : HO} (h : H z = some v) (hv : ¬ Mov v) : z ∉ foot a s := fun hz => by
  obtain ⟨w, hw, m⟩ := B.kind hz
  rw [h] at hw
  cases hw
  exact hv m
theorem BookW.fresh {C : BC} {H : Hp} {a : BA} {s : BS} (B : BookW C H a s) {z : Addr} (h : H z = none) : z ∉ foot a s := fun hz => by
  obtain ⟨w, hw, m⟩ := B.kind hz
  rw [h] at hw
  cases hw
theorem nomov_tup (xs : List V) : ¬ Mov (.tup xs) := fun h => by
  rcases h with ⟨_, h⟩ | ⟨_, _, _, h, _⟩ <;> cases h
theorem nomov_rep {C dx : Addr} {n : Int} {ho si : Str} {fl rm : Addr} {rest : Int} : ¬ Mov (repO C dx n ho si fl rm rest) := fun h => by
  rcases h with ⟨_, h⟩ | ⟨_, _, _, h, e⟩
  · unfold repO at h
    cases h
  · unfold repO at h
    cases h
    simp only [List.length_cons, List.length_nil] at e
    omega
theorem nomov_stop {C dx : Addr} {s : Stp} : ¬ Mov (stopO C dx s) := fun h => by
  rcases h with ⟨_, h⟩ | ⟨_, _, _, h, e⟩
  · unfold stopO at h
    cases h
  · unfold stopO at h
    cases h
    simp only [List.length_cons, List.length_nil] at e
    omega
theorem nomov_sides {b1 b2 : Addr} : ¬ Mov (sidesO b1 b2) := fun h => by
  unfold sidesO at h
  rcases h with ⟨_, h⟩ | ⟨_, _, _, h, e⟩ <;> cases h
theorem nomov_side {C dx l : Addr} : ¬ Mov (.ins C dx [("_orders", .ref l)]) := fun h => by
  rcases h with ⟨_, h⟩ | ⟨_, _, _, h, e⟩
  · cases h
  · cases h
    simp only [List.length_cons, List.length_nil] at e
    omega
/-- one command, or a part of one: what else stands is kept, what is new in its reach was nothing before -/
structure StepW (a : BA) (s s' : BS) (H H' : Hp) : Prop where
  fr : ∀ z v, z ∉ foot a s → H z = some v → H' z = some v
  nw : ∀ z, z ∈ foot a s' → z ∈ foot a s ∨ H z = none
theorem StepW.refl {a : BA} {s : BS} {H : Hp} : StepW a s s H H := ⟨fun _ _ _ h => h, fun _ h => .inl h⟩
theorem StepW.trans {a : BA} {s s1 s2 : BS} {H H1 H2 : Hp} (p : StepW a s s1 H H1) (q : StepW a s1 s2 H1 H2) : StepW a s s2 H H2 := by
  refine ⟨fun z v hz h => q.fr z v (fun m => ?_) (p.fr z v hz h), fun z hz => ?_⟩
  · rcases p.nw z m with k | k
    · exact hz k
    · rw [h] at k; cases k
  · rcases q.nw z hz with k | k
    · exact p.nw z k
    · by_cases hm : z ∈ foot a s
      · exact .inl hm
      · refine .inr ?_
        cases e : H z with
        | none => rfl
        | some v => rw [p.fr z v hm e] at k; cases k
theorem StepW.pre {a : BA} {s s' : BS} {H H1 H' : Hp} (e : Same H H1) (p : StepW a s s' H1 H') : StepW a s s' H H' := by
  refine ⟨fun z v hz h => p.fr z v hz (e _ _ h), fun z hz => ?_⟩
  rcases p.nw z hz with k | k
  · exact .inl k
  · refine .inr ?_
    cases h : H z with
    | none => rfl
    | some v => rw [e _ _ h] at k; cases k
theorem StepW.post {a : BA} {s s' : BS} {H H1 H' : Hp} (p : StepW a s s' H H1) (e : Same H1 H') : StepW a s s' H H' := ⟨fun z v hz h => e _ _ (p.fr z v hz h), p.nw⟩
theorem StepW.out {a : BA} {s s' : BS} {H H' : Hp} (p : StepW a s s' H H') {z : Addr} {v : HO} (h : H z = some v) (hz : z ∉ foot a s) : z ∉ foot a s' := fun m => by
  rcases p.nw z m with k | k
  · exact hz k
  · rw [h] at k; cases k
theorem BookW.same {C : BC} {H H' : Hp} {a : BA} {s : BS} (B : BookW C H a s) (e : Same H H') : BookW C H' a s :=
  ⟨e _ _ B.ob, e _ _ B.sd, B.sp.same e, B.s1.same e, B.s2.same e, B.r1, B.r2, B.dj, B.nll, B.n1, B.n2, B.gs, B.sz⟩
structure RepT where
  number : Int
  house : Str
  side : Str
  fills : List (Int × Str × Int × Int)
  gone : List Int
  rest : Int
/-- a report, out of the reach F of a book -/
def RepAt (CR : Addr) (H : Hp) (F : List Addr) (r : Addr) (t : RepT) : Prop := ∃ (dr fl rm : Addr) (fs : List Addr), H r = some (repO CR dr t.number t.house t.side fl rm t.rest) ∧ Tups encFill H fl fs t.fills ∧ H rm = some (.lst (t.gone.map V.int)) ∧ fl ∉ F ∧ rm ∉ F
theorem RepAt.same {CR : Addr} {H H' : Hp} {F : List Addr} {r : Addr} {t : RepT} (R : RepAt CR H F r t) (e : Same H H') : RepAt CR H' F r t := by
  obtain ⟨dr, fl, rm, fs, h1, h2, h3, h4, h5⟩ := R
  exact ⟨dr, fl, rm, fs, e _ _ h1, h2.same e, e _ _ h3, h4, h5⟩
theorem RepAt.step {C : BC} {H H' : Hp} {a : BA} {s s' : BS} {r : Addr} {t : RepT} (R : RepAt C.CR H (foot a s) r t) (B : BookW C H a s) (p : StepW a s s' H H') : RepAt C.CR H' (foot a s') r t := by
  obtain ⟨dr, fl, rm, fs, h1, h2, h3, h4, h5⟩ := R
  refine ⟨dr, fl, rm, fs, p.fr _ _ (B.out h1 nomov_rep) h1, ⟨p.fr _ _ h4 h2.lst, h2.len, fun i q x hq hx => ?_⟩, p.fr _ _ h5 h3, p.out h2.lst h4, p.out h3 h5⟩
  have := h2.row i q x hq hx
  exact p.fr _ _ (B.out this (nomov_tup _)) this
theorem RepAt.mono {CR : Addr} {H : Hp} {F F' : List Addr} {r : Addr} {t : RepT} (R : RepAt CR H F r t) (h : ∀ z, z ∈ F' → z ∈ F ∨ ∃ v, H z = some v ∧ ∀ xs, v ≠ .lst xs) : RepAt CR H F' r t := by
  obtain ⟨dr, fl, rm, fs, h1, h2, h3, h4, h5⟩ := R
  refine ⟨dr, fl, rm, fs, h1, h2, h3, fun m => ?_, fun m => ?_⟩
  · rcases h _ m with k | ⟨v, k, n⟩
    · exact h4 k
    · rw [h2.lst] at k; cases k; exact n _ rfl
  · rcases h _ m with k | ⟨v, k, n⟩
    · exact h5 k
    · rw [h3] at k; cases k; exact n _ rfl
theorem RepAt.stepD {C : BC} {H H' : Hp} {a : BA} {s s' : BS} {D r : Addr} {t : RepT} (R : RepAt C.CR H (D :: foot a s) r t) (B : BookW C H a s) (p : StepW a s s' H H') : RepAt C.CR H' (D :: foot a s') r t := by
  obtain ⟨dr, fl, rm, fs, h1, h2, h3, h4, h5⟩ := R
  have g4 := List.not_mem_of_not_mem_cons h4
  have g5 := List.not_mem_of_not_mem_cons h5
  refine ⟨dr, fl, rm, fs, p.fr _ _ (B.out h1 nomov_rep) h1, ⟨p.fr _ _ g4 h2.lst, h2.len, fun i q x hq hx => ?_⟩, p.fr _ _ g5 h3, fun m => ?_, fun m => ?_⟩
  · have := h2.row i q x hq hx
    exact p.fr _ _ (B.out this (nomov_tup _)) this
  · rcases List.mem_cons.mp m with k | k
    · exact h4 (k ▸ List.mem_cons_self)
    · exact p.out h2.lst g4 k
  · rcases List.mem_cons.mp m with k | k
    · exact h5 (k ▸ List.mem_cons_self)
    · exact p.out h3 g5 k
/-- a list of ours outside of the report is written -/
theorem RepAt.write {CR : Addr} {H : Hp} {F : List Addr} {D r : Addr} {t : RepT} {xs ys : List V} (R : RepAt CR H F r t) (hD : H D = some (.lst xs)) (m : D ∈ F) : RepAt CR (upd H D (.lst ys)) F r t := by
  obtain ⟨dr, fl, rm, fs, h1, h2, h3, h4, h5⟩ := R
  have ne : ∀ {z v}, H z = some v → (∀ xs, v ≠ .lst xs) → z ≠ D := fun {z v} h hv e => by
    rw [e, hD] at h
    cases h
    exact hv _ rfl
  refine ⟨dr, fl, rm, fs, (upd_ne (ne h1 fun xs h => by unfold repO at h; cases h)).trans h1, ⟨(upd_ne fun e => h4 (by rw [e]; exact m)).trans h2.lst, h2.len, fun i q x hq hx => ?_⟩, (upd_ne fun e => h5 (by rw [e]; exact m)).trans h3, h4, h5⟩
  have := h2.row i q x hq hx
  exact (upd_ne (ne this fun xs h => by cases h)).trans this
theorem BookW.write {C : BC} {H : Hp} {a : BA} {s : BS} {D : Addr} {xs ys : List V} (B : BookW C H a s) (hD : H D = some (.lst xs)) (m : D ∉ foot a s) : BookW C (upd H D (.lst ys)) a s := by
  have ne : ∀ {z v}, H z = some v → (∀ xs, v ≠ .lst xs) → z ≠ D := fun {z v} h hv e => by
    rw [e, hD] at h
    cases h
    exact hv _ rfl
  have nf : ∀ {z}, z ∈ foot a s → z ≠ D := fun {z} hz e => m (e ▸ hz)
  have ns : a.st ≠ D := nf (foot_iff.mpr (.inr (.inr (.inr (.inl rfl)))))
  have n1 : a.l1 ≠ D := nf (foot_iff.mpr (.inr (.inl rfl)))
  have n2 : a.l2 ≠ D := nf (foot_iff.mpr (.inr (.inr (.inl rfl))))
  refine ⟨(upd_ne (nf (foot_iff.mpr (.inl rfl)))).trans B.ob, (upd_ne (ne B.sd fun xs h => by unfold sidesO at h; cases h)).trans B.sd, ⟨(upd_ne ns).trans B.sp.li, fun e he => (upd_ne (ne (B.sp.en e he) fun xs h => by unfold stopO at h; cases h)).trans (B.sp.en e he), B.sp.nd, B.sp.sm⟩,
    B.s1.upd (ne B.s1.ob fun xs h => by cases h) n1 (fun e he => ne (B.s1.en e he) fun xs h => by unfold ordO at h; cases h), B.s2.upd (ne B.s2.ob fun xs h => by cases h) n2 (fun e he => ne (B.s2.en e he) fun xs h => by unfold ordO at h; cases h), B.r1, B.r2, B.dj, B.nll, B.n1, B.n2, B.gs, B.sz⟩
/-- an order enters: the book behind it and its report -/
def enterB (s : BS) (o dxo : Addr) (t : Ord) (kd : Str) : BS × RepT :=
  (⟨(subF kd t o dxo s.last (othE t.side s.es1 s.es2) (ownE t.side s.es1 s.es2)).last, s.next,
    if buyS t.side = true then (subF kd t o dxo s.last (othE t.side s.es1 s.es2) (ownE t.side s.es1 s.es2)).own else (subF kd t o dxo s.last (othE t.side s.es1 s.es2) (ownE t.side s.es1 s.es2)).oth,
    if buyS t.side = true then (subF kd t o dxo s.last (othE t.side s.es1 s.es2) (ownE t.side s.es1 s.es2)).oth else (subF kd t o dxo s.last (othE t.side s.es1 s.es2) (ownE t.side s.es1 s.es2)).own, s.ss⟩,
   ⟨t.number, t.house, t.side, (subF kd t o dxo s.last (othE t.side s.es1 s.es2) (ownE t.side s.es1 s.es2)).fills, (subF kd t o dxo s.last (othE t.side s.es1 s.es2) (ownE t.side s.es1 s.es2)).gone, (subF kd t o dxo s.last (othE t.side s.es1 s.es2) (ownE t.side s.es1 s.es2)).rest⟩)
theorem runM_len {s : Str} {t : Ord} : ∀ (k : Nat) {m : Mt}, Rank s m.es → (runM t k m).es.length ≤ m.es.length
  | 0, m, _ => Nat.le_refl _
  | k + 1, m, hr => by
    cases h : goesM t m with
    | none => rw [runM_stop h]; exact Nat.le_refl _
    | some e =>
      rw [runM_go h]
      have hs := stepM_less hr h
      have ih := runM_len (s := s) (t := t) k (m := stepM t m e) hs.2.2
      obtain ⟨h1, _, _⟩ := goesM_some h
      have hl : m.es.length = m.es.tail.length + 1 := by rw [h1]; rfl
      have : (stepM t m e).es.length ≤ m.es.length := by
        unfold stepM
        split
        · show m.es.tail.length ≤ _
          omega
        · have := tradeF_len e m.es.tail (qtyM m e) (prcE e)
          show (tradeF e m.es.tail (qtyM m e) (prcE e)).length ≤ _
          omega
      omega
theorem sub_len {kd : Str} {t : Ord} {o dxo : Addr} {last : Option Int} {oth own : List Ent} (hr : Rank (otherS t.side) oth) : (subF kd t o dxo last oth own).oth.length + (subF kd t o dxo last oth own).own.length ≤ oth.length + own.length + 1 := by
  unfold subF
  split
  · show oth.length + own.length ≤ _
    omega
  · have h1 : (endM t last oth).es.length ≤ oth.length := runM_len (s := otherS t.side) _ (m := startM t last oth) hr
    dsimp only
    split
    · rw [(insE_perm _ _ _).length_eq, List.length_cons]
      omega
    · omega

def EnterQW (C : BC) (H : Hp) (a : BA) (s : BS) (o dxo : Addr) (t : Ord) (kd : Str) (Q : VK) : Prop := ∀ (r : Addr) (H' : Hp), H r = none → (∀ F : List Addr, (∀ z, z ∈ F → z ∈ foot a (enterB s o dxo t kd).1 ∨ ∃ v, H z = some v) → RepAt C.CR H' F r (enterB s o dxo t kd).2) → BookW C H' a (enterB s o dxo t kd).1 →
  (∀ z v, z ∉ foot a s → z ≠ o → H z = some v → H' z = some v) → (∀ z, z ∈ foot a (enterB s o dxo t kd).1 → z ∈ foot a s ∨ z = o) → Q (.ref r) H'
theorem enter_w {C : BC} {H : Hp} {a : BA} {s : BS} {o dxo : Addr} {t : Ord} {kd : Str} {Q} {E} (B : BookW C H a s) (hs : t.side = "buy" ∨ t.side = "sell") (ho : H o = some (ordO C.CO dxo t)) (no : o ∉ foot a s)
    (g6 : 1 ≤ t.left) (g6b : t.left ≤ 1000000) (g7 : 0 ≤ t.shown) (hkp : V.str kd = V.str "rest" → ∃ p, t.price = some p) (hsz : s.es1.length + s.es2.length + s.ss.length ≤ 899)
    (q : EnterQW C H a s o dxo t kd Q) : sp_Bookenter K C.CO C.CB C.CK C.CR [.ref a.x, .ref o, .str kd] H Q E := by
  have n1 : ∀ e, e ∈ s.es1 → e.1 ≠ o := fun e he z => no (foot_iff.mpr (.inr (.inr (.inr (.inr (.inl (List.mem_map.mpr ⟨e, he, z⟩)))))))
  have n2 : ∀ e, e ∈ s.es2 → e.1 ≠ o := fun e he z => no (foot_iff.mpr (.inr (.inr (.inr (.inr (.inr (List.mem_map.mpr ⟨e, he, z⟩)))))))
  have key : ∀ (r dr fl rm : Addr) (fs : List Addr) (H' : Hp), H r = none → H fl = none → H rm = none → H' r = some (repO C.CR dr t.number t.house t.side fl rm (enterB s o dxo t kd).2.rest) → Tups encFill H' fl fs (enterB s o dxo t kd).2.fills → H' rm = some (.lst ((enterB s o dxo t kd).2.gone.map V.int)) →
      H' a.x = some (bookO C.CK a.dx (enterB s o dxo t kd).1.last s.next a.sd a.st) → SideAt C.CO C.CB H' a.b1 a.d1 a.l1 (enterB s o dxo t kd).1.es1 → SideAt C.CO C.CB H' a.b2 a.d2 a.l2 (enterB s o dxo t kd).1.es2 → Rank "buy" (enterB s o dxo t kd).1.es1 → Rank "sell" (enterB s o dxo t kd).1.es2 →
      (∀ z v, z ∉ foot a s → z ≠ o → H z = some v → H' z = some v) → H' a.st = H a.st →
      (∀ y, y ∈ (enterB s o dxo t kd).1.es1 → y.1 = o ∨ y.1 ∈ s.es1.map (·.1)) → (∀ y, y ∈ (enterB s o dxo t kd).1.es2 → y.1 = o ∨ y.1 ∈ s.es2.map (·.1)) → (o ∉ (enterB s o dxo t kd).1.es1.map (·.1) ∨ o ∉ (enterB s o dxo t kd).1.es2.map (·.1)) →
      (enterB s o dxo t kd).1.es1.length + (enterB s o dxo t kd).1.es2.length ≤ s.es1.length + s.es2.length + 1 → Q (.ref r) H' := by
    intro r dr fl rm fs H' nr nfl nrm hr hf hg hx h1 h2 k1 k2 fr hst m1 m2 mo hl
    have sdo : a.sd ≠ o := fun z => by have h1 := B.sd; rw [z, ho] at h1; unfold ordO sidesO at h1; cases h1
    have nw : ∀ z, z ∈ foot a (enterB s o dxo t kd).1 → z ∈ foot a s ∨ z = o := fun z hz => by
      rcases foot_iff.mp hz with e | e | e | e | e | e
      · exact .inl (foot_iff.mpr (.inl e))
      · exact .inl (foot_iff.mpr (.inr (.inl e)))
      · exact .inl (foot_iff.mpr (.inr (.inr (.inl e))))
      · exact .inl (foot_iff.mpr (.inr (.inr (.inr (.inl e)))))
      · obtain ⟨y, hy, rfl⟩ := List.mem_map.mp e
        rcases m1 y hy with k | k
        · exact .inr k
        · exact .inl (foot_iff.mpr (.inr (.inr (.inr (.inr (.inl k))))))
      · obtain ⟨y, hy, rfl⟩ := List.mem_map.mp e
        rcases m2 y hy with k | k
        · exact .inr k
        · exact .inl (foot_iff.mpr (.inr (.inr (.inr (.inr (.inr k))))))
    have frs : ∀ {z v}, H z = some v → ¬ Mov v → H' z = some v := fun {z v} hz hv => fr z v (B.out hz hv) (fun e => by
      rw [e, ho] at hz
      cases hz
      exact hv (.inr ⟨_, _, _, rfl, .inl rfl⟩)) hz
    have nf : ∀ {z}, H z = none → z ∉ foot a (enterB s o dxo t kd).1 := fun {z} hz m => by
      rcases nw z m with k | k
      · exact B.fresh hz k
      · rw [k, ho] at hz; cases hz
    refine q r H' nr (fun F hF => ⟨dr, fl, rm, fs, hr, hf, hg, fun m => ?_, fun m => ?_⟩) ?_ fr nw
    · rcases hF _ m with k | ⟨v, k⟩
      · exact nf nfl k
      · rw [nfl] at k; cases k
    · rcases hF _ m with k | ⟨v, k⟩
      · exact nf nrm k
      · rw [nrm] at k; cases k
    refine ⟨hx, frs B.sd nomov_sides, ⟨hst.trans B.sp.li, fun e he => frs (B.sp.en e he) nomov_stop, B.sp.nd, B.sp.sm⟩, h1, h2, k1, k2, ?_, B.nll, B.n1, B.n2, B.gs, ?_⟩
    · intro e he y hy z
      rcases m1 e he with c | c
      · rcases m2 y hy with d | d
        · rcases mo with g | g
          · exact g (List.mem_map.mpr ⟨e, he, c⟩)
          · exact g (List.mem_map.mpr ⟨y, hy, d⟩)
        · obtain ⟨y2, hy2, ey⟩ := List.mem_map.mp d
          exact n2 y2 hy2 (ey.trans (z.symm.trans c))
      · obtain ⟨e2, he2, ee⟩ := List.mem_map.mp c
        rcases m2 y hy with d | d
        · exact n1 e2 he2 (ee.trans (z.trans d))
        · obtain ⟨y2, hy2, ey⟩ := List.mem_map.mp d
          exact B.dj e2 he2 y2 hy2 (ee.trans (z.trans ey.symm))
    · show (enterB s o dxo t kd).1.es1.length + (enterB s o dxo t kd).1.es2.length + s.ss.length ≤ 900
      omega
  have footN : ∀ {z}, z ∉ foot a s → z ≠ a.x ∧ z ≠ a.l1 ∧ z ≠ a.l2 ∧ z ≠ a.st ∧ z ∉ s.es1.map (·.1) ∧ z ∉ s.es2.map (·.1) := fun {z} hz => by
    refine ⟨fun e => hz (foot_iff.mpr (.inl e)), fun e => hz (foot_iff.mpr (.inr (.inl e))), fun e => hz (foot_iff.mpr (.inr (.inr (.inl e)))), fun e => hz (foot_iff.mpr (.inr (.inr (.inr (.inl e))))), fun e => hz (foot_iff.mpr (.inr (.inr (.inr (.inr (.inl e)))))), fun e => hz (foot_iff.mpr (.inr (.inr (.inr (.inr (.inr e))))))⟩
  have sto : a.st ≠ o := fun z => no (foot_iff.mpr (.inr (.inr (.inr (.inl z.symm)))))
  have stx : a.st ≠ a.x := fun z => by have h1 := B.sp.li; rw [z, B.ob] at h1; unfold bookO at h1; cases h1
  have stE : a.st ∉ s.es1.map (·.1) ∧ a.st ∉ s.es2.map (·.1) := by
    refine ⟨fun h => ?_, fun h => ?_⟩
    · obtain ⟨e, he, z⟩ := List.mem_map.mp h
      have h1 := B.s1.en e he
      rw [z, B.sp.li] at h1
      unfold ordO at h1
      cases h1
    · obtain ⟨e, he, z⟩ := List.mem_map.mp h
      have h1 := B.s2.en e he
      rw [z, B.sp.li] at h1
      unfold ordO at h1
      cases h1
  rcases hs with hs | hs
  · have hoth : othE t.side s.es1 s.es2 = s.es2 := by rw [hs]; exact if_pos buyS_buy
    have hown : ownE t.side s.es1 s.es2 = s.es1 := by rw [hs]; exact if_pos buyS_buy
    have hb : buyS t.side = true := by rw [hs]; exact buyS_buy
    have hos : otherS t.side = "sell" := by rw [hs]; exact if_pos buyS_buy
    have hrk := sub_rank (kd := kd) (t := t) (o := o) (dxo := dxo) (last := s.last) (oth := s.es2) (own := s.es1) (by rw [hos]; exact B.r2) (by rw [hs]; exact B.r1) g6 g7 hkp
    have hln := sub_len (kd := kd) (t := t) (o := o) (dxo := dxo) (last := s.last) (oth := s.es2) (own := s.es1) (by rw [hos]; exact B.r2)
    unfold enterB at key
    simp only [hoth, hown, if_pos hb] at key
    obtain ⟨k1, k2, k3, k4⟩ := hrk
    rw [hos] at k1
    rw [hs] at k2
    have m1 : ∀ y, y ∈ (subF kd t o dxo s.last s.es2 s.es1).own → y.1 = o ∨ y.1 ∈ s.es1.map (·.1) := fun y hy => (k4 y hy).imp id fun h => List.mem_map.mpr ⟨y, h, rfl⟩
    have m2 : ∀ y, y ∈ (subF kd t o dxo s.last s.es2 s.es1).oth → y.1 = o ∨ y.1 ∈ s.es2.map (·.1) := fun y hy => by
      obtain ⟨e, he, ee⟩ := k3 y hy
      exact .inr (List.mem_map.mpr ⟨e, he, ee⟩)
    have mo : o ∉ (subF kd t o dxo s.last s.es2 s.es1).oth.map (·.1) := fun h => by
      obtain ⟨y, hy, z⟩ := List.mem_map.mp h
      obtain ⟨e, he, ee⟩ := k3 y hy
      exact n2 e he (ee.trans z)
    refine ⟨(), a.x, a.dx, a.sd, a.st, a.b2, a.d2, a.l2, a.b1, a.d1, a.l1, o, dxo, s.last, s.next, s.es2, s.es1, t, kd, rfl, ?_, hkp, by omega, g6b, ?_, ?_⟩
    · refine ⟨B.ob, ?_, ?_, B.s2, B.s1, ?_, ?_, ho, n2, n1, g6, g7, fun e he y hy z => B.dj y hy e he z.symm, B.nll.symm, ⟨_, _, B.sd⟩⟩
      · rw [hos]; exact sides_sell B.sd
      · rw [hs]; exact sides_buy B.sd
      · rw [hos]; exact B.r2
      · rw [hs]; exact B.r1
    · intro hk ha r dr fl rm H3 e3 nr nfl nrm hr hfl hrm
      have hheld : heldM kd t s.es2 = true := by
        unfold heldM
        rw [decide_eq_true hk, decide_eq_true ha]
        rfl
      have hR : subF kd t o dxo s.last s.es2 s.es1 = ⟨s.es2, s.es1, s.last, [], [], 0⟩ := if_pos hheld
      rw [hR] at key hln k1 k2 m1 m2 mo
      exact key r dr fl rm [] H3 nr nfl nrm hr ⟨hfl, rfl, fun i p x h => by cases h⟩ hrm (e3 _ _ B.ob) (B.s1.same e3) (B.s2.same e3) k2 k1 (fun z v _ _ h => e3 _ _ h) ((e3 _ _ B.sp.li).trans B.sp.li.symm) m1 m2 (.inr mo) (by dsimp only at hln ⊢; omega)
    · intro hk r dr fl rm fs m H3 hm nr nfl nrm hr hfl hrm hx3 hs1 hs2 hfr
      have hheld : ¬ heldM kd t s.es2 = true := fun z => by
        unfold heldM at z
        rw [Bool.and_eq_true] at z
        exact hk ⟨of_decide_eq_true z.1, of_decide_eq_true z.2⟩
      have hR : subF kd t o dxo s.last s.es2 s.es1 = ⟨m.es, if restsM kd m = true then insE s.es1 (place s.es1 (t.price.getD 0)) (o, dxo, Ord.showNext { t with left := m.left }) else s.es1, m.last, m.fills, m.gone, if restsM kd m = true then m.left else 0⟩ := by
        rw [hm]
        exact if_neg hheld
      rw [hR] at key hln k1 k2 m1 m2 mo
      exact key r dr fl rm fs H3 nr nfl nrm hr hfl hrm hx3 hs2 hs1 k2 k1 (fun z v hz h7 h => by
        obtain ⟨f1, f2, f3, f4, f5, f6⟩ := footN hz
        exact hfr z v f6 f3 f2 h7 f1 h) ((hfr _ _ stE.2 B.n2 B.n1 sto stx B.sp.li).trans B.sp.li.symm) m1 m2 (.inr mo) (by dsimp only at hln ⊢; omega)
  · have hb : ¬ buyS t.side = true := by rw [hs, buyS_sell]; exact Bool.false_ne_true
    have hoth : othE t.side s.es1 s.es2 = s.es1 := if_neg hb
    have hown : ownE t.side s.es1 s.es2 = s.es2 := if_neg hb
    have hos : otherS t.side = "buy" := if_neg hb
    have hrk := sub_rank (kd := kd) (t := t) (o := o) (dxo := dxo) (last := s.last) (oth := s.es1) (own := s.es2) (by rw [hos]; exact B.r1) (by rw [hs]; exact B.r2) g6 g7 hkp
    have hln := sub_len (kd := kd) (t := t) (o := o) (dxo := dxo) (last := s.last) (oth := s.es1) (own := s.es2) (by rw [hos]; exact B.r1)
    unfold enterB at key
    simp only [hoth, hown, if_neg hb] at key
    obtain ⟨k1, k2, k3, k4⟩ := hrk
    rw [hos] at k1
    rw [hs] at k2
    have m2 : ∀ y, y ∈ (subF kd t o dxo s.last s.es1 s.es2).own → y.1 = o ∨ y.1 ∈ s.es2.map (·.1) := fun y hy => (k4 y hy).imp id fun h => List.mem_map.mpr ⟨y, h, rfl⟩
    have m1 : ∀ y, y ∈ (subF kd t o dxo s.last s.es1 s.es2).oth → y.1 = o ∨ y.1 ∈ s.es1.map (·.1) := fun y hy => by
      obtain ⟨e, he, ee⟩ := k3 y hy
      exact .inr (List.mem_map.mpr ⟨e, he, ee⟩)
    have mo : o ∉ (subF kd t o dxo s.last s.es1 s.es2).oth.map (·.1) := fun h => by
      obtain ⟨y, hy, z⟩ := List.mem_map.mp h
      obtain ⟨e, he, ee⟩ := k3 y hy
      exact n1 e he (ee.trans z)
    refine ⟨(), a.x, a.dx, a.sd, a.st, a.b1, a.d1, a.l1, a.b2, a.d2, a.l2, o, dxo, s.last, s.next, s.es1, s.es2, t, kd, rfl, ?_, hkp, by omega, g6b, ?_, ?_⟩
    · refine ⟨B.ob, ?_, ?_, B.s1, B.s2, ?_, ?_, ho, n1, n2, g6, g7, B.dj, B.nll, ⟨_, _, B.sd⟩⟩
      · rw [hos]; exact sides_buy B.sd
      · rw [hs]; exact sides_sell B.sd
      · rw [hos]; exact B.r1
      · rw [hs]; exact B.r2
    · intro hk ha r dr fl rm H3 e3 nr nfl nrm hr hfl hrm
      have hheld : heldM kd t s.es1 = true := by
        unfold heldM
        rw [decide_eq_true hk, decide_eq_true ha]
        rfl
      have hR : subF kd t o dxo s.last s.es1 s.es2 = ⟨s.es1, s.es2, s.last, [], [], 0⟩ := if_pos hheld
      rw [hR] at key hln k1 k2 m1 m2 mo
      exact key r dr fl rm [] H3 nr nfl nrm hr ⟨hfl, rfl, fun i p x h => by cases h⟩ hrm (e3 _ _ B.ob) (B.s1.same e3) (B.s2.same e3) k1 k2 (fun z v _ _ h => e3 _ _ h) ((e3 _ _ B.sp.li).trans B.sp.li.symm) m1 m2 (.inl mo) (by dsimp only at hln ⊢; omega)
    · intro hk r dr fl rm fs m H3 hm nr nfl nrm hr hfl hrm hx3 hs1 hs2 hfr
      have hheld : ¬ heldM kd t s.es1 = true := fun z => by
        unfold heldM at z
        rw [Bool.and_eq_true] at z
        exact hk ⟨of_decide_eq_true z.1, of_decide_eq_true z.2⟩
      have hR : subF kd t o dxo s.last s.es1 s.es2 = ⟨m.es, if restsM kd m = true then insE s.es2 (place s.es2 (t.price.getD 0)) (o, dxo, Ord.showNext { t with left := m.left }) else s.es2, m.last, m.fills, m.gone, if restsM kd m = true then m.left else 0⟩ := by
        rw [hm]
        exact if_neg hheld
      rw [hR] at key hln k1 k2 m1 m2 mo
      exact key r dr fl rm fs H3 nr nfl nrm hr hfl hrm hx3 hs1 hs2 k1 k2 (fun z v hz h7 h => by
        obtain ⟨f1, f2, f3, f4, f5, f6⟩ := footN hz
        exact hfr z v f5 f2 f3 h7 f1 h) ((hfr _ _ stE.1 B.n1 B.n2 sto stx B.sp.li).trans B.sp.li.symm) m1 m2 (.inl mo) (by dsimp only at hln ⊢; omega)

/-! ### the stop orders that are reached enter, one at a time -/
def ordS (e : Stp) : Ord := ⟨e.number, e.house, e.side, e.price, 0, e.quantity, 0⟩
def kdS (e : Stp) : Str := match e.price with
  | none => "now"
  | some _ => "rest"
def dropS (a : Addr) (ss : List EntS) : List EntS := ss.filter fun y => decide (y.1 ≠ a)
def offS (s : BS) (a : Addr) : BS := { s with ss := dropS a s.ss }
inductive TrigS : BS → BS → List RepT → Prop
  | nil (s : BS) : TrigS s s []
  | snoc {s s1 : BS} {reps : List RepT} {e : EntS} (o dxo : Addr) : TrigS s s1 reps → firstS s1.last s1.ss = some e → TrigS s (enterB (offS s1 e.1) o dxo (ordS e.2.2) (kdS e.2.2)).1 (reps ++ [(enterB (offS s1 e.1) o dxo (ordS e.2.2) (kdS e.2.2)).2])
theorem refsS_map (ss : List EntS) : refsS ss = (ss.map (·.1)).map V.ref := by
  unfold refsS
  rw [List.map_map]
  rfl
theorem eraseS {a : Addr} {ss : List EntS} (nd : (ss.map (·.1)).Nodup) : (ss.map (·.1)).erase a = (dropS a ss).map (·.1) := by
  rw [nd.erase_eq_filter, List.filter_map]
  unfold dropS
  congr 1
  refine List.filter_congr fun y _ => ?_
  show (y.1 != a) = decide (y.1 ≠ a)
  by_cases h : y.1 = a <;> simp [h]
theorem BookW.put {C : BC} {H : Hp} {a : BA} {s : BS} (B : BookW C H a s) {ss : List EntS} (en : ∀ e, e ∈ ss → H e.1 = some (stopO C.CS e.2.1 e.2.2)) (nd : (ss.map (·.1)).Nodup)
    (gs : ∀ e, e ∈ ss → (e.2.2.side = "buy" ∨ e.2.2.side = "sell") ∧ 1 ≤ e.2.2.quantity ∧ e.2.2.quantity ≤ 1000000) (sz : s.es1.length + s.es2.length + ss.length ≤ 900) : BookW C (upd H a.st (.lst (refsS ss))) a { s with ss := ss } := by
  have hl := B.sp.li
  have ne : ∀ {z v}, H z = some v → (∀ xs, v ≠ .lst xs) → z ≠ a.st := fun {z v} h hv e => by
    rw [e, hl] at h
    cases h
    exact hv _ rfl
  have hx : a.x ≠ a.st := ne B.ob fun xs h => by unfold bookO at h; cases h
  have hs : a.sd ≠ a.st := ne B.sd fun xs h => by unfold sidesO at h; cases h
  have hb1 : a.b1 ≠ a.st := ne B.s1.ob fun xs h => by cases h
  have hb2 : a.b2 ≠ a.st := ne B.s2.ob fun xs h => by cases h
  refine ⟨(upd_ne hx).trans B.ob, (upd_ne hs).trans B.sd, ⟨upd_same, fun e he => (upd_ne (ne (en e he) fun xs h => by unfold stopO at h; cases h)).trans (en e he), nd, by dsimp only at sz ⊢; omega⟩, B.s1.upd hb1 B.n1.symm (fun e he => ne (B.s1.en e he) fun xs h => by unfold ordO at h; cases h),
    B.s2.upd hb2 B.n2.symm (fun e he => ne (B.s2.en e he) fun xs h => by unfold ordO at h; cases h), B.r1, B.r2, B.dj, B.nll, B.n1, B.n2, gs, sz⟩
theorem StepW.put {a : BA} {s : BS} {H : Hp} {ss : List EntS} {v : HO} : StepW a s { s with ss := ss } H (upd H a.st v) :=
  ⟨fun z w hz h => (upd_ne fun e => hz (foot_iff.mpr (.inr (.inr (.inr (.inl e)))))).trans h, fun z hz => .inl hz⟩
theorem dropS_mem {a : Addr} {ss : List EntS} {y : EntS} (h : y ∈ dropS a ss) : y ∈ ss := (List.mem_filter.mp h).1
theorem dropS_len {e : EntS} {ss : List EntS} (h : e ∈ ss) : (dropS e.1 ss).length + 1 ≤ ss.length := by
  have h1 := List.length_filter_lt_length_iff_exists (p := fun y : EntS => decide (y.1 ≠ e.1)) (l := ss) |>.mpr ⟨e, h, by simp⟩
  exact h1
theorem dropS_eq {e : EntS} {ss : List EntS} (nd : (ss.map (·.1)).Nodup) (h : e ∈ ss) : (dropS e.1 ss).length + 1 = ss.length := by
  have h1 := eraseS (a := e.1) nd
  have h2 := congrArg List.length h1
  rw [List.length_erase_of_mem (List.mem_map.mpr ⟨e, h, rfl⟩), List.length_map, List.length_map] at h2
  have h3 := List.length_pos_of_mem h
  omega
theorem BookW.off {C : BC} {H : Hp} {a : BA} {s : BS} (B : BookW C H a s) {e : EntS} (h : e ∈ s.ss) : BookW C (upd H a.st (.lst (refsS (dropS e.1 s.ss)))) a (offS s e.1) :=
  B.put (fun y hy => B.sp.en y (dropS_mem hy)) ((List.filter_sublist.map _).nodup B.sp.nd) (fun y hy => B.gs y (dropS_mem hy)) (by have := dropS_len h; have := B.sz; omega)
/-- a list of reports -/
def RepsAt (CR : Addr) (H : Hp) (F : List Addr) (D : Addr) (reps : List RepT) : Prop := ∃ rs : List Addr, H D = some (.lst (rs.map V.ref)) ∧ D ∉ F ∧ rs.length = reps.length ∧ ∀ (i : Nat) (r : Addr) (t : RepT), rs[i]? = some r → reps[i]? = some t → RepAt CR H (D :: F) r t
theorem RepsAt.step {C : BC} {H H' : Hp} {a : BA} {s s' : BS} {D : Addr} {reps : List RepT} (R : RepsAt C.CR H (foot a s) D reps) (B : BookW C H a s) (p : StepW a s s' H H') : RepsAt C.CR H' (foot a s') D reps := by
  obtain ⟨rs, h1, h2, h3, h4⟩ := R
  exact ⟨rs, p.fr _ _ h2 h1, p.out h1 h2, h3, fun i r t hr ht => (h4 i r t hr ht).stepD B p⟩
theorem RepAt.stepX {C : BC} {H H' : Hp} {a : BA} {s s' : BS} {D r : Addr} {X : List Addr} {t : RepT} (R : RepAt C.CR H (D :: (X ++ foot a s)) r t) (B : BookW C H a s) (p : StepW a s s' H H') : RepAt C.CR H' (D :: (X ++ foot a s')) r t := by
  obtain ⟨dr, fl, rm, fs, h1, h2, h3, h4, h5⟩ := R
  have out : ∀ {z : Addr}, z ∉ D :: (X ++ foot a s) → z ≠ D ∧ z ∉ X ∧ z ∉ foot a s := fun h => ⟨fun e => h (by rw [e]; exact List.mem_cons_self), fun e => h (List.mem_cons_of_mem _ (List.mem_append_left _ e)), fun e => h (List.mem_cons_of_mem _ (List.mem_append_right _ e))⟩
  have back : ∀ {z : Addr} {v : HO}, H z = some v → z ∉ D :: (X ++ foot a s) → z ∉ D :: (X ++ foot a s') := fun {z v} hz h m => by
    obtain ⟨o1, o2, o3⟩ := out h
    rcases List.mem_cons.mp m with k | k
    · exact o1 k
    · rcases List.mem_append.mp k with k | k
      · exact o2 k
      · exact p.out hz o3 k
  refine ⟨dr, fl, rm, fs, p.fr _ _ (B.out h1 nomov_rep) h1, ⟨p.fr _ _ (out h4).2.2 h2.lst, h2.len, fun i q x hq hx => ?_⟩, p.fr _ _ (out h5).2.2 h3, back h2.lst h4, back h3 h5⟩
  have := h2.row i q x hq hx
  exact p.fr _ _ (B.out this (nomov_tup _)) this
/-- lists of others, out of the book's reach -/
def Others (H : Hp) (a : BA) (s : BS) (X : List Addr) : Prop := ∀ z, z ∈ X → z ∉ foot a s ∧ ∃ v, H z = some v
theorem Others.step {a : BA} {s s' : BS} {H H' : Hp} {X : List Addr} (h : Others H a s X) (p : StepW a s s' H H') : Others H' a s' X := fun z hz => by
  obtain ⟨h1, v, h2⟩ := h z hz
  exact ⟨p.out h2 h1, v, p.fr z v h1 h2⟩
theorem RepAt.stepY {C : BC} {H H' : Hp} {a : BA} {s s' : BS} {r : Addr} {X : List Addr} {t : RepT} (R : RepAt C.CR H (X ++ foot a s) r t) (B : BookW C H a s) (p : StepW a s s' H H') : RepAt C.CR H' (X ++ foot a s') r t := by
  cases X with
  | nil => exact RepAt.step R B p
  | cons D X => exact RepAt.stepX R B p
theorem Others.new {H : Hp} {a : BA} {s : BS} {X : List Addr} {z : Addr} (h : Others H a s X) (n : H z = none) (f : z ∉ foot a s) : z ∉ X ++ foot a s := fun m => by
  rcases List.mem_append.mp m with k | k
  · obtain ⟨v, hv⟩ := (h z k).2
    rw [n] at hv
    cases hv
  · exact f k
theorem reps_snoc {CR : Addr} {H : Hp} {F : List Addr} {r : Addr} {reps : List RepT} {rs : List Addr} {t : RepT} (h3 : rs.length = reps.length) (h4 : ∀ (i : Nat) (r : Addr) (t : RepT), rs[i]? = some r → reps[i]? = some t → RepAt CR H F r t) (hr : RepAt CR H F r t) :
    (rs ++ [r]).length = (reps ++ [t]).length ∧ ∀ (i : Nat) (q : Addr) (y : RepT), (rs ++ [r])[i]? = some q → (reps ++ [t])[i]? = some y → RepAt CR H F q y := by
  refine ⟨?_, fun i q y hq hy => ?_⟩
  · rw [List.length_append, List.length_append, h3]
    rfl
  · by_cases hi : i < rs.length
    · rw [List.getElem?_append_left hi] at hq
      rw [List.getElem?_append_left (by omega)] at hy
      exact h4 i q y hq hy
    · rw [List.getElem?_append_right (by omega)] at hq
      rw [List.getElem?_append_right (by omega)] at hy
      have h5 := (List.getElem?_eq_some_iff.mp hq).1
      rw [List.length_singleton] at h5
      have e0 : i - rs.length = 0 := by omega
      have e1 : i - reps.length = 0 := by omega
      rw [e0] at hq
      rw [e1] at hy
      cases hq
      cases hy
      exact hr
def lenL (H : Hp) (l : Addr) : Nat := match H l with
  | some (.lst xs) => xs.length
  | _ => 0
theorem lenL_eq {H : Hp} {l : Addr} {xs : List V} (h : H l = some (.lst xs)) : lenL H l = xs.length := by
  unfold lenL
  rw [h]
theorem firstS_mem {last : Option Int} {ss : List EntS} {e : EntS} (h : firstS last ss = some e) : e ∈ ss ∧ reachedS e.2.2 last = true := ⟨List.mem_of_find?_eq_some h, List.find?_some (p := fun e : EntS => reachedS e.2.2 last) h⟩
def sp_Booktrigger_stops (K : PySem.W.Frag) (CO CB CK CS CR : Addr) : Sp := fun vs H Q _ => ∃ (_ : Unit) (a : BA) (s : BS) (X : List Addr), vs = [.ref a.x] ∧ BookW ⟨CO, CB, CK, CS, CR⟩ H a s ∧ Others H a s X ∧
  ∀ s' reps D H', TrigS s s' reps → firstS s'.last s'.ss = none → BookW ⟨CO, CB, CK, CS, CR⟩ H' a s' → StepW a s s' H H' → H D = none → RepsAt CR H' (X ++ foot a s') D reps → Q (.ref D) H'
set_option maxHeartbeats 0 in
theorem ok_Booktrigger_stops (T : Txt K mg) [TB : TabsOk T base] : FnOk P w K mg base CX0 7 T.f_Booktrigger_stops T.d_Booktrigger_stops ["self"] (sp_Booktrigger_stops K T.c_Order T.c_BookSide T.c_Book T.c_Stop T.c_Report) := by
  refine T.F_Booktrigger_stops.ok sc_Booktrigger_stops (fun vs H Q E h => ?_) (fun cdv A outer s H vs Q E hr h => ?_)
  · obtain ⟨_, a, s, X, rfl, _⟩ := h
    rfl
  · obtain ⟨_, a, s, X, rfl, B, hX, q⟩ := h
    have G_Bookfirst_reached : FnOk P w K mg base CX0 2 T.f_Bookfirst_reached T.d_Bookfirst_reached ["self"] (sp_Bookfirst_reached K T.c_Stop T.c_Book) := ok_Bookfirst_reached T
    have G_Order_init : FnOk P w K mg base CX0 1 T.f_Order_init T.d_Order_init ["self", "number", "house", "side", "price", "quantity", "shown"] (sp_Order_init K T.c_Order) := ok_Order_init T
    have G_Bookenter : FnOk P w K mg base CX0 6 T.f_Bookenter T.d_Bookenter ["self", "order", "kind"] (sp_Bookenter K T.c_Order T.c_BookSide T.c_Book T.c_Report) := ok_Bookenter T
    refine ⟨_, (pss_cons (ps_set (i := 1) sc_Booktrigger_stops.nd rfl (Or.inl rfl) (pe_lst pa_nil))
    (pss_cons (ps_set (i := 2) sc_Booktrigger_stops.nd rfl (Or.inl rfl) (pe_meth0 (pv 0) T.cl_Book T.mt_Bookfirst_reached G_Bookfirst_reached (hr.mono (by decide)) T.b_Bookfirst_reached .nil pass0))
    (pss_cons (ps_while PassesOwn.never (pt_cmpR op_notN (pv 2) pe_non (nomark _))
      (pss_cons (ps_expr (pe_bm PySem.F.plainAttrs_list PySem.F.slot_list_remove PySem.F.type_list_remove (mt_removeO hr T.eq_Stop T.mo_Stop) (pe_fld (pv 0) rfl) (pa_cons (pv 2) pa_nil)))
      (pss_cons (ps_set (i := 3) sc_Booktrigger_stops.nd rfl (Or.inl rfl) (pe_ifExp (pt_cmpR op_isN (pe_fld (pv 2) rfl) pe_non (nomark _)) pe_str pe_str))
      (pss_cons (ps_set (i := 4) sc_Booktrigger_stops.nd rfl (Or.inl rfl) (pe_make T.mk_Order G_Order_init (hr.mono (by decide)) (by rfl) T.m_Order T.b_Order_init .nil pass0 (pa_cons (pe_fld (pv 2) rfl) (pa_cons (pe_fld (pv 2) rfl) (pa_cons (pe_fld (pv 2) rfl) (pa_cons (pe_fld (pv 2) rfl) (pa_cons (pe_fld (pv 2) rfl) (pa_cons pe_int pa_nil))))))))
      (pss_cons (ps_expr (pe_bm PySem.F.plainAttrs_list PySem.F.slot_list_append PySem.F.type_list_append mt_append (pv 1) (pa_cons (pe_meth (pv 0) T.cl_Book T.mt_Bookenter G_Bookenter hr T.b_Bookenter .nil pass0 (pa_cons (pv 4) (pa_cons (pv 3) pa_nil))) pa_nil)))
      (pss_one (ps_set (i := 2) sc_Booktrigger_stops.nd rfl (Or.inl rfl) (pe_meth0 (pv 0) T.cl_Book T.mt_Bookfirst_reached G_Bookfirst_reached (hr.mono (by decide)) T.b_Bookfirst_reached .nil pass0))))))))
    (pss_one (ps_ret (pv 1)))))), ?_⟩
    have fact_BookSide_0 := T.cl_BookSide; have fact_BookSide_1 := T.na_BookSide__orders; have fact_Book_0 := T.cl_Book; have fact_Book_1 := T.na_Book_last; have fact_Book_2 := T.na_Book__next_number; have fact_Book_3 := T.na_Book__sides; have fact_Book_4 := T.na_Book__stops; have fact_Order_0 := T.cl_Order; have fact_Order_1 := T.na_Order_number; have fact_Order_2 := T.na_Order_house; have fact_Order_3 := T.na_Order_side; have fact_Order_4 := T.na_Order_price; have fact_Order_5 := T.na_Order_shown; have fact_Order_6 := T.na_Order_left; have fact_Order_7 := T.na_Order_visible; have fact_Report_0 := T.cl_Report; have fact_Report_1 := T.na_Report_number; have fact_Report_2 := T.na_Report_house; have fact_Report_3 := T.na_Report_side; have fact_Report_4 := T.na_Report_fills; have fact_Report_5 := T.na_Report_removed; have fact_Report_6 := T.na_Report_resting; have fact_Stop_0 := T.cl_Stop; have fact_Stop_1 := T.na_Stop_number; have fact_Stop_2 := T.na_Stop_house; have fact_Stop_3 := T.na_Stop_side; have fact_Stop_4 := T.na_Stop_trigger; have fact_Stop_5 := T.na_Stop_price; have fact_Stop_6 := T.na_Stop_quantity
    have hob := B.ob
    unfold bookO at hob
    walk_at "st"
    intro D nD
    have sD := same_upd (o := .lst []) nD
    have hD : upd H D (.lst []) D = some (.lst []) := upd_same
    have fD := B.fresh nD
    have B1 := B.same sD
    have st1 : StepW a s s H (upd H D (.lst [])) := StepW.refl.post sD
    generalize upd H D _ = H1 at *
    have hob1 := B1.ob
    unfold bookO at hob1
    walk_at "st"
    refine ⟨s.last, s.next, s.ss, rfl, B1.ob, B1.sp, ?_⟩
    refine while_by (fun σ H' => ∃ (_ : Unit) (v3 v4 : Option V) (s' : BS) (reps : List RepT) (rs : List Addr), σ = [some (.ref a.x), some (.ref D), some (entVS (firstS s'.last s'.ss)), v3, v4] ∧ TrigS s s' reps ∧ BookW ⟨T.c_Order, T.c_BookSide, T.c_Book, T.c_Stop, T.c_Report⟩ H' a s' ∧ StepW a s s' H H' ∧
        H' D = some (.lst (rs.map V.ref)) ∧ D ∉ foot a s' ∧ rs.length = reps.length ∧ (∀ (i : Nat) (r : Addr) (t : RepT), rs[i]? = some r → reps[i]? = some t → RepAt T.c_Report H' (D :: (X ++ foot a s')) r t) ∧ rs.length + s'.ss.length = s.ss.length)
      (fun _ H' => lenL H' a.st) ⟨(), none, none, s, [], [], rfl, .nil s, B1, st1, hD, fD, rfl, (fun i r t h => by rw [List.getElem?_nil] at h; cases h), by rw [List.length_nil]; omega⟩ ?_ ?_
    · rintro σ H2 ⟨_, v3, v4, s', reps, rs, rfl, hT, B2, S2, hD2, fD2, hlr, hreps, hsum⟩
      cases hf : firstS s'.last s'.ss with
      | none =>
        walk_at "st"
        exact q s' reps D H2 hT hf B2 S2 nD ⟨rs, hD2, fun m => (List.mem_append.mp m).elim (fun k => (by obtain ⟨v, hv⟩ := (hX D k).2; rw [nD] at hv; cases hv)) fD2, hlr, hreps⟩
      | some e =>
        obtain ⟨hmem, hreach⟩ := firstS_mem hf
        have hen := B2.sp.en e hmem
        have hen2 := hen
        unfold stopO at hen2
        have hob2 := B2.ob
        unfold bookO at hob2
        have hst2 := B2.sp.li
        walk_at "st"
        refine ⟨s'.ss.map (·.1), rfl, rfl, by rw [← refsS_map]; exact hst2, List.mem_map.mpr ⟨e, hmem, rfl⟩, fun b hb => ?_, ?_⟩
        · obtain ⟨y, hy, rfl⟩ := List.mem_map.mp hb
          exact ⟨_, _, B2.sp.en y hy⟩
        rw [eraseS B2.sp.nd, ← refsS_map]
        have B3 := B2.off hmem
        have S3 : StepW a s (offS s' e.1) H (upd H2 a.st (.lst (refsS (dropS e.1 s'.ss)))) := S2.trans StepW.put
        have nest : e.1 ≠ a.st := fun z => by rw [z, hst2] at hen; unfold stopO at hen; cases hen
        have hen3 : upd H2 a.st (.lst (refsS (dropS e.1 s'.ss))) e.1 = some (stopO T.c_Stop e.2.1 e.2.2) := (upd_ne nest).trans hen
        have hD3 : upd H2 a.st (.lst (refsS (dropS e.1 s'.ss))) D = some (.lst (rs.map V.ref)) := (upd_ne fun z => fD2 (foot_iff.mpr (.inr (.inr (.inr (.inl z)))))).trans hD2
        have hr3 : ∀ (i : Nat) (r : Addr) (t : RepT), rs[i]? = some r → reps[i]? = some t → RepAt T.c_Report (upd H2 a.st (.lst (refsS (dropS e.1 s'.ss)))) (D :: (X ++ foot a (offS s' e.1))) r t := fun i r t h1 h2 => (hreps i r t h1 h2).stepX B2 StepW.put
        have fD3 : D ∉ foot a (offS s' e.1) := fD2
        have hlen : (dropS e.1 s'.ss).length + 1 ≤ s'.ss.length := dropS_len hmem
        have hgs := B2.gs e hmem
        generalize hH3 : upd H2 a.st _ = H3 at B3 S3 hen3 hD3 hr3
        have hen4 := hen3
        unfold stopO at hen4
        have hob3 := B3.ob
        unfold bookO at hob3
        have hkk : ∀ {kv : Str}, kv = kdS e.2.2 → V.str kv = V.str "rest" → ∃ p, e.2.2.price = some p := fun {kv} hk h => by
          rw [hk] at h
          unfold kdS at h
          split at h
          · exact absurd h (by decide +kernel)
          · next p hp => exact ⟨p, hp⟩
        obtain ⟨pr, hp⟩ : ∃ pr, e.2.2.price = pr := ⟨_, rfl⟩
        cases pr
        all_goals
          simp only [hp, optV] at hen4
          first
            | (have hkd : ("now" : Str) = kdS e.2.2 := by unfold kdS; rw [hp])
            | (have hkd : ("rest" : Str) = kdS e.2.2 := by unfold kdS; rw [hp])
          walk_at "st"
          intro o dxo no ndo hne
          have no' : upd H3 dxo (.own o) o = none := by
            first
              | (rw [upd_ne hne]; exact no)
              | (rw [upd_ne (Ne.symm hne)]; exact no)
          refine ⟨o, dxo, e.2.2.number, e.2.2.house, e.2.2.side, e.2.2.price, e.2.2.quantity, 0, by rw [hp]; rfl, upd_same, ?_⟩
          rw [upd_upd]
          refine ⟨rfl, ?_⟩
          have so2 : ∀ v, Same H3 (upd (upd H3 dxo (.own o)) o v) := fun v => (same_upd ndo).trans (same_upd no')
          generalize hH4 : upd (upd H3 dxo _) o _ = H4
          have s4 : Same H3 H4 := hH4 ▸ so2 _
          have hoo : H4 o = some (ordO T.c_Order dxo (ordS e.2.2)) := (congrFun hH4 o).symm.trans upd_same
          have B4 := B3.same s4
          have hD4 := s4 _ _ hD3
          have hob4 := s4 _ _ hob3
          walk_at "st"
          rw [hkd]
          have hsz := B2.sz
          delta tNil
          refine enter_w (K := K) (E := E0) (C := ⟨T.c_Order, T.c_BookSide, T.c_Book, T.c_Stop, T.c_Report⟩) (a := a) (s := offS s' e.1) (dxo := dxo) (t := ordS e.2.2) (kd := kdS e.2.2) B4 hgs.1 hoo (B3.fresh no) hgs.2.1 hgs.2.2 (Int.le_refl 0) (hkk rfl) (by show s'.es1.length + s'.es2.length + (dropS e.1 s'.ss).length ≤ 899; omega) ?_
          intro r H5 nr hR B5 fr5 nw5
          have noD : D ≠ o := fun z => by rw [z, no] at hD3; cases hD3
          have hD5 := fr5 _ _ fD3 noD hD4
          have p45 : StepW a (offS s' e.1) (enterB (offS s' e.1) o dxo (ordS e.2.2) (kdS e.2.2)).1 H3 H5 := by
            refine ⟨fun z v hz h => fr5 z v hz (fun q => by rw [q, no] at h; cases h) (s4 _ _ h), fun z hz => ?_⟩
            rcases nw5 z hz with k | k
            · exact .inl k
            · exact .inr (by rw [k]; exact no)
          have fD5 := p45.out hD3 fD3
          have hlen5 : (rs.map V.ref).length < sizeLine := small1000 (by rw [List.length_map]; have := B.sp.sm; omega)
          have hrep5 : ∀ (i : Nat) (q : Addr) (y : RepT), rs[i]? = some q → reps[i]? = some y → RepAt T.c_Report H5 (D :: (X ++ foot a (enterB (offS s' e.1) o dxo (ordS e.2.2) (kdS e.2.2)).1)) q y := fun i q y h1 h2 => (hr3 i q y h1 h2).stepX (C := ⟨T.c_Order, T.c_BookSide, T.c_Book, T.c_Stop, T.c_Report⟩) B3 p45
          have hnew := hR (D :: (X ++ foot a (enterB (offS s' e.1) o dxo (ordS e.2.2) (kdS e.2.2)).1)) fun z hz => by
            rcases List.mem_cons.mp hz with k | k
            · exact .inr ⟨_, k ▸ hD4⟩
            · rcases List.mem_append.mp k with k | k
              · obtain ⟨v, hv⟩ := ((hX.step S3) z k).2
                exact .inr ⟨v, s4 _ _ hv⟩
              · exact .inl k
          have B6 := B5.write (ys := rs.map V.ref ++ [.ref r]) hD5 fD5
          have hob6 := B6.ob
          have hob7 := hob6
          unfold bookO at hob7
          obtain ⟨hl6, hrep6⟩ := reps_snoc hlr hrep5 hnew
          have hrep7 : ∀ (i : Nat) (q : Addr) (y : RepT), (rs ++ [r])[i]? = some q → (reps ++ [(enterB (offS s' e.1) o dxo (ordS e.2.2) (kdS e.2.2)).2])[i]? = some y → RepAt T.c_Report (upd H5 D (.lst (rs.map V.ref ++ [.ref r]))) (D :: (X ++ foot a (enterB (offS s' e.1) o dxo (ordS e.2.2) (kdS e.2.2)).1)) q y := fun i q y h1 h2 => (hrep6 i q y h1 h2).write hD5 List.mem_cons_self
          have p46 : StepW a (offS s' e.1) (enterB (offS s' e.1) o dxo (ordS e.2.2) (kdS e.2.2)).1 H3 H5 := p45
          have S5 := S3.trans p45
          have S6 : StepW a s (enterB (offS s' e.1) o dxo (ordS e.2.2) (kdS e.2.2)).1 H (upd H5 D (.lst (rs.map V.ref ++ [.ref r]))) :=
            ⟨fun z v hz h => (upd_ne (fun q => by rw [q, nD] at h; cases h)).trans (S5.fr z v hz h), S5.nw⟩
          have hst6 : lenL (upd H5 D (.lst (rs.map V.ref ++ [.ref r]))) a.st < lenL H2 a.st := by
            rw [lenL_eq B6.sp.li, lenL_eq hst2]
            unfold refsS
            rw [List.length_map, List.length_map]
            exact hlen
          walk_at "st"
          refine ⟨_, _, _, rfl, hob6, B6.sp, ?_⟩
          refine ⟨⟨(), _, _, _, _, rs ++ [r], rfl, .snoc o dxo hT hf, B6, S6, ?_, fD5, hl6, hrep7, ?_⟩, hst6⟩
          · rw [upd_same, List.map_append]
            rfl
          · rw [List.length_append, List.length_singleton]
            show rs.length + 1 + (dropS e.1 s'.ss).length = s.ss.length
            have hd : (dropS e.1 s'.ss).length + 1 = s'.ss.length := dropS_eq B2.sp.nd hmem
            omega
    · rintro σ H Q Q' h ⟨v, e1, k, b, e2, q⟩
      exact ⟨v, e1, k, b, e2, h _ _ q⟩

/-- an order that may be handed in -/
structure GoodOrd (ho si : Str) (pr : Option Int) (qu : Int) (kd : Str) (sh : Int) : Prop where
  h1 : ¬ V.str ho = V.str ""
  h2 : V.str si = V.str "buy" ∨ V.str si = V.str "sell"
  h3 : V.str kd = V.str "rest" ∨ V.str kd = V.str "now" ∨ V.str kd = V.str "all"
  h4 : ∀ p, pr = some p → 1 ≤ p ∧ p ≤ 1000000
  h5 : pr = none → ¬ V.str kd = V.str "rest"
  h6 : 1 ≤ qu ∧ qu ≤ 1000000
  h7 : 0 ≤ sh ∧ sh ≤ qu
  h8 : 0 < sh → V.str kd = V.str "rest"
def sp_is_integral (K : PySem.W.Frag) : Sp := fun vs H Q _ => ∃ x : Int, vs = [.int x] ∧ Q (.bl true) H
set_option maxHeartbeats 0 in
theorem ok_is_integral (T : Txt K mg) [TB : TabsOk T base] : FnOk P w K mg base CX0 1 T.f_is_integral T.d_is_integral ["value"] (sp_is_integral K) := by
  refine T.F_is_integral.ok sc_is_integral (fun vs H Q E h => ?_) (fun cdv A outer s H vs Q E hr h => ?_)
  · obtain ⟨x, rfl, _⟩ := h
    rfl
  · obtain ⟨x, rfl, q⟩ := h
    refine ⟨_, (pss_one (ps_ret (pe_and (pe_callB call_isi (by rfl) T.z_isinstance (by decide +kernel) (pa_cons (pv 0) (pa_cons (pe_bltn (v := .ty "int") (u := .type "int") (by rfl) T.z_int (by decide +kernel) rfl) pa_nil))) (pe_one (pe_not (pe_callB call_isi (by rfl) T.z_isinstance (by decide +kernel) (pa_cons (pv 0) (pa_cons (pe_bltn (v := .ty "bool") (u := .type "bool") (by rfl) T.z_bool (by decide +kernel) rfl) pa_nil)))))))), ?_⟩
    refine ⟨_, rfl, ?_⟩
    refine ⟨_, _, _, _, true, rfl, .ty _, .base (.int _), kit_ty (by decide +kernel), ?_⟩
    refine ⟨true, rfl, iteT ?_⟩
    refine ⟨_, rfl, ?_⟩
    refine ⟨_, _, _, _, false, rfl, .ty _, .base (.int _), kit_ty (by decide +kernel), ?_⟩
    refine ⟨false, rfl, ?_⟩
    exact q
def sp_is_within (K : PySem.W.Frag) : Sp := fun vs H Q _ => ∃ a b x : Int, vs = [.int a, .int b, .int x] ∧ Q (.bl (decide (a ≤ x ∧ x ≤ b))) H
set_option maxHeartbeats 0 in
theorem ok_is_within (T : Txt K mg) [TB : TabsOk T base] : FnOk P w K mg base CX0 2 T.f_is_within T.d_is_within ["least", "most", "value"] (sp_is_within K) := by
  refine T.F_is_within.ok sc_is_within (fun vs H Q E h => ?_) (fun cdv A outer s H vs Q E hr h => ?_)
  · obtain ⟨a, b, x, rfl, _⟩ := h
    rfl
  · obtain ⟨a, b, x, rfl, q⟩ := h
    have G_is_integral : FnOk P w K mg base CX0 1 T.f_is_integral T.d_is_integral ["value"] (sp_is_integral K) := ok_is_integral T
    refine ⟨_, (pss_one (ps_ret (pe_and (pe_call G_is_integral hr (by rfl) T.m_is_integral T.F_is_integral.kp T.b_is_integral .nil pass0 (pa_cons (pv 2) pa_nil)) (pe_one (pe_chain op_le op_le (pv 0) (pv 2) (pv 1)))))), ?_⟩
    walk_at "st"
    refine iteB (fun h => ?_) (fun h => ?_)
    · walk_at "st"
      rw [show (decide (a ≤ x ∧ x ≤ b)) = decide (x ≤ b) from decide_eq_decide.mpr ⟨fun z => z.2, fun z => ⟨dec_t h, z⟩⟩] at q
      exact q
    · rw [decide_eq_false (fun z => dec_f h z.1)] at q
      exact q

def sp_check_house (K : PySem.W.Frag) (C : Addr) : Sp := fun vs H Q E => ∃ s : Str, vs = [.str s] ∧ (¬ V.str s = V.str "" → Q .non H) ∧ (V.str s = V.str "" → E (.ref C) none H)
set_option maxHeartbeats 0 in
theorem ok_check_house (T : Txt K mg) [TB : TabsOk T base] : FnOk P w K mg base (L2.CX P w) 1 T.f_check_house T.d_check_house ["house"] (sp_check_house K T.c_InvalidOrder) := by
  refine T.F_check_house.okX sc_check_house (fun vs H Q E h => ?_) (fun cdv A outer s H vs Q E hr h => ?_)
  · obtain ⟨s, rfl, _⟩ := h
    rfl
  · obtain ⟨s, rfl, q, qe⟩ := h
    refine ⟨_, (pss_one (ps_if (pt_cmpR op_eq (pv 0) pe_str (nomark _))
      (pss_one (ps_raise rfl (takes_of rfl rfl rfl rfl) (pmk_own PySem.F.excBase_ValueError T.x_InvalidOrder T.m_InvalidOrder T.k_InvalidOrder (raises_own T.b_InvalidOrder T.t_InvalidOrder) (by rfl))))
      pss_nil)), ?_⟩
    walk_at "st"
    refine iteB (fun h => ?_) (fun h => ?_)
    · walk_at "st"
      exact qe (of_decide_eq_true h)
    · exact q (of_decide_eq_false h)
def sp_check_side (K : PySem.W.Frag) (C : Addr) : Sp := fun vs H Q E => ∃ s : Str, vs = [.str s] ∧ ((V.str s = V.str "buy" ∨ V.str s = V.str "sell") → Q .non H) ∧ (¬ (V.str s = V.str "buy" ∨ V.str s = V.str "sell") → E (.ref C) none H)
set_option maxHeartbeats 0 in
theorem ok_check_side (T : Txt K mg) [TB : TabsOk T base] : FnOk P w K mg base (L2.CX P w) 1 T.f_check_side T.d_check_side ["side"] (sp_check_side K T.c_InvalidOrder) := by
  refine T.F_check_side.okX sc_check_side (fun vs H Q E h => ?_) (fun cdv A outer s H vs Q E hr h => ?_)
  · obtain ⟨s, rfl, _⟩ := h
    rfl
  · obtain ⟨s, rfl, q, qe⟩ := h
    
    refine ⟨_, (pss_one (ps_if (pt_cmpR op_notIn_seq (pv 0) (pe_glob (v := .ref T.c_SIDES) rfl T.m_SIDES rfl) rfl)
      (pss_one (ps_raise rfl (takes_of rfl rfl rfl rfl) (pmk_own PySem.F.excBase_ValueError T.x_InvalidOrder T.m_InvalidOrder T.k_InvalidOrder (raises_own T.b_InvalidOrder T.t_InvalidOrder) (by rfl))))
      pss_nil)), ?_⟩
    have hq := T.q_SIDES H
    have hin : inV (V.str s) [.str "buy", .str "sell"] = true ↔ (V.str s = V.str "buy" ∨ V.str s = V.str "sell") := by
      unfold inV
      rw [List.any_cons, List.any_cons, List.any_nil, Bool.or_false, Bool.or_eq_true]
      have e : ∀ a b : Str, eqV (.str a) (.str b) = true ↔ V.str b = V.str a := fun a b => by
        show (a == b) = true ↔ _
        rw [beq_iff_eq]
        exact ⟨fun h => by rw [h], fun h => (V.str.inj h).symm⟩
      rw [e, e]
    walk_at "st"
    rw [if_pos (show true = true from rfl)]
    by_cases h : V.str s = V.str "buy" ∨ V.str s = V.str "sell"
    · rw [hin.mpr h]
      exact q h
    · rw [show inV (V.str s) [.str "buy", .str "sell"] = false from Bool.eq_false_iff.mpr fun e => h (hin.mp e)]
      exact qe h
def sp_check_number (K : PySem.W.Frag) (C : Addr) : Sp := fun vs H Q E => ∃ n a b : Int, vs = [.int n, .int a, .int b] ∧ (a ≤ n ∧ n ≤ b → Q .non H) ∧ (¬ (a ≤ n ∧ n ≤ b) → E (.ref C) none H)
set_option maxHeartbeats 0 in
theorem ok_check_number (T : Txt K mg) [TB : TabsOk T base] : FnOk P w K mg base (L2.CX P w) 3 T.f_check_number T.d_check_number ["number", "least", "most"] (sp_check_number K T.c_InvalidOrder) := by
  refine T.F_check_number.okX sc_check_number (fun vs H Q E h => ?_) (fun cdv A outer s H vs Q E hr h => ?_)
  · obtain ⟨n, a, b, rfl, _⟩ := h
    rfl
  · obtain ⟨n, a, b, rfl, q, qe⟩ := h
    have G_is_within : FnOk P w K mg base CX0 2 T.f_is_within T.d_is_within ["least", "most", "value"] (sp_is_within K) := ok_is_within T
    refine ⟨_, (pss_one (ps_if (pt_not (pt_val (pe_call G_is_within hr (by rfl) T.m_is_within T.F_is_within.kp T.b_is_within .nil pass0 (pa_cons (pv 1) (pa_cons (pv 2) (pa_cons (pv 0) pa_nil))))))
      (pss_one (ps_raise rfl (takes_of rfl rfl rfl rfl) (pmk_own PySem.F.excBase_ValueError T.x_InvalidOrder T.m_InvalidOrder T.k_InvalidOrder (raises_own T.b_InvalidOrder T.t_InvalidOrder) (by rfl))))
      pss_nil)), ?_⟩
    walk_at "st"
    by_cases h : a ≤ n ∧ n ≤ b
    · rw [decide_eq_true h]
      exact q h
    · rw [decide_eq_false h]
      exact qe h
def sp_check_price (K : PySem.W.Frag) (C : Addr) : Sp := fun vs H Q E => ∃ n : Int, vs = [.int n] ∧ (1 ≤ n ∧ n ≤ 1000000 → Q .non H) ∧ (¬ (1 ≤ n ∧ n ≤ 1000000) → E (.ref C) none H)
set_option maxHeartbeats 0 in
theorem ok_check_price (T : Txt K mg) [TB : TabsOk T base] : FnOk P w K mg base (L2.CX P w) 4 T.f_check_price T.d_check_price ["price"] (sp_check_price K T.c_InvalidOrder) := by
  refine T.F_check_price.okX sc_check_price (fun vs H Q E h => ?_) (fun cdv A outer s H vs Q E hr h => ?_)
  · obtain ⟨n, rfl, _⟩ := h
    rfl
  · obtain ⟨n, rfl, q, qe⟩ := h
    have G_check_number : FnOk P w K mg base (L2.CX P w) 3 T.f_check_number T.d_check_number ["number", "least", "most"] (sp_check_number K T.c_InvalidOrder) := ok_check_number T
    refine ⟨_, (pss_one (ps_expr (pe_callS G_check_number hr (by rfl) T.m_check_number T.F_check_number.kp T.b_check_number (fun σ => passAt (takes_of rfl rfl rfl rfl) σ) (pa_cons (pv 0) (pa_cons pe_int (pa_cons (pe_glob (v := .int 1000000) rfl T.m_MOST ⟨_, rfl⟩) pa_nil)))))), ?_⟩
    walk_at "st"
    exact fun h => qe h
def sp_check_quantity (K : PySem.W.Frag) (C : Addr) : Sp := fun vs H Q E => ∃ n : Int, vs = [.int n] ∧ (1 ≤ n ∧ n ≤ 1000000 → Q .non H) ∧ (¬ (1 ≤ n ∧ n ≤ 1000000) → E (.ref C) none H)
set_option maxHeartbeats 0 in
theorem ok_check_quantity (T : Txt K mg) [TB : TabsOk T base] : FnOk P w K mg base (L2.CX P w) 4 T.f_check_quantity T.d_check_quantity ["quantity"] (sp_check_quantity K T.c_InvalidOrder) := by
  refine T.F_check_quantity.okX sc_check_quantity (fun vs H Q E h => ?_) (fun cdv A outer s H vs Q E hr h => ?_)
  · obtain ⟨n, rfl, _⟩ := h
    rfl
  · obtain ⟨n, rfl, q, qe⟩ := h
    have G_check_number : FnOk P w K mg base (L2.CX P w) 3 T.f_check_number T.d_check_number ["number", "least", "most"] (sp_check_number K T.c_InvalidOrder) := ok_check_number T
    refine ⟨_, (pss_one (ps_expr (pe_callS G_check_number hr (by rfl) T.m_check_number T.F_check_number.kp T.b_check_number (fun σ => passAt (takes_of rfl rfl rfl rfl) σ) (pa_cons (pv 0) (pa_cons pe_int (pa_cons (pe_glob (v := .int 1000000) rfl T.m_MOST ⟨_, rfl⟩) pa_nil)))))), ?_⟩
    walk_at "st"
    exact fun h => qe h
def sp_check_order (K : PySem.W.Frag) (C : Addr) : Sp := fun vs H Q E => ∃ (ho si : Str) (pr : Option Int) (qu : Int) (kd : Str) (sh : Int), vs = [.str ho, .str si, optV pr, .int qu, .str kd, .int sh] ∧ (GoodOrd ho si pr qu kd sh → Q .non H) ∧ (¬ GoodOrd ho si pr qu kd sh → E (.ref C) none H)
set_option maxHeartbeats 0 in
theorem ok_check_order (T : Txt K mg) [TB : TabsOk T base] : FnOk P w K mg base (L2.CX P w) 5 T.f_check_order T.d_check_order ["house", "side", "price", "quantity", "kind", "shown"] (sp_check_order K T.c_InvalidOrder) := by
  refine T.F_check_order.okX sc_check_order (fun vs H Q E h => ?_) (fun cdv A outer s H vs Q E hr h => ?_)
  · obtain ⟨ho, si, pr, qu, kd, sh, rfl, _⟩ := h
    rfl
  · obtain ⟨ho, si, pr, qu, kd, sh, rfl, q, qe⟩ := h
    have G_check_house : FnOk P w K mg base (L2.CX P w) 1 T.f_check_house T.d_check_house ["house"] (sp_check_house K T.c_InvalidOrder) := ok_check_house T
    have G_check_side : FnOk P w K mg base (L2.CX P w) 1 T.f_check_side T.d_check_side ["side"] (sp_check_side K T.c_InvalidOrder) := ok_check_side T
    have G_check_quantity : FnOk P w K mg base (L2.CX P w) 4 T.f_check_quantity T.d_check_quantity ["quantity"] (sp_check_quantity K T.c_InvalidOrder) := ok_check_quantity T
    have G_check_number : FnOk P w K mg base (L2.CX P w) 3 T.f_check_number T.d_check_number ["number", "least", "most"] (sp_check_number K T.c_InvalidOrder) := ok_check_number T
    have G_check_price : FnOk P w K mg base (L2.CX P w) 4 T.f_check_price T.d_check_price ["price"] (sp_check_price K T.c_InvalidOrder) := ok_check_price T
    refine ⟨_, (pss_cons (ps_expr (pe_callS G_check_house (hr.mono (by decide)) (by rfl) T.m_check_house T.F_check_house.kp T.b_check_house (fun σ => passAt (takes_of rfl rfl rfl rfl) σ) (pa_cons (pv 0) pa_nil)))
    (pss_cons (ps_expr (pe_callS G_check_side (hr.mono (by decide)) (by rfl) T.m_check_side T.F_check_side.kp T.b_check_side (fun σ => passAt (takes_of rfl rfl rfl rfl) σ) (pa_cons (pv 1) pa_nil)))
    (pss_cons (ps_if (pt_cmpR op_notIn_seq (pv 4) (pe_glob (v := .ref T.c_KINDS) rfl T.m_KINDS rfl) rfl)
      (pss_one (ps_raise rfl (takes_of rfl rfl rfl rfl) (pmk_own PySem.F.excBase_ValueError T.x_InvalidOrder T.m_InvalidOrder T.k_InvalidOrder (raises_own T.b_InvalidOrder T.t_InvalidOrder) (by rfl))))
      pss_nil)
    (pss_cons (ps_if (pt_cmpR op_notN (pv 2) pe_non (nomark _))
      (pss_one (ps_expr (pe_callS G_check_price hr (by rfl) T.m_check_price T.F_check_price.kp T.b_check_price (fun σ => passAt (takes_of rfl rfl rfl rfl) σ) (pa_cons (pv 2) pa_nil))))
      (pss_one (ps_if (pt_cmpR op_eq (pv 4) pe_str (nomark _))
        (pss_one (ps_raise rfl (takes_of rfl rfl rfl rfl) (pmk_own PySem.F.excBase_ValueError T.x_InvalidOrder T.m_InvalidOrder T.k_InvalidOrder (raises_own T.b_InvalidOrder T.t_InvalidOrder) (by rfl))))
        pss_nil)))
    (pss_cons (ps_expr (pe_callS G_check_quantity hr (by rfl) T.m_check_quantity T.F_check_quantity.kp T.b_check_quantity (fun σ => passAt (takes_of rfl rfl rfl rfl) σ) (pa_cons (pv 3) pa_nil)))
    (pss_cons (ps_expr (pe_callS G_check_number (hr.mono (by decide)) (by rfl) T.m_check_number T.F_check_number.kp T.b_check_number (fun σ => passAt (takes_of rfl rfl rfl rfl) σ) (pa_cons (pv 5) (pa_cons pe_int (pa_cons (pv 3) pa_nil)))))
    (pss_one (ps_if (PW.pt (pw_and (pt_cmpR op_gt (pv 5) pe_int (nomark _)) (pw_and1 (pt_cmpR op_ne (pv 4) pe_str (nomark _)))))
      (pss_one (ps_raise rfl (takes_of rfl rfl rfl rfl) (pmk_own PySem.F.excBase_ValueError T.x_InvalidOrder T.m_InvalidOrder T.k_InvalidOrder (raises_own T.b_InvalidOrder T.t_InvalidOrder) (by rfl))))
      pss_nil)))))))), ?_⟩
    have hq := T.q_KINDS H
    have hin : inV (V.str kd) [.str "rest", .str "now", .str "all"] = true ↔ (V.str kd = V.str "rest" ∨ V.str kd = V.str "now" ∨ V.str kd = V.str "all") := by
      unfold inV
      rw [List.any_cons, List.any_cons, List.any_cons, List.any_nil, Bool.or_false, Bool.or_eq_true, Bool.or_eq_true]
      have e : ∀ a b : Str, eqV (.str a) (.str b) = true ↔ V.str b = V.str a := fun a b => by
        show (a == b) = true ↔ _
        rw [beq_iff_eq]
        exact ⟨fun h => by rw [h], fun h => (V.str.inj h).symm⟩
      rw [e, e, e]
    walk_at "st"
    refine ⟨fun h1 => ?_, fun h1 => qe fun g => g.h1 h1⟩
    walk_at "st"
    refine ⟨fun h2 => ?_, fun h2 => qe fun g => h2 g.h2⟩
    walk_at "st"
    rw [if_pos (show true = true from rfl)]
    by_cases h3 : V.str kd = V.str "rest" ∨ V.str kd = V.str "now" ∨ V.str kd = V.str "all"
    · rw [hin.mpr h3]
      cases pr with
      | none =>
        walk_at "st"
        refine iteD (fun h5 => qe fun g => g.h5 rfl h5) (fun h5 => ?_)
        walk_at "st"
        refine ⟨fun h6 => ?_, fun h6 => qe fun g => h6 g.h6⟩
        walk_at "st"
        refine ⟨fun h7 => ?_, fun h7 => qe fun g => h7 g.h7⟩
        walk_at "st"
        refine iteD (fun h8 => ?_) (fun h8 => ?_)
        · walk_at "st"
          refine iteDN (fun h9 => qe fun g => h9 (g.h8 h8)) (fun h9 => ?_)
          exact q ⟨h1, h2, h3, (fun p e => by cases e), fun _ => h5, h6, h7, fun _ => h9⟩
        · exact q ⟨h1, h2, h3, (fun p e => by cases e), fun _ => h5, h6, h7, fun z => absurd z h8⟩
      | some p =>
        walk_at "st"
        refine ⟨fun h4 => ?_, fun h4 => qe fun g => h4 (g.h4 p rfl)⟩
        walk_at "st"
        refine ⟨fun h6 => ?_, fun h6 => qe fun g => h6 g.h6⟩
        walk_at "st"
        refine ⟨fun h7 => ?_, fun h7 => qe fun g => h7 g.h7⟩
        walk_at "st"
        refine iteD (fun h8 => ?_) (fun h8 => ?_)
        · walk_at "st"
          refine iteDN (fun h9 => qe fun g => h9 (g.h8 h8)) (fun h9 => ?_)
          exact q ⟨h1, h2, h3, (fun y e => by obtain rfl := Option.some.inj e; exact h4), (fun e => by cases e), h6, h7, fun _ => h9⟩
        · exact q ⟨h1, h2, h3, (fun y e => by obtain rfl := Option.some.inj e; exact h4), (fun e => by cases e), h6, h7, fun z => absurd z h8⟩
    · rw [show inV (V.str kd) [.str "rest", .str "now", .str "all"] = false from Bool.eq_false_iff.mpr fun e => h3 (hin.mp e)]
      exact qe fun g => h3 g.h3

/-! ### an order is taken back -/
def sp_Bookorder_of (K : PySem.W.Frag) (CU CN CO CB CK : Addr) : Sp := fun vs H Q E => ∃ (x dx sd st b1 d1 l1 b2 d2 l2 : Addr) (last : Option Int) (next : Int) (es1 es2 : List Ent) (n : Int) (ho : Str), vs = [.ref x, .int n, .str ho] ∧ SidesAt CO CB CK H x dx sd st b1 d1 l1 b2 d2 l2 last next es1 es2 ∧
  (∀ e : Ent, withNum es1 es2 n = some e → e.2.2.house = ho → Q (.ref e.1) H) ∧ (withNum es1 es2 n = none → E (.ref CU) none H) ∧ (∀ e : Ent, withNum es1 es2 n = some e → e.2.2.house ≠ ho → E (.ref CN) none H)
theorem with_mem {es1 es2 : List Ent} {n : Int} {e : Ent} (h : withNum es1 es2 n = some e) : e.2.2.number = n ∧ (e ∈ es1 ∨ e ∈ es2) := by
  unfold withNum at h
  cases hf : es1.find? (fun e => decide (e.2.2.number = n)) with
  | some z =>
    rw [hf] at h
    have h2 : z = e := Option.some.inj h
    subst h2
    have hq := List.find?_some (p := fun e : Ent => decide (e.2.2.number = n)) hf
    exact ⟨of_decide_eq_true hq, .inl (List.mem_of_find?_eq_some hf)⟩
  | none =>
    rw [hf] at h
    have h2 : es2.find? (fun e => decide (e.2.2.number = n)) = some e := h
    have hq := List.find?_some (p := fun e : Ent => decide (e.2.2.number = n)) h2
    exact ⟨of_decide_eq_true hq, .inr (List.mem_of_find?_eq_some h2)⟩
set_option maxHeartbeats 0 in
theorem ok_Bookorder_of (T : Txt K mg) [TB : TabsOk T base] : FnOk P w K mg base (L2.CX P w) 3 T.f_Bookorder_of T.d_Bookorder_of ["self", "number", "house"] (sp_Bookorder_of K T.c_UnknownOrder T.c_NotOwner T.c_Order T.c_BookSide T.c_Book) := by
  refine T.F_Bookorder_of.okX sc_Bookorder_of (fun vs H Q E h => ?_) (fun cdv A outer s H vs Q E hr h => ?_)
  · obtain ⟨x, dx, sd, st, b1, d1, l1, b2, d2, l2, last, next, es1, es2, n, ho, rfl, _⟩ := h
    rfl
  · obtain ⟨x, dx, sd, st, b1, d1, l1, b2, d2, l2, last, next, es1, es2, n, ho, rfl, B, q, qu, qn⟩ := h
    have G_Bookorder_with : FnOk P w K mg base CX0 2 T.f_Bookorder_with T.d_Bookorder_with ["self", "number"] (sp_Bookorder_with K T.c_Order T.c_BookSide T.c_Book) := ok_Bookorder_with T
    refine ⟨_, (pss_cons (ps_set (i := 3) sc_Bookorder_of.nd rfl (Or.inl rfl) (pe_meth (pv 0) T.cl_Book T.mt_Bookorder_with G_Bookorder_with hr T.b_Bookorder_with .nil pass0 (pa_cons (pv 1) pa_nil)))
    (pss_cons (ps_if (pt_cmpR op_isN (pv 3) pe_non (nomark _))
      (pss_one (ps_raise rfl (takes_of rfl rfl rfl rfl) (pmk_own PySem.F.excBase_ValueError T.x_UnknownOrder T.m_UnknownOrder T.k_UnknownOrder (raises_own T.b_UnknownOrder T.t_UnknownOrder) (by rfl))))
      pss_nil)
    (pss_cons (ps_if (pt_cmpR op_ne (pe_fld (pv 3) rfl) (pv 2) (nomark _))
      (pss_one (ps_raise rfl (takes_of rfl rfl rfl rfl) (pmk_own PySem.F.excBase_ValueError T.x_NotOwner T.m_NotOwner T.k_NotOwner (raises_own T.b_NotOwner T.t_NotOwner) (by rfl))))
      pss_nil)
    (pss_one (ps_ret (pv 3)))))), ?_⟩
    have fact_BookSide_0 := T.cl_BookSide; have fact_BookSide_1 := T.na_BookSide__orders; have fact_Book_0 := T.cl_Book; have fact_Book_1 := T.na_Book_last; have fact_Book_2 := T.na_Book__next_number; have fact_Book_3 := T.na_Book__sides; have fact_Book_4 := T.na_Book__stops; have fact_Order_0 := T.cl_Order; have fact_Order_1 := T.na_Order_number; have fact_Order_2 := T.na_Order_house; have fact_Order_3 := T.na_Order_side; have fact_Order_4 := T.na_Order_price; have fact_Order_5 := T.na_Order_shown; have fact_Order_6 := T.na_Order_left; have fact_Order_7 := T.na_Order_visible
    have hob := B.ob
    unfold bookO at hob
    walk_at "st"
    refine ⟨last, next, es1, es2, n, rfl, B, ?_⟩
    cases hw : withNum es1 es2 n with
    | none =>
      walk_at "st"
      exact qu hw
    | some e =>
      have hen : H e.1 = some (ordO T.c_Order e.2.1 e.2.2) := (with_mem hw).2.elim (fun z => B.s1.en e z) fun z => B.s2.en e z
      unfold ordO at hen
      walk_at "st"
      refine iteB (fun h => ?_) (fun h => ?_)
      · walk_at "st"
        exact qn e hw fun z => dec_f (by simpa using h) (congrArg V.str z)
      · walk_at "st"
        exact q e hw (V.str.inj (dec_t (by simpa using h)))
/-- without the order at a -/
def dropE (a : Addr) (es : List Ent) : List Ent := es.filter fun y => decide (y.1 ≠ a)
theorem drop_mem {a : Addr} {es : List Ent} {y : Ent} (h : y ∈ dropE a es) : y ∈ es ∧ y.1 ≠ a := ⟨(List.mem_filter.mp h).1, of_decide_eq_true (List.mem_filter.mp h).2⟩
theorem drop_none {a : Addr} {es : List Ent} (h : ∀ y, y ∈ es → y.1 ≠ a) : dropE a es = es := List.filter_eq_self.mpr fun y hy => decide_eq_true (h y hy)
theorem drop_mid {pre post : List Ent} {e : Ent} (nd : ((pre ++ e :: post).map (·.1)).Nodup) : dropE e.1 (pre ++ e :: post) = pre ++ post := by
  rw [List.map_append, List.map_cons] at nd
  obtain ⟨_, n2, n3⟩ := List.nodup_append.mp nd
  have h1 : dropE e.1 pre = pre := drop_none fun y hy z => n3 _ (List.mem_map.mpr ⟨y, hy, rfl⟩) _ List.mem_cons_self z
  have h2 : dropE e.1 post = post := drop_none fun y hy z => (List.nodup_cons.mp n2).1 (List.mem_map.mpr ⟨y, hy, z⟩)
  unfold dropE at h1 h2 ⊢
  rw [List.filter_append, List.filter_cons, if_neg (by simp), h1, h2]
theorem Rank.sub {s : Str} {es es' : List Ent} (h : Rank s es) (hs : es'.Sublist es) : Rank s es' :=
  ⟨fun x hx => h.side x (hs.subset hx), fun x hx => h.price x (hs.subset hx), fun x hx => h.vis x (hs.subset hx), fun p => mono_iff.mpr ((mono_iff.mp (h.mono p)).sublist hs)⟩
theorem SideAt.drop {CO CB : Addr} {H : Hp} {b db l : Addr} {es : List Ent} (S : SideAt CO CB H b db l es) (a : Addr) : SideAt CO CB (L2.upd H l (.lst (refs (dropE a es)))) b db l (dropE a es) :=
  S.put (fun d hd => S.en d (drop_mem hd).1) ((List.filter_sublist.map _).nodup S.nd) (Nat.le_trans (List.length_filter_le _ _) S.sm)

/-! ### an open order is changed -/
def Ord.cut (o : Ord) (n : Int) : Ord := { o with left := n, visible := if n < o.visible then n else o.visible }
def sp_Order_reduce (K : PySem.W.Frag) (C : Addr) : Sp := fun vs H Q _ => ∃ (x dx : Addr) (o : Ord) (n : Int), vs = [.ref x, .int n] ∧ H x = some (ordO C dx o) ∧ Q .non (upd H x (ordO C dx (o.cut n)))
set_option maxHeartbeats 0 in
theorem ok_Order_reduce (T : Txt K mg) [TB : TabsOk T base] : FnOk P w K mg base CX0 1 T.f_Order_reduce T.d_Order_reduce ["self", "quantity"] (sp_Order_reduce K T.c_Order) := by
  refine T.F_Order_reduce.ok sc_Order_reduce (fun vs H Q E h => ?_) (fun cdv A outer s H vs Q E hr h => ?_)
  · obtain ⟨x, dx, o, n, rfl, _⟩ := h
    rfl
  · obtain ⟨x, dx, o, n, rfl, hx, q⟩ := h
    refine ⟨_, (pss_cons (ps_fld (pv 0) (pv 1) rfl)
    (pss_one (ps_fld (pv 0) (pe_callB (call_min2 rfl) (by rfl) T.z_min (by decide +kernel) (pa_cons (pe_fld (pv 0) rfl) (pa_cons (pv 1) pa_nil))) rfl))), ?_⟩
    have fact_Order_0 := T.cl_Order; have fact_Order_1 := T.na_Order_number; have fact_Order_2 := T.na_Order_house; have fact_Order_3 := T.na_Order_side; have fact_Order_4 := T.na_Order_price; have fact_Order_5 := T.na_Order_shown; have fact_Order_6 := T.na_Order_left; have fact_Order_7 := T.na_Order_visible
    walk_at "st"
    rw [upd_upd]
    exact q
/-- the order at a gets what f says -/
def setE (a : Addr) (f : Ord → Ord) (es : List Ent) : List Ent := es.map fun y => if y.1 = a then (y.1, y.2.1, f y.2.2) else y
theorem setE_addr (a : Addr) (f : Ord → Ord) (es : List Ent) : (setE a f es).map (·.1) = es.map (·.1) := by
  unfold setE
  rw [List.map_map]
  refine List.map_congr_left fun y _ => ?_
  show (if y.1 = a then (y.1, y.2.1, f y.2.2) else y).1 = y.1
  split <;> rfl
theorem setE_refs (a : Addr) (f : Ord → Ord) (es : List Ent) : refs (setE a f es) = refs es := by
  have := congrArg (List.map V.ref) (setE_addr a f es)
  rw [List.map_map, List.map_map] at this
  exact this
theorem setE_mem {a : Addr} {f : Ord → Ord} {es : List Ent} {y : Ent} (h : y ∈ setE a f es) : ∃ e, e ∈ es ∧ y = if e.1 = a then (e.1, e.2.1, f e.2.2) else e := by
  unfold setE at h
  obtain ⟨e, he, ez⟩ := List.mem_map.mp h
  exact ⟨e, he, ez.symm⟩
theorem setE_none {a : Addr} {f : Ord → Ord} {es : List Ent} (h : ∀ y, y ∈ es → y.1 ≠ a) : setE a f es = es := by
  unfold setE
  conv => rhs; rw [← List.map_id es]
  refine List.map_congr_left fun y hy => ?_
  rw [if_neg (h y hy)]
  rfl
theorem nodup_addr : ∀ {es : List Ent} {a b : Ent}, (es.map (·.1)).Nodup → a ∈ es → b ∈ es → a.1 = b.1 → a = b
  | y :: r, a, b, h, ha, hb, e => by
    rw [List.map_cons] at h
    obtain ⟨n1, n2⟩ := List.nodup_cons.mp h
    rcases List.mem_cons.mp ha with za | za
    · rcases List.mem_cons.mp hb with zb | zb
      · rw [za, zb]
      · exact absurd (List.mem_map.mpr ⟨b, zb, by rw [← e, za]⟩) n1
    · rcases List.mem_cons.mp hb with zb | zb
      · exact absurd (List.mem_map.mpr ⟨a, za, by rw [e, zb]⟩) n1
      · exact nodup_addr n2 za zb e
theorem SideAt.set {CO CB : Addr} {H : Hp} {b db l : Addr} {es : List Ent} (S : SideAt CO CB H b db l es) {e : Ent} (he : e ∈ es) (f : Ord → Ord) : SideAt CO CB (L2.upd H e.1 (ordO CO e.2.1 (f e.2.2))) b db l (setE e.1 f es) := by
  have hb : b ≠ e.1 := fun z => by
    have h1 := S.ob
    rw [z, S.en e he] at h1
    unfold ordO at h1
    injection h1 with h1
    injection h1 with _ _ h3
    exact absurd (congrArg List.length h3) (show ¬ 7 = 1 by decide)
  have hl : l ≠ e.1 := fun z => by
    have h1 := S.li
    rw [z, S.en e he] at h1
    unfold ordO at h1
    cases h1
  refine ⟨(upd_ne hb).trans S.ob, ?_, fun y hy => ?_, ?_, ?_⟩
  · rw [setE_refs]
    exact (upd_ne hl).trans S.li
  · obtain ⟨z, hz, ez⟩ := setE_mem hy
    subst ez
    by_cases h : z.1 = e.1
    · have : z = e := nodup_addr S.nd hz he h
      subst this
      rw [if_pos rfl]
      exact upd_same
    · rw [if_neg h, upd_ne h]
      exact S.en z hz
  · rw [setE_addr]
    exact S.nd
  · unfold setE
    rw [List.length_map]
    exact S.sm
theorem Rank.set {s : Str} {es : List Ent} (h : Rank s es) (a : Addr) (f : Ord → Ord) (hf : ∀ e, e ∈ es → e.1 = a → (f e.2.2).side = e.2.2.side ∧ (f e.2.2).price = e.2.2.price ∧ (1 ≤ (f e.2.2).visible ∧ (f e.2.2).visible ≤ (f e.2.2).left ∧ 0 ≤ (f e.2.2).shown)) : Rank s (setE a f es) := by
  refine ⟨fun y hy => ?_, fun y hy => ?_, fun y hy => ?_, fun p => ?_⟩
  · obtain ⟨z, hz, ez⟩ := setE_mem hy
    subst ez
    by_cases g : z.1 = a
    · rw [if_pos g]
      exact ((hf z hz g).1).trans (h.side z hz)
    · rw [if_neg g]
      exact h.side z hz
  · obtain ⟨z, hz, ez⟩ := setE_mem hy
    subst ez
    by_cases g : z.1 = a
    · rw [if_pos g]
      obtain ⟨p, hp⟩ := h.price z hz
      exact ⟨p, (hf z hz g).2.1.trans hp⟩
    · rw [if_neg g]
      exact h.price z hz
  · obtain ⟨z, hz, ez⟩ := setE_mem hy
    subst ez
    by_cases g : z.1 = a
    · rw [if_pos g]
      exact (hf z hz g).2.2
    · rw [if_neg g]
      exact h.vis z hz
  · have hac : ∀ z, z ∈ es → accE p (if z.1 = a then (z.1, z.2.1, f z.2.2) else z) = accE p z := fun z hz => by
      by_cases g : z.1 = a
      · rw [if_pos g]
        unfold accE
        show takes (f z.2.2).side (f z.2.2).price p = _
        rw [(hf z hz g).1, (hf z hz g).2.1]
      · rw [if_neg g]
    refine mono_iff.mpr ?_
    unfold setE
    rw [List.pairwise_map]
    refine List.Pairwise.imp_of_mem ?_ (mono_iff.mp (h.mono p))
    intro u v hu hv k
    rw [hac u hu, hac v hv]
    exact k
def sp_Bookreduce (K : PySem.W.Frag) (CO CR : Addr) : Sp := fun vs H Q _ => ∃ (x o dxo : Addr) (t : Ord) (n : Int), vs = [.ref x, .ref o, .int n] ∧ H o = some (ordO CO dxo t) ∧
  ∀ r dr fl rm H', Same (upd H o (ordO CO dxo (t.cut n))) H' → H r = none → H fl = none → H rm = none → H' r = some (repO CR dr t.number t.house t.side fl rm n) → H' fl = some (.lst []) → H' rm = some (.lst []) → Q (.ref r) H'
set_option maxHeartbeats 0 in
theorem ok_Bookreduce (T : Txt K mg) [TB : TabsOk T base] : FnOk P w K mg base CX0 3 T.f_Bookreduce T.d_Bookreduce ["self", "order", "quantity"] (sp_Bookreduce K T.c_Order T.c_Report) := by
  refine T.F_Bookreduce.ok sc_Bookreduce (fun vs H Q E h => ?_) (fun cdv A outer s H vs Q E hr h => ?_)
  · obtain ⟨x, o, dxo, t, n, rfl, _⟩ := h
    rfl
  · obtain ⟨x, o, dxo, t, n, rfl, ho, q⟩ := h
    have G_Order_reduce : FnOk P w K mg base CX0 1 T.f_Order_reduce T.d_Order_reduce ["self", "quantity"] (sp_Order_reduce K T.c_Order) := ok_Order_reduce T
    have G_Report_init : FnOk P w K mg base CX0 1 T.f_Report_init T.d_Report_init ["self", "number", "house", "side"] (sp_Report_init K T.c_Report) := ok_Report_init T
    refine ⟨_, (pss_cons (ps_expr (pe_meth (pv 1) T.cl_Order T.mt_Order_reduce G_Order_reduce (hr.mono (by decide)) T.b_Order_reduce .nil pass0 (pa_cons (pv 2) pa_nil)))
    (pss_cons (ps_set (i := 3) sc_Bookreduce.nd rfl (Or.inl rfl) (pe_make T.mk_Report G_Report_init hr (by rfl) T.m_Report T.b_Report_init .nil pass0 (pa_cons (pe_fld (pv 1) rfl) (pa_cons (pe_fld (pv 1) rfl) (pa_cons (pe_fld (pv 1) rfl) pa_nil)))))
    (pss_cons (ps_fld (pv 3) (pv 2) rfl)
    (pss_one (ps_ret (pv 3)))))), ?_⟩
    have fact_Order_0 := T.cl_Order; have fact_Order_1 := T.na_Order_number; have fact_Order_2 := T.na_Order_house; have fact_Order_3 := T.na_Order_side; have fact_Order_4 := T.na_Order_price; have fact_Order_5 := T.na_Order_shown; have fact_Order_6 := T.na_Order_left; have fact_Order_7 := T.na_Order_visible; have fact_Report_0 := T.cl_Report; have fact_Report_1 := T.na_Report_number; have fact_Report_2 := T.na_Report_house; have fact_Report_3 := T.na_Report_side; have fact_Report_4 := T.na_Report_fills; have fact_Report_5 := T.na_Report_removed; have fact_Report_6 := T.na_Report_resting
    walk_at "st"
    refine ⟨t, n, rfl, ho, ?_⟩
    generalize hH1 : upd H o _ = H1
    rw [hH1] at q
    have ho1 := (congrFun hH1 o).symm.trans upd_same
    have ho2 := ho1
    unfold ordO at ho2
    walk_at "st"
    intro r dr nr ndr hne
    have nr' : upd H1 dr (.own r) r = none := by
      first
        | (rw [upd_ne hne]; exact nr)
        | (rw [upd_ne (Ne.symm hne)]; exact nr)
    have sx : Same H1 (upd (upd H1 dr (.own r)) r (.ins T.c_Report dr [])) := (same_upd ndr).trans (same_upd nr')
    refine ⟨r, dr, t.number, t.house, t.side, rfl, upd_same, fun fl rm H2 kx hr hfl hrm nfl nrm hfr => ?_⟩
    have e1 : Same H1 H2 := fun z v hz => kx z v (ne_of_none hz nr) (sx z v hz)
    have nr0 : H r = none := by
      have hro : r ≠ o := fun z => by rw [z, ho1] at nr; cases nr
      rw [← hH1, upd_ne hro] at nr
      exact nr
    refine ⟨rfl, ?_⟩
    unfold repO at hr
    walk_at "st"
    have fr0 : ∀ {z : Addr}, upd (upd H1 dr (.own r)) r (.ins T.c_Report dr []) z = none → H z = none := fun {z} hz => by
      have h1 : H1 z = none := by
        cases hh : H1 z with
        | none => rfl
        | some v =>
          have := sx z v hh
          rw [hz] at this
          cases this
      have hro : z ≠ o := fun e => by rw [e, ho1] at h1; cases h1
      rw [← hH1, upd_ne hro] at h1
      exact h1
    refine q r dr fl rm _ (fun z v hz => ?_) nr0 (fr0 nfl) (fr0 nrm) upd_same ?_ ?_
    · rw [upd_ne (ne_of_none hz nr)]
      exact e1 z v hz
    · rw [upd_ne (fun z => by rw [z, hr] at hfl; cases hfl)]
      exact hfl
    · rw [upd_ne (fun z => by rw [z, hr] at hrm; cases hrm)]
      exact hrm

/-! ### the commands of a book with waiting stops -/
def nxtS (s : BS) : BS := { s with next := s.next + 1 }
theorem BookW.setX {C : BC} {H : Hp} {a : BA} {s : BS} (B : BookW C H a s) (last : Option Int) (next : Int) : BookW C (upd H a.x (bookO C.CK a.dx last next a.sd a.st)) a { s with last := last, next := next } := by
  have hb := B.ob
  have ne : ∀ {z v}, H z = some v → (∀ C dx fs, v = .ins C dx fs → fs.length ≠ 4) → z ≠ a.x := fun {z v} h hv e => by
    rw [e, hb] at h
    cases h
    exact hv _ _ _ rfl rfl
  have nl : ∀ {z xs}, H z = some (.lst xs) → z ≠ a.x := fun h => ne h fun C dx fs e => by cases e
  have no : ∀ {z dx} {t : Ord}, H z = some (ordO C.CO dx t) → z ≠ a.x := fun h => ne h fun C dx fs e => by unfold ordO at e; cases e; exact (show (7 : Nat) ≠ 4 by decide)
  have nb : ∀ {z dx l}, H z = some (.ins C.CB dx [("_orders", .ref l)]) → z ≠ a.x := fun h => ne h fun C dx fs e => by cases e; exact (show (1 : Nat) ≠ 4 by decide)
  refine ⟨upd_same, (upd_ne (ne B.sd fun C dx fs e => by unfold sidesO at e; cases e)).trans B.sd, ⟨(upd_ne (nl B.sp.li)).trans B.sp.li, fun e he => (upd_ne (ne (B.sp.en e he) fun C dx fs e => by unfold stopO at e; cases e; exact (show (6 : Nat) ≠ 4 by decide))).trans (B.sp.en e he), B.sp.nd, B.sp.sm⟩,
    B.s1.upd (nb B.s1.ob) (nl B.s1.li) (fun e he => no (B.s1.en e he)), B.s2.upd (nb B.s2.ob) (nl B.s2.li) (fun e he => no (B.s2.en e he)), B.r1, B.r2, B.dj, B.nll, B.n1, B.n2, B.gs, B.sz⟩
theorem StepW.setX {a : BA} {s : BS} {H : Hp} {last : Option Int} {next : Int} {v : HO} : StepW a s { s with last := last, next := next } H (upd H a.x v) :=
  ⟨fun z w hz h => (upd_ne fun e => hz (foot_iff.mpr (.inl e))).trans h, fun z hz => .inl hz⟩
theorem RepAt.more {CR : Addr} {H : Hp} {F : List Addr} {p r : Addr} {t : RepT} (R : RepAt CR H F r t) (hp : H p = none) : RepAt CR H (p :: F) r t := by
  obtain ⟨dr, fl, rm, fs, h1, h2, h3, h4, h5⟩ := R
  refine ⟨dr, fl, rm, fs, h1, h2, h3, fun m => ?_, fun m => ?_⟩
  · rcases List.mem_cons.mp m with k | k
    · rw [← k, h2.lst] at hp; cases hp
    · exact h4 k
  · rcases List.mem_cons.mp m with k | k
    · rw [← k, h3] at hp; cases hp
    · exact h5 k
theorem RepAt.less {CR : Addr} {H : Hp} {F : List Addr} {p r : Addr} {t : RepT} (R : RepAt CR H (p :: F) r t) : RepAt CR H F r t := R.mono fun z hz => .inl (List.mem_cons_of_mem _ hz)
/-- the first report ahead of the others, in a new list -/
theorem reps_cons {CR : Addr} {H : Hp} {F : List Addr} {p r : Addr} {rs : List Addr} {reps : List RepT} {t : RepT} (hp : H p = none) (hpF : p ∉ F) (hr : RepAt CR H F r t) (hl : rs.length = reps.length) (hs : ∀ (i : Nat) (q : Addr) (y : RepT), rs[i]? = some q → reps[i]? = some y → RepAt CR H F q y) :
    RepsAt CR (upd H p (.lst ([.ref r] ++ rs.map V.ref))) F p (t :: reps) := by
  refine ⟨r :: rs, upd_same, hpF, by rw [List.length_cons, List.length_cons, hl], fun i q y hq hy => ?_⟩
  cases i with
  | zero =>
    rw [List.getElem?_cons_zero] at hq hy
    cases hq
    cases hy
    exact (hr.more hp).same (same_upd hp)
  | succ i =>
    rw [List.getElem?_cons_succ] at hq hy
    exact ((hs i q y hq hy).more hp).same (same_upd hp)
theorem trigS_len {s s' : BS} {reps : List RepT} (h : TrigS s s' reps) : reps.length + s'.ss.length ≤ s.ss.length := by
  induction h with
  | nil => exact Nat.le_of_eq (Nat.zero_add _)
  | snoc o dxo h hf ih =>
    have h1 := dropS_len (firstS_mem hf).1
    rw [List.length_append, List.length_singleton]
    show _ + 1 + (dropS _ _).length ≤ _
    omega
def newO (s : BS) (ho si : Str) (pr : Option Int) (qu sh : Int) : Ord := ⟨s.next, ho, si, pr, sh, qu, 0⟩
def sp_Book_submit (K : PySem.W.Frag) (CI CO CB CK CS CR : Addr) : Sp := fun vs H Q E => ∃ (_ : Unit) (a : BA) (s : BS) (X : List Addr) (ho si : Str) (pr : Option Int) (qu : Int) (kd : Str) (sh : Int), vs = [.ref a.x, .str ho, .str si, optV pr, .int qu, .str kd, .int sh] ∧ BookW ⟨CO, CB, CK, CS, CR⟩ H a s ∧ Others H a s X ∧ s.es1.length + s.es2.length + s.ss.length ≤ 899 ∧
  (GoodOrd ho si pr qu kd sh → ∀ s' reps p o dxo H', TrigS (enterB (nxtS s) o dxo (newO s ho si pr qu sh) kd).1 s' reps → firstS s'.last s'.ss = none → BookW ⟨CO, CB, CK, CS, CR⟩ H' a s' → StepW a s s' H H' → RepsAt CR H' (X ++ foot a s') p ((enterB (nxtS s) o dxo (newO s ho si pr qu sh) kd).2 :: reps) → Q (.ref p) H') ∧
  (¬ GoodOrd ho si pr qu kd sh → E (.ref CI) none H)
set_option maxHeartbeats 0 in
theorem ok_Book_submit (T : Txt K mg) [TB : TabsOk T base] : FnOk P w K mg base (L2.CX P w) 8 T.f_Book_submit T.d_Book_submit ["self", "house", "side", "price", "quantity", "kind", "shown"] (sp_Book_submit K T.c_InvalidOrder T.c_Order T.c_BookSide T.c_Book T.c_Stop T.c_Report) := by
  refine T.F_Book_submit.ok sc_Book_submit (fun vs H Q E h => ?_) (fun cdv A outer s H vs Q E hr h => ?_)
  · obtain ⟨_, a, s, X, ho, si, pr, qu, kd, sh, rfl, _⟩ := h
    rfl
  · obtain ⟨_, a, s, X, ho, si, pr, qu, kd, sh, rfl, B, hX, hsz, q, qe⟩ := h
    have G_check_order : FnOk P w K mg base (L2.CX P w) 5 T.f_check_order T.d_check_order ["house", "side", "price", "quantity", "kind", "shown"] (sp_check_order K T.c_InvalidOrder) := ok_check_order T
    have G_Order_init : FnOk P w K mg base CX0 1 T.f_Order_init T.d_Order_init ["self", "number", "house", "side", "price", "quantity", "shown"] (sp_Order_init K T.c_Order) := ok_Order_init T
    have G_Bookenter : FnOk P w K mg base CX0 6 T.f_Bookenter T.d_Bookenter ["self", "order", "kind"] (sp_Bookenter K T.c_Order T.c_BookSide T.c_Book T.c_Report) := ok_Bookenter T
    have G_Booktake_number : FnOk P w K mg base CX0 1 T.f_Booktake_number T.d_Booktake_number ["self"] (sp_Booktake_number K T.c_Order T.c_BookSide T.c_Book) := ok_Booktake_number T
    have G_Booktrigger_stops : FnOk P w K mg base CX0 7 T.f_Booktrigger_stops T.d_Booktrigger_stops ["self"] (sp_Booktrigger_stops K T.c_Order T.c_BookSide T.c_Book T.c_Stop T.c_Report) := ok_Booktrigger_stops T
    refine ⟨_, (pss_cons (ps_expr (pe_callS G_check_order (hr.mono (by decide)) (by rfl) T.m_check_order T.F_check_order.kp T.b_check_order (fun σ => passAt (takes_of rfl rfl rfl rfl) σ) (pa_cons (pv 1) (pa_cons (pv 2) (pa_cons (pv 3) (pa_cons (pv 4) (pa_cons (pv 5) (pa_cons (pv 6) pa_nil))))))))
    (pss_cons (ps_set (i := 7) sc_Book_submit.nd rfl (Or.inl rfl) (pe_make T.mk_Order G_Order_init (hr.mono (by decide)) (by rfl) T.m_Order T.b_Order_init .nil pass0 (pa_cons (pe_meth0 (pv 0) T.cl_Book T.mt_Booktake_number G_Booktake_number (hr.mono (by decide)) T.b_Booktake_number .nil pass0) (pa_cons (pv 1) (pa_cons (pv 2) (pa_cons (pv 3) (pa_cons (pv 4) (pa_cons (pv 6) pa_nil))))))))
    (pss_cons (ps_set (i := 8) sc_Book_submit.nd rfl (Or.inl rfl) (pe_meth (pv 0) T.cl_Book T.mt_Bookenter G_Bookenter (hr.mono (by decide)) T.b_Bookenter .nil pass0 (pa_cons (pv 7) (pa_cons (pv 5) pa_nil))))
    (pss_one (ps_ret (pe_op op_cat (pe_lst (pa_cons (pv 8) pa_nil)) (pe_meth0 (pv 0) T.cl_Book T.mt_Booktrigger_stops G_Booktrigger_stops hr T.b_Booktrigger_stops .nil pass0))))))), ?_⟩
    have fact_BookSide_0 := T.cl_BookSide; have fact_BookSide_1 := T.na_BookSide__orders; have fact_Book_0 := T.cl_Book; have fact_Book_1 := T.na_Book_last; have fact_Book_2 := T.na_Book__next_number; have fact_Book_3 := T.na_Book__sides; have fact_Book_4 := T.na_Book__stops; have fact_Order_0 := T.cl_Order; have fact_Order_1 := T.na_Order_number; have fact_Order_2 := T.na_Order_house; have fact_Order_3 := T.na_Order_side; have fact_Order_4 := T.na_Order_price; have fact_Order_5 := T.na_Order_shown; have fact_Order_6 := T.na_Order_left; have fact_Order_7 := T.na_Order_visible; have fact_Report_0 := T.cl_Report; have fact_Report_1 := T.na_Report_number; have fact_Report_2 := T.na_Report_house; have fact_Report_3 := T.na_Report_side; have fact_Report_4 := T.na_Report_fills; have fact_Report_5 := T.na_Report_removed; have fact_Report_6 := T.na_Report_resting
    have hob := B.ob
    have hob2 := hob
    unfold bookO at hob2
    walk_at "st"
    refine ⟨pr, qu, kd, sh, rfl, fun G => ?_, fun h => qe h⟩
    walk_at "st"
    refine ⟨s.last, s.next, rfl, hob, ?_⟩
    have B1 := B.setX s.last (s.next + 1)
    have S1 : StepW a s (nxtS s) H (upd H a.x (bookO T.c_Book a.dx s.last (s.next + 1) a.sd a.st)) := StepW.setX
    generalize upd H a.x _ = H1 at *
    have B1 : BookW ⟨T.c_Order, T.c_BookSide, T.c_Book, T.c_Stop, T.c_Report⟩ H1 a (nxtS s) := B1
    have hob3 := B1.ob
    walk_at "st"
    intro o dxo no ndo hne
    have no' : upd H1 dxo (.own o) o = none := by
      first
        | (rw [upd_ne hne]; exact no)
        | (rw [upd_ne (Ne.symm hne)]; exact no)
    refine ⟨o, dxo, s.next, ho, si, pr, qu, sh, rfl, upd_same, ?_⟩
    rw [upd_upd]
    refine ⟨rfl, ?_⟩
    have so2 : ∀ v, Same H1 (upd (upd H1 dxo (.own o)) o v) := fun v => (same_upd ndo).trans (same_upd no')
    generalize hH2 : upd (upd H1 dxo _) o _ = H2
    have s2 : Same H1 H2 := hH2 ▸ so2 _
    have hoo : H2 o = some (ordO T.c_Order dxo (newO s ho si pr qu sh)) := (congrFun hH2 o).symm.trans upd_same
    have B2 := B1.same s2
    have hob4 := s2 _ _ hob3
    unfold bookO at hob4
    have hkp : V.str kd = V.str "rest" → ∃ p, pr = some p := fun z => by
      cases pr with
      | none => exact absurd z (G.h5 rfl)
      | some p => exact ⟨p, rfl⟩
    walk_at "st"
    delta tNil
    refine enter_w (K := K) (E := E0) (C := ⟨T.c_Order, T.c_BookSide, T.c_Book, T.c_Stop, T.c_Report⟩) (a := a) (s := nxtS s) (dxo := dxo) (t := newO s ho si pr qu sh) (kd := kd) B2 (G.h2.imp V.str.inj V.str.inj) hoo (B1.fresh no) G.h6.1 G.h6.2 G.h7.1 hkp hsz ?_
    intro r H3 nr hR B3 fr3 nw3
    have p23 : StepW a (nxtS s) (enterB (nxtS s) o dxo (newO s ho si pr qu sh) kd).1 H1 H3 := by
      refine ⟨fun z v hz h => fr3 z v hz (fun q => by rw [q, no] at h; cases h) (s2 _ _ h), fun z hz => ?_⟩
      rcases nw3 z hz with k | k
      · exact .inl k
      · exact .inr (by rw [k]; exact no)
    have hR3 := hR (X ++ foot a (enterB (nxtS s) o dxo (newO s ho si pr qu sh) kd).1) fun z hz => by
      rcases List.mem_append.mp hz with k | k
      · obtain ⟨v, hv⟩ := ((hX.step S1) z k).2
        exact .inr ⟨v, s2 _ _ hv⟩
      · exact .inl k
    have hob5 := B3.ob
    unfold bookO at hob5
    walk_at "st"
    intro p1 np1
    generalize hH4 : upd H3 p1 _ = H4
    have s4 : Same H3 H4 := hH4 ▸ same_upd np1
    have hp1 := (congrFun hH4 p1).symm.trans upd_same
    have B4 := B3.same s4
    have fp1 := B3.fresh np1
    have hob6 := B4.ob
    unfold bookO at hob6
    walk_at "st"
    refine ⟨(), a, _, X, rfl, B4, hX.step ((S1.trans p23).post s4), fun s' reps D H5 hT hf B5 S5 nD hReps => ?_⟩
    obtain ⟨rs, hD5, fD5, hlr, hreps⟩ := hReps
    have hp5 := S5.fr _ _ fp1 hp1
    have hlen : rs.length ≤ 900 := by
      have h1 := trigS_len hT
      have h2 := B4.sp.sm
      omega
    refine ⟨p1, D, [.ref r], rs.map V.ref, rfl, rfl, hp5, hD5, Nat.le_of_lt (small1000 (by show 1 + _ ≤ 1000; rw [List.length_map]; omega)), fun p np => ?_⟩
    · have S05 := ((S1.trans p23).post s4).trans S5
      refine q G s' reps p o dxo _ hT hf (B5.same (same_upd np)) (S05.post (same_upd np)) ?_
      exact reps_cons np ((hX.step S05).new np (B5.fresh np)) ((hR3.same s4).stepY (C := ⟨T.c_Order, T.c_BookSide, T.c_Book, T.c_Stop, T.c_Report⟩) B4 S5) hlr fun i q y h1 h2 => (hreps i q y h1 h2).less
/-- what makes a stop order -/
structure GoodStp (ho si : Str) (tr : Int) (pr : Option Int) (qu : Int) : Prop where
  h1 : ¬ V.str ho = V.str ""
  h2 : V.str si = V.str "buy" ∨ V.str si = V.str "sell"
  h3 : 1 ≤ tr ∧ tr ≤ 1000000
  h4 : ∀ p, pr = some p → 1 ≤ p ∧ p ≤ 1000000
  h6 : 1 ≤ qu ∧ qu ≤ 1000000
def sp_check_stop (K : PySem.W.Frag) (C : Addr) : Sp := fun vs H Q E => ∃ (ho si : Str) (tr : Int) (pr : Option Int) (qu : Int), vs = [.str ho, .str si, .int tr, optV pr, .int qu] ∧ (GoodStp ho si tr pr qu → Q .non H) ∧ (¬ GoodStp ho si tr pr qu → E (.ref C) none H)
set_option maxHeartbeats 0 in
theorem ok_check_stop (T : Txt K mg) [TB : TabsOk T base] : FnOk P w K mg base (L2.CX P w) 5 T.f_check_stop T.d_check_stop ["house", "side", "trigger", "price", "quantity"] (sp_check_stop K T.c_InvalidOrder) := by
  refine T.F_check_stop.okX sc_check_stop (fun vs H Q E h => ?_) (fun cdv A outer s H vs Q E hr h => ?_)
  · obtain ⟨ho, si, tr, pr, qu, rfl, _⟩ := h
    rfl
  · obtain ⟨ho, si, tr, pr, qu, rfl, q, qe⟩ := h
    have G_check_house : FnOk P w K mg base (L2.CX P w) 1 T.f_check_house T.d_check_house ["house"] (sp_check_house K T.c_InvalidOrder) := ok_check_house T
    have G_check_side : FnOk P w K mg base (L2.CX P w) 1 T.f_check_side T.d_check_side ["side"] (sp_check_side K T.c_InvalidOrder) := ok_check_side T
    have G_check_price : FnOk P w K mg base (L2.CX P w) 4 T.f_check_price T.d_check_price ["price"] (sp_check_price K T.c_InvalidOrder) := ok_check_price T
    have G_check_quantity : FnOk P w K mg base (L2.CX P w) 4 T.f_check_quantity T.d_check_quantity ["quantity"] (sp_check_quantity K T.c_InvalidOrder) := ok_check_quantity T
    refine ⟨_, (pss_cons (ps_expr (pe_callS G_check_house (hr.mono (by decide)) (by rfl) T.m_check_house T.F_check_house.kp T.b_check_house (fun σ => passAt (takes_of rfl rfl rfl rfl) σ) (pa_cons (pv 0) pa_nil)))
    (pss_cons (ps_expr (pe_callS G_check_side (hr.mono (by decide)) (by rfl) T.m_check_side T.F_check_side.kp T.b_check_side (fun σ => passAt (takes_of rfl rfl rfl rfl) σ) (pa_cons (pv 1) pa_nil)))
    (pss_cons (ps_expr (pe_callS G_check_price hr (by rfl) T.m_check_price T.F_check_price.kp T.b_check_price (fun σ => passAt (takes_of rfl rfl rfl rfl) σ) (pa_cons (pv 2) pa_nil)))
    (pss_cons (ps_if (pt_cmpR op_notN (pv 3) pe_non (nomark _))
      (pss_one (ps_expr (pe_callS G_check_price hr (by rfl) T.m_check_price T.F_check_price.kp T.b_check_price (fun σ => passAt (takes_of rfl rfl rfl rfl) σ) (pa_cons (pv 3) pa_nil))))
      pss_nil)
    (pss_one (ps_expr (pe_callS G_check_quantity hr (by rfl) T.m_check_quantity T.F_check_quantity.kp T.b_check_quantity (fun σ => passAt (takes_of rfl rfl rfl rfl) σ) (pa_cons (pv 4) pa_nil)))))))), ?_⟩
    walk_at "st"
    refine ⟨fun h1 => ?_, fun h1 => qe fun G => G.h1 h1⟩
    walk_at "st"
    refine ⟨fun h2 => ?_, fun h2 => qe fun G => h2 G.h2⟩
    walk_at "st"
    refine ⟨fun h3 => ?_, fun h3 => qe fun G => h3 G.h3⟩
    cases pr with
    | none =>
      walk_at "st"
      refine ⟨fun h6 => ?_, fun h6 => qe fun G => h6 G.h6⟩
      exact q ⟨h1, h2, h3, (fun p hp => by cases hp), h6⟩
    | some p =>
      walk_at "st"
      refine ⟨fun h4 => ?_, fun h4 => qe fun G => h4 (G.h4 p rfl)⟩
      walk_at "st"
      refine ⟨fun h6 => ?_, fun h6 => qe fun G => h6 G.h6⟩
      exact q ⟨h1, h2, h3, (fun p' hp => by cases hp; exact h4), h6⟩
def newS (s : BS) (q dq : Addr) (ho si : Str) (tr : Int) (pr : Option Int) (qu : Int) : BS := { nxtS s with ss := s.ss ++ [(q, dq, ⟨s.next, ho, si, tr, pr, qu⟩)] }
def sp_Book_submit_stop (K : PySem.W.Frag) (CI CO CB CK CS CR : Addr) : Sp := fun vs H Q E => ∃ (_ : Unit) (a : BA) (s : BS) (X : List Addr) (ho si : Str) (tr : Int) (pr : Option Int) (qu : Int), vs = [.ref a.x, .str ho, .str si, .int tr, optV pr, .int qu] ∧ BookW ⟨CO, CB, CK, CS, CR⟩ H a s ∧ Others H a s X ∧ s.es1.length + s.es2.length + s.ss.length ≤ 899 ∧
  (GoodStp ho si tr pr qu → ∀ s' reps p y dy H', ((newS s y dy ho si tr pr qu).ss.map (·.1)).Nodup → TrigS (newS s y dy ho si tr pr qu) s' reps → firstS s'.last s'.ss = none → BookW ⟨CO, CB, CK, CS, CR⟩ H' a s' → StepW a s s' H H' → RepsAt CR H' (X ++ foot a s') p (⟨s.next, ho, si, [], [], 0⟩ :: reps) → Q (.ref p) H') ∧
  (¬ GoodStp ho si tr pr qu → E (.ref CI) none H)
set_option maxHeartbeats 0 in
theorem ok_Book_submit_stop (T : Txt K mg) [TB : TabsOk T base] : FnOk P w K mg base (L2.CX P w) 8 T.f_Book_submit_stop T.d_Book_submit_stop ["self", "house", "side", "trigger", "price", "quantity"] (sp_Book_submit_stop K T.c_InvalidOrder T.c_Order T.c_BookSide T.c_Book T.c_Stop T.c_Report) := by
  refine T.F_Book_submit_stop.okX sc_Book_submit_stop (fun vs H Q E h => ?_) (fun cdv A outer s H vs Q E hr h => ?_)
  · obtain ⟨_, a, s, X, ho, si, tr, pr, qu, rfl, _⟩ := h
    rfl
  · obtain ⟨_, a, s, X, ho, si, tr, pr, qu, rfl, B, hX, hsz, q, qe⟩ := h
    have G_check_stop : FnOk P w K mg base (L2.CX P w) 5 T.f_check_stop T.d_check_stop ["house", "side", "trigger", "price", "quantity"] (sp_check_stop K T.c_InvalidOrder) := ok_check_stop T
    have G_Stop_init : FnOk P w K mg base CX0 1 T.f_Stop_init T.d_Stop_init ["self", "number", "house", "side", "trigger", "price", "quantity"] (sp_Stop_init K T.c_Stop) := ok_Stop_init T
    have G_Booktake_number : FnOk P w K mg base CX0 1 T.f_Booktake_number T.d_Booktake_number ["self"] (sp_Booktake_number K T.c_Order T.c_BookSide T.c_Book) := ok_Booktake_number T
    have G_Booktrigger_stops : FnOk P w K mg base CX0 7 T.f_Booktrigger_stops T.d_Booktrigger_stops ["self"] (sp_Booktrigger_stops K T.c_Order T.c_BookSide T.c_Book T.c_Stop T.c_Report) := ok_Booktrigger_stops T
    have G_Report_init : FnOk P w K mg base CX0 1 T.f_Report_init T.d_Report_init ["self", "number", "house", "side"] (sp_Report_init K T.c_Report) := ok_Report_init T
    refine ⟨_, (pss_cons (ps_expr (pe_callS G_check_stop (hr.mono (by decide)) (by rfl) T.m_check_stop T.F_check_stop.kp T.b_check_stop (fun σ => passAt (takes_of rfl rfl rfl rfl) σ) (pa_cons (pv 1) (pa_cons (pv 2) (pa_cons (pv 3) (pa_cons (pv 4) (pa_cons (pv 5) pa_nil)))))))
    (pss_cons (ps_set (i := 6) sc_Book_submit_stop.nd rfl (Or.inl rfl) (pe_make T.mk_Stop G_Stop_init (hr.mono (by decide)) (by rfl) T.m_Stop T.b_Stop_init .nil pass0 (pa_cons (pe_meth0 (pv 0) T.cl_Book T.mt_Booktake_number G_Booktake_number (hr.mono (by decide)) T.b_Booktake_number .nil pass0) (pa_cons (pv 1) (pa_cons (pv 2) (pa_cons (pv 3) (pa_cons (pv 4) (pa_cons (pv 5) pa_nil))))))))
    (pss_cons (ps_expr (pe_bm PySem.F.plainAttrs_list PySem.F.slot_list_append PySem.F.type_list_append mt_append (pe_fld (pv 0) rfl) (pa_cons (pv 6) pa_nil)))
    (pss_one (ps_ret (pe_op op_cat (pe_lst (pa_cons (pe_make T.mk_Report G_Report_init (hr.mono (by decide)) (by rfl) T.m_Report T.b_Report_init .nil pass0 (pa_cons (pe_fld (pv 6) rfl) (pa_cons (pv 1) (pa_cons (pv 2) pa_nil)))) pa_nil)) (pe_meth0 (pv 0) T.cl_Book T.mt_Booktrigger_stops G_Booktrigger_stops hr T.b_Booktrigger_stops .nil pass0))))))), ?_⟩
    have fact_BookSide_0 := T.cl_BookSide; have fact_BookSide_1 := T.na_BookSide__orders; have fact_Book_0 := T.cl_Book; have fact_Book_1 := T.na_Book_last; have fact_Book_2 := T.na_Book__next_number; have fact_Book_3 := T.na_Book__sides; have fact_Book_4 := T.na_Book__stops; have fact_Order_0 := T.cl_Order; have fact_Order_1 := T.na_Order_number; have fact_Order_2 := T.na_Order_house; have fact_Order_3 := T.na_Order_side; have fact_Order_4 := T.na_Order_price; have fact_Order_5 := T.na_Order_shown; have fact_Order_6 := T.na_Order_left; have fact_Order_7 := T.na_Order_visible; have fact_Report_0 := T.cl_Report; have fact_Report_1 := T.na_Report_number; have fact_Report_2 := T.na_Report_house; have fact_Report_3 := T.na_Report_side; have fact_Report_4 := T.na_Report_fills; have fact_Report_5 := T.na_Report_removed; have fact_Report_6 := T.na_Report_resting; have fact_Stop_0 := T.cl_Stop; have fact_Stop_1 := T.na_Stop_number; have fact_Stop_2 := T.na_Stop_house; have fact_Stop_3 := T.na_Stop_side; have fact_Stop_4 := T.na_Stop_trigger; have fact_Stop_5 := T.na_Stop_price; have fact_Stop_6 := T.na_Stop_quantity
    have hob := B.ob
    have hob2 := hob
    unfold bookO at hob2
    walk_at "st"
    refine ⟨pr, qu, rfl, fun G => ?_, fun h => qe h⟩
    walk_at "st"
    refine ⟨s.last, s.next, rfl, hob, ?_⟩
    have B1 := B.setX s.last (s.next + 1)
    have S1 : StepW a s (nxtS s) H (upd H a.x (bookO T.c_Book a.dx s.last (s.next + 1) a.sd a.st)) := StepW.setX
    generalize upd H a.x _ = H1 at *
    have B1 : BookW ⟨T.c_Order, T.c_BookSide, T.c_Book, T.c_Stop, T.c_Report⟩ H1 a (nxtS s) := B1
    have hob3 := B1.ob
    walk_at "st"
    intro y dy no ndo hne
    have no' : upd H1 dy (.own y) y = none := by
      first
        | (rw [upd_ne hne]; exact no)
        | (rw [upd_ne (Ne.symm hne)]; exact no)
    refine ⟨y, dy, s.next, ho, si, tr, pr, qu, rfl, upd_same, ?_⟩
    rw [upd_upd]
    refine ⟨rfl, ?_⟩
    have so2 : ∀ v, Same H1 (upd (upd H1 dy (.own y)) y v) := fun v => (same_upd ndo).trans (same_upd no')
    generalize hH2 : upd (upd H1 dy _) y _ = H2
    have s2 : Same H1 H2 := hH2 ▸ so2 _
    have hyy : H2 y = some (stopO T.c_Stop dy ⟨s.next, ho, si, tr, pr, qu⟩) := (congrFun hH2 y).symm.trans upd_same
    have B2 := B1.same s2
    have hob4 := B2.ob
    unfold bookO at hob4
    have hst2 := B2.sp.li
    have hy2 := hyy
    unfold stopO at hy2
    have hsm : (refsS (nxtS s).ss).length < sizeLine := by
      unfold refsS
      rw [List.length_map]
      exact small1000 (by show s.ss.length ≤ 1000; omega)
    have nys : y ≠ a.st := fun z => by rw [z, hst2] at hyy; unfold stopO at hyy; cases hyy
    have hy3 : upd H2 a.st (.lst (refsS (nxtS s).ss ++ [.ref y])) y = _ := (upd_ne nys).trans hy2
    have B3 : BookW ⟨T.c_Order, T.c_BookSide, T.c_Book, T.c_Stop, T.c_Report⟩ (upd H2 a.st (.lst (refsS (newS s y dy ho si tr pr qu).ss))) a (newS s y dy ho si tr pr qu) := by
      refine B2.put (fun e he => ?_) ?_ (fun e he => ?_) ?_
      · rcases List.mem_append.mp he with h | h
        · exact B2.sp.en e h
        · rw [List.mem_singleton.mp h]
          exact hyy
      · show ((s.ss ++ [((y, dy, ⟨s.next, ho, si, tr, pr, qu⟩) : EntS)]).map (·.1)).Nodup
        rw [List.map_append]
        refine List.nodup_append.mpr ⟨B.sp.nd, List.nodup_cons.mpr ⟨List.not_mem_nil, List.nodup_nil⟩, fun u hu v hv e => ?_⟩
        rw [List.mem_singleton.mp hv] at e
        obtain ⟨z, hz, rfl⟩ := List.mem_map.mp hu
        have := B1.sp.en z hz
        rw [e, no] at this
        cases this
      · rcases List.mem_append.mp he with h | h
        · exact B.gs e h
        · rw [List.mem_singleton.mp h]
          exact ⟨G.h2.imp V.str.inj V.str.inj, G.h6⟩
      · show s.es1.length + s.es2.length + (s.ss ++ [_]).length ≤ 900
        rw [List.length_append, List.length_singleton]
        omega
    have S3 : StepW a (nxtS s) (newS s y dy ho si tr pr qu) H2 (upd H2 a.st (.lst (refsS (newS s y dy ho si tr pr qu).ss))) := StepW.put
    have eL : refsS (nxtS s).ss ++ [V.ref y] = refsS (newS s y dy ho si tr pr qu).ss := by
      show refsS s.ss ++ [V.ref y] = refsS (s.ss ++ [_])
      unfold refsS
      rw [List.map_append]
      rfl
    walk_at "st"
    rw [eL]
    generalize hH3 : upd H2 a.st (.lst (refsS (newS s y dy ho si tr pr qu).ss)) = H3 at *
    have hob5 := B3.ob
    unfold bookO at hob5
    intro r dr nr ndr hne
    have nr' : upd H3 dr (.own r) r = none := by
      first
        | (rw [upd_ne hne]; exact nr)
        | (rw [upd_ne (Ne.symm hne)]; exact nr)
    have sx : Same H3 (upd (upd H3 dr (.own r)) r (.ins T.c_Report dr [])) := (same_upd ndr).trans (same_upd nr')
    refine ⟨r, dr, s.next, ho, si, rfl, upd_same, fun fl rm H4 kx hr hfl hrm nfl nrm hfr => ?_⟩
    have e1 : Same H3 H4 := fun z v hz => kx z v (ne_of_none hz nr) (sx z v hz)
    have fresh0 : ∀ {z : Addr}, upd (upd H3 dr (.own r)) r (.ins T.c_Report dr []) z = none → H3 z = none := fun {z} hz => by
      cases hh : H3 z with
      | none => rfl
      | some v =>
        have := sx z v hh
        rw [hz] at this
        cases this
    refine ⟨rfl, ?_⟩
    have B4 := B3.same e1
    have hX3 := hX.step (S1.trans (S3.pre s2))
    have hR4 : RepAt T.c_Report H4 (X ++ foot a (newS s y dy ho si tr pr qu)) r ⟨s.next, ho, si, [], [], 0⟩ := ⟨dr, fl, rm, [], hr, Tups.nil hfl, hrm, hX3.new (fresh0 nfl) (B3.fresh (fresh0 nfl)), hX3.new (fresh0 nrm) (B3.fresh (fresh0 nrm))⟩
    have hob6 := B4.ob
    unfold bookO at hob6
    have p14 : StepW a (nxtS s) (newS s y dy ho si tr pr qu) H1 H4 := (S3.pre s2).post e1
    walk_at "st"
    intro p1 np1
    generalize hH5 : upd H4 p1 _ = H5
    have s5 : Same H4 H5 := hH5 ▸ same_upd np1
    have hp1 := (congrFun hH5 p1).symm.trans upd_same
    have B5 := B4.same s5
    have fp1 := B4.fresh np1
    have hob7 := B5.ob
    unfold bookO at hob7
    walk_at "st"
    refine ⟨(), a, _, X, rfl, B5, hX.step ((S1.trans p14).post s5), fun s' reps D H6 hT hf B6 S6 nD hReps => ?_⟩
    obtain ⟨rs, hD6, fD6, hlr, hreps⟩ := hReps
    have hp6 := S6.fr _ _ fp1 hp1
    have hlen : rs.length ≤ 900 := by
      have h1 := trigS_len hT
      have h2 := B5.sp.sm
      omega
    refine ⟨p1, D, [.ref r], rs.map V.ref, rfl, rfl, hp6, hD6, Nat.le_of_lt (small1000 (by show 1 + _ ≤ 1000; rw [List.length_map]; omega)), fun p np => ?_⟩
    have S06 := ((S1.trans p14).post s5).trans S6
    refine q G s' reps p y dy _ B3.sp.nd hT hf (B6.same (same_upd np)) (S06.post (same_upd np)) ?_
    exact reps_cons np ((hX.step S06).new np (B6.fresh np)) ((hR4.same s5).stepY (C := ⟨T.c_Order, T.c_BookSide, T.c_Book, T.c_Stop, T.c_Report⟩) B5 S6) hlr fun i q y h1 h2 => (hreps i q y h1 h2).less

/-! ### orders and stop orders are taken back, orders are amended -/
def offO (s : BS) (z : Addr) : BS := { s with es1 := dropE z s.es1, es2 := dropE z s.es2 }
theorem BookW.sides {C : BC} {H : Hp} {a : BA} {s : BS} (B : BookW C H a s) : SidesAt C.CO C.CB C.CK H a.x a.dx a.sd a.st a.b1 a.d1 a.l1 a.b2 a.d2 a.l2 s.last s.next s.es1 s.es2 := ⟨B.ob, B.sd, B.s1, B.s2⟩
theorem drop_len (z : Addr) (es : List Ent) : (dropE z es).length ≤ es.length := List.length_filter_le _ _
theorem drop_less {e : Ent} {es : List Ent} (h : e ∈ es) : (dropE e.1 es).length + 1 ≤ es.length :=
  List.length_filter_lt_length_iff_exists (p := fun y : Ent => decide (y.1 ≠ e.1)) (l := es) |>.mpr ⟨e, h, by simp⟩
theorem BookW.drop1 {C : BC} {H : Hp} {a : BA} {s : BS} (B : BookW C H a s) {e : Ent} (he : e ∈ s.es1) : BookW C (upd H a.l1 (.lst (refs (dropE e.1 s.es1)))) a (offO s e.1) := by
  have h2 : dropE e.1 s.es2 = s.es2 := drop_none fun y hy z => B.dj e he y hy z.symm
  have hl := B.s1.li
  have ne : ∀ {z v}, H z = some v → (∀ xs, v ≠ .lst xs) → z ≠ a.l1 := fun {z v} h hv q => by
    rw [q, hl] at h
    cases h
    exact hv _ rfl
  have sz := B.sz
  have l1 := drop_len e.1 s.es1
  refine ⟨(upd_ne (ne B.ob fun xs h => by unfold bookO at h; cases h)).trans B.ob, (upd_ne (ne B.sd fun xs h => by unfold sidesO at h; cases h)).trans B.sd, ⟨(upd_ne B.n1).trans B.sp.li, fun y hy => (upd_ne (ne (B.sp.en y hy) fun xs h => by unfold stopO at h; cases h)).trans (B.sp.en y hy), B.sp.nd, B.sp.sm⟩,
    B.s1.drop e.1, ?_, B.r1.sub List.filter_sublist, ?_, ?_, B.nll, B.n1, B.n2, B.gs, ?_⟩
  · show SideAt C.CO C.CB _ a.b2 a.d2 a.l2 (dropE e.1 s.es2)
    rw [h2]
    exact B.s2.upd (ne B.s2.ob fun xs h => by cases h) B.nll.symm fun y hy => ne (B.s2.en y hy) fun xs h => by unfold ordO at h; cases h
  · show Rank "sell" (dropE e.1 s.es2)
    rw [h2]
    exact B.r2
  · show ∀ y, y ∈ dropE e.1 s.es1 → ∀ z, z ∈ dropE e.1 s.es2 → y.1 ≠ z.1
    exact fun y hy z hz => B.dj y (drop_mem hy).1 z (drop_mem hz).1
  · show (dropE e.1 s.es1).length + (dropE e.1 s.es2).length + s.ss.length ≤ 900
    rw [h2]
    omega
theorem BookW.drop2 {C : BC} {H : Hp} {a : BA} {s : BS} (B : BookW C H a s) {e : Ent} (he : e ∈ s.es2) : BookW C (upd H a.l2 (.lst (refs (dropE e.1 s.es2)))) a (offO s e.1) := by
  have h2 : dropE e.1 s.es1 = s.es1 := drop_none fun y hy z => B.dj y hy e he z
  have hl := B.s2.li
  have ne : ∀ {z v}, H z = some v → (∀ xs, v ≠ .lst xs) → z ≠ a.l2 := fun {z v} h hv q => by
    rw [q, hl] at h
    cases h
    exact hv _ rfl
  have sz := B.sz
  have l1 := drop_len e.1 s.es2
  refine ⟨(upd_ne (ne B.ob fun xs h => by unfold bookO at h; cases h)).trans B.ob, (upd_ne (ne B.sd fun xs h => by unfold sidesO at h; cases h)).trans B.sd, ⟨(upd_ne B.n2).trans B.sp.li, fun y hy => (upd_ne (ne (B.sp.en y hy) fun xs h => by unfold stopO at h; cases h)).trans (B.sp.en y hy), B.sp.nd, B.sp.sm⟩,
    ?_, B.s2.drop e.1, ?_, B.r2.sub List.filter_sublist, ?_, B.nll, B.n1, B.n2, B.gs, ?_⟩
  · show SideAt C.CO C.CB _ a.b1 a.d1 a.l1 (dropE e.1 s.es1)
    rw [h2]
    exact B.s1.upd (ne B.s1.ob fun xs h => by cases h) B.nll fun y hy => ne (B.s1.en y hy) fun xs h => by unfold ordO at h; cases h
  · show Rank "buy" (dropE e.1 s.es1)
    rw [h2]
    exact B.r1
  · show ∀ y, y ∈ dropE e.1 s.es1 → ∀ z, z ∈ dropE e.1 s.es2 → y.1 ≠ z.1
    exact fun y hy z hz => B.dj y (drop_mem hy).1 z (drop_mem hz).1
  · show (dropE e.1 s.es1).length + (dropE e.1 s.es2).length + s.ss.length ≤ 900
    rw [h2]
    omega
theorem StepW.off {a : BA} {s : BS} {H : Hp} {z l : Addr} {v : HO} (hl : l = a.l1 ∨ l = a.l2) : StepW a s (offO s z) H (upd H l v) := by
  refine ⟨fun y w hy h => (upd_ne fun e => hy ?_).trans h, fun y hy => .inl ?_⟩
  · rw [e]
    rcases hl with k | k
    · rw [k]; exact foot_iff.mpr (.inr (.inl rfl))
    · rw [k]; exact foot_iff.mpr (.inr (.inr (.inl rfl)))
  · rcases foot_iff.mp hy with k | k | k | k | k | k
    · exact foot_iff.mpr (.inl k)
    · exact foot_iff.mpr (.inr (.inl k))
    · exact foot_iff.mpr (.inr (.inr (.inl k)))
    · exact foot_iff.mpr (.inr (.inr (.inr (.inl k))))
    · exact foot_iff.mpr (.inr (.inr (.inr (.inr (.inl ((List.filter_sublist.map _).subset k))))))
    · exact foot_iff.mpr (.inr (.inr (.inr (.inr (.inr ((List.filter_sublist.map _).subset k))))))
/-- the order's side, its list, and the book without it -/
theorem BookW.sideOf {C : BC} {H : Hp} {a : BA} {s : BS} (B : BookW C H a s) {e : Ent} (hm : e ∈ s.es1 ∨ e ∈ s.es2) : ∃ (_ : Unit) (b db l : Addr) (pre post : List Ent), DGet H a.sd (.str e.2.2.side) (some (.ref b)) ∧ SideAt C.CO C.CB H b db l (pre ++ e :: post) ∧ BookW C (upd H l (.lst (refs (pre ++ post)))) a (offO s e.1) ∧ (l = a.l1 ∨ l = a.l2) ∧ e.1 ≠ l := by
  rcases hm with hm | hm
  · have hs := B.r1.side e hm
    have hsd := sides_buy B.sd
    rw [← hs] at hsd
    obtain ⟨pre, post, hpp⟩ := List.append_of_mem hm
    have S := B.s1
    have B2 := B.drop1 hm
    have hd : dropE e.1 s.es1 = pre ++ post := by rw [hpp]; exact drop_mid (by rw [← hpp]; exact S.nd)
    rw [hpp] at S
    rw [show refs (dropE e.1 s.es1) = refs (pre ++ post) by rw [hd]] at B2
    exact ⟨(), _, _, _, pre, post, hsd, S, B2, .inl rfl, B.s1.le hm⟩
  · have hs := B.r2.side e hm
    have hsd := sides_sell B.sd
    rw [← hs] at hsd
    obtain ⟨pre, post, hpp⟩ := List.append_of_mem hm
    have S := B.s2
    have B2 := B.drop2 hm
    have hd : dropE e.1 s.es2 = pre ++ post := by rw [hpp]; exact drop_mid (by rw [← hpp]; exact S.nd)
    rw [hpp] at S
    rw [show refs (dropE e.1 s.es2) = refs (pre ++ post) by rw [hd]] at B2
    exact ⟨(), _, _, _, pre, post, hsd, S, B2, .inr rfl, B.s2.le hm⟩
def stopN (ss : List EntS) (n : Int) : Option EntS := ss.find? fun e => decide (e.2.2.number = n)
theorem stopN_mem {ss : List EntS} {n : Int} {e : EntS} (h : stopN ss n = some e) : e ∈ ss ∧ e.2.2.number = n := ⟨List.mem_of_find?_eq_some h, of_decide_eq_true (List.find?_some (p := fun e : EntS => decide (e.2.2.number = n)) h)⟩
def sp_Book_cancel (K : PySem.W.Frag) (CU CN CO CB CK CS CR : Addr) : Sp := fun vs H Q E => ∃ (a : BA) (s : BS) (n : Int) (ho : Str), vs = [.ref a.x, .int n, .str ho] ∧ BookW ⟨CO, CB, CK, CS, CR⟩ H a s ∧
  (∀ (e : EntS) (H' : Hp), stopN s.ss n = some e → e.2.2.house = ho → BookW ⟨CO, CB, CK, CS, CR⟩ H' a (offS s e.1) → StepW a s (offS s e.1) H H' → Q (.int e.2.2.quantity) H') ∧
  (∀ e : EntS, stopN s.ss n = some e → e.2.2.house ≠ ho → E (.ref CN) none H) ∧
  (∀ (e : Ent) (H' : Hp), stopN s.ss n = none → withNum s.es1 s.es2 n = some e → e.2.2.house = ho → BookW ⟨CO, CB, CK, CS, CR⟩ H' a (offO s e.1) → StepW a s (offO s e.1) H H' → Q (.int e.2.2.left) H') ∧
  (stopN s.ss n = none → withNum s.es1 s.es2 n = none → E (.ref CU) none H) ∧ (∀ e : Ent, stopN s.ss n = none → withNum s.es1 s.es2 n = some e → e.2.2.house ≠ ho → E (.ref CN) none H)
set_option maxHeartbeats 0 in
theorem ok_Book_cancel (T : Txt K mg) [TB : TabsOk T base] : FnOk P w K mg base (L2.CX P w) 4 T.f_Book_cancel T.d_Book_cancel ["self", "number", "house"] (sp_Book_cancel K T.c_UnknownOrder T.c_NotOwner T.c_Order T.c_BookSide T.c_Book T.c_Stop T.c_Report) := by
  refine T.F_Book_cancel.okX sc_Book_cancel (fun vs H Q E h => ?_) (fun cdv A outer s H vs Q E hr h => ?_)
  · obtain ⟨a, s, n, ho, rfl, _⟩ := h
    rfl
  · obtain ⟨a, s, n, ho, rfl, B, qs, qsn, qo, qou, qon⟩ := h
    have G_Bookstop_with : FnOk P w K mg base CX0 1 T.f_Bookstop_with T.d_Bookstop_with ["self", "number"] (sp_Bookstop_with K T.c_Stop T.c_Book) := ok_Bookstop_with T
    have G_Bookorder_of : FnOk P w K mg base (L2.CX P w) 3 T.f_Bookorder_of T.d_Bookorder_of ["self", "number", "house"] (sp_Bookorder_of K T.c_UnknownOrder T.c_NotOwner T.c_Order T.c_BookSide T.c_Book) := ok_Bookorder_of T
    have G_BookSide_leave : FnOk P w K mg base CX0 1 T.f_BookSide_leave T.d_BookSide_leave ["self", "order"] (sp_BookSide_leave K T.c_Order T.c_BookSide) := ok_BookSide_leave T
    refine ⟨_, (pss_cons (ps_set (i := 3) sc_Book_cancel.nd rfl (Or.inl rfl) (pe_meth (pv 0) T.cl_Book T.mt_Bookstop_with G_Bookstop_with (hr.mono (by decide)) T.b_Bookstop_with .nil pass0 (pa_cons (pv 1) pa_nil)))
    (pss_cons (ps_if (pt_cmpR op_isN (pv 3) pe_non (nomark _))
      (pss_cons (ps_set (i := 4) sc_Book_cancel.nd rfl (Or.inl rfl) (pe_mx (pv 0) T.cl_Book T.mt_Bookorder_of G_Bookorder_of hr T.b_Bookorder_of .nil (fun σ => passAt (takes_of rfl rfl rfl rfl) σ) (pa_cons (pv 1) (pa_cons (pv 2) pa_nil))))
      (pss_cons (ps_expr (pe_meth (pe_dget (hu_of hr) (pe_fld (pv 0) rfl) (pe_fld (pv 4) rfl) (fun _ _ => rfl)) T.cl_BookSide T.mt_BookSide_leave G_BookSide_leave (hr.mono (by decide)) T.b_BookSide_leave .nil pass0 (pa_cons (pv 4) pa_nil)))
      (pss_one (ps_ret (pe_fld (pv 4) rfl)))))
      pss_nil)
    (pss_cons (ps_if (pt_cmpR op_ne (pe_fld (pv 3) rfl) (pv 2) (nomark _))
      (pss_one (ps_raise rfl (takes_of rfl rfl rfl rfl) (pmk_own PySem.F.excBase_ValueError T.x_NotOwner T.m_NotOwner T.k_NotOwner (raises_own T.b_NotOwner T.t_NotOwner) (by rfl))))
      pss_nil)
    (pss_cons (ps_expr (pe_bm PySem.F.plainAttrs_list PySem.F.slot_list_remove PySem.F.type_list_remove (mt_removeO hr T.eq_Stop T.mo_Stop) (pe_fld (pv 0) rfl) (pa_cons (pv 3) pa_nil)))
    (pss_one (ps_ret (pe_fld (pv 3) rfl))))))), ?_⟩
    have fact_BookSide_0 := T.cl_BookSide; have fact_BookSide_1 := T.na_BookSide__orders; have fact_Book_0 := T.cl_Book; have fact_Book_1 := T.na_Book_last; have fact_Book_2 := T.na_Book__next_number; have fact_Book_3 := T.na_Book__sides; have fact_Book_4 := T.na_Book__stops; have fact_Order_0 := T.cl_Order; have fact_Order_1 := T.na_Order_number; have fact_Order_2 := T.na_Order_house; have fact_Order_3 := T.na_Order_side; have fact_Order_4 := T.na_Order_price; have fact_Order_5 := T.na_Order_shown; have fact_Order_6 := T.na_Order_left; have fact_Order_7 := T.na_Order_visible; have fact_Stop_0 := T.cl_Stop; have fact_Stop_1 := T.na_Stop_number; have fact_Stop_2 := T.na_Stop_house; have fact_Stop_3 := T.na_Stop_side; have fact_Stop_4 := T.na_Stop_trigger; have fact_Stop_5 := T.na_Stop_price; have fact_Stop_6 := T.na_Stop_quantity
    have hob := B.ob
    have hob2 := hob
    unfold bookO at hob2
    have hst := B.sp.li
    walk_at "st"
    refine ⟨s.last, s.next, s.ss, n, rfl, hob, B.sp, ?_⟩
    cases hs : stopN s.ss n with
    | none =>
      rw [show (s.ss.find? fun e => decide (e.2.2.number = n)) = none from hs]
      walk_at "st"
      refine ⟨s.last, s.next, s.es1, s.es2, n, ho, rfl, B.sides, fun e hw hho => ?_, qou hs, fun e hw hne => qon e hs hw hne⟩
      have hm := (with_mem hw).2
      have hen : H e.1 = some (ordO T.c_Order e.2.1 e.2.2) := hm.elim (fun z => B.s1.en e z) fun z => B.s2.en e z
      have hen2 := hen
      unfold ordO at hen2
      obtain ⟨_, b, db, l, pre, post, hsd, S, B2, hl, hel⟩ := B.sideOf hm
      have hb := S.ob
      walk_at "st"
      refine ⟨pre, e, post, rfl, S, ?_⟩
      have hen3 := (upd_ne (o := HO.lst (refs (pre ++ post))) hel).trans hen2
      walk_at "st"
      exact qo e _ hs hw hho B2 (StepW.off hl)
    | some e =>
      obtain ⟨hmem, hnum⟩ := stopN_mem hs
      rw [show (s.ss.find? fun e => decide (e.2.2.number = n)) = some e from hs]
      have hen := B.sp.en e hmem
      have hen2 := hen
      unfold stopO at hen2
      walk_at "st"
      refine iteB (fun h => ?_) (fun h => ?_)
      · walk_at "st"
        exact qsn e hs fun z => dec_f (by simpa using h) (congrArg V.str z)
      · have hho : e.2.2.house = ho := V.str.inj (dec_t (by simpa using h))
        walk_at "st"
        refine ⟨s.ss.map (·.1), rfl, rfl, by rw [← refsS_map]; exact hst, List.mem_map.mpr ⟨e, hmem, rfl⟩, fun b hb => ?_, ?_⟩
        · obtain ⟨y, hy, rfl⟩ := List.mem_map.mp hb
          exact ⟨_, _, B.sp.en y hy⟩
        rw [eraseS B.sp.nd, ← refsS_map]
        have nest : e.1 ≠ a.st := fun z => by rw [z, hst] at hen; unfold stopO at hen; cases hen
        have hen3 := (upd_ne (o := HO.lst (refsS (dropS e.1 s.ss))) nest).trans hen2
        walk_at "st"
        exact qs e _ hs hho (B.off hmem) StepW.put

def cutS (s : BS) (z : Addr) (n : Int) : BS := { s with es1 := setE z (fun o => o.cut n) s.es1, es2 := setE z (fun o => o.cut n) s.es2 }
theorem setE_len (z : Addr) (f : Ord → Ord) (es : List Ent) : (setE z f es).length = es.length := List.length_map ..
theorem BookW.set1 {C : BC} {H : Hp} {a : BA} {s : BS} (B : BookW C H a s) {e : Ent} (he : e ∈ s.es1 ∨ e ∈ s.es2) {f : Ord → Ord}
    (hf : (f e.2.2).side = e.2.2.side ∧ (f e.2.2).price = e.2.2.price ∧ (1 ≤ (f e.2.2).visible ∧ (f e.2.2).visible ≤ (f e.2.2).left ∧ 0 ≤ (f e.2.2).shown)) :
    BookW C (upd H e.1 (ordO C.CO e.2.1 (f e.2.2))) a { s with es1 := setE e.1 f s.es1, es2 := setE e.1 f s.es2 } := by
  have hen : H e.1 = some (ordO C.CO e.2.1 e.2.2) := he.elim (fun z => B.s1.en e z) fun z => B.s2.en e z
  have ne : ∀ {z v}, H z = some v → (∀ C dx fs, v = .ins C dx fs → fs.length ≠ 7) → z ≠ e.1 := fun {z v} h hv q => by
    rw [q, hen] at h
    cases h
    exact hv _ _ _ rfl rfl
  have nl : ∀ {z xs}, H z = some (.lst xs) → z ≠ e.1 := fun h => ne h fun C dx fs e => by cases e
  have nb : ∀ {z dx l}, H z = some (.ins C.CB dx [("_orders", .ref l)]) → z ≠ e.1 := fun h => ne h fun C dx fs e => by cases e; exact (show (1 : Nat) ≠ 7 by decide)
  have hx : a.x ≠ e.1 := ne B.ob fun C dx fs e => by unfold bookO at e; cases e; exact (show (4 : Nat) ≠ 7 by decide)
  have hs : a.sd ≠ e.1 := ne B.sd fun C dx fs e => by unfold sidesO at e; cases e
  have key : ∀ {s : Str} {b db l b' db' l' : Addr} {es es' : List Ent}, SideAt C.CO C.CB H b db l es → SideAt C.CO C.CB H b' db' l' es' → Rank s es → e ∈ es → (∀ y, y ∈ es' → y.1 ≠ e.1) →
      SideAt C.CO C.CB (upd H e.1 (ordO C.CO e.2.1 (f e.2.2))) b db l (setE e.1 f es) ∧ SideAt C.CO C.CB (upd H e.1 (ordO C.CO e.2.1 (f e.2.2))) b' db' l' (setE e.1 f es') ∧ Rank s (setE e.1 f es) := fun {s b db l b' db' l' es es'} S S' r hm hn => by
    refine ⟨S.set hm f, ?_, r.set e.1 f fun y hy hye => ?_⟩
    · rw [setE_none hn]
      exact S'.upd (nb S'.ob) (nl S'.li) hn
    · rw [nodup_addr S.nd hy hm hye]
      exact hf
  have sp : StopsAt C.CS (upd H e.1 (ordO C.CO e.2.1 (f e.2.2))) a.st s.ss := ⟨(upd_ne (nl B.sp.li)).trans B.sp.li, fun y hy => (upd_ne (ne (B.sp.en y hy) fun C dx fs e => by unfold stopO at e; cases e; exact (show (6 : Nat) ≠ 7 by decide))).trans (B.sp.en y hy), B.sp.nd, B.sp.sm⟩
  have dj : ∀ y, y ∈ setE e.1 f s.es1 → ∀ z, z ∈ setE e.1 f s.es2 → y.1 ≠ z.1 := fun y hy z hz => by
    have h1 : y.1 ∈ s.es1.map (·.1) := by rw [← setE_addr e.1 f]; exact List.mem_map.mpr ⟨y, hy, rfl⟩
    have h2 : z.1 ∈ s.es2.map (·.1) := by rw [← setE_addr e.1 f]; exact List.mem_map.mpr ⟨z, hz, rfl⟩
    obtain ⟨y', hy', ey⟩ := List.mem_map.mp h1
    obtain ⟨z', hz', ez⟩ := List.mem_map.mp h2
    rw [← ey, ← ez]
    exact B.dj y' hy' z' hz'
  have sz : (setE e.1 f s.es1).length + (setE e.1 f s.es2).length + s.ss.length ≤ 900 := by rw [setE_len, setE_len]; exact B.sz
  rcases he with he | he
  · have hn : ∀ y, y ∈ s.es2 → y.1 ≠ e.1 := fun y hy z => B.dj e he y hy z.symm
    obtain ⟨k1, k2, k3⟩ := key B.s1 B.s2 B.r1 he hn
    exact ⟨(upd_ne hx).trans B.ob, (upd_ne hs).trans B.sd, sp, k1, k2, k3, by show Rank "sell" (setE e.1 f s.es2); rw [setE_none hn]; exact B.r2, dj, B.nll, B.n1, B.n2, B.gs, sz⟩
  · have hn : ∀ y, y ∈ s.es1 → y.1 ≠ e.1 := fun y hy => B.dj y hy e he
    obtain ⟨k1, k2, k3⟩ := key B.s2 B.s1 B.r2 he hn
    exact ⟨(upd_ne hx).trans B.ob, (upd_ne hs).trans B.sd, sp, k2, k1, by show Rank "buy" (setE e.1 f s.es1); rw [setE_none hn]; exact B.r1, k3, dj, B.nll, B.n1, B.n2, B.gs, sz⟩
theorem StepW.set1 {a : BA} {s : BS} {H : Hp} {e : Ent} (he : e ∈ s.es1 ∨ e ∈ s.es2) {f : Ord → Ord} {v : HO} : StepW a s { s with es1 := setE e.1 f s.es1, es2 := setE e.1 f s.es2 } H (upd H e.1 v) := by
  refine ⟨fun z w hz h => (upd_ne fun q => hz ?_).trans h, fun z hz => .inl ?_⟩
  · rw [q]
    rcases he with k | k
    · exact foot_iff.mpr (.inr (.inr (.inr (.inr (.inl (List.mem_map.mpr ⟨e, k, rfl⟩))))))
    · exact foot_iff.mpr (.inr (.inr (.inr (.inr (.inr (List.mem_map.mpr ⟨e, k, rfl⟩))))))
  · rw [foot_iff] at hz ⊢
    rw [show ({ s with es1 := setE e.1 f s.es1, es2 := setE e.1 f s.es2 } : BS).es1 = setE e.1 f s.es1 from rfl, show ({ s with es1 := setE e.1 f s.es1, es2 := setE e.1 f s.es2 } : BS).es2 = setE e.1 f s.es2 from rfl, setE_addr, setE_addr] at hz
    exact hz
def againO (e : Ent) (pr qu : Int) : Ord := ⟨e.2.2.number, e.2.2.house, e.2.2.side, some pr, if qu < e.2.2.shown then qu else e.2.2.shown, qu, 0⟩
def sp_Bookenter_again (K : PySem.W.Frag) (CO CB CK CS CR : Addr) : Sp := fun vs H Q _ => ∃ (a : BA) (s : BS) (e : Ent) (pr qu : Int), vs = [.ref a.x, .ref e.1, .int pr, .int qu] ∧ BookW ⟨CO, CB, CK, CS, CR⟩ H a s ∧ (e ∈ s.es1 ∨ e ∈ s.es2) ∧ 1 ≤ qu ∧ qu ≤ 1000000 ∧
  ∀ r o dxo H', (∀ F : List Addr, (∀ z, z ∈ F → z ∈ foot a (enterB (offO s e.1) o dxo (againO e pr qu) "rest").1 ∨ ∃ v, H z = some v) → RepAt CR H' F r (enterB (offO s e.1) o dxo (againO e pr qu) "rest").2) →
    BookW ⟨CO, CB, CK, CS, CR⟩ H' a (enterB (offO s e.1) o dxo (againO e pr qu) "rest").1 → StepW a s (enterB (offO s e.1) o dxo (againO e pr qu) "rest").1 H H' → Q (.ref r) H'
set_option maxHeartbeats 0 in
theorem ok_Bookenter_again (T : Txt K mg) [TB : TabsOk T base] : FnOk P w K mg base CX0 7 T.f_Bookenter_again T.d_Bookenter_again ["self", "order", "price", "quantity"] (sp_Bookenter_again K T.c_Order T.c_BookSide T.c_Book T.c_Stop T.c_Report) := by
  refine T.F_Bookenter_again.ok sc_Bookenter_again (fun vs H Q E h => ?_) (fun cdv A outer s H vs Q E hr h => ?_)
  · obtain ⟨a, s, e, pr, qu, rfl, _⟩ := h
    rfl
  · obtain ⟨a, s, e, pr, qu, rfl, B, hm, q0, q1, q⟩ := h
    have G_BookSide_leave : FnOk P w K mg base CX0 1 T.f_BookSide_leave T.d_BookSide_leave ["self", "order"] (sp_BookSide_leave K T.c_Order T.c_BookSide) := ok_BookSide_leave T
    have G_Bookenter : FnOk P w K mg base CX0 6 T.f_Bookenter T.d_Bookenter ["self", "order", "kind"] (sp_Bookenter K T.c_Order T.c_BookSide T.c_Book T.c_Report) := ok_Bookenter T
    have G_Order_init : FnOk P w K mg base CX0 1 T.f_Order_init T.d_Order_init ["self", "number", "house", "side", "price", "quantity", "shown"] (sp_Order_init K T.c_Order) := ok_Order_init T
    refine ⟨_, (pss_cons (ps_expr (pe_meth (pe_dget (hu_of hr) (pe_fld (pv 0) rfl) (pe_fld (pv 1) rfl) (fun _ _ => rfl)) T.cl_BookSide T.mt_BookSide_leave G_BookSide_leave (hr.mono (by decide)) T.b_BookSide_leave .nil pass0 (pa_cons (pv 1) pa_nil)))
    (pss_cons (ps_set (i := 4) sc_Bookenter_again.nd rfl (Or.inl rfl) (pe_callB (call_min2 rfl) (by rfl) T.z_min (by decide +kernel) (pa_cons (pe_fld (pv 1) rfl) (pa_cons (pv 3) pa_nil))))
    (pss_one (ps_ret (pe_meth (pv 0) T.cl_Book T.mt_Bookenter G_Bookenter hr T.b_Bookenter .nil pass0 (pa_cons (pe_make T.mk_Order G_Order_init (hr.mono (by decide)) (by rfl) T.m_Order T.b_Order_init .nil pass0 (pa_cons (pe_fld (pv 1) rfl) (pa_cons (pe_fld (pv 1) rfl) (pa_cons (pe_fld (pv 1) rfl) (pa_cons (pv 2) (pa_cons (pv 3) (pa_cons (pv 4) pa_nil))))))) (pa_cons pe_str pa_nil))))))), ?_⟩
    have fact_BookSide_0 := T.cl_BookSide; have fact_BookSide_1 := T.na_BookSide__orders; have fact_Book_0 := T.cl_Book; have fact_Book_1 := T.na_Book_last; have fact_Book_2 := T.na_Book__next_number; have fact_Book_3 := T.na_Book__sides; have fact_Book_4 := T.na_Book__stops; have fact_Order_0 := T.cl_Order; have fact_Order_1 := T.na_Order_number; have fact_Order_2 := T.na_Order_house; have fact_Order_3 := T.na_Order_side; have fact_Order_4 := T.na_Order_price; have fact_Order_5 := T.na_Order_shown; have fact_Order_6 := T.na_Order_left; have fact_Order_7 := T.na_Order_visible; have fact_Report_0 := T.cl_Report; have fact_Report_1 := T.na_Report_number; have fact_Report_2 := T.na_Report_house; have fact_Report_3 := T.na_Report_side; have fact_Report_4 := T.na_Report_fills; have fact_Report_5 := T.na_Report_removed; have fact_Report_6 := T.na_Report_resting
    have hob := B.ob
    unfold bookO at hob
    have hen : H e.1 = some (ordO T.c_Order e.2.1 e.2.2) := hm.elim (fun z => B.s1.en e z) fun z => B.s2.en e z
    have hen2 := hen
    unfold ordO at hen2
    have hvis := hm.elim (fun z => B.r1.vis e z) fun z => B.r2.vis e z
    have hsi : e.2.2.side = "buy" ∨ e.2.2.side = "sell" := hm.elim (fun z => .inl (B.r1.side e z)) fun z => .inr (B.r2.side e z)
    obtain ⟨_, b, db, l, pre, post, hsd, S, B2, hl, hel⟩ := B.sideOf hm
    have S2 : StepW a s (offO s e.1) H (upd H l (.lst (refs (pre ++ post)))) := StepW.off hl
    have hb := S.ob
    walk_at "st"
    refine ⟨pre, e, post, rfl, S, ?_⟩
    have hen3 := (upd_ne (o := HO.lst (refs (pre ++ post))) hel).trans hen2
    have hob3 := B2.ob
    unfold bookO at hob3
    have hold : ∀ z v, H z = some v → ∃ w, upd H l (.lst (refs (pre ++ post))) z = some w := fun z v hz => by
      by_cases k : z = l
      · exact ⟨_, by rw [k]; exact upd_same⟩
      · exact ⟨v, (upd_ne k).trans hz⟩
    have hlk : ([("last", optV s.last), ("_next_number", V.int s.next), ("_sides", .ref a.sd), ("_stops", .ref a.st)] : List (Str × V)).lookup ("_enter" : Str) = none := rfl
    walk_at "st"
    generalize hH1 : upd H l _ = H1 at *
    intro o dxo no ndo hne
    have no' : upd H1 dxo (.own o) o = none := by
      first
        | (rw [upd_ne hne]; exact no)
        | (rw [upd_ne (Ne.symm hne)]; exact no)
    refine ⟨o, dxo, e.2.2.number, e.2.2.house, e.2.2.side, some pr, qu, if qu < e.2.2.shown then qu else e.2.2.shown, rfl, upd_same, ?_⟩
    rw [upd_upd]
    refine ⟨rfl, ?_⟩
    have so2 : ∀ v, Same H1 (upd (upd H1 dxo (.own o)) o v) := fun v => (same_upd ndo).trans (same_upd no')
    generalize hH2 : upd (upd H1 dxo _) o _ = H2
    have s2 : Same H1 H2 := hH2 ▸ so2 _
    have ho2 : H2 o = some (ordO T.c_Order dxo (againO e pr qu)) := (congrFun hH2 o).symm.trans upd_same
    have hob4 := s2 _ _ hob3
    have B3 := B2.same s2
    walk_at "st"
    delta tNil
    refine enter_w (K := K) (E := E0) (C := ⟨T.c_Order, T.c_BookSide, T.c_Book, T.c_Stop, T.c_Report⟩) (a := a) (s := offO s e.1) (dxo := dxo) (t := againO e pr qu) (kd := "rest") B3 hsi ho2 (B2.fresh no) q0 q1 ?_ (fun _ => ⟨pr, rfl⟩) ?_ ?_
    · show 0 ≤ if qu < e.2.2.shown then qu else e.2.2.shown
      split <;> omega
    · show (dropE e.1 s.es1).length + (dropE e.1 s.es2).length + s.ss.length ≤ 899
      have := B.sz
      have l1 := drop_len e.1 s.es1
      have l2 := drop_len e.1 s.es2
      rcases hm with k | k
      · have := drop_less k
        omega
      · have := drop_less k
        omega
    · intro r H3 nr hR B4 fr4 nw4
      walk_at "st"
      refine q r o dxo H3 (fun F hF => hR F fun z hz => ?_) B4 (S2.trans ?_)
      · rcases hF z hz with k | ⟨v, k⟩
        · exact .inl k
        · obtain ⟨w, hw⟩ := hold z v k
          exact .inr ⟨w, s2 _ _ hw⟩
      · refine ⟨fun z v hz h => fr4 z v hz (fun q => by rw [q, no] at h; cases h) (s2 _ _ h), fun z hz => ?_⟩
        rcases nw4 z hz with k | k
        · exact .inl k
        · exact .inr (by rw [k]; exact no)
def AmendR (s : BS) (e : Ent) (pr qu : Int) (s1 : BS) (rep : RepT) : Prop :=
  (e.2.2.price = some pr ∧ qu ≤ e.2.2.left ∧ s1 = cutS s e.1 qu ∧ rep = ⟨e.2.2.number, e.2.2.house, e.2.2.side, [], [], qu⟩) ∨
  (¬ (e.2.2.price = some pr ∧ qu ≤ e.2.2.left) ∧ ∃ o dxo, s1 = (enterB (offO s e.1) o dxo (againO e pr qu) "rest").1 ∧ rep = (enterB (offO s e.1) o dxo (againO e pr qu) "rest").2)
def sp_Book_amend (K : PySem.W.Frag) (CI CU CN CO CB CK CS CR : Addr) : Sp := fun vs H Q E => ∃ (_ : Unit) (a : BA) (s : BS) (X : List Addr) (n : Int) (ho : Str) (pr qu : Int), vs = [.ref a.x, .int n, .str ho, .int pr, .int qu] ∧ BookW ⟨CO, CB, CK, CS, CR⟩ H a s ∧ Others H a s X ∧
  (1 ≤ pr ∧ pr ≤ 1000000 → 1 ≤ qu ∧ qu ≤ 1000000 → (∀ e, withNum s.es1 s.es2 n = some e → e.2.2.house = ho → ∀ s1 rep s' reps p H', AmendR s e pr qu s1 rep → TrigS s1 s' reps → firstS s'.last s'.ss = none → BookW ⟨CO, CB, CK, CS, CR⟩ H' a s' → StepW a s s' H H' → RepsAt CR H' (X ++ foot a s') p (rep :: reps) → Q (.ref p) H') ∧
    (withNum s.es1 s.es2 n = none → E (.ref CU) none H) ∧ (∀ e : Ent, withNum s.es1 s.es2 n = some e → e.2.2.house ≠ ho → E (.ref CN) none H)) ∧
  (¬ ((1 ≤ pr ∧ pr ≤ 1000000) ∧ 1 ≤ qu ∧ qu ≤ 1000000) → E (.ref CI) none H)
set_option maxHeartbeats 0 in
theorem ok_Book_amend (T : Txt K mg) [TB : TabsOk T base] : FnOk P w K mg base (L2.CX P w) 8 T.f_Book_amend T.d_Book_amend ["self", "number", "house", "price", "quantity"] (sp_Book_amend K T.c_InvalidOrder T.c_UnknownOrder T.c_NotOwner T.c_Order T.c_BookSide T.c_Book T.c_Stop T.c_Report) := by
  refine T.F_Book_amend.okX sc_Book_amend (fun vs H Q E h => ?_) (fun cdv A outer s H vs Q E hr h => ?_)
  · obtain ⟨_, a, s, X, n, ho, pr, qu, rfl, _⟩ := h
    rfl
  · obtain ⟨_, a, s, X, n, ho, pr, qu, rfl, B, hX, q, qi⟩ := h
    have G_check_price : FnOk P w K mg base (L2.CX P w) 4 T.f_check_price T.d_check_price ["price"] (sp_check_price K T.c_InvalidOrder) := ok_check_price T
    have G_check_quantity : FnOk P w K mg base (L2.CX P w) 4 T.f_check_quantity T.d_check_quantity ["quantity"] (sp_check_quantity K T.c_InvalidOrder) := ok_check_quantity T
    have G_Bookorder_of : FnOk P w K mg base (L2.CX P w) 3 T.f_Bookorder_of T.d_Bookorder_of ["self", "number", "house"] (sp_Bookorder_of K T.c_UnknownOrder T.c_NotOwner T.c_Order T.c_BookSide T.c_Book) := ok_Bookorder_of T
    have G_Bookreduce : FnOk P w K mg base CX0 3 T.f_Bookreduce T.d_Bookreduce ["self", "order", "quantity"] (sp_Bookreduce K T.c_Order T.c_Report) := ok_Bookreduce T
    have G_Bookenter_again : FnOk P w K mg base CX0 7 T.f_Bookenter_again T.d_Bookenter_again ["self", "order", "price", "quantity"] (sp_Bookenter_again K T.c_Order T.c_BookSide T.c_Book T.c_Stop T.c_Report) := ok_Bookenter_again T
    have G_Booktrigger_stops : FnOk P w K mg base CX0 7 T.f_Booktrigger_stops T.d_Booktrigger_stops ["self"] (sp_Booktrigger_stops K T.c_Order T.c_BookSide T.c_Book T.c_Stop T.c_Report) := ok_Booktrigger_stops T
    refine ⟨_, (pss_cons (ps_expr (pe_callS G_check_price (hr.mono (by decide)) (by rfl) T.m_check_price T.F_check_price.kp T.b_check_price (fun σ => passAt (takes_of rfl rfl rfl rfl) σ) (pa_cons (pv 3) pa_nil)))
    (pss_cons (ps_expr (pe_callS G_check_quantity (hr.mono (by decide)) (by rfl) T.m_check_quantity T.F_check_quantity.kp T.b_check_quantity (fun σ => passAt (takes_of rfl rfl rfl rfl) σ) (pa_cons (pv 4) pa_nil)))
    (pss_cons (ps_set (i := 5) sc_Book_amend.nd rfl (Or.inl rfl) (pe_mx (pv 0) T.cl_Book T.mt_Bookorder_of G_Bookorder_of (hr.mono (by decide)) T.b_Bookorder_of .nil (fun σ => passAt (takes_of rfl rfl rfl rfl) σ) (pa_cons (pv 1) (pa_cons (pv 2) pa_nil))))
    (C8.pss_cut (ps_if (PW.pt (pw_and (pt_cmpR op_eq (pv 3) (pe_fld (pv 5) rfl) (nomark _)) (pw_and1 (pt_cmpR op_le (pv 4) (pe_fld (pv 5) rfl) (nomark _)))))
      (pss_one (ps_set (i := 6) sc_Book_amend.nd rfl (Or.inl rfl) (pe_meth (pv 0) T.cl_Book T.mt_Bookreduce G_Bookreduce (hr.mono (by decide)) T.b_Bookreduce .nil pass0 (pa_cons (pv 5) (pa_cons (pv 4) pa_nil)))))
      (pss_one (ps_set (i := 6) sc_Book_amend.nd rfl (Or.inl rfl) (pe_meth (pv 0) T.cl_Book T.mt_Bookenter_again G_Bookenter_again hr T.b_Bookenter_again .nil pass0 (pa_cons (pv 5) (pa_cons (pv 3) (pa_cons (pv 4) pa_nil)))))))
    (pss_one (ps_ret (pe_op op_cat (pe_lst (pa_cons (pv 6) pa_nil)) (pe_meth0 (pv 0) T.cl_Book T.mt_Booktrigger_stops G_Booktrigger_stops hr T.b_Booktrigger_stops .nil pass0)))))))), ?_⟩
    have fact_BookSide_0 := T.cl_BookSide; have fact_BookSide_1 := T.na_BookSide__orders; have fact_Book_0 := T.cl_Book; have fact_Book_1 := T.na_Book_last; have fact_Book_2 := T.na_Book__next_number; have fact_Book_3 := T.na_Book__sides; have fact_Book_4 := T.na_Book__stops; have fact_Order_0 := T.cl_Order; have fact_Order_1 := T.na_Order_number; have fact_Order_2 := T.na_Order_house; have fact_Order_3 := T.na_Order_side; have fact_Order_4 := T.na_Order_price; have fact_Order_5 := T.na_Order_shown; have fact_Order_6 := T.na_Order_left; have fact_Order_7 := T.na_Order_visible; have fact_Report_0 := T.cl_Report; have fact_Report_1 := T.na_Report_number; have fact_Report_2 := T.na_Report_house; have fact_Report_3 := T.na_Report_side; have fact_Report_4 := T.na_Report_fills; have fact_Report_5 := T.na_Report_removed; have fact_Report_6 := T.na_Report_resting
    have hob := B.ob
    have hob2 := hob
    unfold bookO at hob2
    walk_at "st"
    refine ⟨fun hp => ?_, fun hp => qi fun z => hp z.1⟩
    walk_at "st"
    refine ⟨fun hq => ?_, fun hq => qi fun z => hq z.2⟩
    obtain ⟨qa, qu', qn⟩ := q hp hq
    walk_at "st"
    refine ⟨s.last, s.next, s.es1, s.es2, n, ho, rfl, B.sides, fun e hw hho => ?_, qu', qn⟩
    have hm := (with_mem hw).2
    have hen : H e.1 = some (ordO T.c_Order e.2.1 e.2.2) := hm.elim (fun z => B.s1.en e z) fun z => B.s2.en e z
    have hen2 := hen
    unfold ordO at hen2
    have hvis := hm.elim (fun z => B.r1.vis e z) fun z => B.r2.vis e z
    obtain ⟨pe, hpe⟩ : ∃ p, e.2.2.price = some p := hm.elim (fun z => B.r1.price e z) fun z => B.r2.price e z
    have hlk1 : ([("last", optV s.last), ("_next_number", V.int s.next), ("_sides", .ref a.sd), ("_stops", .ref a.st)] : List (Str × V)).lookup ("_reduce" : Str) = none := rfl
    have hlk2 : ([("last", optV s.last), ("_next_number", V.int s.next), ("_sides", .ref a.sd), ("_stops", .ref a.st)] : List (Str × V)).lookup ("_enter_again" : Str) = none := rfl
    rw [hpe] at hen2
    refine ⟨fun σ' H' => ∃ (_ : Unit) (s1 : BS) (rep : RepT) (r : Addr), σ' = [some (.ref a.x), some (.int n), some (.str ho), some (.int pr), some (.int qu), some (.ref e.1), some (.ref r)] ∧ AmendR s e pr qu s1 rep ∧ BookW ⟨T.c_Order, T.c_BookSide, T.c_Book, T.c_Stop, T.c_Report⟩ H' a s1 ∧ StepW a s s1 H H' ∧ RepAt T.c_Report H' (X ++ foot a s1) r rep, ?_, ?_⟩
    · have again : ¬ (e.2.2.price = some pr ∧ qu ≤ e.2.2.left) → ∀ {Q2 : VK} , (∀ r H', (∃ (_ : Unit) (s1 : BS) (rep : RepT), AmendR s e pr qu s1 rep ∧ BookW ⟨T.c_Order, T.c_BookSide, T.c_Book, T.c_Stop, T.c_Report⟩ H' a s1 ∧ StepW a s s1 H H' ∧ RepAt T.c_Report H' (X ++ foot a s1) r rep) → Q2 (.ref r) H') →
          sp_Bookenter_again K T.c_Order T.c_BookSide T.c_Book T.c_Stop T.c_Report [.ref a.x, .ref e.1, .int pr, .int qu] H Q2 E0 := fun hno {Q2} h2 =>
        ⟨a, s, e, pr, qu, rfl, B, hm, hq.1, hq.2, fun r o dxo H3 hR B3 S3 => h2 r H3 ⟨(), _, _, .inr ⟨hno, o, dxo, rfl, rfl⟩, B3, S3, hR _ fun z hz => (List.mem_append.mp hz).elim (fun k => .inr (hX z k).2) .inl⟩⟩
      walk_at "st"
      refine iteB (fun h => ?_) (fun h => ?_)
      · have hpr : e.2.2.price = some pr := by
          have := V.int.inj (dec_t h)
          rw [hpe, this]
        walk_at "st"
        refine iteB (fun h2 => ?_) (fun h2 => ?_)
        · have hle := dec_t h2
          walk_at "st"
          refine ⟨e.2.2, qu, rfl, hen, fun r dr fl rm H3 s3 nr nfl nrm hr hfl hrm => ?_⟩
          have hcut : (e.2.2.cut qu).side = e.2.2.side ∧ (e.2.2.cut qu).price = e.2.2.price ∧ (1 ≤ (e.2.2.cut qu).visible ∧ (e.2.2.cut qu).visible ≤ (e.2.2.cut qu).left ∧ 0 ≤ (e.2.2.cut qu).shown) := by
            unfold Ord.cut
            refine ⟨rfl, rfl, ?_, ?_, hvis.2.2⟩
            · show 1 ≤ if qu < e.2.2.visible then qu else e.2.2.visible
              split <;> omega
            · show (if qu < e.2.2.visible then qu else e.2.2.visible) ≤ qu
              split <;> omega
          have B3 := (B.set1 hm (f := fun o => o.cut qu) hcut).same s3
          have eF : foot a (cutS s e.1 qu) = foot a s := by
            unfold foot cutS
            rw [setE_addr, setE_addr]
          refine ⟨(), cutS s e.1 qu, ⟨e.2.2.number, e.2.2.house, e.2.2.side, [], [], qu⟩, r, rfl, .inl ⟨hpr, hle, rfl, rfl⟩, B3, (StepW.set1 hm).post s3, dr, fl, rm, [], hr, Tups.nil hfl, hrm, ?_, ?_⟩
          · rw [eF]; exact hX.new nfl (B.fresh nfl)
          · rw [eF]; exact hX.new nrm (B.fresh nrm)
        · walk_at "st"
          delta tNil
          refine again (fun z => dec_f h2 z.2) fun r H3 ⟨_, s1, rep, h1, h2, h3, h4⟩ => ?_
          exact ⟨(), s1, rep, r, rfl, h1, h2, h3, h4⟩
      · walk_at "st"
        delta tNil
        refine again (fun z => dec_f h (by
          have := z.1
          rw [hpe] at this
          rw [Option.some.inj this]
          rfl)) fun r H3 ⟨_, s1, rep, h1, h2, h3, h4⟩ => ?_
        exact ⟨(), s1, rep, r, rfl, h1, h2, h3, h4⟩
    · rintro σ1 H1 ⟨_, s1, rep, r, rfl, hA, B1, S1, hR⟩
      have hob5 := B1.ob
      unfold bookO at hob5
      walk_at "st"
      intro p1 np1
      generalize hH4 : upd H1 p1 _ = H4
      have s4 : Same H1 H4 := hH4 ▸ same_upd np1
      have hp1 := (congrFun hH4 p1).symm.trans upd_same
      have B4 := B1.same s4
      have fp1 := B1.fresh np1
      have hob6 := B4.ob
      unfold bookO at hob6
      walk_at "st"
      refine ⟨(), a, s1, X, rfl, B4, hX.step (S1.post s4), fun s' reps D H5 hT hf B5 S5 nD hReps => ?_⟩
      obtain ⟨rs, hD5, fD5, hlr, hreps⟩ := hReps
      have hp5 := S5.fr _ _ fp1 hp1
      have hlen : rs.length ≤ 900 := by
        have h1 := trigS_len hT
        have h2 := B4.sp.sm
        omega
      refine ⟨p1, D, [.ref r], rs.map V.ref, rfl, rfl, hp5, hD5, Nat.le_of_lt (small1000 (by show 1 + _ ≤ 1000; rw [List.length_map]; omega)), fun p np => ?_⟩
      have S05 := (S1.post s4).trans S5
      refine qa e hw hho s1 rep s' reps p _ hA hT hf (B5.same (same_upd np)) (S05.post (same_upd np)) ?_
      exact reps_cons np ((hX.step S05).new np (B5.fresh np)) ((hR.same s4).stepY (C := ⟨T.c_Order, T.c_BookSide, T.c_Book, T.c_Stop, T.c_Report⟩) B4 S5) hlr fun i q y h1 h2 => (hreps i q y h1 h2).less

/-! ### what the trigger loop keeps -/
structure PureR (s : BS) : Prop where
  r1 : Rank "buy" s.es1
  r2 : Rank "sell" s.es2
  gs : ∀ e, e ∈ s.ss → (e.2.2.side = "buy" ∨ e.2.2.side = "sell") ∧ 1 ≤ e.2.2.quantity ∧ e.2.2.quantity ≤ 1000000
theorem BookW.pure {C : BC} {H : Hp} {a : BA} {s : BS} (B : BookW C H a s) : PureR s := ⟨B.r1, B.r2, B.gs⟩
def sizeS (s : BS) : Nat := s.es1.length + s.es2.length + s.ss.length
theorem enter_pure {s : BS} {o dxo : Addr} {t : Ord} {kd : Str} (P : PureR s) (hs : t.side = "buy" ∨ t.side = "sell") (hl : 1 ≤ t.left) (h0 : 0 ≤ t.shown) (hkp : V.str kd = V.str "rest" → ∃ p, t.price = some p) :
    PureR (enterB s o dxo t kd).1 ∧ sizeS (enterB s o dxo t kd).1 ≤ sizeS s + 1 := by
  rcases hs with hs | hs
  · have hoth : othE t.side s.es1 s.es2 = s.es2 := by rw [hs]; exact if_pos buyS_buy
    have hown : ownE t.side s.es1 s.es2 = s.es1 := by rw [hs]; exact if_pos buyS_buy
    have hb : buyS t.side = true := by rw [hs]; exact buyS_buy
    have hos : otherS t.side = "sell" := by rw [hs]; exact if_pos buyS_buy
    have hrk := sub_rank (kd := kd) (t := t) (o := o) (dxo := dxo) (last := s.last) (oth := s.es2) (own := s.es1) (by rw [hos]; exact P.r2) (by rw [hs]; exact P.r1) hl h0 hkp
    have hln := sub_len (kd := kd) (t := t) (o := o) (dxo := dxo) (last := s.last) (oth := s.es2) (own := s.es1) (by rw [hos]; exact P.r2)
    obtain ⟨k1, k2, _, _⟩ := hrk
    rw [hos] at k1
    rw [hs] at k2
    unfold enterB sizeS
    simp only [hoth, hown, if_pos hb]
    exact ⟨⟨k2, k1, P.gs⟩, by omega⟩
  · have hb : ¬ buyS t.side = true := by rw [hs, buyS_sell]; exact Bool.false_ne_true
    have hoth : othE t.side s.es1 s.es2 = s.es1 := if_neg hb
    have hown : ownE t.side s.es1 s.es2 = s.es2 := if_neg hb
    have hos : otherS t.side = "buy" := if_neg hb
    have hrk := sub_rank (kd := kd) (t := t) (o := o) (dxo := dxo) (last := s.last) (oth := s.es1) (own := s.es2) (by rw [hos]; exact P.r1) (by rw [hs]; exact P.r2) hl h0 hkp
    have hln := sub_len (kd := kd) (t := t) (o := o) (dxo := dxo) (last := s.last) (oth := s.es1) (own := s.es2) (by rw [hos]; exact P.r1)
    obtain ⟨k1, k2, _, _⟩ := hrk
    rw [hos] at k1
    rw [hs] at k2
    unfold enterB sizeS
    simp only [hoth, hown, if_neg hb]
    exact ⟨⟨k1, k2, P.gs⟩, by omega⟩
theorem kdS_price {e : Stp} (h : V.str (kdS e) = V.str "rest") : ∃ p, e.price = some p := by
  unfold kdS at h
  split at h
  · exact absurd h (by decide +kernel)
  · next p hp => exact ⟨p, hp⟩
theorem off_pure {s : BS} {z : Addr} (P : PureR s) : PureR (offS s z) := ⟨P.r1, P.r2, fun e he => P.gs e (dropS_mem he)⟩
theorem trig_pure {s s' : BS} {reps : List RepT} (h : TrigS s s' reps) : PureR s → PureR s' ∧ sizeS s' ≤ sizeS s ∧ s'.next = s.next := by
  induction h with
  | nil => exact fun P => ⟨P, Nat.le_refl _, rfl⟩
  | @snoc s1 reps e o dxo h hf ih =>
    intro P
    obtain ⟨P1, h1, h2⟩ := ih P
    obtain ⟨hm, _⟩ := firstS_mem hf
    have g := P1.gs e hm
    have hE := enter_pure (o := o) (dxo := dxo) (kd := kdS e.2.2) (off_pure (z := e.1) P1) (t := ordS e.2.2) g.1 g.2.1 (Int.le_refl 0) kdS_price
    have hd := dropS_len hm
    have hsz : sizeS (offS s1 e.1) + 1 ≤ sizeS s1 := by
      unfold sizeS offS
      dsimp only
      omega
    exact ⟨hE.1, by omega, h2⟩
/-- the last price behind fills -/
def lastF (last : Option Int) (fills : List (Int × Str × Int × Int)) : Option Int := fills.foldl (fun _ f => some f.2.2.1) last
def lastR (last : Option Int) (reps : List RepT) : Option Int := reps.foldl (fun l r => lastF l r.fills) last
theorem lastF_snoc (last : Option Int) (fs : List (Int × Str × Int × Int)) (f : Int × Str × Int × Int) : lastF last (fs ++ [f]) = some f.2.2.1 := by
  unfold lastF
  rw [List.foldl_append]
  rfl
theorem runM_last {t : Ord} {l0 : Option Int} : ∀ (k : Nat) {m : Mt}, m.last = lastF l0 m.fills → (runM t k m).last = lastF l0 (runM t k m).fills
  | 0, m, h => h
  | k + 1, m, h => by
    cases hg : goesM t m with
    | none => rw [runM_stop hg]; exact h
    | some e =>
      rw [runM_go hg]
      refine runM_last k ?_
      unfold stepM
      split
      · exact h
      · exact (lastF_snoc l0 m.fills (e.2.2.number, e.2.2.house, prcE e, qtyM m e)).symm
theorem enter_last {s : BS} {o dxo : Addr} {t : Ord} {kd : Str} : (enterB s o dxo t kd).1.last = lastF s.last (enterB s o dxo t kd).2.fills := by
  unfold enterB
  dsimp only
  generalize othE t.side s.es1 s.es2 = oth
  generalize ownE t.side s.es1 s.es2 = own
  unfold subF
  split
  · rfl
  · exact runM_last (l0 := s.last) _ (m := startM t s.last oth) rfl
theorem trig_last {s s' : BS} {reps : List RepT} (h : TrigS s s' reps) : s'.last = lastR s.last reps := by
  induction h with
  | nil => rfl
  | snoc o dxo h hf ih =>
    unfold lastR at ih ⊢
    rw [List.foldl_append, ← ih]
    exact enter_last
theorem dropS_perm {e : EntS} {ss : List EntS} (nd : (ss.map (·.1)).Nodup) (h : e ∈ ss) : ss.Perm (e :: dropS e.1 ss) := by
  obtain ⟨pre, post, rfl⟩ := List.append_of_mem h
  rw [List.map_append, List.map_cons] at nd
  obtain ⟨_, n2, n3⟩ := List.nodup_append.mp nd
  have h1 : dropS e.1 pre = pre := List.filter_eq_self.mpr fun y hy => decide_eq_true fun z => n3 _ (List.mem_map.mpr ⟨y, hy, rfl⟩) _ List.mem_cons_self z
  have h2 : dropS e.1 post = post := List.filter_eq_self.mpr fun y hy => decide_eq_true fun z => (List.nodup_cons.mp n2).1 (List.mem_map.mpr ⟨y, hy, z⟩)
  have h3 : dropS e.1 (pre ++ e :: post) = pre ++ post := by
    unfold dropS at h1 h2 ⊢
    rw [List.filter_append, List.filter_cons, if_neg (by simp), h1, h2]
  rw [h3]
  exact List.perm_middle
def numS (ss : List EntS) : List Int := ss.map fun e => e.2.2.number
theorem trig_perm {s s' : BS} {reps : List RepT} (h : TrigS s s' reps) : (s.ss.map (·.1)).Nodup → (numS s.ss).Perm (reps.map (·.number) ++ numS s'.ss) ∧ (s'.ss.map (·.1)).Nodup ∧ s'.ss.Sublist s.ss := by
  induction h with
  | nil => exact fun nd => ⟨List.Perm.refl _, nd, List.Sublist.refl _⟩
  | @snoc s1 reps e o dxo h hf ih =>
    intro nd
    obtain ⟨h1, h2, h3⟩ := ih nd
    obtain ⟨hm, _⟩ := firstS_mem hf
    refine ⟨h1.trans ?_, ((List.filter_sublist (p := fun y : EntS => decide (y.1 ≠ e.1)) (l := s1.ss)).map _).nodup h2, List.filter_sublist.trans h3⟩
    have hp : (numS s1.ss).Perm (e.2.2.number :: numS (dropS e.1 s1.ss)) := (dropS_perm h2 hm).map _
    rw [List.map_append, List.append_assoc]
    exact (List.Perm.append_left _ hp)

/-! ### told rows -/
abbrev RowT := Int × Str × Option Int × Int × Int
def rowT (o : Ord) : RowT := (o.number, o.house, o.price, o.left, o.visible)
def layP : Option Int → PyData
  | none => .none
  | some k => .int k
theorem layD_P : LayD layP 0 (fun _ => True) := by
  refine ⟨fun x _ => ?_, fun x => ?_, fun x y => ?_⟩
  · cases x <;> rfl
  · cases x <;> exact Nat.le_refl _
  · cases x with
    | none => cases y with
      | none => simp [layP, PyData.eqv]
      | some y => simp [layP, PyData.eqv]
    | some x => cases y with
      | none => simp [layP, PyData.eqv]
      | some y =>
        simp only [layP, PyData.eqv, Option.some.injEq]
        rw [Bool.beq_eq_decide_eq]
def layRow (x : RowT) : PyData := .tuple [.int x.1, .str x.2.1, layP x.2.2.1, .int x.2.2.2.1, .int x.2.2.2.2]
theorem layD_Row : LayD layRow 1 (fun x => PyData.strOk x.2.1 = true) := by
  refine ⟨fun x a => ?_, fun x => ?_, fun x y => ?_⟩
  · unfold layRow
    simp only [PyData.canLay0, PyData.canLayAll0, layD_P.lay _ trivial, Bool.and_true, Bool.true_and]
    exact a
  · unfold layRow
    simp only [PyData.depth, PyData.depthAll]
    have := layD_P.dep x.2.2.1
    omega
  · unfold layRow
    simp only [PyData.eqv, PyData.eqvAll, layD_P.eqv, Bool.and_true, Bool.beq_eq_decide_eq]
    rw [decide_and2 (r := x.2.2.2 = y.2.2.2) (by rw [Prod.ext_iff]), decide_and2 (r := x.2.2 = y.2.2) (by rw [Prod.ext_iff]), decide_and2 (r := x.2 = y.2) (by rw [Prod.ext_iff])]
    exact decide_and2 (by rw [Prod.ext_iff])
theorem dpP {K : PySem.W.Frag} {H : Hp} : ∀ x : Option Int, Dp K H (optV x) (layP x)
  | none => .non
  | some k => .int _
theorem rows_dp {K : PySem.W.Frag} {H : Hp} {D : Addr} {ts : List (Addr × Ord)} {es : List Ent} (hD : H D = some (.lst (ts.map fun t => V.ref t.1))) (hts : ts.map (·.2) = es.map (·.2.2)) (hrow : ∀ t, t ∈ ts → H t.1 = some (.tup (rowV t.2))) :
    Dp K H (.ref D) (.list ((es.map fun e => rowT e.2.2).map layRow)) := by
  have e1 : (ts.map fun t => V.ref t.1) = (ts.map (·.1)).map V.ref := by rw [List.map_map]; rfl
  have e2 : (es.map fun e => rowT e.2.2) = ts.map fun t => rowT t.2 := by
    have := congrArg (List.map rowT) hts
    rw [List.map_map, List.map_map] at this
    exact this.symm
  rw [e1] at hD
  rw [e2]
  refine .lst (SqL.of hD) (dpAll_refs (by rw [List.length_map, List.length_map]) fun i p x h1 h2 => ?_)
  rw [List.getElem?_map] at h1 h2
  cases het : ts[i]? with
  | none => rw [het] at h1; cases h1
  | some t =>
    rw [het] at h1 h2
    have ep : t.1 = p := Option.some.inj h1
    have ex : rowT t.2 = x := Option.some.inj h2
    rw [← ep, ← ex]
    have hr := hrow t (List.mem_of_getElem? het)
    unfold rowV at hr
    exact .tup (SqT.of hr) (.cons (.int _) (.cons (.str _) (.cons (dpP _) (.cons (.int _) (.cons (.int _) .nil)))))
theorem rows_eq {K : PySem.W.Frag} {H : Hp} {D D' : Addr} {ts ts' : List (Addr × Ord)} {es : List Ent} {Q : VK} (hok : ∀ e, e ∈ es → PyData.strOk e.2.2.house = true) (hD : H D = some (.lst (ts.map fun t => V.ref t.1))) (hts : ts.map (·.2) = es.map (·.2.2)) (hrow : ∀ t, t ∈ ts → H t.1 = some (.tup (rowV t.2)))
    (hD' : H D' = some (.lst (ts'.map fun t => V.ref t.1))) (hts' : ts'.map (·.2) = es.map (·.2.2)) (hrow' : ∀ t, t ∈ ts' → H t.1 = some (.tup (rowV t.2))) (q : Q (.bl true) H) : rEqD K (.ref D) (.ref D') H Q := by
  have hG : ∀ x, x ∈ (es.map fun e => rowT e.2.2) → PyData.strOk x.2.1 = true := fun x hx => by
    obtain ⟨e, he, rfl⟩ := List.mem_map.mp hx
    exact hok e he
  refine eqL layD_Row.list (by decide) (a := es.map fun e => rowT e.2.2) (b := es.map fun e => rowT e.2.2) hG hG (rows_dp hD hts hrow) (rows_dp hD' hts' hrow') ?_
  rw [decide_eq_true rfl]
  exact q

/-! ### told rows of stop orders -/
theorem stp_ext {a b : Stp} : (a.number = b.number ∧ a.house = b.house ∧ a.side = b.side ∧ a.trigger = b.trigger ∧ a.price = b.price ∧ a.quantity = b.quantity) ↔ a = b := by
  cases a
  cases b
  simp only [Stp.mk.injEq]
instance stpEq : DecidableEq Stp := fun _ _ => decidable_of_iff _ stp_ext
def layQ (s : Stp) : PyData := .tuple [.int s.number, .str s.house, .str s.side, .int s.trigger, layP s.price, .int s.quantity]
theorem layD_Q : LayD layQ 1 (fun s => PyData.strOk s.house = true ∧ PyData.strOk s.side = true) := by
  refine ⟨fun x a => ?_, fun x => ?_, fun x y => ?_⟩
  · unfold layQ
    simp only [PyData.canLay0, PyData.canLayAll0, layD_P.lay _ trivial, Bool.and_true, Bool.true_and]
    rw [a.1, a.2]
    rfl
  · unfold layQ
    simp only [PyData.depth, PyData.depthAll]
    have := layD_P.dep x.price
    omega
  · unfold layQ
    simp only [PyData.eqv, PyData.eqvAll, layD_P.eqv, Bool.and_true, Bool.beq_eq_decide_eq]
    rw [decide_and2 (p := x.price = y.price) (q := x.quantity = y.quantity) Iff.rfl, decide_and2 (p := x.trigger = y.trigger) Iff.rfl, decide_and2 (p := x.side = y.side) Iff.rfl, decide_and2 (p := x.house = y.house) Iff.rfl]
    exact decide_and2 stp_ext.symm
theorem tups_dp {α : Type} {enc : α → List V} {lay : α → PyData} {K : PySem.W.Frag} {H : Hp} {l : Addr} {ps : List Addr} {xs : List α} (h : Tups enc H l ps xs) (hd : ∀ x p, x ∈ xs → H p = some (.tup (enc x)) → Dp K H (.ref p) (lay x)) : Dp K H (.ref l) (.list (xs.map lay)) :=
  .lst (SqL.of h.lst) (dpAll_refs h.len fun i p x h1 h2 => hd x p (List.mem_of_getElem? h2) (h.row i p x h1 h2))
theorem rowS_dp {K : PySem.W.Frag} {H : Hp} {p : Addr} {s : Stp} (h : H p = some (.tup (rowS s))) : Dp K H (.ref p) (layQ s) :=
  .tup (SqT.of h) (.cons (.int _) (.cons (.str _) (.cons (.str _) (.cons (.int _) (.cons (dpP _) (.cons (.int _) .nil))))))
theorem trig_stuck {s s' : BS} {reps : List RepT} (h : TrigS s s' reps) : firstS s.last s.ss = none → s' = s ∧ reps = [] := by
  induction h with
  | nil => exact fun _ => ⟨rfl, rfl⟩
  | snoc o dxo h hf ih =>
    intro hn
    obtain ⟨rfl, _⟩ := ih hn
    rw [hn] at hf
    cases hf
theorem first_none (ss : List EntS) : firstS none ss = none := List.find?_eq_none.mpr fun x _ => by simp [reachedS]
theorem iteSelf {x : V} {A B : Prop} (h : B) : if (!decide (x = x)) = true then A else B := by
  rw [decide_eq_true rfl]
  exact iteF h

theorem none_upd {H : Hp} {a z : Addr} {o : HO} (h : upd H a o z = none) : H z = none := by
  unfold upd at h
  split at h
  · cases h
  · exact h

/-! ### a plain book: one list of orders in the order of their coming -/
def ordE (e : Ent) : Ord := e.2.2
theorem place_filter {es : List Ent} {p : Int} (h : Mono es p) : es.filter (accE p) = es.take (place es p) ∧ es.filter (fun x => !accE p x) = es.drop (place es p) := by
  obtain ⟨h1, h2⟩ := place_split h
  constructor
  · conv => lhs; rw [← List.take_append_drop (place es p) es]
    rw [List.filter_append, List.filter_eq_self.mpr h1, List.filter_eq_nil_iff.mpr (fun x hx => by rw [h2 x hx]; exact Bool.false_ne_true), List.append_nil]
  · conv => lhs; rw [← List.take_append_drop (place es p) es]
    rw [List.filter_append, List.filter_eq_nil_iff.mpr (fun x hx => by rw [h1 x hx]; exact Bool.false_ne_true), List.nil_append, List.filter_eq_self.mpr (fun x hx => by rw [h2 x hx]; rfl)]
theorem ins_filter {es : List Ent} {p : Int} {e : Ent} (h : Mono es p) : insE es (place es p) e = es.filter (accE p) ++ e :: es.filter (fun x => !accE p x) := by
  rw [(place_filter h).1, (place_filter h).2]
  unfold insE
  rw [List.append_assoc]
  rfl
/-- the orders of one side by price, the elder ones first -/
def addE (es : List Ent) (e : Ent) : List Ent := insE es (place es (prcE e)) e
def bldE (es L : List Ent) : List Ent := L.foldl addE es
def selE (s : Str) (L : List Ent) : List Ent := L.filter fun e => decide (e.2.2.side = s)
def BL (s : Str) (L : List Ent) : List Ent := bldE [] (selE s L)
structure GoodE (e : Ent) : Prop where
  side : e.2.2.side = "buy" ∨ e.2.2.side = "sell"
  price : ∃ p, e.2.2.price = some p
  vis : 1 ≤ e.2.2.visible ∧ e.2.2.visible ≤ e.2.2.left ∧ 0 ≤ e.2.2.shown
  ok : PyData.strOk e.2.2.house = true
theorem add_rank {s : Str} {es : List Ent} {e : Ent} (h : Rank s es) (g : GoodE e) (hs : e.2.2.side = s) : Rank s (addE es e) := by
  obtain ⟨p, hp⟩ := g.price
  have hpp : prcE e = p := by unfold prcE; rw [hp]; rfl
  unfold addE
  rw [hpp]
  exact h.insert hs hp g.vis
theorem bld_rank {s : Str} : ∀ {L es : List Ent}, Rank s es → (∀ e, e ∈ L → GoodE e ∧ e.2.2.side = s) → Rank s (bldE es L)
  | [], es, h, _ => h
  | e :: L, es, h, g => bld_rank (L := L) (add_rank h (g e List.mem_cons_self).1 (g e List.mem_cons_self).2) fun x hx => g x (List.mem_cons_of_mem _ hx)
theorem sel_mem {s : Str} {L : List Ent} {e : Ent} (h : e ∈ selE s L) : e ∈ L ∧ e.2.2.side = s := ⟨(List.mem_filter.mp h).1, of_decide_eq_true (List.mem_filter.mp h).2⟩
theorem BL_rank {s : Str} {L : List Ent} (g : ∀ e, e ∈ L → GoodE e) : Rank s (BL s L) := bld_rank (Rank.nil s) fun e he => ⟨g e (sel_mem he).1, (sel_mem he).2⟩
theorem bld_snoc (es L : List Ent) (e : Ent) : bldE es (L ++ [e]) = addE (bldE es L) e := by
  unfold bldE
  rw [List.foldl_append]
  rfl
theorem BL_snoc {s : Str} {L : List Ent} {e : Ent} (h : e.2.2.side = s) : BL s (L ++ [e]) = addE (BL s L) e := by
  unfold BL selE
  rw [List.filter_append, List.filter_cons, if_pos (decide_eq_true h)]
  exact bld_snoc _ _ _
theorem BL_other {s : Str} {L : List Ent} {e : Ent} (h : e.2.2.side ≠ s) : BL s (L ++ [e]) = BL s L := by
  unfold BL selE
  rw [List.filter_append, List.filter_cons, if_neg (by simpa using h), List.filter_nil, List.append_nil]
theorem add_perm (es : List Ent) (e : Ent) : (addE es e).Perm (e :: es) := insE_perm _ _ _
theorem bld_perm : ∀ (L es : List Ent), (bldE es L).Perm (L ++ es)
  | [], es => List.Perm.refl _
  | e :: L, es => by
    have h1 := bld_perm L (addE es e)
    refine h1.trans ?_
    refine ((add_perm es e).append_left L).trans ?_
    exact List.perm_middle
theorem BL_perm (s : Str) (L : List Ent) : (BL s L).Perm (selE s L) := by
  have := bld_perm (selE s L) []
  rw [List.append_nil] at this
  exact this
/-- what is left out beforehand is left out behind -/
theorem add_filter {s : Str} {es : List Ent} {e : Ent} {q : Ent → Bool} (h : Rank s es) : (addE es e).filter q = if q e = true then addE (es.filter q) e else es.filter q := by
  have hm2 : Mono (es.filter q) (prcE e) := (h.sub List.filter_sublist).mono _
  unfold addE
  rw [ins_filter (h.mono _), ins_filter hm2, List.filter_append, List.filter_cons]
  have c1 : (es.filter (accE (prcE e))).filter q = (es.filter q).filter (accE (prcE e)) := by rw [List.filter_filter, List.filter_filter]; congr 1; funext x; exact Bool.and_comm _ _
  have c2 : (es.filter (fun x => !accE (prcE e) x)).filter q = (es.filter q).filter (fun x => !accE (prcE e) x) := by rw [List.filter_filter, List.filter_filter]; congr 1; funext x; exact Bool.and_comm _ _
  rw [c1, c2]
  split
  · rfl
  · rw [(place_filter hm2).1, (place_filter hm2).2, List.take_append_drop]
theorem bld_filter {s : Str} {q : Ent → Bool} : ∀ {L es : List Ent}, Rank s es → (∀ e, e ∈ L → GoodE e ∧ e.2.2.side = s) → (bldE es L).filter q = bldE (es.filter q) (L.filter q)
  | [], es, _, _ => rfl
  | e :: L, es, h, g => by
    have h1 := add_rank h (g e List.mem_cons_self).1 (g e List.mem_cons_self).2
    have ih := bld_filter (q := q) (L := L) h1 fun x hx => g x (List.mem_cons_of_mem _ hx)
    show (bldE (addE es e) L).filter q = _
    rw [ih, add_filter h, List.filter_cons]
    split <;> rfl
theorem BL_filter {s : Str} {L : List Ent} {q : Ent → Bool} (g : ∀ e, e ∈ L → GoodE e) : BL s (L.filter q) = (BL s L).filter q := by
  have h := bld_filter (q := q) (L := selE s L) (Rank.nil s) fun e he => ⟨g e (sel_mem he).1, (sel_mem he).2⟩
  unfold BL
  rw [h]
  show bldE [] (selE s (L.filter q)) = bldE [] ((selE s L).filter q)
  congr 1
  unfold selE
  rw [List.filter_filter, List.filter_filter]
  congr 1
  funext x
  exact Bool.and_comm _ _
/-- what changes neither side nor price changes no place -/
theorem place_map {f : Ent → Ent} (hf : ∀ e, (f e).2.2.side = e.2.2.side ∧ (f e).2.2.price = e.2.2.price) {p : Int} : ∀ es : List Ent, place (es.map f) p = place es p
  | [] => rfl
  | e :: es => by
    have ha : accE p (f e) = accE p e := by unfold accE; rw [(hf e).1, (hf e).2]
    have ih := place_map hf (p := p) es
    unfold place at ih ⊢
    rw [List.map_cons, List.takeWhile_cons, List.takeWhile_cons, ha]
    split
    · rw [List.length_cons, List.length_cons, ih]
    · rfl
theorem add_map {f : Ent → Ent} (hf : ∀ e, (f e).2.2.side = e.2.2.side ∧ (f e).2.2.price = e.2.2.price) (es : List Ent) (e : Ent) : (addE es e).map f = addE (es.map f) (f e) := by
  have hp : prcE (f e) = prcE e := by unfold prcE; rw [(hf e).2]
  unfold addE insE
  rw [hp, place_map hf, List.map_append, List.map_append, List.map_take, List.map_drop]
  rfl
theorem bld_map {f : Ent → Ent} (hf : ∀ e, (f e).2.2.side = e.2.2.side ∧ (f e).2.2.price = e.2.2.price) : ∀ L es : List Ent, (bldE es L).map f = bldE (es.map f) (L.map f)
  | [], _ => rfl
  | e :: L, es => by
    show (bldE (addE es e) L).map f = _
    rw [bld_map hf L, add_map hf]
    rfl
theorem BL_map {f : Ent → Ent} (hf : ∀ e, (f e).2.2.side = e.2.2.side ∧ (f e).2.2.price = e.2.2.price) (s : Str) (L : List Ent) : BL s (L.map f) = (BL s L).map f := by
  unfold BL selE
  rw [List.filter_map, bld_map hf]
  show bldE [] _ = bldE [] _
  congr 2
  refine List.filter_congr fun x _ => ?_
  show decide ((f x).2.2.side = s) = decide (x.2.2.side = s)
  rw [(hf x).1]

def fitsF (s : Str) (lim : Option Int) (p : Int) : Bool := match lim with
  | none => true
  | some l => if V.str s = V.str "sell" then decide (p ≤ l) else decide (l ≤ p)
def bestF (s : Str) (lim : Option Int) : List Ent → Option Ent
  | [] => none
  | h :: _ => if fitsF s lim (prcE h) = true then some h else none
def betterF (s : Str) (p q : Int) : Bool := if V.str s = V.str "sell" then decide (p < q) else decide (q < p)
theorem sell_ne_buy : ¬ V.str "buy" = V.str "sell" := by decide +kernel
theorem fits_takes {ts : Str} (h : ts = "buy" ∨ ts = "sell") (lim : Option Int) (p : Int) : fitsF (otherS ts) lim p = takes ts lim p := by
  cases lim with
  | none => rfl
  | some l =>
    rcases h with rfl | rfl
    · have : otherS "buy" = "sell" := if_pos buyS_buy
      rw [this]
      show (if V.str "sell" = V.str "sell" then decide (p ≤ l) else decide (l ≤ p)) = if buyS "buy" = true then decide (p ≤ l) else decide (l ≤ p)
      rw [if_pos rfl, if_pos buyS_buy]
    · have : otherS "sell" = "buy" := if_neg (by rw [buyS_sell]; exact Bool.false_ne_true)
      rw [this]
      show (if V.str "buy" = V.str "sell" then decide (p ≤ l) else decide (l ≤ p)) = if buyS "sell" = true then decide (p ≤ l) else decide (l ≤ p)
      rw [if_neg sell_ne_buy, if_neg (by rw [buyS_sell]; exact Bool.false_ne_true)]
theorem acc_better {s : Str} {e : Ent} {p : Int} (hs : s = "buy" ∨ s = "sell") (h1 : e.2.2.side = s) (h2 : ∃ q, e.2.2.price = some q) : accE p e = !betterF s p (prcE e) := by
  obtain ⟨q, hq⟩ := h2
  have hp : prcE e = q := by unfold prcE; rw [hq]; rfl
  rw [hp, accE_of hq, h1]
  rcases hs with rfl | rfl
  · show (if buyS "buy" = true then decide (p ≤ q) else decide (q ≤ p)) = !(if V.str "buy" = V.str "sell" then decide (p < q) else decide (q < p))
    rw [if_pos buyS_buy, if_neg sell_ne_buy]
    by_cases h : p ≤ q
    · rw [decide_eq_true h, decide_eq_false (by omega)]; rfl
    · rw [decide_eq_false h, decide_eq_true (by omega)]; rfl
  · show (if buyS "sell" = true then decide (p ≤ q) else decide (q ≤ p)) = !(if V.str "sell" = V.str "sell" then decide (p < q) else decide (q < p))
    rw [if_neg (by rw [buyS_sell]; exact Bool.false_ne_true), if_pos rfl]
    by_cases h : q ≤ p
    · rw [decide_eq_true h, decide_eq_false (by omega)]; rfl
    · rw [decide_eq_false h, decide_eq_true (by omega)]; rfl
theorem fits_mono {s : Str} {lim : Option Int} {p q : Int} (h : betterF s p q = true) (hq : fitsF s lim q = true) : fitsF s lim p = true := by
  cases lim with
  | none => rfl
  | some l =>
    unfold fitsF betterF at *
    dsimp only at *
    split at h
    · next z =>
      rw [if_pos z] at hq ⊢
      have := of_decide_eq_true h
      have := of_decide_eq_true hq
      exact decide_eq_true (by omega)
    · next z =>
      rw [if_neg z] at hq ⊢
      have := of_decide_eq_true h
      have := of_decide_eq_true hq
      exact decide_eq_true (by omega)
theorem add_head {h e : Ent} {t : List Ent} : ∃ r, addE (h :: t) e = (if accE (prcE e) h = true then h else e) :: r := by
  unfold addE insE place
  rw [List.takeWhile_cons]
  split
  · rw [List.length_cons, List.take_succ_cons]
    exact ⟨_, rfl⟩
  · rw [List.length_nil, List.take_zero]
    exact ⟨_, rfl⟩
theorem best_cons {s : Str} {lim : Option Int} {x : Ent} {t : List Ent} : bestF s lim (x :: t) = if fitsF s lim (prcE x) = true then some x else none := rfl
theorem best_add {s : Str} {lim : Option Int} {es : List Ent} {e : Ent} (hs : s = "buy" ∨ s = "sell") (h : Rank s es) :
    bestF s lim (addE es e) = if fitsF s lim (prcE e) = true ∧ (∀ b, bestF s lim es = some b → betterF s (prcE e) (prcE b) = true) then some e else bestF s lim es := by
  cases es with
  | nil =>
    show (if fitsF s lim (prcE e) = true then some e else none) = _
    by_cases f : fitsF s lim (prcE e) = true
    · rw [if_pos f, if_pos ⟨f, fun b hb => by cases hb⟩]
    · rw [if_neg f, if_neg fun z => f z.1]
      rfl
  | cons x t =>
    obtain ⟨r, hr⟩ := add_head (h := x) (e := e) (t := t)
    have ha := acc_better (p := prcE e) hs (h.side x List.mem_cons_self) (h.price x List.mem_cons_self)
    rw [hr, ha]
    by_cases b : betterF s (prcE e) (prcE x) = true
    · rw [if_neg (by rw [b]; exact Bool.false_ne_true)]
      show (if fitsF s lim (prcE e) = true then some e else none) = _
      by_cases f : fitsF s lim (prcE e) = true
      · have hz : ∀ b', bestF s lim (x :: t) = some b' → betterF s (prcE e) (prcE b') = true := fun b' hb => by
          rw [best_cons] at hb
          split at hb
          · cases hb
            exact b
          · cases hb
        rw [if_pos f, if_pos ⟨f, hz⟩]
      · rw [if_neg f, if_neg fun z => f z.1]
        rw [best_cons, if_neg fun z => f (fits_mono b z)]
    · have b2 : betterF s (prcE e) (prcE x) = false := by cases hb : betterF s (prcE e) (prcE x) with
        | false => rfl
        | true => exact absurd hb b
      rw [if_pos (by rw [b2]; rfl)]
      show (if fitsF s lim (prcE x) = true then some x else none) = _
      by_cases f : fitsF s lim (prcE x) = true
      · rw [if_pos f, if_neg fun z => b (z.2 x (by rw [best_cons, if_pos f])), best_cons, if_pos f]
      · have hz : ¬ (fitsF s lim (prcE e) = true ∧ ∀ b', bestF s lim (x :: t) = some b' → betterF s (prcE e) (prcE b') = true) := fun z => by
          have h1 := z.1
          have : betterF s (prcE x) (prcE e) = true ∨ prcE x = prcE e := by
            unfold betterF at b2 ⊢
            by_cases z : V.str s = V.str "sell"
            · rw [if_pos z] at b2 ⊢
              have := of_decide_eq_false b2
              by_cases k : prcE x < prcE e
              · exact .inl (decide_eq_true k)
              · exact .inr (by omega)
            · rw [if_neg z] at b2 ⊢
              have := of_decide_eq_false b2
              by_cases k : prcE e < prcE x
              · exact .inl (decide_eq_true k)
              · exact .inr (by omega)
          rcases this with k | k
          · exact f (fits_mono k h1)
          · rw [k] at f; exact f h1
        rw [if_neg f, if_neg hz, best_cons, if_neg f]
/-- the law's list: its rows are orders, none twice -/
structure LawL (L : List Ent) : Prop where
  good : ∀ e, e ∈ L → GoodE e
  nda : (L.map (·.1)).Nodup
  ndn : (L.map fun e => e.2.2.number).Nodup
theorem BL_mem {s : Str} {L : List Ent} {e : Ent} (h : e ∈ BL s L) : e ∈ L ∧ e.2.2.side = s := sel_mem ((BL_perm s L).mem_iff.mp h)
theorem BL_nd {s : Str} {L : List Ent} (h : (L.map (·.1)).Nodup) : ((BL s L).map (·.1)).Nodup := ((BL_perm s L).map _).nodup_iff.mpr ((List.filter_sublist.map _).nodup h)
theorem drop_head {e : Ent} {rest : List Ent} (h : ((e :: rest).map (·.1)).Nodup) : dropE e.1 (e :: rest) = rest := drop_mid (pre := []) h
theorem BL_drop {s : Str} {L : List Ent} {e : Ent} {rest : List Ent} (h : LawL L) (hb : BL s L = e :: rest) : BL s (dropE e.1 L) = rest := by
  unfold dropE
  rw [BL_filter h.good, hb]
  exact drop_head (by rw [← hb]; exact BL_nd h.nda)
theorem BL_drop_other {s : Str} {L : List Ent} {e : Ent} (h : LawL L) (he : e ∈ L) (hs : e.2.2.side ≠ s) : BL s (dropE e.1 L) = BL s L := by
  unfold dropE
  rw [BL_filter h.good]
  refine drop_none fun y hy z => hs ?_
  obtain ⟨y1, y2⟩ := BL_mem hy
  rw [← nodup_addr h.nda y1 he z]
  exact y2
theorem LawL.drop {L : List Ent} (h : LawL L) (a : Addr) : LawL (dropE a L) := ⟨fun e he => h.good e (drop_mem he).1, (List.filter_sublist.map _).nodup h.nda, (List.filter_sublist.map _).nodup h.ndn⟩
def decO (q : Int) (o : Ord) : Ord := { o with left := o.left - q, visible := o.visible - q }
theorem BL_set {s : Str} {L : List Ent} (a : Addr) (q : Int) : BL s (setE a (decO q) L) = setE a (decO q) (BL s L) := by
  unfold setE
  refine BL_map (fun e => ?_) s L
  split <;> exact ⟨rfl, rfl⟩
theorem set_head {e : Ent} {rest : List Ent} {f : Ord → Ord} (h : ((e :: rest).map (·.1)).Nodup) : setE e.1 f (e :: rest) = (e.1, e.2.1, f e.2.2) :: rest := by
  have h1 : setE e.1 f rest = rest := setE_none fun y hy z => (List.nodup_cons.mp h).1 (List.mem_map.mpr ⟨y, hy, z⟩)
  have h2 : setE e.1 f (e :: rest) = (if e.1 = e.1 then (e.1, e.2.1, f e.2.2) else e) :: setE e.1 f rest := rfl
  rw [h2, if_pos rfl, h1]
theorem LawL.set {L : List Ent} {e : Ent} {q : Int} (h : LawL L) (he : e ∈ L) (hq : 1 ≤ e.2.2.visible - q) (hq0 : 0 ≤ q) : LawL (setE e.1 (decO q) L) := by
  refine ⟨fun y hy => ?_, by rw [setE_addr]; exact h.nda, ?_⟩
  · obtain ⟨x, hx, rfl⟩ := setE_mem hy
    split
    · next z =>
      have hxe := nodup_addr h.nda hx he z
      subst hxe
      have g := h.good x hx
      exact ⟨g.side, g.price, ⟨by show 1 ≤ x.2.2.visible - q; exact hq, by show x.2.2.visible - q ≤ x.2.2.left - q; have := g.vis; omega, g.vis.2.2⟩, g.ok⟩
    · exact h.good x hx
  · have : (setE e.1 (decO q) L).map (fun e => e.2.2.number) = L.map fun e => e.2.2.number := by
      unfold setE
      rw [List.map_map]
      refine List.map_congr_left fun y _ => ?_
      show (if y.1 = e.1 then _ else y).2.2.number = y.2.2.number
      split <;> rfl
    rw [this]
    exact h.ndn
theorem LawL.snoc {L : List Ent} {e : Ent} (h : LawL L) (g : GoodE e) (ha : e.1 ∉ L.map (·.1)) (hn : e.2.2.number ∉ L.map fun e => e.2.2.number) : LawL (L ++ [e]) := by
  refine ⟨fun y hy => ?_, ?_, ?_⟩
  · rcases List.mem_append.mp hy with z | z
    · exact h.good y z
    · rw [List.mem_singleton.mp z]; exact g
  · rw [List.map_append]
    refine List.nodup_append.mpr ⟨h.nda, List.nodup_cons.mpr ⟨List.not_mem_nil, List.nodup_nil⟩, fun a h1 b h2 e => ?_⟩
    rw [List.mem_singleton.mp h2] at e
    rw [e] at h1
    exact ha h1
  · rw [List.map_append]
    refine List.nodup_append.mpr ⟨h.ndn, List.nodup_cons.mpr ⟨List.not_mem_nil, List.nodup_nil⟩, fun a h1 b h2 e => ?_⟩
    rw [List.mem_singleton.mp h2] at e
    rw [e] at h1
    exact hn h1

/-! ### the law's trade, step by step, beside the book's -/
def stepL (t : Ord) (m : Mt) (e : Ent) (L : List Ent) : List Ent :=
  if e.2.2.house = t.house then dropE e.1 L
  else if e.2.2.visible - qtyM m e = 0 then dropE e.1 L ++ (if 0 < e.2.2.left - qtyM m e then [(e.1, e.2.1, (decO (qtyM m e) e.2.2).showNext)] else [])
  else setE e.1 (decO (qtyM m e)) L
theorem trade_is (e : Ent) (es : List Ent) (n p : Int) : tradeF e es n p = if e.2.2.visible - n = 0 then (if 0 < e.2.2.left - n then insE es (place es p) (e.1, e.2.1, (decO n e.2.2).showNext) else es) else (e.1, e.2.1, decO n e.2.2) :: es := rfl
theorem qty_in {m : Mt} {e : Ent} (h0 : 0 < m.left) (hv : 1 ≤ e.2.2.visible) : 1 ≤ qtyM m e ∧ qtyM m e ≤ e.2.2.visible ∧ qtyM m e ≤ m.left := by
  unfold qtyM
  split <;> omega
theorem drop_out {e : Ent} {L : List Ent} : e.1 ∉ (dropE e.1 L).map (·.1) := fun h => by
  obtain ⟨y, hy, z⟩ := List.mem_map.mp h
  exact (drop_mem hy).2 z
theorem drop_num {e : Ent} {L : List Ent} (h : LawL L) (he : e ∈ L) : e.2.2.number ∉ (dropE e.1 L).map fun e => e.2.2.number := fun k => by
  obtain ⟨y, hy, z⟩ := List.mem_map.mp k
  obtain ⟨y1, y2⟩ := drop_mem hy
  obtain ⟨i, hi, ei⟩ := List.getElem_of_mem y1
  obtain ⟨j, hj, ej⟩ := List.getElem_of_mem he
  have h1 := List.pairwise_iff_getElem.mp h.ndn
  have n1 : ∀ k (hk : k < L.length), (L.map fun e => e.2.2.number)[k]'(by rw [List.length_map]; exact hk) = L[k].2.2.number := fun k hk => by rw [List.getElem_map]
  rcases Nat.lt_trichotomy i j with c | c | c
  · have := h1 i j (by rw [List.length_map]; exact hi) (by rw [List.length_map]; exact hj) c
    rw [n1 i hi, n1 j hj, ei, ej] at this
    exact this z
  · subst c
    rw [ei] at ej
    rw [ej] at y2
    exact y2 rfl
  · have := h1 j i (by rw [List.length_map]; exact hj) (by rw [List.length_map]; exact hi) c
    rw [n1 i hi, n1 j hj, ei, ej] at this
    exact this z.symm
theorem stepL_ok {t : Ord} {m : Mt} {e : Ent} {L : List Ent} {so : Str} (h : LawL L) (hm : m.es = BL so L) (hg : goesM t m = some e) :
    (stepM t m e).es = BL so (stepL t m e L) ∧ (∀ s, s ≠ so → BL s (stepL t m e L) = BL s L) ∧ LawL (stepL t m e L) ∧ (stepL t m e L).length ≤ L.length := by
  obtain ⟨h1, h2, h3⟩ := goesM_some hg
  generalize hr : m.es.tail = rest at h1
  have hb : BL so L = e :: rest := by rw [← hm, h1]
  have hem : e ∈ BL so L := by rw [hb]; exact List.mem_cons_self
  obtain ⟨heL, hes⟩ := BL_mem hem
  have g := h.good e heL
  have hq := qty_in h2 g.vis.1
  have hdl : (dropE e.1 L).length + 1 ≤ L.length := drop_less heL
  have oth : ∀ s, s ≠ so → BL s (dropE e.1 L) = BL s L := fun s hs => BL_drop_other h heL (fun z => hs (by rw [← z, hes]))
  unfold stepM stepL
  by_cases hh : e.2.2.house = t.house
  · rw [if_pos hh, if_pos hh]
    refine ⟨?_, oth, h.drop _, by omega⟩
    show m.es.tail = _
    rw [hr, BL_drop h hb]
  · rw [if_neg hh, if_neg hh]
    show tradeF e m.es.tail (qtyM m e) (prcE e) = _ ∧ _
    rw [trade_is, hr]
    by_cases hv : e.2.2.visible - qtyM m e = 0
    · rw [if_pos hv, if_pos hv]
      by_cases hl : 0 < e.2.2.left - qtyM m e
      · rw [if_pos hl, if_pos hl]
        have hvis := showNext_vis (o := decO (qtyM m e) e.2.2) (by show 1 ≤ e.2.2.left - qtyM m e; omega) g.vis.2.2
        have gn : GoodE (e.1, e.2.1, (decO (qtyM m e) e.2.2).showNext) := ⟨g.side, g.price, hvis, g.ok⟩
        refine ⟨?_, fun s hs => ?_, (h.drop _).snoc gn drop_out (drop_num h heL), ?_⟩
        · rw [BL_snoc (by exact hes), BL_drop h hb]
          rfl
        · rw [BL_other (by show e.2.2.side ≠ s; rw [hes]; exact fun z => hs z.symm)]
          exact oth s hs
        · rw [List.length_append, List.length_singleton]
          omega
      · rw [if_neg hl, if_neg hl, List.append_nil]
        exact ⟨(BL_drop h hb).symm, oth, h.drop _, by omega⟩
    · rw [if_neg hv, if_neg hv]
      refine ⟨?_, fun s hs => ?_, h.set heL (by omega) (by omega), by rw [setE_len]; exact Nat.le_refl _⟩
      · rw [BL_set, hb, set_head (by rw [← hb]; exact BL_nd h.nda)]
      · rw [BL_set]
        refine setE_none fun y hy z => ?_
        obtain ⟨y1, y2⟩ := BL_mem hy
        have := nodup_addr h.nda y1 heL z
        subst this
        exact hs (y2.symm.trans hes)
def ordsE (es : List Ent) : List Ord := es.map fun e => e.2.2
structure SimM (m n : Mt) : Prop where
  es : ordsE m.es = ordsE n.es
  left : m.left = n.left
  last : m.last = n.last
  fills : m.fills = n.fills
  gone : m.gone = n.gone
theorem place_ords {p : Int} : ∀ {a b : List Ent}, ordsE a = ordsE b → place a p = place b p
  | [], [], _ => rfl
  | [], y :: b, h => by cases h
  | x :: a, [], h => by cases h
  | x :: a, y :: b, h => by
    obtain ⟨h1, h2⟩ := List.cons.inj (show x.2.2 :: ordsE a = y.2.2 :: ordsE b from h)
    have ha : accE p x = accE p y := by unfold accE; rw [h1]
    have ih := place_ords (p := p) h2
    unfold place at ih ⊢
    rw [List.takeWhile_cons, List.takeWhile_cons, ha]
    split
    · rw [List.length_cons, List.length_cons, ih]
    · rfl
theorem ins_ords {a b : List Ent} {x y : Ent} {k : Nat} (h : ordsE a = ordsE b) (hx : x.2.2 = y.2.2) : ordsE (insE a k x) = ordsE (insE b k y) := by
  unfold ordsE insE at *
  rw [List.map_append, List.map_append, List.map_append, List.map_append, List.map_take, List.map_take, List.map_drop, List.map_drop, h]
  show _ ++ [x.2.2] ++ _ = _ ++ [y.2.2] ++ _
  rw [hx]
theorem trade_ords {a b : List Ent} {x y : Ent} {n p : Int} (h : ordsE a = ordsE b) (hx : x.2.2 = y.2.2) : ordsE (tradeF x a n p) = ordsE (tradeF y b n p) := by
  rw [trade_is, trade_is, hx]
  split
  · split
    · rw [place_ords h]
      exact ins_ords h rfl
    · exact h
  · show decO n y.2.2 :: ordsE a = decO n y.2.2 :: ordsE b
    rw [h]
theorem sim_goes {t : Ord} {m n : Mt} (h : SimM m n) : (goesM t m = none → goesM t n = none) ∧ ∀ e, goesM t m = some e → ∃ e', goesM t n = some e' ∧ SimM (stepM t m e) (stepM t n e') := by
  have h1 := h.es
  have h2 := h.left
  cases hm : m.es with
  | nil =>
    rw [hm] at h1
    have hn : n.es = [] := by
      cases hn : n.es with
      | nil => rfl
      | cons a b => rw [hn] at h1; cases h1
    unfold goesM
    rw [hm, hn]
    exact ⟨fun _ => rfl, fun e he => by cases he⟩
  | cons x a =>
    rw [hm] at h1
    cases hn : n.es with
    | nil => rw [hn] at h1; cases h1
    | cons y b =>
      rw [hn] at h1
      obtain ⟨k1, k2⟩ := List.cons.inj (show x.2.2 :: ordsE a = y.2.2 :: ordsE b from h1)
      have hp : prcE x = prcE y := by unfold prcE; rw [k1]
      have e1 : goesM t m = if 0 < m.left ∧ takes t.side t.price (prcE x) = true then some x else none := by unfold goesM; rw [hm]
      have e2 : goesM t n = if 0 < m.left ∧ takes t.side t.price (prcE x) = true then some y else none := by unfold goesM; rw [hn, h2, hp]
      rw [e1, e2]
      by_cases c : 0 < m.left ∧ takes t.side t.price (prcE x) = true
      · rw [if_pos c, if_pos c]
        refine ⟨(fun z => by cases z), fun e he => ⟨y, rfl, ?_⟩⟩
        cases he
        have hq : qtyM m x = qtyM n y := by unfold qtyM; rw [k1, h2]
        unfold stepM
        rw [k1]
        by_cases hh : y.2.2.house = t.house
        · rw [if_pos hh, if_pos hh]
          refine ⟨?_, h2, h.last, h.fills, by show m.gone ++ _ = n.gone ++ _; rw [h.gone]⟩
          show ordsE m.es.tail = ordsE n.es.tail
          rw [hm, hn]
          exact k2
        · rw [if_neg hh, if_neg hh]
          refine ⟨?_, by show m.left - _ = n.left - _; rw [h2, hq], by show some (prcE x) = some (prcE y); rw [hp], by show m.fills ++ _ = n.fills ++ _; rw [h.fills, hq, hp], h.gone⟩
          show ordsE (tradeF x m.es.tail (qtyM m x) (prcE x)) = ordsE (tradeF y n.es.tail (qtyM n y) (prcE y))
          rw [hm, hn, hq, hp]
          exact trade_ords k2 k1
      · rw [if_neg c, if_neg c]
        exact ⟨fun _ => rfl, fun e he => by cases he⟩
theorem sim_run {t : Ord} : ∀ (k : Nat) {m n : Mt}, SimM m n → SimM (runM t k m) (runM t k n)
  | 0, _, _, h => h
  | k + 1, m, n, h => by
    obtain ⟨h1, h2⟩ := sim_goes (t := t) h
    cases hg : goesM t m with
    | none => rw [runM_stop hg, runM_stop (h1 hg)]; exact h
    | some e =>
      obtain ⟨e', he, hs⟩ := h2 e hg
      rw [runM_go hg, runM_go he]
      exact sim_run k hs
theorem sim_end {t : Ord} {last : Option Int} {a b : List Ent} (h : ordsE a = ordsE b) : SimM (endM t last a) (endM t last b) := by
  have hl : a.length = b.length := by
    have := congrArg List.length h
    unfold ordsE at this
    rw [List.length_map, List.length_map] at this
    exact this
  have hsz : sizeM (startM t last a) = sizeM (startM t last b) := by unfold sizeM startM; dsimp only; rw [hl]
  unfold endM
  rw [hsz]
  exact sim_run _ ⟨h, rfl, rfl, rfl, rfl⟩
def sumL (t : Ord) : List Ord → Int
  | [] => 0
  | o :: os => if canT t (0, 0, o) = true then o.left + sumL t os else sumL t os
theorem avail_sum (t : Ord) : ∀ es : List Ent, availM t es = sumL t (ordsE es)
  | [] => rfl
  | e :: es => by
    have ih := avail_sum t es
    unfold availM at ih ⊢
    rw [List.filter_cons]
    show _ = if canT t e = true then e.2.2.left + sumL t (ordsE es) else sumL t (ordsE es)
    split
    · rw [List.map_cons, List.sum_cons, ih]
    · exact ih
theorem avail_ords {t : Ord} {a b : List Ent} (h : ordsE a = ordsE b) : availM t a = availM t b := by rw [avail_sum, avail_sum, h]

/-! ### the law's own rows -/
def housesL : List Str := ["ash", "bay", "elm", "oak"]
def houseF (c : Int) : Str := housesL.getD (c % 4).toNat ""
theorem houseF_at (c : Int) : atI (housesL.map V.str) (c % 4) = some (.str (houseF c)) := by
  have h0 := Int.emod_nonneg c (by decide : (4 : Int) ≠ 0)
  have h1 := Int.emod_lt_of_pos c (by decide : (0 : Int) < 4)
  obtain ⟨n, hn⟩ := Int.eq_ofNat_of_zero_le h0
  unfold houseF
  rw [hn, Int.toNat_natCast]
  refine at_of (j := n) rfl ?_
  have hl : n < housesL.length := by show n < 4; omega
  rw [List.getElem?_map, List.getD_eq_getElem?_getD, List.getElem?_eq_getElem hl]
  rfl
theorem houseF_ne (c : Int) : ¬ V.str (houseF c) = V.str "" := by
  have h0 := Int.emod_nonneg c (by decide : (4 : Int) ≠ 0)
  have h1 := Int.emod_lt_of_pos c (by decide : (0 : Int) < 4)
  have h2 : ∀ n : Nat, n < 4 → ¬ V.str (housesL.getD n "") = V.str "" := by decide +kernel
  exact h2 _ (by omega)
theorem houseF_sok (c : Int) : PyData.strOk (houseF c) = true := by
  have h0 := Int.emod_nonneg c (by decide : (4 : Int) ≠ 0)
  have h1 := Int.emod_lt_of_pos c (by decide : (0 : Int) < 4)
  have h2 : ∀ n : Nat, n < 4 → PyData.strOk (housesL.getD n "") = true := by decide +kernel
  exact h2 _ (by omega)
def sp_law_house (K : PySem.W.Frag) : Sp := fun vs H Q _ => ∃ c : Int, vs = [.int c] ∧ ∀ H', Same H H' → Q (.str (houseF c)) H'
set_option maxHeartbeats 0 in
theorem ok_law_house (T : Txt K mg) [TB : TabsOk T base] : FnOk P w K mg base CX0 1 T.f_law_house T.d_law_house ["cell"] (sp_law_house K) := by
  refine T.F_law_house.ok sc_law_house (fun vs H Q E h => ?_) (fun cdv A outer s H vs Q E hr h => ?_)
  · obtain ⟨c, rfl, _⟩ := h
    rfl
  · obtain ⟨c, rfl, q⟩ := h
    refine ⟨_, (pss_one (ps_ret (pe_ix ix_list (pe_lst (pa_cons pe_str (pa_cons pe_str (pa_cons pe_str (pa_cons pe_str pa_nil))))) (pe_op op_mod (pe_callTy call_int_i (by rfl) T.z_int (by decide +kernel) (pa_cons (pv 0) pa_nil)) pe_int) (fun _ _ => rfl)))), ?_⟩
    walk_at "st"
    intro p np
    have hp : SqL K (upd H p (.lst [V.str "ash", V.str "bay", V.str "elm", V.str "oak"])) p (housesL.map V.str) := SqL.of upd_same
    have hat := houseF_at c
    walk_at "st"
    exact q _ (same_upd np)

def rowL (o : Ord) : List V := [.int o.number, .str o.house, .str o.side, optV o.price, .int o.left, .int o.visible, .int o.shown]
structure LoAt (H : Hp) (D : Addr) (L : List Ent) : Prop where
  li : H D = some (.lst (refs L))
  row : ∀ e, e ∈ L → H e.1 = some (.lst (rowL e.2.2))
  nd : (L.map (·.1)).Nodup
  out : D ∉ L.map (·.1)
theorem LoAt.same {H H' : Hp} {D : Addr} {L : List Ent} (h : LoAt H D L) (e : Same H H') : LoAt H' D L := ⟨e _ _ h.li, fun x hx => e _ _ (h.row x hx), h.nd, h.out⟩
def sp_law_resting_side (K : PySem.W.Frag) : Sp := fun vs H Q _ => ∃ s : Str, vs = [.str s] ∧ Q (.str (otherS s)) H
set_option maxHeartbeats 0 in
theorem ok_law_resting_side (T : Txt K mg) [TB : TabsOk T base] : FnOk P w K mg base CX0 1 T.f_law_resting_side T.d_law_resting_side ["side"] (sp_law_resting_side K) := by
  refine T.F_law_resting_side.ok sc_law_resting_side (fun vs H Q E h => ?_) (fun cdv A outer s H vs Q E hr h => ?_)
  · obtain ⟨s, rfl, _⟩ := h
    rfl
  · obtain ⟨s, rfl, q⟩ := h
    refine ⟨_, (pss_cons (ps_if (pt_cmpR op_eq (pv 0) pe_str (nomark _))
      (pss_one (ps_ret pe_str))
      pss_nil)
    (pss_one (ps_ret pe_str))), ?_⟩
    unfold otherS at q
    walk_at "st"
    refine iteB (fun h => ?_) (fun h => ?_)
    · rw [if_pos (show buyS s = true from h)] at q
      walk_at "st"
      exact q
    · rw [if_neg (by rw [show buyS s = false from h]; exact Bool.false_ne_true)] at q
      exact q
def sp_law_fits (K : PySem.W.Frag) : Sp := fun vs H Q _ => ∃ (s : Str) (lim : Option Int) (p : Int), vs = [.str s, optV lim, .int p] ∧ Q (.bl (fitsF s lim p)) H
set_option maxHeartbeats 0 in
theorem ok_law_fits (T : Txt K mg) [TB : TabsOk T base] : FnOk P w K mg base CX0 1 T.f_law_fits T.d_law_fits ["side", "limit", "price"] (sp_law_fits K) := by
  refine T.F_law_fits.ok sc_law_fits (fun vs H Q E h => ?_) (fun cdv A outer s H vs Q E hr h => ?_)
  · obtain ⟨s, lim, p, rfl, _⟩ := h
    rfl
  · obtain ⟨s, lim, p, rfl, q⟩ := h
    refine ⟨_, (pss_cons (ps_if (pt_cmpR op_isN (pv 1) pe_non (nomark _))
      (pss_one (ps_ret pe_bl))
      pss_nil)
    (pss_cons (ps_if (pt_cmpR op_eq (pv 0) pe_str (nomark _))
      (pss_one (ps_ret (pe_cmpR op_le (pv 2) (pv 1) (nomark _))))
      pss_nil)
    (pss_one (ps_ret (pe_cmpR op_ge (pv 2) (pv 1) (nomark _)))))), ?_⟩
    cases lim with
    | none =>
      walk_at "st"
      exact q
    | some l =>
      have e : fitsF s (some l) p = if V.str s = V.str "sell" then decide (p ≤ l) else decide (l ≤ p) := rfl
      rw [e] at q
      walk_at "st"
      refine iteB (fun h => ?_) (fun h => ?_)
      · rw [if_pos (dec_t h)] at q
        walk_at "st"
        exact q
      · rw [if_neg (dec_f h)] at q
        walk_at "st"
        exact q
theorem BL_take {s : Str} {L : List Ent} {i : Nat} {e : Ent} (h : L[i]? = some e) : BL s (L.take (i + 1)) = if e.2.2.side = s then addE (BL s (L.take i)) e else BL s (L.take i) := by
  rw [take_succ h]
  split
  · next z => exact BL_snoc z
  · next z => exact BL_other z
theorem best_mem {s : Str} {lim : Option Int} {L : List Ent} {b : Ent} (h : bestF s lim (BL s L) = some b) : b ∈ L ∧ b.2.2.side = s := by
  cases hb : BL s L with
  | nil => rw [hb] at h; cases h
  | cons x t =>
    rw [hb, best_cons] at h
    split at h
    · cases h
      exact BL_mem (by rw [hb]; exact List.mem_cons_self)
    · cases h
def sp_law_first (K : PySem.W.Frag) : Sp := fun vs H Q _ => ∃ (_ : Unit) (D : Addr) (L : List Ent) (s : Str) (lim : Option Int), vs = [.ref D, .str s, optV lim] ∧ LoAt H D L ∧ (s = "buy" ∨ s = "sell") ∧ (∀ e, e ∈ L → GoodE e) ∧ Q (entV (bestF s lim (BL s L))) H
set_option maxHeartbeats 0 in
theorem ok_law_first (T : Txt K mg) [TB : TabsOk T base] : FnOk P w K mg base CX0 2 T.f_law_first T.d_law_first ["orders", "side", "limit"] (sp_law_first K) := by
  refine T.F_law_first.ok sc_law_first (fun vs H Q E h => ?_) (fun cdv A outer s H vs Q E hr h => ?_)
  · obtain ⟨_, D, L, s, lim, rfl, _⟩ := h
    rfl
  · obtain ⟨_, D, L, s, lim, rfl, hL, hs, hg, q⟩ := h
    have G_law_fits : FnOk P w K mg base CX0 1 T.f_law_fits T.d_law_fits ["side", "limit", "price"] (sp_law_fits K) := ok_law_fits T
    refine ⟨_, (pss_cons (ps_set (i := 3) sc_law_first.nd rfl (Or.inl rfl) pe_non)
    (pss_cons (ps_for PassesOwn.never rfl (pi_list (pv 0)) (pg_name (i := 4) sc_law_first.nd rfl (Or.inl rfl))
      (pss_one (ps_if (PW.pt (pw_and (pt_cmpR op_eq (pe_ix ix_list (pv 4) pe_int (fun _ _ => rfl)) (pv 1) (nomark _)) (pw_and1 (pt_val (pe_call G_law_fits hr (by rfl) T.m_law_fits T.F_law_fits.kp T.b_law_fits .nil pass0 (pa_cons (pv 1) (pa_cons (pv 2) (pa_cons (pe_ix ix_list (pv 4) pe_int (fun _ _ => rfl)) pa_nil))))))))
        (pss_one (ps_if (pt_cmpR op_isN (pv 3) pe_non (nomark _))
          (pss_one (ps_set (i := 3) sc_law_first.nd rfl (Or.inl rfl) (pv 4)))
          (pss_one (ps_if (PW.pt (pw_and (pt_cmpR op_eq (pv 1) pe_str (nomark _)) (pw_and1 (pt_cmpR op_lt (pe_ix ix_list (pv 4) pe_int (fun _ _ => rfl)) (pe_ix ix_list (pv 3) pe_int (fun _ _ => rfl)) (nomark _)))))
            (pss_one (ps_set (i := 3) sc_law_first.nd rfl (Or.inl rfl) (pv 4)))
            (pss_one (ps_if (PW.pt (pw_and (pt_cmpR op_eq (pv 1) pe_str (nomark _)) (pw_and1 (pt_cmpR op_gt (pe_ix ix_list (pv 4) pe_int (fun _ _ => rfl)) (pe_ix ix_list (pv 3) pe_int (fun _ _ => rfl)) (nomark _)))))
              (pss_one (ps_set (i := 3) sc_law_first.nd rfl (Or.inl rfl) (pv 4)))
              pss_nil))))))
        pss_nil)))
    (pss_one (ps_ret (pv 3))))), ?_⟩
    have hq := SqL.of (K := K) hL.li
    have hlen : (refs L).length = L.length := List.length_map ..
    walk_at "st"
    refine for_list (K := K) (a := D) (xs := refs L) (fun i σ H' => H' = H ∧ ∃ v4 : Option V, σ = [some (.ref D), some (.str s), some (optV lim), some (entV (bestF s lim (BL s (L.take i)))), v4]) ⟨rfl, none, rfl⟩ (fun i σ H' _ ⟨e, _⟩ => by rw [e]; exact hq) ?_ ?_
    · rintro i v σ H' hv ⟨rfl, v4, rfl⟩
      obtain ⟨e, he, rfl⟩ := ents_at hv
      have hmem := List.mem_of_getElem? he
      have g := hg e hmem
      obtain ⟨p, hp⟩ := g.price
      have hpe : prcE e = p := by unfold prcE; rw [hp]; rfl
      have hrow := SqL.of (K := K) (hL.row e hmem)
      have h2 : atI (rowL e.2.2) 2 = some (.str e.2.2.side) := rfl
      have h3 : atI (rowL e.2.2) 3 = some (.int p) := by
        show some (optV e.2.2.price) = _
        rw [hp]
        rfl
      have hrk : Rank s (BL s (L.take i)) := BL_rank fun y hy => hg y (List.mem_of_mem_take hy)
      have hba := best_add (e := e) (lim := lim) hs hrk
      rw [hpe] at hba
      have hbm : ∀ b, bestF s lim (BL s (L.take i)) = some b → b ∈ L := fun b hb => List.mem_of_mem_take (best_mem hb).1
      have hnx : bestF s lim (BL s (L.take (i + 1))) = if e.2.2.side = s then (if fitsF s lim p = true ∧ (∀ b, bestF s lim (BL s (L.take i)) = some b → betterF s p (prcE b) = true) then some e else bestF s lim (BL s (L.take i))) else bestF s lim (BL s (L.take i)) := by
        rw [BL_take he]
        split
        · exact hba
        · rfl
      rw [hnx]
      clear hba hnx hrk
      generalize bestF s lim (BL s (L.take i)) = ob at hbm
      walk_at "st"
      refine iteB (fun h => ?_) (fun h => ?_)
      · have hside : e.2.2.side = s := V.str.inj (dec_t h)
        rw [if_pos hside]
        walk_at "st"
        refine ⟨lim, p, rfl, ?_⟩
        walk_at "st"
        refine iteB (fun hf => ?_) (fun hf => ?_)
        · cases ob with
          | none =>
            rw [if_pos ⟨hf, fun b hb => by cases hb⟩]
            walk_at "st"
            exact ⟨_, rfl⟩
          | some b =>
            have gb := hg b (hbm b rfl)
            obtain ⟨pb, hpb⟩ := gb.price
            have hpbe : prcE b = pb := by unfold prcE; rw [hpb]; rfl
            have hrowb := SqL.of (K := K) (hL.row b (hbm b rfl))
            have hb3 : atI (rowL b.2.2) 3 = some (.int pb) := by
              show some (optV b.2.2.price) = _
              rw [hpb]
              rfl
            have yes : betterF s p pb = true → (if fitsF s lim p = true ∧ (∀ b', some b = some b' → betterF s p (prcE b') = true) then some e else some b) = some e := fun hb => if_pos ⟨hf, fun b' hb' => by cases hb'; rw [hpbe]; exact hb⟩
            have no : betterF s p pb = false → (if fitsF s lim p = true ∧ (∀ b', some b = some b' → betterF s p (prcE b') = true) then some e else some b) = some b := fun hb => if_neg fun z => by
              have := z.2 b rfl
              rw [hpbe, hb] at this
              cases this
            rcases hs with rfl | rfl
            · have hbt : betterF "buy" p pb = decide (pb < p) := if_neg sell_ne_buy
              walk_at "st"
              refine iteB (fun hx => ?_) (fun hx => ?_)
              · rw [yes (hbt.trans hx)]
                walk_at "st"
                exact ⟨_, rfl⟩
              · rw [no (hbt.trans hx)]
                exact ⟨rfl, _, rfl⟩
            · have hbt : betterF "sell" p pb = decide (p < pb) := if_pos rfl
              walk_at "st"
              refine iteB (fun hx => ?_) (fun hx => ?_)
              · rw [yes (hbt.trans hx)]
                walk_at "st"
                exact ⟨_, rfl⟩
              · rw [no (hbt.trans hx)]
                walk_at "st"
                exact ⟨_, rfl⟩
        · rw [if_neg fun z => by rw [z.1] at hf; cases hf]
          exact ⟨rfl, _, rfl⟩
      · have hside : ¬ e.2.2.side = s := fun z => dec_f h (congrArg V.str z)
        rw [if_neg hside]
        exact ⟨rfl, _, rfl⟩
    · rintro σ H' ⟨rfl, v4, rfl⟩
      rw [hlen, List.take_of_length_le (Nat.le_refl _)]
      walk_at "st"
      exact q
def sp_law_visible (K : PySem.W.Frag) : Sp := fun vs H Q _ => ∃ (l sh : Int), vs = [.int l, .int sh] ∧ Q (.int (if sh = 0 then l else if l < sh then l else sh)) H
set_option maxHeartbeats 0 in
theorem ok_law_visible (T : Txt K mg) [TB : TabsOk T base] : FnOk P w K mg base CX0 1 T.f_law_visible T.d_law_visible ["left", "shown"] (sp_law_visible K) := by
  refine T.F_law_visible.ok sc_law_visible (fun vs H Q E h => ?_) (fun cdv A outer s H vs Q E hr h => ?_)
  · obtain ⟨l, sh, rfl, _⟩ := h
    rfl
  · obtain ⟨l, sh, rfl, q⟩ := h
    refine ⟨_, (pss_cons (ps_if (pt_cmpR op_eq (pv 1) pe_int (nomark _))
      (pss_one (ps_ret (pv 0)))
      pss_nil)
    (pss_one (ps_ret (pe_callB (call_min2 rfl) (by rfl) T.z_min (by decide +kernel) (pa_cons (pv 0) (pa_cons (pv 1) pa_nil)))))), ?_⟩
    walk_at "st"
    refine iteB (fun h => ?_) (fun h => ?_)
    · rw [if_pos (V.int.inj (dec_t h))] at q
      walk_at "st"
      exact q
    · rw [if_neg (fun z => dec_f h (by rw [z]))] at q
      have e : (if l < sh then l else sh) = if sh < l then sh else l := by split <;> split <;> omega
      rw [e] at q
      walk_at "st"
      exact q

/-! ### the law's list of orders in the heap -/
theorem ord_ext {a b : Ord} : (a.number = b.number ∧ a.house = b.house ∧ a.side = b.side ∧ a.price = b.price ∧ a.left = b.left ∧ a.visible = b.visible ∧ a.shown = b.shown) ↔ a = b := by
  cases a
  cases b
  simp only [Ord.mk.injEq]
  constructor
  · rintro ⟨h1, h2, h3, h4, h5, h6, h7⟩
    exact ⟨h1, h2, h3, h4, h7, h5, h6⟩
  · rintro ⟨h1, h2, h3, h4, h7, h5, h6⟩
    exact ⟨h1, h2, h3, h4, h5, h6, h7⟩
instance ordEq : DecidableEq Ord := fun _ _ => decidable_of_iff _ ord_ext
def layO (o : Ord) : PyData := .list [.int o.number, .str o.house, .str o.side, layP o.price, .int o.left, .int o.visible, .int o.shown]
theorem layD_O : LayD layO 1 (fun o => PyData.strOk o.house = true ∧ PyData.strOk o.side = true) := by
  refine ⟨fun x a => ?_, fun x => ?_, fun x y => ?_⟩
  · unfold layO
    simp only [PyData.canLay0, PyData.canLayAll0, layD_P.lay _ trivial, Bool.and_true, Bool.true_and]
    rw [a.1, a.2]
    rfl
  · unfold layO
    simp only [PyData.depth, PyData.depthAll]
    have := layD_P.dep x.price
    omega
  · unfold layO
    simp only [PyData.eqv, PyData.eqvAll, layD_P.eqv, Bool.and_true, Bool.beq_eq_decide_eq]
    rw [decide_and2 (p := x.visible = y.visible) (q := x.shown = y.shown) Iff.rfl, decide_and2 (p := x.left = y.left) Iff.rfl, decide_and2 (p := x.price = y.price) Iff.rfl, decide_and2 (p := x.side = y.side) Iff.rfl, decide_and2 (p := x.house = y.house) Iff.rfl]
    exact decide_and2 ord_ext.symm
theorem rowL_dp {K : PySem.W.Frag} {H : Hp} {p : Addr} {o : Ord} (h : H p = some (.lst (rowL o))) : Dp K H (.ref p) (layO o) :=
  .lst (SqL.of h) (.cons (.int _) (.cons (.str _) (.cons (.str _) (.cons (dpP _) (.cons (.int _) (.cons (.int _) (.cons (.int _) .nil)))))))
theorem LoAt.dp {K : PySem.W.Frag} {H : Hp} : ∀ {L : List Ent}, (∀ e, e ∈ L → H e.1 = some (.lst (rowL e.2.2))) → DpAll K H (refs L) (L.map fun e => layO e.2.2)
  | [], _ => .nil
  | e :: L, h => .cons (rowL_dp (h e List.mem_cons_self)) (LoAt.dp fun x hx => h x (List.mem_cons_of_mem _ hx))
theorem LoAt.set {H : Hp} {D : Addr} {L : List Ent} (h : LoAt H D L) {e : Ent} (he : e ∈ L) (f : Ord → Ord) : LoAt (upd H e.1 (.lst (rowL (f e.2.2)))) D (setE e.1 f L) := by
  have hD : D ≠ e.1 := fun z => h.out (List.mem_map.mpr ⟨e, he, z.symm⟩)
  refine ⟨?_, fun y hy => ?_, by rw [setE_addr]; exact h.nd, by rw [setE_addr]; exact h.out⟩
  · rw [upd_ne hD, setE_refs]
    exact h.li
  · obtain ⟨x, hx, rfl⟩ := setE_mem hy
    by_cases z : x.1 = e.1
    · have := nodup_addr h.nd hx he z
      subst this
      rw [if_pos rfl]
      exact upd_same
    · rw [if_neg z]
      exact (upd_ne z).trans (h.row x hx)
theorem LoAt.cut {H : Hp} {D : Addr} {L : List Ent} (h : LoAt H D L) (a : Addr) : LoAt (upd H D (.lst (refs (dropE a L)))) D (dropE a L) := by
  refine ⟨upd_same, fun e he => (upd_ne fun z => h.out (List.mem_map.mpr ⟨e, (drop_mem he).1, z⟩)).trans (h.row e (drop_mem he).1), (List.filter_sublist.map _).nodup h.nd, fun z => h.out ((List.filter_sublist.map _).subset z)⟩
theorem LoAt.push {H : Hp} {D : Addr} {L : List Ent} (h : LoAt H D L) {e : Ent} (hr : H e.1 = some (.lst (rowL e.2.2))) (hn : e.1 ∉ L.map (·.1)) (hD : D ≠ e.1) : LoAt (upd H D (.lst (refs L ++ [.ref e.1]))) D (L ++ [e]) := by
  refine ⟨?_, fun y hy => ?_, ?_, fun z => ?_⟩
  · rw [upd_same]
    unfold refs
    rw [List.map_append]
    rfl
  · rcases List.mem_append.mp hy with k | k
    · exact (upd_ne fun z => h.out (List.mem_map.mpr ⟨y, k, z⟩)).trans (h.row y k)
    · rw [List.mem_singleton.mp k]
      exact (upd_ne hD.symm).trans hr
  · rw [List.map_append]
    refine List.nodup_append.mpr ⟨h.nd, List.nodup_cons.mpr ⟨List.not_mem_nil, List.nodup_nil⟩, fun u hu v hv q => ?_⟩
    rw [List.mem_singleton.mp hv] at q
    rw [q] at hu
    exact hn hu
  · rw [List.map_append] at z
    rcases List.mem_append.mp z with k | k
    · exact h.out k
    · exact hD (List.mem_singleton.mp k)
theorem drop_set {a : Addr} {f : Ord → Ord} : ∀ L : List Ent, dropE a (setE a f L) = dropE a L
  | [] => rfl
  | y :: L => by
    have ih := drop_set (a := a) (f := f) L
    unfold dropE setE at ih ⊢
    rw [List.map_cons, List.filter_cons, List.filter_cons, ih]
    by_cases z : y.1 = a
    · rw [if_pos z]
      simp [z]
    · rw [if_neg z]
/-- what the removal of a row asks -/
theorem rem_of0 {K : PySem.W.Frag} {H : Hp} {D : Addr} {L : List Ent} {e : Ent} {Q : VK} (h : LoAt H D L) (hG : ∀ y, y ∈ L → PyData.strOk y.2.2.house = true ∧ PyData.strOk y.2.2.side = true) (hn : (L.map fun e => e.2.2.number).Nodup) (he : e ∈ L) (q : Q .non (upd H D (.lst (refs (dropE e.1 L))))) : rRemD K (.ref D) [.ref e.1] H Q := by
  obtain ⟨pre, post, hpp⟩ := List.append_of_mem he
  have hd : dropE e.1 L = pre ++ post := by rw [hpp]; exact drop_mid (by rw [← hpp]; exact h.nd)
  have hsh : SeqAt.shaped (.list (L.map fun y => layO y.2.2)) = true := by
    have := (layD_O.list).shaped (by decide) (x := L.map fun y => y.2.2) (fun o ho => by
      obtain ⟨y, hy, rfl⟩ := List.mem_map.mp ho
      exact hG y hy)
    rw [List.map_map] at this
    exact this
  refine ⟨(), D, refs L, .ref e.1, layO e.2.2, L.map fun y => layO y.2.2, pre.length, layO e.2.2, rfl, rfl, h.li, LoAt.dp h.row, rowL_dp (h.row e he), hsh, layD_O.shaped (by decide) (hG e he), ?_, ?_, fun m z' hm hz => ?_, ?_⟩
  · rw [hpp, List.map_append, List.getElem?_append_right (by rw [List.length_map]; exact Nat.le_refl _), List.length_map, Nat.sub_self]
    rfl
  · rw [layD_O.eqv]
    exact decide_eq_true rfl
  · rw [hpp, List.map_append, List.getElem?_append_left (by rw [List.length_map]; exact hm), List.getElem?_map] at hz
    obtain ⟨y, hy, rfl⟩ := Option.map_eq_some_iff.mp hz
    rw [layD_O.eqv]
    refine decide_eq_false fun z => ?_
    have hyp := List.mem_of_getElem? hy
    rw [hpp, List.map_append] at hn
    exact (List.nodup_append.mp hn).2.2 _ (List.mem_map.mpr ⟨y, hyp, rfl⟩) _ (List.mem_map.mpr ⟨e, List.mem_cons_self, rfl⟩) (by rw [z])
  · have e1 : (refs L).eraseIdx pre.length = refs (dropE e.1 L) := by
      rw [hd, hpp]
      unfold refs
      rw [List.map_append, List.map_cons, List.eraseIdx_append_of_length_le (by rw [List.length_map]; exact Nat.le_refl _), List.length_map, Nat.sub_self, List.map_append]
      rfl
    rw [e1]
    exact q
theorem LawL.strs {L : List Ent} (l : LawL L) : ∀ y, y ∈ L → PyData.strOk y.2.2.house = true ∧ PyData.strOk y.2.2.side = true := fun y hy => by
  refine ⟨(l.good y hy).ok, ?_⟩
  rcases (l.good y hy).side with z | z <;> rw [z] <;> decide +kernel
theorem rem_of {K : PySem.W.Frag} {H : Hp} {D : Addr} {L : List Ent} {e : Ent} {Q : VK} (h : LoAt H D L) (l : LawL L) (he : e ∈ L) (q : Q .non (upd H D (.lst (refs (dropE e.1 L))))) : rRemD K (.ref D) [.ref e.1] H Q := rem_of0 h l.strs l.ndn he q
theorem set_strs {a : Addr} {n : Int} {L : List Ent} (l : LawL L) : ∀ y, y ∈ setE a (decO n) L → PyData.strOk y.2.2.house = true ∧ PyData.strOk y.2.2.side = true := fun y hy => by
  obtain ⟨x, hx, rfl⟩ := setE_mem hy
  split <;> exact l.strs x hx
theorem set_nums {a : Addr} {n : Int} {L : List Ent} : (setE a (decO n) L).map (fun e => e.2.2.number) = L.map fun e => e.2.2.number := by
  unfold setE
  rw [List.map_map]
  refine List.map_congr_left fun y _ => ?_
  show (if y.1 = a then _ else y).2.2.number = y.2.2.number
  split <;> rfl
theorem set_self {e : Ent} {f : Ord → Ord} {L : List Ent} (he : e ∈ L) : (e.1, e.2.1, f e.2.2) ∈ setE e.1 f L := by
  unfold setE
  exact List.mem_map.mpr ⟨e, he, if_pos rfl⟩

theorem LoAt.other {H : Hp} {D z : Addr} {o : HO} {L : List Ent} (h : LoAt H D L) (h1 : D ≠ z) (h2 : ∀ e, e ∈ L → e.1 ≠ z) : LoAt (upd H z o) D L :=
  ⟨(upd_ne h1).trans h.li, fun e he => (upd_ne (h2 e he)).trans (h.row e he), h.nd, h.out⟩
def sp_law_trade (K : PySem.W.Frag) : Sp := fun vs H Q _ => ∃ (_ : Unit) (D : Addr) (L : List Ent) (t : Ord) (last : Option Int), vs = [.ref D, .str t.house, .str t.side, optV t.price, .int t.left] ∧ LoAt H D L ∧ LawL L ∧ (t.side = "buy" ∨ t.side = "sell") ∧ L.length ≤ 400 ∧ 0 ≤ t.left ∧ t.left ≤ 400 ∧
  ∀ (p fl rm : Addr) (fs : List Addr) (L' : List Ent) (H' : Hp), H' p = some (.tup [.ref fl, .ref rm, .int (endM t last (BL (otherS t.side) L)).left]) → Tups encFill H' fl fs (endM t last (BL (otherS t.side) L)).fills → H' rm = some (.lst ((endM t last (BL (otherS t.side) L)).gone.map V.int)) →
    LoAt H' D L' → LawL L' → (endM t last (BL (otherS t.side) L)).es = BL (otherS t.side) L' → (∀ s, s ≠ otherS t.side → BL s L' = BL s L) → L'.length ≤ L.length → (∀ e, e ∈ L' → ∃ x, x ∈ L ∧ x.1 = e.1 ∧ x.2.2.number = e.2.2.number ∧ x.2.2.price = e.2.2.price) → H fl = none → H rm = none →
    (∀ z v, z ≠ D → z ∉ L.map (·.1) → H z = some v → H' z = some v) → (∀ z, H' z = none → H z = none) → Q (.ref p) H'
set_option maxHeartbeats 0 in
theorem ok_law_trade (T : Txt K mg) [TB : TabsOk T base] : FnOk P w K mg base CX0 3 T.f_law_trade T.d_law_trade ["orders", "house", "side", "limit", "quantity"] (sp_law_trade K) := by
  refine T.F_law_trade.ok sc_law_trade (fun vs H Q E h => ?_) (fun cdv A outer s H vs Q E hr h => ?_)
  · obtain ⟨_, D, L, t, last, rfl, _⟩ := h
    rfl
  · obtain ⟨_, D, L, t, last, rfl, hL, hlaw, hts, hlen, h0, h9, q⟩ := h
    have G_law_first : FnOk P w K mg base CX0 2 T.f_law_first T.d_law_first ["orders", "side", "limit"] (sp_law_first K) := ok_law_first T
    have G_law_resting_side : FnOk P w K mg base CX0 1 T.f_law_resting_side T.d_law_resting_side ["side"] (sp_law_resting_side K) := ok_law_resting_side T
    have G_law_visible : FnOk P w K mg base CX0 1 T.f_law_visible T.d_law_visible ["left", "shown"] (sp_law_visible K) := ok_law_visible T
    refine ⟨_, (pss_cons (ps_set (i := 5) sc_law_trade.nd rfl (Or.inl rfl) (pe_lst pa_nil))
    (pss_cons (ps_set (i := 6) sc_law_trade.nd rfl (Or.inl rfl) (pe_lst pa_nil))
    (pss_cons (ps_set (i := 7) sc_law_trade.nd rfl (Or.inl rfl) (pv 4))
    (pss_cons (ps_for PassesOwn.never rfl (pi_range1 (by rfl) T.z_range (pa_cons pe_int pa_nil)) (pg_name (i := 8) sc_law_trade.nd rfl (Or.inl rfl))
      (pss_cons (ps_set (i := 9) sc_law_trade.nd rfl (Or.inl rfl) (pe_call G_law_first hr (by rfl) T.m_law_first T.F_law_first.kp T.b_law_first .nil pass0 (pa_cons (pv 0) (pa_cons (pe_call G_law_resting_side (hr.mono (by decide)) (by rfl) T.m_law_resting_side T.F_law_resting_side.kp T.b_law_resting_side .nil pass0 (pa_cons (pv 2) pa_nil)) (pa_cons (pv 3) pa_nil)))))
      (pss_cons (ps_if (PW.pt (pw_or (pt_cmpR op_eq (pv 7) pe_int (nomark _)) (pw_or1 (pt_cmpR op_isN (pv 9) pe_non (nomark _)))))
        (pss_one (ps_ret (pe_tup (pa_cons (pv 5) (pa_cons (pv 6) (pa_cons (pv 7) pa_nil))))))
        pss_nil)
      (pss_one (ps_if (pt_cmpR op_eq (pe_ix ix_list (pv 9) pe_int (fun _ _ => rfl)) (pv 1) (nomark _))
        (pss_cons (ps_expr (pe_bm PySem.F.plainAttrs_list PySem.F.slot_list_append PySem.F.type_list_append mt_append (pv 6) (pa_cons (pe_ix ix_list (pv 9) pe_int (fun _ _ => rfl)) pa_nil)))
        (pss_one (ps_expr (pe_bm PySem.F.plainAttrs_list PySem.F.slot_list_remove PySem.F.type_list_remove (mt_removeD (hu65 hr)) (pv 0) (pa_cons (pv 9) pa_nil)))))
        (pss_cons (ps_set (i := 10) sc_law_trade.nd rfl (Or.inl rfl) (pe_callB (call_min2 rfl) (by rfl) T.z_min (by decide +kernel) (pa_cons (pv 7) (pa_cons (pe_ix ix_list (pv 9) pe_int (fun _ _ => rfl)) pa_nil))))
        (pss_cons (ps_expr (pe_bm PySem.F.plainAttrs_list PySem.F.slot_list_append PySem.F.type_list_append mt_append (pv 5) (pa_cons (pe_tup (pa_cons (pe_ix ix_list (pv 9) pe_int (fun _ _ => rfl)) (pa_cons (pe_ix ix_list (pv 9) pe_int (fun _ _ => rfl)) (pa_cons (pe_ix ix_list (pv 9) pe_int (fun _ _ => rfl)) (pa_cons (pv 10) pa_nil))))) pa_nil)))
        (pss_cons (ps_set (i := 7) sc_law_trade.nd rfl (Or.inl rfl) (pe_op op_sub (pv 7) (pv 10)))
        (pss_cons (ps_asg (pe_op op_sub (pe_ix ix_list (pv 9) pe_int (fun _ _ => rfl)) (pv 10)) (pg_sub (pv 9) pe_int set_list))
        (pss_cons (ps_asg (pe_op op_sub (pe_ix ix_list (pv 9) pe_int (fun _ _ => rfl)) (pv 10)) (pg_sub (pv 9) pe_int set_list))
        (pss_one (ps_if (pt_cmpR op_eq (pe_ix ix_list (pv 9) pe_int (fun _ _ => rfl)) pe_int (nomark _))
          (pss_cons (ps_expr (pe_bm PySem.F.plainAttrs_list PySem.F.slot_list_remove PySem.F.type_list_remove (mt_removeD (hu65 hr)) (pv 0) (pa_cons (pv 9) pa_nil)))
          (pss_one (ps_if (pt_cmpR op_gt (pe_ix ix_list (pv 9) pe_int (fun _ _ => rfl)) pe_int (nomark _))
            (pss_cons (ps_asg (pe_call G_law_visible (hr.mono (by decide)) (by rfl) T.m_law_visible T.F_law_visible.kp T.b_law_visible .nil pass0 (pa_cons (pe_ix ix_list (pv 9) pe_int (fun _ _ => rfl)) (pa_cons (pe_ix ix_list (pv 9) pe_int (fun _ _ => rfl)) pa_nil))) (pg_sub (pv 9) pe_int set_list))
            (pss_one (ps_expr (pe_bm PySem.F.plainAttrs_list PySem.F.slot_list_append PySem.F.type_list_append mt_append (pv 0) (pa_cons (pv 9) pa_nil)))))
            pss_nil)))
          pss_nil))))))))))))
    (pss_one (ps_ret (pe_tup (pa_cons (pv 5) (pa_cons (pv 6) (pa_cons (pv 7) pa_nil)))))))))), ?_⟩
    generalize hso : otherS t.side = so at q
    have hsob : so = "buy" ∨ so = "sell" := by
      rw [← hso]
      rcases hts with z | z
      · rw [z]; exact .inr (if_pos buyS_buy)
      · rw [z]; exact .inl (if_neg (by rw [buyS_sell]; exact Bool.false_ne_true))
    walk_at "st"
    intro fl nfl
    generalize hH1 : upd H fl _ = H1
    have s1 : Same H H1 := hH1 ▸ same_upd nfl
    have hfl1 := (congrFun hH1 fl).symm.trans upd_same
    walk_at "st"
    intro rm nrm
    generalize hH2 : upd H1 rm _ = H2
    have s2 : Same H1 H2 := hH2 ▸ same_upd nrm
    have hrm2 := (congrFun hH2 rm).symm.trans upd_same
    have hfl2 := s2 _ _ hfl1
    have nrm0 : H rm = none := by
      cases e : H rm with
      | none => rfl
      | some v => rw [s1 _ _ e] at nrm; cases nrm
    have nfr : fl ≠ rm := fun e => by rw [e, nrm] at hfl1; cases hfl1
    have sH := s1.trans s2
    have old : ∀ {z : Addr} {v : HO}, H z = some v → z ≠ fl ∧ z ≠ rm := fun hz => ⟨ne_of_none hz nfl, ne_of_none hz nrm0⟩
    have hfD : D ≠ fl ∧ D ≠ rm := old hL.li
    have hfR : ∀ e, e ∈ L → e.1 ≠ fl ∧ e.1 ≠ rm := fun e he => old (hL.row e he)
    walk_at "st"
    refine for_range (lo := 0) (n := (2000 : Int).toNat) (fun i σ H' => ∃ (v8 v9 v10 : Option V) (m : Mt) (Li : List Ent) (fs : List Addr), σ = [some (.ref D), some (.str t.house), some (.str t.side), some (optV t.price), some (.int t.left), some (.ref fl), some (.ref rm), some (.int m.left), v8, v9, v10] ∧
        runM t (sizeM m) m = endM t last (BL so L) ∧ sizeM m + i ≤ 800 ∧ 0 ≤ m.left ∧ m.es = BL so Li ∧ (∀ s, s ≠ so → BL s Li = BL s L) ∧ LawL Li ∧ Li.length ≤ L.length ∧ (∀ e, e ∈ Li → ∃ x, x ∈ L ∧ x.1 = e.1 ∧ x.2.2.number = e.2.2.number ∧ x.2.2.price = e.2.2.price) ∧
        LoAt H' D Li ∧ Tups encFill H' fl fs m.fills ∧ H' rm = some (.lst (m.gone.map V.int)) ∧ m.fills.length + m.gone.length ≤ i ∧ (∀ z v, z ≠ D → z ∉ L.map (·.1) → H z = some v → H' z = some v) ∧ (∀ z, H' z = none → H z = none)) ?_ ?_ ?_
    · refine ⟨none, none, none, startM t last (BL so L), L, [], rfl, rfl, ?_, h0, rfl, (fun _ _ => rfl), hlaw, Nat.le_refl _, (fun e he => ⟨e, he, rfl, rfl, rfl⟩), hL.same sH, Tups.nil hfl2, hrm2, Nat.le_refl _, (fun z v _ _ hz => sH _ _ hz), fun z hz => by rw [← hH2, ← hH1] at hz; exact none_upd (none_upd hz)⟩
      have h1 := (BL_perm so L).length_eq
      have h2 : (selE so L).length ≤ L.length := List.length_filter_le _ _
      show t.left.toNat + (BL so L).length + 0 ≤ 800
      omega
    · rintro i σ H' hi ⟨v8, v9, v10, m, Li, fs, rfl, hrun, hsz, hl0, hes, hoth, hlaw', hlen', hsub, hLo, hT, hG, hfg, hfr, hmo⟩
      have hrk : Rank so m.es := by rw [hes]; exact BL_rank hlaw'.good
      have hret : goesM t m = none → ∀ {p : Addr}, H' p = none → Q (.ref p) (upd H' p (.tup [.ref fl, .ref rm, .int m.left])) := fun hg {p} np => by
        have hm : endM t last (BL so L) = m := by rw [← hrun, runM_stop hg]
        have sp := same_upd (o := .tup [.ref fl, .ref rm, .int m.left]) np
        refine q p fl rm fs Li _ (by rw [hm]; exact upd_same) (by rw [hm]; exact hT.same sp) (by rw [hm]; exact sp _ _ hG) (hLo.same sp) hlaw' (by rw [hm]; exact hes) hoth hlen' hsub nfl nrm0 (fun z v h1 h2 hz => sp _ _ (hfr z v h1 h2 hz)) (fun z hz => hmo z (none_upd hz))
      walk_at "st"
      rw [hso]
      refine ⟨(), D, Li, so, t.price, rfl, hLo, hsob, hlaw'.good, ?_⟩
      have hbest : bestF so t.price (BL so Li) = (match m.es with | [] => none | e :: _ => if takes t.side t.price (prcE e) = true then some e else none) := by
        rw [← hes]
        cases m.es with
        | nil => rfl
        | cons e r =>
          rw [best_cons, ← hso, fits_takes hts]
      cases hg : goesM t m with
      | none =>
        by_cases hz : m.left = 0
        · walk_at "st"
          refine iteB (fun hx => ?_) (fun hx => ?_)
          · walk_at "st"
            intro p np
            exact hret hg np
          · exact absurd (congrArg V.int hz) (dec_f hx)
        · have hb : bestF so t.price (BL so Li) = none := by
            rw [hbest]
            unfold goesM at hg
            cases hme : m.es with
            | nil => rfl
            | cons e r =>
              rw [hme] at hg
              dsimp only at hg
              show (if takes t.side t.price (prcE e) = true then some e else none) = none
              split at hg
              · cases hg
              · next z => exact if_neg fun k => z ⟨by omega, k⟩
          rw [hb]
          walk_at "st"
          refine iteB (fun hx => ?_) (fun hx => ?_)
          · walk_at "st"
            intro p np
            exact hret hg np
          · walk_at "st"
            intro p np
            exact hret hg np
      | some e =>
        obtain ⟨g1, g2, g3⟩ := goesM_some hg
        have hb : bestF so t.price (BL so Li) = some e := by
          rw [hbest, g1]
          exact if_pos g3
        rw [hb]
        have heLs : e ∈ Li ∧ e.2.2.side = so := BL_mem (by rw [← hes, g1]; exact List.mem_cons_self)
        obtain ⟨heL, heside⟩ := heLs
        have ge := hlaw'.good e heL
        obtain ⟨pe, hpe⟩ := ge.price
        have hprc : prcE e = pe := by unfold prcE; rw [hpe]; rfl
        have hrow := hLo.row e heL
        have hst := stepL_ok hlaw' hes hg
        have hless := stepM_less hrk hg
        have hnx := runM_next hrk hg
        have hqt := qty_in g2 ge.vis.1
        rw [hrun] at hnx
        have hrowS := SqL.of (K := K) hrow
        have a1 : atI (rowL e.2.2) 1 = some (.str e.2.2.house) := rfl
        have a0 : atI (rowL e.2.2) 0 = some (.int e.2.2.number) := rfl
        have hRx : ∀ y, y ∈ Li → y.1 ≠ fl ∧ y.1 ≠ rm := fun y hy => by
          obtain ⟨x, hx, k, _⟩ := hsub y hy
          rw [← k]
          exact hfR x hx
        have hRm : ∀ y, y ∈ Li → y.1 ≠ rm := fun y hy => (hRx y hy).2
        walk_at "st"
        refine iteB (fun hx => absurd (V.int.inj (dec_t hx)) (by omega)) (fun hx => ?_)
        walk_at "st"
        refine iteB (fun hh => ?_) (fun hh => ?_)
        · have hhs : e.2.2.house = t.house := V.str.inj (dec_t hh)
          have hsG : (m.gone.map V.int).length < sizeLine := small1000 (by rw [List.length_map]; omega)
          have hm' : stepM t m e = { m with es := m.es.tail, gone := m.gone ++ [e.2.2.number] } := if_pos hhs
          have hL' : stepL t m e Li = dropE e.1 Li := if_pos hhs
          rw [hL'] at hst
          rw [hm'] at hst hless hnx
          have hLG := hLo.other (z := rm) (o := .lst (m.gone.map V.int ++ [V.int e.2.2.number])) hfD.2 hRm
          have hLGi := hLG.li
          walk_at "st"
          delta tNil
          refine rem_of hLG hlaw' heL ?_
          have hTG : Tups encFill (upd H' rm (.lst (m.gone.map V.int ++ [V.int e.2.2.number]))) fl fs m.fills := hT.other hG nfr
          refine ⟨_, _, _, { m with es := m.es.tail, gone := m.gone ++ [e.2.2.number] }, dropE e.1 Li, fs, rfl, hnx.symm, ?_, hl0, hst.1, fun s hs => (hst.2.1 s hs).trans (hoth s hs), hst.2.2.1, Nat.le_trans hst.2.2.2 hlen', fun y hy => hsub y (drop_mem hy).1, hLG.cut e.1, hTG.other hLG.li hfD.1.symm, ?_, ?_, fun z v h1 h2 hz => ?_, fun z hz => hmo z (none_upd (none_upd hz))⟩
          · have := hless.1
            omega
          · rw [upd_ne hfD.2.symm, upd_same, List.map_append]
            rfl
          · show m.fills.length + (m.gone ++ [_]).length ≤ _
            rw [List.length_append, List.length_singleton]
            omega
          · rw [upd_ne h1, upd_ne (fun y => by rw [y, nrm0] at hz; cases hz)]
            exact hfr z v h1 h2 hz
        · have hhs : ¬ e.2.2.house = t.house := fun z => dec_f hh (congrArg V.str z)
          have hsF : (fs.map V.ref).length < sizeLine := small1000 (by rw [List.length_map, hT.len]; omega)
          have hm' : stepM t m e = ⟨tradeF e m.es.tail (qtyM m e) (prcE e), m.left - qtyM m e, some (prcE e), m.fills ++ [(e.2.2.number, e.2.2.house, prcE e, qtyM m e)], m.gone⟩ := if_neg hhs
          have hL' : stepL t m e Li = if e.2.2.visible - qtyM m e = 0 then dropE e.1 Li ++ (if 0 < e.2.2.left - qtyM m e then [(e.1, e.2.1, (decO (qtyM m e) e.2.2).showNext)] else []) else setE e.1 (decO (qtyM m e)) Li := if_neg hhs
          rw [hL'] at hst
          rw [hm', hprc] at hst hless hnx
          have a3 : atI (rowL e.2.2) 3 = some (.int pe) := by
            show some (optV e.2.2.price) = _
            rw [hpe]
            rfl
          have a4 : atI (rowL e.2.2) 4 = some (.int e.2.2.left) := rfl
          have a5 : atI (rowL e.2.2) 5 = some (.int e.2.2.visible) := rfl
          have hTl := hT.lst
          have hqq : (if e.2.2.visible < m.left then e.2.2.visible else m.left) = qtyM m e := rfl
          generalize qtyM m e = qt at hqq hqt hst hless hnx
          walk_at "st"
          rw [hqq]
          intro p np
          generalize hHT : upd H' p _ = HT
          have sT : Same H' HT := hHT ▸ same_upd np
          have hpT := (congrFun hHT p).symm.trans upd_same
          have hTlT := sT _ _ hTl
          have hTT := hT.push sT np (x := (e.2.2.number, e.2.2.house, pe, qt)) hpT
          have hLoT := hLo.same sT
          have hrA : upd HT fl (.lst (fs.map V.ref ++ [V.ref p])) e.1 = some (.lst (rowL e.2.2)) := (upd_ne (hRx e heL).1).trans (sT _ _ hrow)
          have hrAS := SqL.of (K := K) hrA
          have x4 : ixN (rowL e.2.2).length 4 = some 4 := rfl
          have hrow1 : upd (upd HT fl (.lst (fs.map V.ref ++ [V.ref p]))) e.1 (.lst ((rowL e.2.2).set 4 (.int (e.2.2.left - qt)))) e.1 = some (.lst (rowL { e.2.2 with left := e.2.2.left - qt })) := upd_same
          have hrow1S := SqL.of (K := K) hrow1
          have y5 : atI (rowL { e.2.2 with left := e.2.2.left - qt }) 5 = some (.int e.2.2.visible) := rfl
          have x5 : ixN (rowL { e.2.2 with left := e.2.2.left - qt }).length 5 = some 5 := rfl
          walk_at "st"
          have hrow2 : upd (upd (upd HT fl (.lst (fs.map V.ref ++ [V.ref p]))) e.1 (.lst ((rowL e.2.2).set 4 (.int (e.2.2.left - qt))))) e.1 (.lst ((rowL { e.2.2 with left := e.2.2.left - qt }).set 5 (.int (e.2.2.visible - qt)))) e.1 = some (.lst (rowL (decO qt e.2.2))) := upd_same
          have hLo2 : LoAt (upd (upd (upd HT fl (.lst (fs.map V.ref ++ [V.ref p]))) e.1 (.lst ((rowL e.2.2).set 4 (.int (e.2.2.left - qt))))) e.1 (.lst ((rowL { e.2.2 with left := e.2.2.left - qt }).set 5 (.int (e.2.2.visible - qt))))) D (setE e.1 (decO qt) Li) := by
            have := (hLoT.other (o := .lst (fs.map V.ref ++ [V.ref p])) hfD.1 (fun y hy => (hRx y hy).1)).set heL (decO qt)
            rw [upd_upd]
            exact this
          have hT2 : Tups encFill (upd (upd (upd HT fl (.lst (fs.map V.ref ++ [V.ref p]))) e.1 (.lst ((rowL e.2.2).set 4 (.int (e.2.2.left - qt))))) e.1 (.lst ((rowL { e.2.2 with left := e.2.2.left - qt }).set 5 (.int (e.2.2.visible - qt))))) fl (fs ++ [p]) (m.fills ++ [(e.2.2.number, e.2.2.house, pe, qt)]) :=
            (hTT.other hrA (hRx e heL).1.symm).other upd_same (hRx e heL).1.symm
          have hG2 : upd (upd (upd HT fl (.lst (fs.map V.ref ++ [V.ref p]))) e.1 (.lst ((rowL e.2.2).set 4 (.int (e.2.2.left - qt))))) e.1 (.lst ((rowL { e.2.2 with left := e.2.2.left - qt }).set 5 (.int (e.2.2.visible - qt)))) rm = some (.lst (m.gone.map V.int)) :=
            (upd_ne (hRm e heL).symm).trans ((upd_ne (hRm e heL).symm).trans ((upd_ne nfr.symm).trans (sT _ _ hG)))
          have hfr2 : ∀ z v, z ≠ D → z ∉ L.map (·.1) → H z = some v → upd (upd (upd HT fl (.lst (fs.map V.ref ++ [V.ref p]))) e.1 (.lst ((rowL e.2.2).set 4 (.int (e.2.2.left - qt))))) e.1 (.lst ((rowL { e.2.2 with left := e.2.2.left - qt }).set 5 (.int (e.2.2.visible - qt)))) z = some v := fun z v h1 h2 hz => by
            have hze : z ≠ e.1 := fun k => by
              obtain ⟨x, hx, k2, _⟩ := hsub e heL
              exact h2 (List.mem_map.mpr ⟨x, hx, k2.trans k.symm⟩)
            rw [upd_ne hze, upd_ne hze, upd_ne (fun k => by rw [k, nfl] at hz; cases hz)]
            exact sT _ _ (hfr z v h1 h2 hz)
          have hmo2 : ∀ z, upd (upd (upd HT fl (.lst (fs.map V.ref ++ [V.ref p]))) e.1 (.lst ((rowL e.2.2).set 4 (.int (e.2.2.left - qt))))) e.1 (.lst ((rowL { e.2.2 with left := e.2.2.left - qt }).set 5 (.int (e.2.2.visible - qt)))) z = none → H z = none := fun z hz => by
            have h1 := none_upd (none_upd (none_upd hz))
            rw [← hHT] at h1
            exact hmo z (none_upd h1)
          generalize upd (upd (upd HT fl (.lst (fs.map V.ref ++ [V.ref p]))) e.1 (.lst ((rowL e.2.2).set 4 (.int (e.2.2.left - qt))))) e.1 (.lst ((rowL { e.2.2 with left := e.2.2.left - qt }).set 5 (.int (e.2.2.visible - qt)))) = HB at hrow2 hLo2 hT2 hG2 hfr2 hmo2 ⊢
          have hLo2i := hLo2.li
          have hrow2S := SqL.of (K := K) hrow2
          have z4 : atI (rowL (decO qt e.2.2)) 4 = some (.int (e.2.2.left - qt)) := rfl
          have z6 : atI (rowL (decO qt e.2.2)) 6 = some (.int e.2.2.shown) := rfl
          have z5 : ixN (rowL (decO qt e.2.2)).length 5 = some 5 := rfl
          refine iteB (fun hv => ?_) (fun hv => ?_)
          · have hvz : e.2.2.visible - qt = 0 := V.int.inj (dec_t hv)
            rw [if_pos hvz] at hst
            walk_at "st"
            delta tNil
            refine rem_of0 (e := (e.1, e.2.1, decO qt e.2.2)) hLo2 (set_strs hlaw') (by rw [set_nums]; exact hlaw'.ndn) (set_self heL) ?_
            have hLo3 := hLo2.cut e.1
            rw [drop_set] at hLo3
            rw [drop_set]
            have hrow3 : upd HB D (.lst (refs (dropE e.1 Li))) e.1 = some (.lst (rowL (decO qt e.2.2))) := (upd_ne fun z => hLo.out (List.mem_map.mpr ⟨e, heL, z⟩)).trans hrow2
            have hT3 := hT2.other (zs := refs (dropE e.1 Li)) hLo2i hfD.1.symm
            have hG3 : upd HB D (.lst (refs (dropE e.1 Li))) rm = some (.lst (m.gone.map V.int)) := (upd_ne hfD.2.symm).trans hG2
            have hfr3 : ∀ z v, z ≠ D → z ∉ L.map (·.1) → H z = some v → upd HB D (.lst (refs (dropE e.1 Li))) z = some v := fun z v h1 h2 hz => (upd_ne h1).trans (hfr2 z v h1 h2 hz)
            have hmo3 : ∀ z, upd HB D (.lst (refs (dropE e.1 Li))) z = none → H z = none := fun z hz => hmo2 z (none_upd hz)
            generalize upd HB D (.lst (refs (dropE e.1 Li))) = HC at hLo3 hrow3 hT3 hG3 hfr3 hmo3 ⊢
            have hrow3S := SqL.of (K := K) hrow3
            have hLo3i := hLo3.li
            walk_at "st"
            refine iteB (fun hl => ?_) (fun hl => ?_)
            · have hlp : 0 < e.2.2.left - qt := of_decide_eq_true hl
              rw [if_pos hlp] at hst
              have hne3 : ∀ y, y ∈ dropE e.1 Li → y.1 ≠ e.1 := fun y hy => (drop_mem hy).2
              have hDe : D ≠ e.1 := fun z => hLo.out (List.mem_map.mpr ⟨e, heL, z.symm⟩)
              have hrow4 : upd HC e.1 (.lst ((rowL (decO qt e.2.2)).set 5 (.int (if e.2.2.shown = 0 then e.2.2.left - qt else if e.2.2.left - qt < e.2.2.shown then e.2.2.left - qt else e.2.2.shown)))) e.1 = some (.lst (rowL (decO qt e.2.2).showNext)) := upd_same
              have hLo4 := hLo3.other (o := .lst ((rowL (decO qt e.2.2)).set 5 (.int (if e.2.2.shown = 0 then e.2.2.left - qt else if e.2.2.left - qt < e.2.2.shown then e.2.2.left - qt else e.2.2.shown)))) hDe hne3
              have hLo4i := hLo4.li
              have hlen3 : (refs (dropE e.1 Li)).length < sizeLine := small1000 (by
                have := drop_less heL
                show (List.map _ _).length ≤ _
                rw [List.length_map]
                omega)
              walk_at "st"
              have hLo5 := hLo4.push (e := (e.1, e.2.1, (decO qt e.2.2).showNext)) hrow4 (drop_out (e := e)) hDe
              have hT4 := hT3.other (zs := (rowL (decO qt e.2.2)).set 5 (.int (if e.2.2.shown = 0 then e.2.2.left - qt else if e.2.2.left - qt < e.2.2.shown then e.2.2.left - qt else e.2.2.shown))) hrow3 (hRx e heL).1.symm
              refine ⟨_, _, _, ⟨tradeF e m.es.tail qt pe, m.left - qt, some pe, m.fills ++ [(e.2.2.number, e.2.2.house, pe, qt)], m.gone⟩, dropE e.1 Li ++ [(e.1, e.2.1, (decO qt e.2.2).showNext)], fs ++ [p], rfl, hnx.symm, ?_, hless.2.1, hst.1, fun s hs => (hst.2.1 s hs).trans (hoth s hs), hst.2.2.1, Nat.le_trans hst.2.2.2 hlen', fun y hy => ?_, hLo5, hT4.other hLo4i hfD.1.symm, (upd_ne hfD.2.symm).trans ((upd_ne (hRm e heL).symm).trans hG3), ?_, fun z v h1 h2 hz => ?_, fun z hz => hmo3 z (none_upd (none_upd hz))⟩
              · have := hless.1
                omega
              · rcases List.mem_append.mp hy with k | k
                · exact hsub y (drop_mem k).1
                · rw [List.mem_singleton.mp k]
                  exact hsub e heL
              · show (m.fills ++ [_]).length + m.gone.length ≤ _
                rw [List.length_append, List.length_singleton]
                omega
              · rw [upd_ne h1, upd_ne fun k => by
                  obtain ⟨x, hx, k2, _⟩ := hsub e heL
                  exact h2 (List.mem_map.mpr ⟨x, hx, k2.trans k.symm⟩)]
                exact hfr3 z v h1 h2 hz
            · have hlp : ¬ 0 < e.2.2.left - qt := of_decide_eq_false hl
              rw [if_neg hlp, List.append_nil] at hst
              refine ⟨_, _, _, ⟨tradeF e m.es.tail qt pe, m.left - qt, some pe, m.fills ++ [(e.2.2.number, e.2.2.house, pe, qt)], m.gone⟩, dropE e.1 Li, fs ++ [p], rfl, hnx.symm, ?_, hless.2.1, hst.1, fun s hs => (hst.2.1 s hs).trans (hoth s hs), hst.2.2.1, Nat.le_trans hst.2.2.2 hlen', fun y hy => hsub y (drop_mem hy).1, hLo3, hT3, hG3, ?_, hfr3, hmo3⟩
              · have := hless.1
                omega
              · show (m.fills ++ [_]).length + m.gone.length ≤ _
                rw [List.length_append, List.length_singleton]
                omega
          · have hvz : ¬ e.2.2.visible - qt = 0 := fun z => dec_f hv (congrArg V.int z)
            rw [if_neg hvz] at hst
            refine ⟨_, _, _, ⟨tradeF e m.es.tail qt pe, m.left - qt, some pe, m.fills ++ [(e.2.2.number, e.2.2.house, pe, qt)], m.gone⟩, setE e.1 (decO qt) Li, fs ++ [p], rfl, hnx.symm, ?_, hless.2.1, hst.1, fun s hs => (hst.2.1 s hs).trans (hoth s hs), hst.2.2.1, Nat.le_trans hst.2.2.2 hlen', fun y hy => ?_, hLo2, hT2, hG2, ?_, hfr2, hmo2⟩
            · have := hless.1
              omega
            · obtain ⟨x, hx, rfl⟩ := setE_mem hy
              obtain ⟨x', hx', k1, k2, k3⟩ := hsub x hx
              refine ⟨x', hx', ?_, ?_, ?_⟩ <;> (split <;> assumption)
            · show (m.fills ++ [_]).length + m.gone.length ≤ _
              rw [List.length_append, List.length_singleton]
              omega
    · rintro σ H' ⟨v8, v9, v10, m, Li, fs, rfl, hrun, hsz, _⟩
      omega

theorem avM_cons (t : Ord) (e : Ent) (es : List Ent) : availM t (e :: es) = (if canT t e = true then e.2.2.left else 0) + availM t es := by
  unfold availM
  rw [List.filter_cons]
  split
  · rw [List.map_cons, List.sum_cons]
  · rw [Int.zero_add]
theorem avM_perm {t : Ord} {a b : List Ent} (h : a.Perm b) : availM t a = availM t b := by
  induction h with
  | nil => rfl
  | cons x _ ih => rw [avM_cons, avM_cons, ih]
  | swap x y l => rw [avM_cons, avM_cons, avM_cons, avM_cons]; omega
  | trans _ _ h1 h2 => rw [h1, h2]
theorem avM_snoc (t : Ord) (e : Ent) (es : List Ent) : availM t (es ++ [e]) = availM t es + (if canT t e = true then e.2.2.left else 0) := by
  rw [avM_perm (List.perm_append_comm (l₁ := es) (l₂ := [e]))]
  show availM t (e :: es) = _
  rw [avM_cons]
  omega
theorem sel_take {s : Str} {L : List Ent} {i : Nat} {e : Ent} (h : L[i]? = some e) : selE s (L.take (i + 1)) = selE s (L.take i) ++ if e.2.2.side = s then [e] else [] := by
  rw [take_succ h]
  unfold selE
  rw [List.filter_append, List.filter_cons, List.filter_nil]
  by_cases z : e.2.2.side = s
  · rw [if_pos (decide_eq_true z), if_pos z]
  · rw [if_neg (by simpa using z), if_neg z]
def sp_law_available (K : PySem.W.Frag) : Sp := fun vs H Q _ => ∃ (_ : Unit) (D : Addr) (L : List Ent) (t : Ord), vs = [.ref D, .str t.house, .str t.side, optV t.price] ∧ LoAt H D L ∧ (t.side = "buy" ∨ t.side = "sell") ∧ (∀ e, e ∈ L → GoodE e) ∧ Q (.int (availM t (BL (otherS t.side) L))) H
set_option maxHeartbeats 0 in
theorem ok_law_available (T : Txt K mg) [TB : TabsOk T base] : FnOk P w K mg base CX0 2 T.f_law_available T.d_law_available ["orders", "house", "side", "limit"] (sp_law_available K) := by
  refine T.F_law_available.ok sc_law_available (fun vs H Q E h => ?_) (fun cdv A outer s H vs Q E hr h => ?_)
  · obtain ⟨_, D, L, t, rfl, _⟩ := h
    rfl
  · obtain ⟨_, D, L, t, rfl, hL, hts, hg, q⟩ := h
    have G_law_fits : FnOk P w K mg base CX0 1 T.f_law_fits T.d_law_fits ["side", "limit", "price"] (sp_law_fits K) := ok_law_fits T
    have G_law_resting_side : FnOk P w K mg base CX0 1 T.f_law_resting_side T.d_law_resting_side ["side"] (sp_law_resting_side K) := ok_law_resting_side T
    refine ⟨_, (pss_cons (ps_set (i := 4) sc_law_available.nd rfl (Or.inl rfl) pe_int)
    (pss_cons (ps_for PassesOwn.never rfl (pi_list (pv 0)) (pg_name (i := 5) sc_law_available.nd rfl (Or.inl rfl))
      (pss_one (ps_if (PW.pt (pw_and (pt_cmpR op_eq (pe_ix ix_list (pv 5) pe_int (fun _ _ => rfl)) (pe_call G_law_resting_side hr (by rfl) T.m_law_resting_side T.F_law_resting_side.kp T.b_law_resting_side .nil pass0 (pa_cons (pv 2) pa_nil)) (nomark _)) (pw_and (pt_cmpR op_ne (pe_ix ix_list (pv 5) pe_int (fun _ _ => rfl)) (pv 1) (nomark _)) (pw_and1 (pt_val (pe_call G_law_fits hr (by rfl) T.m_law_fits T.F_law_fits.kp T.b_law_fits .nil pass0 (pa_cons (pe_ix ix_list (pv 5) pe_int (fun _ _ => rfl)) (pa_cons (pv 3) (pa_cons (pe_ix ix_list (pv 5) pe_int (fun _ _ => rfl)) pa_nil)))))))))
        (pss_one (ps_set (i := 4) sc_law_available.nd rfl (Or.inl rfl) (pe_op op_add (pv 4) (pe_ix ix_list (pv 5) pe_int (fun _ _ => rfl)))))
        pss_nil)))
    (pss_one (ps_ret (pv 4))))), ?_⟩
    have hq := SqL.of (K := K) hL.li
    have hlen : (refs L).length = L.length := List.length_map ..
    have hLi := hL.li
    walk_at "st"
    refine for_list (K := K) (a := D) (xs := refs L) (fun i σ H' => H' = H ∧ ∃ v5 : Option V, σ = [some (.ref D), some (.str t.house), some (.str t.side), some (optV t.price), some (.int (availM t (selE (otherS t.side) (L.take i)))), v5]) ⟨rfl, none, rfl⟩ (fun i σ H' _ ⟨e, _⟩ => by rw [e]; exact hq) ?_ ?_
    · rintro i v σ H' hv ⟨rfl, v5, rfl⟩
      obtain ⟨e, he, rfl⟩ := ents_at hv
      have hmem := List.mem_of_getElem? he
      have g := hg e hmem
      obtain ⟨p, hp⟩ := g.price
      have hpe : prcE e = p := by unfold prcE; rw [hp]; rfl
      have hrow := SqL.of (K := K) (hL.row e hmem)
      have h1 : atI (rowL e.2.2) 1 = some (.str e.2.2.house) := rfl
      have h2 : atI (rowL e.2.2) 2 = some (.str e.2.2.side) := rfl
      have h3 : atI (rowL e.2.2) 3 = some (.int p) := by
        show some (optV e.2.2.price) = _
        rw [hp]
        rfl
      have h4 : atI (rowL e.2.2) 4 = some (.int e.2.2.left) := rfl
      have hav : availM t (selE (otherS t.side) (L.take (i + 1))) = availM t (selE (otherS t.side) (L.take i)) + if e.2.2.side = otherS t.side ∧ canT t e = true then e.2.2.left else 0 := by
        rw [sel_take he]
        by_cases z : e.2.2.side = otherS t.side
        · rw [if_pos z, avM_snoc]
          by_cases c : canT t e = true
          · rw [if_pos c, if_pos ⟨z, c⟩]
          · rw [if_neg c, if_neg fun k => c k.2]
        · rw [if_neg z, List.append_nil, if_neg (fun k => z k.1), Int.add_zero]
      have hcan : canT t e = (decide (e.2.2.house ≠ t.house) && takes t.side t.price p) := by
        unfold canT
        rw [hp]
      have hft : fitsF (otherS t.side) t.price p = takes t.side t.price p := fits_takes hts _ _
      have no : ¬ (e.2.2.side = otherS t.side ∧ canT t e = true) → availM t (selE (otherS t.side) (L.take (i + 1))) = availM t (selE (otherS t.side) (L.take i)) := fun z => by rw [hav, if_neg z, Int.add_zero]
      walk_at "st"
      refine iteB (fun hs => ?_) (fun hs => ?_)
      · have hside : e.2.2.side = otherS t.side := V.str.inj (dec_t hs)
        walk_at "st"
        refine iteDN (fun hne => ?_) (fun heq => ?_)
        · have hh : decide (e.2.2.house ≠ t.house) = true := decide_eq_true fun z => hne (by rw [z])
          walk_at "st"
          refine ⟨t.price, p, rfl, ?_⟩
          rw [hside, hft]
          rw [hh, Bool.true_and] at hcan
          walk_at "st"
          refine iteB (fun hx => ?_) (fun hx => ?_)
          · rw [hav, if_pos ⟨hside, by rw [hcan, hx]⟩]
            walk_at "st"
            exact ⟨_, rfl⟩
          · rw [no fun z => by rw [hcan, hx] at z; cases z.2]
            walk_at "st"
            exact ⟨_, rfl⟩
        · have hh : e.2.2.house = t.house := V.str.inj heq
          rw [no fun z => by rw [hcan, decide_eq_false (fun k => k hh)] at z; cases z.2]
          walk_at "st"
          exact ⟨_, rfl⟩
      · have hside : ¬ e.2.2.side = otherS t.side := fun z => dec_f hs (congrArg V.str z)
        rw [no fun z => hside z.1]
        walk_at "st"
        exact ⟨_, rfl⟩
    · rintro σ H' ⟨rfl, v5, rfl⟩
      rw [hlen, List.take_of_length_le (Nat.le_refl _), ← avM_perm (BL_perm _ _)]
      walk_at "st"
      exact q

def sp_law_enter (K : PySem.W.Frag) : Sp := fun vs H Q _ => ∃ (_ : Unit) (D : Addr) (L : List Ent) (t : Ord) (kd : Str) (last : Option Int), vs = [.ref D, .int t.number, .str t.house, .str t.side, optV t.price, .int t.left, .str kd, .int t.shown] ∧ LoAt H D L ∧ LawL L ∧ (t.side = "buy" ∨ t.side = "sell") ∧ L.length ≤ 399 ∧ 1 ≤ t.left ∧ t.left ≤ 400 ∧ 0 ≤ t.shown ∧ (V.str kd = V.str "rest" → ∃ p, t.price = some p) ∧ PyData.strOk t.house = true ∧ (t.number ∉ L.map fun e => e.2.2.number) ∧
  ∀ (R : SubR) (p fl rm : Addr) (fs : List Addr) (o : Addr) (L' : List Ent) (H' : Hp), R = subF kd t o 0 last (BL (otherS t.side) L) (BL t.side L) → H' p = some (.tup [.ref fl, .ref rm, .int R.rest]) → Tups encFill H' fl fs R.fills → H' rm = some (.lst (R.gone.map V.int)) →
    LoAt H' D L' → LawL L' → R.oth = BL (otherS t.side) L' → R.own = BL t.side L' → L'.length ≤ L.length + 1 → (∀ e, e ∈ L' → (∃ x, x ∈ L ∧ x.1 = e.1 ∧ x.2.2.number = e.2.2.number ∧ x.2.2.price = e.2.2.price) ∨ (e.2.2.number = t.number ∧ H e.1 = none ∧ e.2.2.price = t.price)) → H fl = none → H rm = none → H p = none →
    (∀ z v, z ≠ D → z ∉ L.map (·.1) → H z = some v → H' z = some v) → Q (.ref p) H'
theorem oth_ne {s : Str} (h : s = "buy" ∨ s = "sell") : s ≠ otherS s := by
  unfold otherS
  rcases h with z | z
  · rw [z, if_pos buyS_buy]
    exact fun k => absurd (congrArg buyS k) (by rw [buyS_buy, buyS_sell]; exact Bool.noConfusion)
  · rw [z, if_neg (by rw [buyS_sell]; exact Bool.false_ne_true)]
    exact fun k => absurd (congrArg buyS k) (by rw [buyS_buy, buyS_sell]; exact Bool.noConfusion)
set_option maxHeartbeats 0 in
theorem ok_law_enter (T : Txt K mg) [TB : TabsOk T base] : FnOk P w K mg base CX0 4 T.f_law_enter T.d_law_enter ["orders", "number", "house", "side", "limit", "quantity", "kind", "shown"] (sp_law_enter K) := by
  refine T.F_law_enter.ok sc_law_enter (fun vs H Q E h => ?_) (fun cdv A outer s H vs Q E hr h => ?_)
  · obtain ⟨_, D, L, t, kd, last, rfl, _⟩ := h
    rfl
  · obtain ⟨_, D, L, t, kd, last, rfl, hL, hlaw, hts, hlen, h1, h4, hsh, hpr, hok, hnum, q⟩ := h
    have G_law_trade : FnOk P w K mg base CX0 3 T.f_law_trade T.d_law_trade ["orders", "house", "side", "limit", "quantity"] (sp_law_trade K) := ok_law_trade T
    have G_law_available : FnOk P w K mg base CX0 2 T.f_law_available T.d_law_available ["orders", "house", "side", "limit"] (sp_law_available K) := ok_law_available T
    have G_law_visible : FnOk P w K mg base CX0 1 T.f_law_visible T.d_law_visible ["left", "shown"] (sp_law_visible K) := ok_law_visible T
    refine ⟨_, (pss_cons (ps_if (PW.pt (pw_and (pt_cmpR op_eq (pv 6) pe_str (nomark _)) (pw_and1 (pt_cmpR op_lt (pe_call G_law_available (hr.mono (by decide)) (by rfl) T.m_law_available T.F_law_available.kp T.b_law_available .nil pass0 (pa_cons (pv 0) (pa_cons (pv 2) (pa_cons (pv 3) (pa_cons (pv 4) pa_nil))))) (pv 5) (nomark _)))))
      (pss_one (ps_ret (pe_tup (pa_cons (pe_lst pa_nil) (pa_cons (pe_lst pa_nil) (pa_cons pe_int pa_nil))))))
      pss_nil)
    (pss_cons (ps_asg (pe_call G_law_trade hr (by rfl) T.m_law_trade T.F_law_trade.kp T.b_law_trade .nil pass0 (pa_cons (pv 0) (pa_cons (pv 2) (pa_cons (pv 3) (pa_cons (pv 4) (pa_cons (pv 5) pa_nil)))))) (pg_tup rfl (pgs_cons (pg_name (i := 8) sc_law_enter.nd rfl (Or.inl rfl)) (pgs_cons (pg_name (i := 9) sc_law_enter.nd rfl (Or.inl rfl)) (pgs_cons (pg_name (i := 10) sc_law_enter.nd rfl (Or.inl rfl)) pgs_nil)))))
    (pss_cons (ps_if (PW.pt (pw_and (pt_cmpR op_eq (pv 6) pe_str (nomark _)) (pw_and1 (pt_cmpR op_gt (pv 10) pe_int (nomark _)))))
      (pss_cons (ps_expr (pe_bm PySem.F.plainAttrs_list PySem.F.slot_list_append PySem.F.type_list_append mt_append (pv 0) (pa_cons (pe_lst (pa_cons (pv 1) (pa_cons (pv 2) (pa_cons (pv 3) (pa_cons (pv 4) (pa_cons (pv 10) (pa_cons (pe_call G_law_visible (hr.mono (by decide)) (by rfl) T.m_law_visible T.F_law_visible.kp T.b_law_visible .nil pass0 (pa_cons (pv 10) (pa_cons (pv 7) pa_nil))) (pa_cons (pv 7) pa_nil)))))))) pa_nil)))
      (pss_one (ps_ret (pe_tup (pa_cons (pv 8) (pa_cons (pv 9) (pa_cons (pv 10) pa_nil)))))))
      pss_nil)
    (pss_one (ps_ret (pe_tup (pa_cons (pv 8) (pa_cons (pv 9) (pa_cons pe_int pa_nil))))))))), ?_⟩
    have hLi := hL.li
    have hone := oth_ne hts
    have heldI : heldM kd t (BL (otherS t.side) L) = (decide (V.str kd = V.str "all") && decide (availM t (BL (otherS t.side) L) < t.left)) := rfl
    have go : ¬ heldM kd t (BL (otherS t.side) L) = true → True := fun _ => trivial
    walk_at "st"
    refine iteB (fun hk => ?_) (fun hk => ?_)
    · walk_at "st"
      refine ⟨(), D, L, t, rfl, hL, hts, hlaw.good, ?_⟩
      walk_at "st"
      refine iteB (fun hx => ?_) (fun hx => ?_)
      · have hheld : heldM kd t (BL (otherS t.side) L) = true := by rw [heldI, hk, hx]; rfl
        walk_at "st"
        intro fl nfl
        walk_at "st"
        intro rm nrm
        walk_at "st"
        intro p np
        have s1 : Same H (upd H fl (.lst [])) := same_upd nfl
        have s2 := same_upd (o := .lst []) nrm
        have s3 := same_upd (o := .tup [.ref fl, .ref rm, .int 0]) np
        have sA := (s1.trans s2).trans s3
        have nrm0 : H rm = none := by
          cases e : H rm with
          | none => rfl
          | some v => rw [s1 _ _ e] at nrm; cases nrm
        have np0 : H p = none := by
          cases e : H p with
          | none => rfl
          | some v => rw [(s1.trans s2) _ _ e] at np; cases np
        exact q _ p fl rm [] 0 L _ rfl (by unfold subF; rw [if_pos hheld]; exact upd_same) (by unfold subF; rw [if_pos hheld]; exact Tups.nil (s3 _ _ (s2 _ _ upd_same))) (by unfold subF; rw [if_pos hheld]; exact s3 _ _ upd_same) (hL.same sA) hlaw (by unfold subF; rw [if_pos hheld]) (by unfold subF; rw [if_pos hheld]) (Nat.le_succ _) (fun e he => .inl ⟨e, he, rfl, rfl, rfl⟩) nfl nrm0 np0 fun z v _ _ hz => sA _ _ hz
      · have hheld : ¬ heldM kd t (BL (otherS t.side) L) = true := by rw [heldI, hk, hx]; exact Bool.false_ne_true
        walk_at "st"
        refine ⟨(), D, L, t, last, rfl, hL, hlaw, hts, by omega, by omega, h4, ?_⟩
        intro pt fl rm fs L' H' hpt hT hG hLo' hlaw' hoth hbls hlen' hsub nfl nrm hfr hmo
        have hptS := SqT.of (K := K) hpt
        have hsubF : ∀ o, subF kd t o 0 last (BL (otherS t.side) L) (BL t.side L) = ⟨(endM t last (BL (otherS t.side) L)).es, if restsM kd (endM t last (BL (otherS t.side) L)) = true then insE (BL t.side L) (place (BL t.side L) (t.price.getD 0)) (o, 0, Ord.showNext { t with left := (endM t last (BL (otherS t.side) L)).left }) else (BL t.side L), (endM t last (BL (otherS t.side) L)).last, (endM t last (BL (otherS t.side) L)).fills, (endM t last (BL (otherS t.side) L)).gone, if restsM kd (endM t last (BL (otherS t.side) L)) = true then (endM t last (BL (otherS t.side) L)).left else 0⟩ := fun o => if_neg hheld
        have hbl := hbls t.side hone
        generalize endM t last (BL (otherS t.side) L) = m at hpt hptS hT hG hoth hsubF
        have hres : restsM kd m = (decide (V.str kd = V.str "rest") && decide (m.left > 0)) := rfl
        walk_at "st"
        have fin0 : restsM kd m = false → ∀ {p : Addr}, H' p = none → Q (.ref p) (upd H' p (.tup [.ref fl, .ref rm, .int 0])) := fun hr0 {p} np => by
          have sp := same_upd (o := .tup [.ref fl, .ref rm, .int 0]) np
          have hR : subF kd t 0 0 last (BL (otherS t.side) L) (BL t.side L) = ⟨m.es, BL t.side L, m.last, m.fills, m.gone, 0⟩ := by
            rw [hsubF, hr0, if_neg Bool.false_ne_true, if_neg Bool.false_ne_true]
          have np0 := hmo p np
          exact q _ p fl rm fs 0 L' _ rfl (by rw [hR]; exact upd_same) (by rw [hR]; exact hT.same sp) (by rw [hR]; exact sp _ _ hG) (hLo'.same sp) hlaw' (by rw [hR]; exact hoth) (by rw [hR]; exact hbl.symm) (by omega) (fun e he => .inl (hsub e he)) nfl nrm np0 fun z v h1 h2 hz => sp _ _ (hfr z v h1 h2 hz)
        refine iteB (fun hk2 => ?_) (fun hk2 => ?_)
        · walk_at "st"
          refine iteB (fun hx2 => ?_) (fun hx2 => ?_)
          · have hlenD : (refs L').length < sizeLine := small1000 (by
              show (List.map _ _).length ≤ _
              rw [List.length_map]
              omega)
            have hLi' := hLo'.li
            walk_at "st"
            refine ⟨len_le rfl, fun o no => ?_⟩
            have no0 := hmo o no
            have hpx : 0 < m.left := of_decide_eq_true hx2
            obtain ⟨pr, hpr2⟩ := hpr (of_decide_eq_true hk2)
            have hrow0 : upd H' o (.lst [.int t.number, .str t.house, .str t.side, optV t.price, .int m.left, .int (if t.shown = 0 then m.left else if m.left < t.shown then m.left else t.shown), .int t.shown]) o = some (.lst (rowL (Ord.showNext { t with left := m.left }))) := upd_same
            have so := same_upd (o := .lst [.int t.number, .str t.house, .str t.side, optV t.price, .int m.left, .int (if t.shown = 0 then m.left else if m.left < t.shown then m.left else t.shown), .int t.shown]) no
            have hLo0 := hLo'.same so
            have hLo0i := hLo0.li
            have hno : o ∉ L'.map (·.1) := fun z => by
              obtain ⟨y, hy, k⟩ := List.mem_map.mp z
              have := hLo'.row y hy
              rw [k, no] at this
              cases this
            have hDo : D ≠ o := fun z => by rw [← z, hLo'.li] at no; cases no
            have hT0 := hT.same so
            have hG0 := so _ _ hG
            have hfr0 : ∀ z v, z ≠ D → z ∉ L.map (·.1) → H z = some v → upd H' o (.lst [.int t.number, .str t.house, .str t.side, optV t.price, .int m.left, .int (if t.shown = 0 then m.left else if m.left < t.shown then m.left else t.shown), .int t.shown]) z = some v := fun z v h1 h2 hz => so _ _ (hfr z v h1 h2 hz)
            have hmo0 : ∀ z, upd H' o (.lst [.int t.number, .str t.house, .str t.side, optV t.price, .int m.left, .int (if t.shown = 0 then m.left else if m.left < t.shown then m.left else t.shown), .int t.shown]) z = none → H z = none := fun z hz => hmo z (none_upd hz)
            generalize upd H' o (.lst [.int t.number, .str t.house, .str t.side, optV t.price, .int m.left, .int (if t.shown = 0 then m.left else if m.left < t.shown then m.left else t.shown), .int t.shown]) = HA at hrow0 hLo0 hLo0i hT0 hG0 hfr0 hmo0 ⊢
            walk_at "st"
            have hLo1 := hLo0.push (e := (o, 0, Ord.showNext { t with left := m.left })) hrow0 hno hDo
            have hfD : D ≠ fl ∧ D ≠ rm := ⟨ne_of_none hLi nfl, ne_of_none hLi nrm⟩
            have hT1 := hT0.other (zs := refs L' ++ [.ref o]) hLo0i hfD.1.symm
            have hG1 : upd HA D (.lst (refs L' ++ [.ref o])) rm = some (.lst (m.gone.map V.int)) := (upd_ne hfD.2.symm).trans hG0
            have gn : GoodE (o, 0, Ord.showNext { t with left := m.left }) := ⟨hts, ⟨pr, hpr2⟩, showNext_vis (o := { t with left := m.left }) (by show 1 ≤ m.left; omega) hsh, hok⟩
            have hnum' : t.number ∉ L'.map fun e => e.2.2.number := fun z => by
              obtain ⟨y, hy, k⟩ := List.mem_map.mp z
              obtain ⟨x, hx, _, k2, _⟩ := hsub y hy
              exact hnum (List.mem_map.mpr ⟨x, hx, k2.trans k⟩)
            have hlaw1 := hlaw'.snoc gn hno hnum'
            intro p np
            have sp := same_upd (o := .tup [.ref fl, .ref rm, .int m.left]) np
            have hrt : restsM kd m = true := by rw [hres, hk2, hx2]; rfl
            have hR : subF kd t o 0 last (BL (otherS t.side) L) (BL t.side L) = ⟨m.es, insE (BL t.side L) (place (BL t.side L) (t.price.getD 0)) (o, 0, Ord.showNext { t with left := m.left }), m.last, m.fills, m.gone, m.left⟩ := by
              rw [hsubF, if_pos hrt, if_pos hrt]
            refine q _ p fl rm fs o (L' ++ [(o, 0, Ord.showNext { t with left := m.left })]) _ rfl (by rw [hR]; exact upd_same) (by rw [hR]; exact hT1.same sp) (by rw [hR]; exact sp _ _ hG1) (hLo1.same sp) hlaw1 ?_ ?_ ?_ (fun e he => ?_) nfl nrm (hmo0 p (none_upd np)) fun z v h1 h2 hz => sp _ _ ((upd_ne h1).trans (hfr0 z v h1 h2 hz))
            · rw [hR, BL_other (e := (o, 0, Ord.showNext { t with left := m.left })) (fun z => hone z)]
              exact hoth
            · rw [hR, BL_snoc (s := t.side) (e := (o, 0, Ord.showNext { t with left := m.left })) rfl, hbl]
              rfl
            · rw [List.length_append, List.length_singleton]
              omega
            · rcases List.mem_append.mp he with k | k
              · exact .inl (hsub e k)
              · rw [List.mem_singleton.mp k]
                exact .inr ⟨rfl, no0, rfl⟩
          · walk_at "st"
            intro p np
            exact fin0 (by rw [hres, hk2, hx2]; rfl) np
        · walk_at "st"
          intro p np
          exact fin0 (by rw [hres, hk2]; rfl) np
    · have hheld : ¬ heldM kd t (BL (otherS t.side) L) = true := by rw [heldI, hk]; exact Bool.false_ne_true
      walk_at "st"
      refine ⟨(), D, L, t, last, rfl, hL, hlaw, hts, by omega, by omega, h4, ?_⟩
      intro pt fl rm fs L' H' hpt hT hG hLo' hlaw' hoth hbls hlen' hsub nfl nrm hfr hmo
      have hptS := SqT.of (K := K) hpt
      have hsubF : ∀ o, subF kd t o 0 last (BL (otherS t.side) L) (BL t.side L) = ⟨(endM t last (BL (otherS t.side) L)).es, if restsM kd (endM t last (BL (otherS t.side) L)) = true then insE (BL t.side L) (place (BL t.side L) (t.price.getD 0)) (o, 0, Ord.showNext { t with left := (endM t last (BL (otherS t.side) L)).left }) else (BL t.side L), (endM t last (BL (otherS t.side) L)).last, (endM t last (BL (otherS t.side) L)).fills, (endM t last (BL (otherS t.side) L)).gone, if restsM kd (endM t last (BL (otherS t.side) L)) = true then (endM t last (BL (otherS t.side) L)).left else 0⟩ := fun o => if_neg hheld
      have hbl := hbls t.side hone
      generalize endM t last (BL (otherS t.side) L) = m at hpt hptS hT hG hoth hsubF
      have hres : restsM kd m = (decide (V.str kd = V.str "rest") && decide (m.left > 0)) := rfl
      walk_at "st"
      have fin0 : restsM kd m = false → ∀ {p : Addr}, H' p = none → Q (.ref p) (upd H' p (.tup [.ref fl, .ref rm, .int 0])) := fun hr0 {p} np => by
        have sp := same_upd (o := .tup [.ref fl, .ref rm, .int 0]) np
        have hR : subF kd t 0 0 last (BL (otherS t.side) L) (BL t.side L) = ⟨m.es, BL t.side L, m.last, m.fills, m.gone, 0⟩ := by
          rw [hsubF, hr0, if_neg Bool.false_ne_true, if_neg Bool.false_ne_true]
        have np0 := hmo p np
        exact q _ p fl rm fs 0 L' _ rfl (by rw [hR]; exact upd_same) (by rw [hR]; exact hT.same sp) (by rw [hR]; exact sp _ _ hG) (hLo'.same sp) hlaw' (by rw [hR]; exact hoth) (by rw [hR]; exact hbl.symm) (by omega) (fun e he => .inl (hsub e he)) nfl nrm np0 fun z v h1 h2 hz => sp _ _ (hfr z v h1 h2 hz)
      refine iteB (fun hk2 => ?_) (fun hk2 => ?_)
      · walk_at "st"
        refine iteB (fun hx2 => ?_) (fun hx2 => ?_)
        · have hlenD : (refs L').length < sizeLine := small1000 (by
            show (List.map _ _).length ≤ _
            rw [List.length_map]
            omega)
          have hLi' := hLo'.li
          walk_at "st"
          refine ⟨len_le rfl, fun o no => ?_⟩
          have no0 := hmo o no
          have hpx : 0 < m.left := of_decide_eq_true hx2
          obtain ⟨pr, hpr2⟩ := hpr (of_decide_eq_true hk2)
          have hrow0 : upd H' o (.lst [.int t.number, .str t.house, .str t.side, optV t.price, .int m.left, .int (if t.shown = 0 then m.left else if m.left < t.shown then m.left else t.shown), .int t.shown]) o = some (.lst (rowL (Ord.showNext { t with left := m.left }))) := upd_same
          have so := same_upd (o := .lst [.int t.number, .str t.house, .str t.side, optV t.price, .int m.left, .int (if t.shown = 0 then m.left else if m.left < t.shown then m.left else t.shown), .int t.shown]) no
          have hLo0 := hLo'.same so
          have hLo0i := hLo0.li
          have hno : o ∉ L'.map (·.1) := fun z => by
            obtain ⟨y, hy, k⟩ := List.mem_map.mp z
            have := hLo'.row y hy
            rw [k, no] at this
            cases this
          have hDo : D ≠ o := fun z => by rw [← z, hLo'.li] at no; cases no
          have hT0 := hT.same so
          have hG0 := so _ _ hG
          have hfr0 : ∀ z v, z ≠ D → z ∉ L.map (·.1) → H z = some v → upd H' o (.lst [.int t.number, .str t.house, .str t.side, optV t.price, .int m.left, .int (if t.shown = 0 then m.left else if m.left < t.shown then m.left else t.shown), .int t.shown]) z = some v := fun z v h1 h2 hz => so _ _ (hfr z v h1 h2 hz)
          have hmo0 : ∀ z, upd H' o (.lst [.int t.number, .str t.house, .str t.side, optV t.price, .int m.left, .int (if t.shown = 0 then m.left else if m.left < t.shown then m.left else t.shown), .int t.shown]) z = none → H z = none := fun z hz => hmo z (none_upd hz)
          generalize upd H' o (.lst [.int t.number, .str t.house, .str t.side, optV t.price, .int m.left, .int (if t.shown = 0 then m.left else if m.left < t.shown then m.left else t.shown), .int t.shown]) = HA at hrow0 hLo0 hLo0i hT0 hG0 hfr0 hmo0 ⊢
          walk_at "st"
          have hLo1 := hLo0.push (e := (o, 0, Ord.showNext { t with left := m.left })) hrow0 hno hDo
          have hfD : D ≠ fl ∧ D ≠ rm := ⟨ne_of_none hLi nfl, ne_of_none hLi nrm⟩
          have hT1 := hT0.other (zs := refs L' ++ [.ref o]) hLo0i hfD.1.symm
          have hG1 : upd HA D (.lst (refs L' ++ [.ref o])) rm = some (.lst (m.gone.map V.int)) := (upd_ne hfD.2.symm).trans hG0
          have gn : GoodE (o, 0, Ord.showNext { t with left := m.left }) := ⟨hts, ⟨pr, hpr2⟩, showNext_vis (o := { t with left := m.left }) (by show 1 ≤ m.left; omega) hsh, hok⟩
          have hnum' : t.number ∉ L'.map fun e => e.2.2.number := fun z => by
            obtain ⟨y, hy, k⟩ := List.mem_map.mp z
            obtain ⟨x, hx, _, k2, _⟩ := hsub y hy
            exact hnum (List.mem_map.mpr ⟨x, hx, k2.trans k⟩)
          have hlaw1 := hlaw'.snoc gn hno hnum'
          intro p np
          have sp := same_upd (o := .tup [.ref fl, .ref rm, .int m.left]) np
          have hrt : restsM kd m = true := by rw [hres, hk2, hx2]; rfl
          have hR : subF kd t o 0 last (BL (otherS t.side) L) (BL t.side L) = ⟨m.es, insE (BL t.side L) (place (BL t.side L) (t.price.getD 0)) (o, 0, Ord.showNext { t with left := m.left }), m.last, m.fills, m.gone, m.left⟩ := by
            rw [hsubF, if_pos hrt, if_pos hrt]
          refine q _ p fl rm fs o (L' ++ [(o, 0, Ord.showNext { t with left := m.left })]) _ rfl (by rw [hR]; exact upd_same) (by rw [hR]; exact hT1.same sp) (by rw [hR]; exact sp _ _ hG1) (hLo1.same sp) hlaw1 ?_ ?_ ?_ (fun e he => ?_) nfl nrm (hmo0 p (none_upd np)) fun z v h1 h2 hz => sp _ _ ((upd_ne h1).trans (hfr0 z v h1 h2 hz))
          · rw [hR, BL_other (e := (o, 0, Ord.showNext { t with left := m.left })) (fun z => hone z)]
            exact hoth
          · rw [hR, BL_snoc (s := t.side) (e := (o, 0, Ord.showNext { t with left := m.left })) rfl, hbl]
            rfl
          · rw [List.length_append, List.length_singleton]
            omega
          · rcases List.mem_append.mp he with k | k
            · exact .inl (hsub e k)
            · rw [List.mem_singleton.mp k]
              exact .inr ⟨rfl, no0, rfl⟩
        · walk_at "st"
          intro p np
          exact fin0 (by rw [hres, hk2, hx2]; rfl) np
      · walk_at "st"
        intro p np
        exact fin0 (by rw [hres, hk2]; rfl) np

theorem same_over {H H' : Hp} {a : Addr} {o : HO} (e : Same H H') (n : H a = none) : Same H (upd H' a o) := fun z v hz => (upd_ne (fun k => by rw [k, n] at hz; cases hz)).trans (e z v hz)
theorem best_none (s : Str) (es : List Ent) : bestF s none es = es.head? := by
  cases es with
  | nil => rfl
  | cons e r => rfl
theorem LawL.sel {L : List Ent} (h : LawL L) (s : Str) : LawL (selE s L) := ⟨fun e he => h.good e (sel_mem he).1, (List.filter_sublist.map _).nodup h.nda, (List.filter_sublist.map _).nodup h.ndn⟩
theorem BL_sel (s : Str) (L : List Ent) : BL s (selE s L) = BL s L := by
  unfold BL
  congr 1
  unfold selE
  rw [List.filter_filter]
  refine List.filter_congr fun x _ => ?_
  exact Bool.and_self _
theorem refs_app (a b : List Ent) : refs (a ++ b) = refs a ++ refs b := List.map_append ..
def sp_law_listed (K : PySem.W.Frag) : Sp := fun vs H Q _ => ∃ (_ : Unit) (D : Addr) (L : List Ent) (s : Str), vs = [.ref D, .str s] ∧ LoAt H D L ∧ LawL L ∧ (s = "buy" ∨ s = "sell") ∧ L.length ≤ 400 ∧
  ∀ D' H' (ts : List (Addr × Ord)), Same H H' → H D' = none → H' D' = some (.lst (ts.map fun t => V.ref t.1)) → ts.map (·.2) = (BL s L).map (·.2.2) → (∀ t, t ∈ ts → H' t.1 = some (.tup (rowV t.2))) → Q (.ref D') H'
set_option maxHeartbeats 0 in
theorem ok_law_listed (T : Txt K mg) [TB : TabsOk T base] : FnOk P w K mg base CX0 3 T.f_law_listed T.d_law_listed ["orders", "side"] (sp_law_listed K) := by
  refine T.F_law_listed.ok sc_law_listed (fun vs H Q E h => ?_) (fun cdv A outer s H vs Q E hr h => ?_)
  · obtain ⟨_, D, L, s, rfl, _⟩ := h
    rfl
  · obtain ⟨_, D, L, s, rfl, hL, hlaw, hs, hlen, q⟩ := h
    have G_law_first : FnOk P w K mg base CX0 2 T.f_law_first T.d_law_first ["orders", "side", "limit"] (sp_law_first K) := ok_law_first T
    refine ⟨_, (pss_cons (ps_setLc (i := 2) (own := [("order", 3)]) (g := gName 3) rfl sc_law_listed.nd rfl rfl (sw_true rfl rfl rfl (by decide +kernel)) (pi_list (pv 0)) (blkOk_by (own := [("order", 3)]) (N := N_law_listed) (sc := defScope s_law_listed) (by decide +kernel)) (fun _ _ _ _ _ => (pg_name (i := 3) sc_law_listed.nd rfl (Or.inl rfl))) (fun _ _ _ _ _ => pts_one (pt_cmpR op_eq (pe_ix (show IxR _ (rIxL K) from ix_list) (pv 3) pe_int (fun _ _ => rfl)) (pv 1) (nomark _))) (fun _ _ _ _ _ => (pv 3)))
    (pss_cons (ps_set (i := 4) sc_law_listed.nd rfl (Or.inl rfl) (pe_lst pa_nil))
    (pss_cons (ps_for PassesOwn.never rfl (pi_range1 (by rfl) T.z_range (pa_cons (pe_callB call_len_seq (by rfl) T.z_len PySem.boot_len (pa_cons (pv 2) pa_nil)) pa_nil)) (pg_name (i := 5) sc_law_listed.nd rfl (Or.inl rfl))
      (pss_cons (ps_set (i := 6) sc_law_listed.nd rfl (Or.inl rfl) (pe_call G_law_first hr (by rfl) T.m_law_first T.F_law_first.kp T.b_law_first .nil pass0 (pa_cons (pv 2) (pa_cons (pv 1) (pa_cons pe_non pa_nil)))))
      (pss_cons (ps_expr (pe_bm PySem.F.plainAttrs_list PySem.F.slot_list_append PySem.F.type_list_append mt_append (pv 4) (pa_cons (pe_tup (pa_cons (pe_ix ix_list (pv 6) pe_int (fun _ _ => rfl)) (pa_cons (pe_ix ix_list (pv 6) pe_int (fun _ _ => rfl)) (pa_cons (pe_ix ix_list (pv 6) pe_int (fun _ _ => rfl)) (pa_cons (pe_ix ix_list (pv 6) pe_int (fun _ _ => rfl)) (pa_cons (pe_ix ix_list (pv 6) pe_int (fun _ _ => rfl)) pa_nil)))))) pa_nil)))
      (pss_one (ps_expr (pe_bm PySem.F.plainAttrs_list PySem.F.slot_list_remove PySem.F.type_list_remove (mt_removeD (hu65 hr)) (pv 2) (pa_cons (pv 6) pa_nil)))))))
    (pss_one (ps_ret (pv 4)))))), ?_⟩
    have hLi := hL.li
    have hLS := SqL.of (K := K) hL.li
    walk_at "st"
    intro KD nKD
    refine lc_list (K := K) (a := D) (xs := refs L) (fun i H' => H' KD = some (.lst (refs (selE s (L.take i)))) ∧ Same H H') ⟨upd_same, same_upd nKD⟩ (fun i H' _ ⟨_, e⟩ => SqL.of (e _ _ hLi)) ?_ ?_
    · rintro i v H2 hv ⟨hk, e2⟩
      obtain ⟨e, he, rfl⟩ := ents_at hv
      have hmem := List.mem_of_getElem? he
      have hrow := SqL.of (K := K) (e2 _ _ (hL.row e hmem))
      have h2 : atI (rowL e.2.2) 2 = some (.str e.2.2.side) := rfl
      have hl : (refs (selE s (L.take i))).length < sizeLine := small1000 (by
        show (List.map _ _).length ≤ _
        rw [List.length_map]
        have := List.length_filter_le (fun e : Ent => decide (e.2.2.side = s)) (L.take i)
        rw [List.length_take] at this
        show (selE s (L.take i)).length ≤ _
        unfold selE
        omega)
      have hst := sel_take (s := s) he
      rw [hst]
      walk_at "st"
      refine iteB (fun hx => ?_) (fun hx => ?_)
      · have hsd : e.2.2.side = s := V.str.inj (dec_t hx)
        rw [if_pos hsd, refs_app]
        walk_at "st"
        exact same_over e2 nKD
      · have hsd : ¬ e.2.2.side = s := fun z => dec_f hx (congrArg V.str z)
        rw [if_neg hsd, List.append_nil]
        exact ⟨hk, e2⟩
    · rintro H1 ⟨hk, e1⟩
      have hll : (refs L).length = L.length := List.length_map ..
      rw [hll, List.take_of_length_le (Nat.le_refl _)] at hk
      have hKrow : ∀ e, e ∈ selE s L → H1 e.1 = some (.lst (rowL e.2.2)) := fun e he => e1 _ _ (hL.row e (sel_mem he).1)
      have hKL : LoAt H1 KD (selE s L) := ⟨hk, hKrow, (List.filter_sublist.map _).nodup hL.nd, fun z => by
        obtain ⟨y, hy, k⟩ := List.mem_map.mp z
        have := hL.row y (sel_mem hy).1
        rw [k, nKD] at this
        cases this⟩
      have hlk := hlaw.sel s
      have hbk := BL_sel s L
      have hlen2 : (selE s L).length ≤ 400 := by
        have := List.length_filter_le (fun e : Ent => decide (e.2.2.side = s)) L
        unfold selE
        omega
      have hbl : (BL s L).length = (selE s L).length := (BL_perm s L).length_eq
      generalize selE s L = L0 at hk hKrow hKL hlk hbk hlen2 hbl
      have hkS := SqL.of (K := K) hk
      walk_at "st"
      intro R nR
      have nR0 : H R = none := by
        cases e : H R with
        | none => rfl
        | some v => rw [e1 _ _ e] at nR; cases nR
      have sR := same_upd (o := .lst []) nR
      have hkR := SqL.of (K := K) (sR _ _ hk)
      have hnk : KD ≠ R := fun z => by rw [← z, hk] at nR; cases nR
      have hRr : ∀ e, e ∈ L0 → e.1 ≠ R := fun e he z => by
        have := hKrow e he
        rw [z, nR] at this
        cases this
      have hl0 : (refs L0).length = L0.length := List.length_map ..
      walk_at "st"
      refine for_range (lo := 0) (n := ((refs L0).length : Int).toNat) (fun i σ H' => ∃ (v5 v6 : Option V) (Lk : List Ent) (ts : List (Addr × Ord)), σ = [some (.ref D), some (.str s), some (.ref KD), none, some (.ref R), v5, v6] ∧ LoAt H' KD Lk ∧ LawL Lk ∧ BL s Lk = (BL s L).drop i ∧ (∀ e, e ∈ Lk → e ∈ L0) ∧ H' R = some (.lst (ts.map fun t => V.ref t.1)) ∧ ts.map (·.2) = ((BL s L).take i).map (·.2.2) ∧ (∀ t, t ∈ ts → H' t.1 = some (.tup (rowV t.2))) ∧ Same H H') ?_ ?_ ?_
      · exact ⟨none, none, L0, [], rfl, hKL.same sR, hlk, hbk, fun e he => he, upd_same, rfl, fun t ht => (by cases ht), e1.trans sR⟩
      · rintro i σ H' hi ⟨v5, v6, Lk, ts, rfl, hLk, hlawk, hb, hmem, hR, hts, hrow, e2⟩
        have hi2 : i < (BL s L).length := by omega
        obtain ⟨e, he⟩ : ∃ e, (BL s L)[i]? = some e := ⟨_, List.getElem?_eq_getElem hi2⟩
        have hbe : BL s Lk = e :: (BL s L).drop (i + 1) := by
          rw [hb, List.drop_eq_getElem_cons hi2]
          congr 1
          rw [List.getElem?_eq_getElem hi2] at he
          exact Option.some.inj he
        have hef : bestF s none (BL s Lk) = some e := by rw [best_none, hbe]; rfl
        have heL : e ∈ Lk := (BL_mem (by rw [hbe]; exact List.mem_cons_self)).1
        have hre := hLk.row e heL
        have hreS := SqL.of (K := K) hre
        have a0 : atI (rowL e.2.2) 0 = some (.int e.2.2.number) := rfl
        have a1 : atI (rowL e.2.2) 1 = some (.str e.2.2.house) := rfl
        have a3 : atI (rowL e.2.2) 3 = some (optV e.2.2.price) := rfl
        have a4 : atI (rowL e.2.2) 4 = some (.int e.2.2.left) := rfl
        have a5 : atI (rowL e.2.2) 5 = some (.int e.2.2.visible) := rfl
        walk_at "st"
        refine ⟨(), KD, Lk, s, none, rfl, hLk, hs, hlawk.good, ?_⟩
        rw [hef]
        have htl : ts.length ≤ 400 := by
          have := congrArg List.length hts
          rw [List.length_map, List.length_map, List.length_take] at this
          omega
        have hRl : (ts.map fun t => V.ref t.1).length < sizeLine := small1000 (by rw [List.length_map]; omega)
        walk_at "st"
        intro p np
        generalize hHP : upd H' p _ = HP
        have sP : Same H' HP := hHP ▸ same_upd np
        have hpP := (congrFun hHP p).symm.trans upd_same
        have hRP := sP _ _ hR
        have hLkP := hLk.same sP
        have hnp : R ≠ p := ne_of_none hR np
        have hLk2 := hLkP.other (z := R) (o := .lst ((ts.map fun t => V.ref t.1) ++ [V.ref p])) hnk (fun y hy => hRr y (hmem y hy))
        have hLk2i := hLk2.li
        walk_at "st"
        delta tNil
        refine rem_of hLk2 hlawk heL ?_
        have hHfin : upd (upd HP R (.lst ((ts.map fun t => V.ref t.1) ++ [V.ref p]))) KD (.lst (refs (dropE e.1 Lk))) R = some (.lst ((ts ++ [(p, e.2.2)]).map fun t => V.ref t.1)) := by
          rw [upd_ne hnk.symm, upd_same, List.map_append]
          rfl
        refine ⟨_, _, dropE e.1 Lk, ts ++ [(p, e.2.2)], rfl, hLk2.cut e.1, hlawk.drop e.1, BL_drop hlawk hbe, fun y hy => hmem y (drop_mem hy).1, hHfin, ?_, fun t ht => ?_, same_over (same_over (e2.trans sP) nR0) nKD⟩
        · rw [take_succ he, List.map_append, List.map_append, hts]
          rfl
        · have key : ∀ a ys, HP a = some (.tup ys) → upd (upd HP R (.lst ((ts.map fun t => V.ref t.1) ++ [V.ref p]))) KD (.lst (refs (dropE e.1 Lk))) a = some (.tup ys) := fun a ys ha => by
            rw [upd_ne (fun z => by rw [z, hLkP.li] at ha; cases ha), upd_ne (fun z => by rw [z, hRP] at ha; cases ha)]
            exact ha
          rcases List.mem_append.mp ht with k | k
          · exact key _ _ (sP _ _ (hrow t k))
          · rw [List.mem_singleton.mp k]
            exact key _ _ hpP
      · rintro σ H' ⟨v5, v6, Lk, ts, rfl, hLk, hlawk, hb, hmem, hR, hts, hrow, e2⟩
        walk_at "st"
        rw [List.take_of_length_le (by omega)] at hts
        exact q R H' ts e2 nR0 hR hts hrow

def layFill (x : Int × Str × Int × Int) : PyData := .tuple [.int x.1, .str x.2.1, .int x.2.2.1, .int x.2.2.2]
theorem layD_F : LayD layFill 1 (fun x => True ∧ PyData.strOk x.2.1 = true ∧ True ∧ True) := layD_int.tup4 layD_str layD_int layD_int
theorem dpFill {K : PySem.W.Frag} {H : Hp} (x : Int × Str × Int × Int) (p : Addr) (h : H p = some (.tup (encFill x))) : Dp K H (.ref p) (layFill x) :=
  .tup (SqT.of h) (.cons (.int _) (.cons (.str _) (.cons (.int _) (.cons (.int _) .nil))))
theorem trade_house {e y : Ent} {es : List Ent} {n p : Int} (h : y ∈ tradeF e es n p) : y.2.2.house = e.2.2.house ∨ ∃ z, z ∈ es ∧ z.2.2.house = y.2.2.house := by
  rw [trade_is] at h
  split at h
  · split at h
    · rcases List.mem_cons.mp ((insE_perm _ _ _).mem_iff.mp h) with z | z
      · rw [z]; exact .inl rfl
      · exact .inr ⟨y, z, rfl⟩
    · exact .inr ⟨y, h, rfl⟩
  · rcases List.mem_cons.mp h with z | z
    · rw [z]; exact .inl rfl
    · exact .inr ⟨y, z, rfl⟩
theorem fills_ok {t : Ord} : ∀ (k : Nat) {m : Mt}, (∀ e, e ∈ m.es → PyData.strOk e.2.2.house = true) → (∀ f, f ∈ m.fills → PyData.strOk f.2.1 = true) → ∀ f, f ∈ (runM t k m).fills → PyData.strOk f.2.1 = true
  | 0, _, _, h => h
  | k + 1, m, g, h => by
    cases hg : goesM t m with
    | none => rw [runM_stop hg]; exact h
    | some e =>
      rw [runM_go hg]
      obtain ⟨h1, _, _⟩ := goesM_some hg
      have he : e ∈ m.es := by rw [h1]; exact List.mem_cons_self
      have ht : ∀ y, y ∈ m.es.tail → PyData.strOk y.2.2.house = true := fun y hy => g y (by rw [h1]; exact List.mem_cons_of_mem _ hy)
      refine fills_ok k (m := stepM t m e) ?_ ?_
      · unfold stepM
        split
        · exact ht
        · intro y hy
          rcases trade_house (show y ∈ tradeF e m.es.tail (qtyM m e) (prcE e) from hy) with z | ⟨x, hx, z⟩
          · rw [z]; exact g e he
          · rw [← z]; exact ht x hx
      · unfold stepM
        split
        · exact h
        · intro f hf
          rcases List.mem_append.mp (show f ∈ m.fills ++ [_] from hf) with z | z
          · exact h f z
          · rw [List.mem_singleton.mp z]; exact g e he
theorem end_fills_ok {t : Ord} {last : Option Int} {es : List Ent} (g : ∀ e, e ∈ es → PyData.strOk e.2.2.house = true) : ∀ f, f ∈ (endM t last es).fills → PyData.strOk f.2.1 = true := fills_ok _ (m := startM t last es) g fun f hf => by cases hf
theorem ords_rows {a b : List Ent} (h : ordsE a = ordsE b) : a.map (·.2.2) = b.map (·.2.2) := h
theorem ords_ok {a b : List Ent} (h : ordsE a = ordsE b) (g : ∀ e, e ∈ b → PyData.strOk e.2.2.house = true) : ∀ e, e ∈ a → PyData.strOk e.2.2.house = true := fun e he => by
  have h1 : e.2.2 ∈ ordsE a := List.mem_map.mpr ⟨e, he, rfl⟩
  rw [h] at h1
  obtain ⟨y, hy, z⟩ := List.mem_map.mp h1
  rw [← z]
  exact g y hy

theorem sub_ords {kd : Str} {t : Ord} {o dxo o' dxo' : Addr} {last : Option Int} {oth own oth' own' : List Ent} (h1 : ordsE oth = ordsE oth') (h2 : ordsE own = ordsE own') :
    ordsE (subF kd t o dxo last oth own).oth = ordsE (subF kd t o' dxo' last oth' own').oth ∧ ordsE (subF kd t o dxo last oth own).own = ordsE (subF kd t o' dxo' last oth' own').own ∧
    (subF kd t o dxo last oth own).fills = (subF kd t o' dxo' last oth' own').fills ∧ (subF kd t o dxo last oth own).gone = (subF kd t o' dxo' last oth' own').gone ∧ (subF kd t o dxo last oth own).rest = (subF kd t o' dxo' last oth' own').rest := by
  have S := sim_end (t := t) (last := last) h1
  have hh : heldM kd t oth = heldM kd t oth' := by unfold heldM; rw [avail_ords h1]
  have hr : restsM kd (endM t last oth) = restsM kd (endM t last oth') := by unfold restsM; rw [S.left]
  unfold subF
  rw [hh]
  split
  · exact ⟨h1, h2, rfl, rfl, rfl⟩
  · rw [hr]
    refine ⟨S.es, ?_, S.fills, S.gone, ?_⟩
    · show ordsE (if _ then _ else own) = ordsE (if _ then _ else own')
      split
      · rw [place_ords h2]
        exact ins_ords h2 (by rw [S.left])
      · exact h2
    · show (if _ then _ else (0 : Int)) = if _ then _ else 0
      rw [S.left]
theorem sub_fills_ok {kd : Str} {t : Ord} {o dxo : Addr} {last : Option Int} {oth own : List Ent} (g : ∀ e, e ∈ oth → PyData.strOk e.2.2.house = true) : ∀ f, f ∈ (subF kd t o dxo last oth own).fills → PyData.strOk f.2.1 = true := by
  unfold subF
  split
  · exact fun f hf => by cases hf
  · exact end_fills_ok g

def sp_law_reached (K : PySem.W.Frag) : Sp := fun vs H Q _ => ∃ (_ : Unit) (p : Addr) (s : Stp) (last : Option Int), vs = [.ref p, optV last] ∧ H p = some (.tup (rowS s)) ∧ Q (.bl (reachedS s last)) H
set_option maxHeartbeats 0 in
theorem ok_law_reached (T : Txt K mg) [TB : TabsOk T base] : FnOk P w K mg base CX0 1 T.f_law_reached T.d_law_reached ["stop", "last"] (sp_law_reached K) := by
  refine T.F_law_reached.ok sc_law_reached (fun vs H Q E h => ?_) (fun cdv A outer s H vs Q E hr h => ?_)
  · obtain ⟨_, p, s, last, rfl, _⟩ := h
    rfl
  · obtain ⟨_, p, s, last, rfl, hp, q⟩ := h
    refine ⟨_, (pss_cons (ps_if (pt_cmpR op_isN (pv 1) pe_non (nomark _))
      (pss_one (ps_ret pe_bl))
      pss_nil)
    (pss_cons (ps_if (pt_cmpR op_eq (pe_ix ix_tup (pv 0) pe_int (fun _ _ => rfl)) pe_str (nomark _))
      (pss_one (ps_ret (pe_cmpR op_ge (pv 1) (pe_ix ix_tup (pv 0) pe_int (fun _ _ => rfl)) (nomark _))))
      pss_nil)
    (pss_one (ps_ret (pe_cmpR op_le (pv 1) (pe_ix ix_tup (pv 0) pe_int (fun _ _ => rfl)) (nomark _)))))), ?_⟩
    have hpS := SqT.of (K := K) hp
    have a2 : atI (rowS s) 2 = some (.str s.side) := rfl
    have a3 : atI (rowS s) 3 = some (.int s.trigger) := rfl
    cases last with
    | none =>
      walk_at "st"
      exact q
    | some l =>
      have e : reachedS s (some l) = if buyS s.side = true then decide (s.trigger ≤ l) else decide (l ≤ s.trigger) := rfl
      rw [e] at q
      walk_at "st"
      refine iteB (fun h => ?_) (fun h => ?_)
      · rw [if_pos (show buyS s.side = true from h)] at q
        walk_at "st"
        exact q
      · rw [if_neg (by rw [show buyS s.side = false from h]; exact Bool.false_ne_true)] at q
        walk_at "st"
        exact q
def sp_law_last (K : PySem.W.Frag) : Sp := fun vs H Q _ => ∃ (_ : Unit) (pd fl rm : Addr) (rest : Int) (last : Option Int) (fs : List Addr) (fills : List (Int × Str × Int × Int)), vs = [optV last, .ref pd] ∧ H pd = some (.tup [.ref fl, .ref rm, .int rest]) ∧ Tups encFill H fl fs fills ∧ Q (optV (lastF last fills)) H
/-- the last of a list of tuples -/
theorem Tups.last {α : Type} {enc : α → List V} {H : Hp} {l : Addr} {ps : List Addr} {xs : List α} {x : α} (h : Tups enc H l ps (xs ++ [x])) : ∃ (qs : List Addr) (p : Addr), ps = qs ++ [p] ∧ qs.length = xs.length ∧ H p = some (.tup (enc x)) ∧ atI (ps.map V.ref) (-1) = some (.ref p) ∧ ixN (ps.map V.ref).length (-1) = some qs.length := by
  have hl := h.len
  rw [List.length_append, List.length_singleton] at hl
  have hne : ps ≠ [] := fun e => by rw [e] at hl; cases hl
  obtain ⟨qs, p, hps⟩ : ∃ qs p, ps = qs ++ [p] := ⟨ps.dropLast, ps.getLast hne, (List.dropLast_concat_getLast hne).symm⟩
  have hq : qs.length = xs.length := by
    rw [hps, List.length_append, List.length_singleton] at hl
    omega
  have hix : ixN (ps.map V.ref).length (-1) = some qs.length := by
    rw [hps, List.length_map, List.length_append, List.length_singleton]
    unfold ixN
    rw [if_neg (by decide), if_pos (by omega)]
    congr 1
    omega
  refine ⟨qs, p, hps, hq, h.row qs.length p x (by rw [hps]; exact List.getElem?_concat_length) (by rw [hq]; exact List.getElem?_concat_length), ?_, hix⟩
  unfold atI
  rw [hix]
  show (ps.map V.ref)[qs.length]? = _
  rw [hps, List.map_append, List.getElem?_append_right (by rw [List.length_map]; exact Nat.le_refl _), List.length_map, Nat.sub_self]
  rfl
theorem snoc_of {α : Type} : ∀ (xs : List α), xs ≠ [] → ∃ ys y, xs = ys ++ [y]
  | xs, h => ⟨xs.dropLast, xs.getLast h, (List.dropLast_concat_getLast h).symm⟩
set_option maxHeartbeats 0 in
theorem ok_law_last (T : Txt K mg) [TB : TabsOk T base] : FnOk P w K mg base CX0 1 T.f_law_last T.d_law_last ["last", "due"] (sp_law_last K) := by
  refine T.F_law_last.ok sc_law_last (fun vs H Q E h => ?_) (fun cdv A outer s H vs Q E hr h => ?_)
  · obtain ⟨_, pd, fl, rm, rest, last, fs, fills, rfl, _⟩ := h
    rfl
  · obtain ⟨_, pd, fl, rm, rest, last, fs, fills, rfl, hp, hT, q⟩ := h
    refine ⟨_, (pss_cons (ps_if (pt_truth (pe_ix ix_tup (pv 1) pe_int (fun _ _ => rfl)) (by intro _; rfl))
      (pss_one (ps_ret (pe_ix ix_tup (pe_ix ix_list (pe_ix ix_tup (pv 1) pe_int (fun _ _ => rfl)) (pe_un un_neg pe_int) (fun _ _ => rfl)) pe_int (fun _ _ => rfl))))
      pss_nil)
    (pss_one (ps_ret (pv 0)))), ?_⟩
    have hpS := SqT.of (K := K) hp
    have a0 : atI [V.ref fl, V.ref rm, V.int rest] 0 = some (.ref fl) := rfl
    have hln := hT.len
    by_cases hz : fills = []
    · subst hz
      have hf0 : fs = [] := List.length_eq_zero_iff.mp hln
      subst hf0
      have hTS := SqL.of (K := K) hT.lst
      walk_at "st"
      exact q
    · obtain ⟨ys, y, rfl⟩ := snoc_of fills hz
      obtain ⟨qs, g, hps, _, hg, am, _⟩ := hT.last
      have hgS := SqT.of (K := K) hg
      have b2 : atI (encFill y) 2 = some (.int y.2.2.1) := rfl
      have hTS := SqL.of (K := K) hT.lst
      rw [lastF_snoc] at q
      rw [hps] at hTS am
      rw [List.map_append] at hTS am
      walk_at "st"
      refine iteB (fun _ => ?_) (fun h => by simp at h)
      walk_at "st"
      exact q
/-- what the law tells of a report: its own two lists by their places -/
def encT (x : Addr × Addr × RepT) : List V := [.int x.2.2.number, .str x.2.2.house, .str x.2.2.side, .ref x.1, .ref x.2.1, .int x.2.2.rest]
def sp_law_told (K : PySem.W.Frag) (CR : Addr) : Sp := fun vs H Q _ => ∃ (_ : Unit) (D : Addr) (rs : List Addr) (ts : List (Addr × Addr × RepT)), vs = [.ref D] ∧ H D = some (.lst (rs.map V.ref)) ∧ rs.length = ts.length ∧ ts.length ≤ 400 ∧
  (∀ (i : Nat) (r : Addr) (t : Addr × Addr × RepT), rs[i]? = some r → ts[i]? = some t → ∃ dr, H r = some (repO CR dr t.2.2.number t.2.2.house t.2.2.side t.1 t.2.1 t.2.2.rest)) ∧
  ∀ (R : Addr) (ps : List Addr) (H' : Hp), Same H H' → H R = none → Tups encT H' R ps ts → Q (.ref R) H'
set_option maxHeartbeats 0 in
theorem ok_law_told (T : Txt K mg) [TB : TabsOk T base] : FnOk P w K mg base CX0 1 T.f_law_told T.d_law_told ["reports"] (sp_law_told K T.c_Report) := by
  refine T.F_law_told.ok sc_law_told (fun vs H Q E h => ?_) (fun cdv A outer s H vs Q E hr h => ?_)
  · obtain ⟨_, D, rs, ts, rfl, _⟩ := h
    rfl
  · obtain ⟨_, D, rs, ts, rfl, hD, hlen, h4, hrep, q⟩ := h
    refine ⟨_, (pss_cons (ps_set (i := 1) sc_law_told.nd rfl (Or.inl rfl) (pe_lst pa_nil))
    (pss_cons (ps_for PassesOwn.never rfl (pi_list (pv 0)) (pg_name (i := 2) sc_law_told.nd rfl (Or.inl rfl))
      (pss_one (ps_expr (pe_bm PySem.F.plainAttrs_list PySem.F.slot_list_append PySem.F.type_list_append mt_append (pv 1) (pa_cons (pe_tup (pa_cons (pe_fld (pv 2) rfl) (pa_cons (pe_fld (pv 2) rfl) (pa_cons (pe_fld (pv 2) rfl) (pa_cons (pe_fld (pv 2) rfl) (pa_cons (pe_fld (pv 2) rfl) (pa_cons (pe_fld (pv 2) rfl) pa_nil))))))) pa_nil)))))
    (pss_one (ps_ret (pv 1))))), ?_⟩
    have fact_Report_0 := T.cl_Report; have fact_Report_1 := T.na_Report_number; have fact_Report_2 := T.na_Report_house; have fact_Report_3 := T.na_Report_side; have fact_Report_4 := T.na_Report_fills; have fact_Report_5 := T.na_Report_removed; have fact_Report_6 := T.na_Report_resting
    walk_at "st"
    intro R nR
    have sR := same_upd (o := .lst []) nR
    have hDS := SqL.of (K := K) (sR _ _ hD)
    walk_at "st"
    refine for_list (K := K) (a := D) (xs := rs.map V.ref) (fun i σ H' => ∃ (v2 : Option V) (ps : List Addr), σ = [some (.ref D), some (.ref R), v2] ∧ Tups encT H' R ps (ts.take i) ∧ Same H H') ⟨none, [], rfl, Tups.nil upd_same, sR⟩ (fun i σ H' _ ⟨_, _, _, _, e⟩ => SqL.of (e _ _ hD)) ?_ ?_
    · rintro i y σ H' hy ⟨v2, ps, rfl, hT, e1⟩
      obtain ⟨r, hr, rfl⟩ := refs_at hy
      have hi := (List.getElem?_eq_some_iff.mp hr).1
      obtain ⟨t, ht⟩ : ∃ t, ts[i]? = some t := ⟨_, List.getElem?_eq_getElem (by omega)⟩
      obtain ⟨dr, hrr⟩ := hrep i r t hr ht
      have hr1 := e1 _ _ hrr
      unfold repO at hr1
      have hTl := hT.lst
      have hpl : ps.length ≤ 400 := by
        have := hT.len
        rw [List.length_take] at this
        omega
      have hps : (ps.map V.ref).length < sizeLine := small1000 (by rw [List.length_map]; omega)
      walk_at "st"
      refine ⟨len_le rfl, fun p np => ?_⟩
      have sp := same_upd (o := .tup (encT t)) np
      have hTp := hT.push sp np (x := t) upd_same
      have hTl2 : upd H' p (.tup [V.int t.2.2.number, V.str t.2.2.house, V.str t.2.2.side, V.ref t.1, V.ref t.2.1, V.int t.2.2.rest]) R = some (.lst (ps.map V.ref)) := sp _ _ hTl
      walk_at "st"
      rw [take_succ ht]
      exact ⟨_, ps ++ [p], rfl, hTp, fun z v hz => (upd_ne fun k => by rw [k, nR] at hz; cases hz).trans (sp _ _ (e1 _ _ hz))⟩
    · rintro σ H' ⟨v2, ps, rfl, hT, e1⟩
      walk_at "st"
      rw [List.length_map, hlen, List.take_of_length_le (Nat.le_refl _)] at hT
      exact q R ps H' e1 nR hT

/-! ### two runs of the triggers over like books -/
theorem sub_last {kd : Str} {t : Ord} {o dxo o' dxo' : Addr} {last : Option Int} {oth own oth' own' : List Ent} (h1 : ordsE oth = ordsE oth') :
    (subF kd t o dxo last oth own).last = (subF kd t o' dxo' last oth' own').last := by
  have S := sim_end (t := t) (last := last) h1
  have hh : heldM kd t oth = heldM kd t oth' := by unfold heldM; rw [avail_ords h1]
  unfold subF
  rw [hh]
  split
  · rfl
  · exact S.last
structure EqB (s s' : BS) : Prop where
  last : s.last = s'.last
  e1 : ordsE s.es1 = ordsE s'.es1
  e2 : ordsE s.es2 = ordsE s'.es2
  ss : s.ss.map (·.2.2) = s'.ss.map (·.2.2)
  n1 : (s.ss.map (·.1)).Nodup
  n2 : (s'.ss.map (·.1)).Nodup
theorem enterB_eq {s s' : BS} {o dxo o' dxo' : Addr} {t : Ord} {kd : Str} (h : EqB s s') : EqB (enterB s o dxo t kd).1 (enterB s' o' dxo' t kd).1 ∧ (enterB s o dxo t kd).2 = (enterB s' o' dxo' t kd).2 := by
  have ho : ordsE (othE t.side s.es1 s.es2) = ordsE (othE t.side s'.es1 s'.es2) := by
    unfold othE
    split
    · exact h.e2
    · exact h.e1
  have hw : ordsE (ownE t.side s.es1 s.es2) = ordsE (ownE t.side s'.es1 s'.es2) := by
    unfold ownE
    split
    · exact h.e1
    · exact h.e2
  obtain ⟨k1, k2, k3, k4, k5⟩ := sub_ords (kd := kd) (t := t) (o := o) (dxo := dxo) (o' := o') (dxo' := dxo') (last := s'.last) ho hw
  have k6 := sub_last (kd := kd) (t := t) (o := o) (dxo := dxo) (o' := o') (dxo' := dxo') (last := s'.last) (own := ownE t.side s.es1 s.es2) (own' := ownE t.side s'.es1 s'.es2) ho
  unfold enterB
  rw [h.last]
  refine ⟨⟨k6, ?_, ?_, h.ss, h.n1, h.n2⟩, ?_⟩
  · show ordsE (if _ then _ else _) = ordsE (if _ then _ else _)
    split
    · exact k2
    · exact k1
  · show ordsE (if _ then _ else _) = ordsE (if _ then _ else _)
    split
    · exact k1
    · exact k2
  · show RepT.mk _ _ _ _ _ _ = RepT.mk _ _ _ _ _ _
    rw [k3, k4, k5]
theorem dropS_none {a : Addr} : ∀ {ss : List EntS}, a ∉ ss.map (·.1) → dropS a ss = ss := fun {ss} h => by
  unfold dropS
  exact List.filter_eq_self.mpr fun y hy => decide_eq_true fun z => h (List.mem_map.mpr ⟨y, hy, z⟩)
theorem first_cons (last : Option Int) (x : EntS) (xs : List EntS) : firstS last (x :: xs) = if reachedS x.2.2 last = true then some x else firstS last xs := by
  unfold firstS
  rw [List.find?_cons]
  cases reachedS x.2.2 last <;> rfl
theorem first_eq {last : Option Int} : ∀ {ss ss' : List EntS}, ss.map (·.2.2) = ss'.map (·.2.2) → (ss.map (·.1)).Nodup → (ss'.map (·.1)).Nodup →
    (firstS last ss = none → firstS last ss' = none) ∧ ∀ e, firstS last ss = some e → ∃ e', firstS last ss' = some e' ∧ e'.2.2 = e.2.2 ∧ (dropS e.1 ss).map (·.2.2) = (dropS e'.1 ss').map (·.2.2)
  | [], [], _, _, _ => ⟨fun h => h, fun e h => by cases h⟩
  | [], y :: ys, h, _, _ => by cases h
  | x :: xs, [], h, _, _ => by cases h
  | x :: xs, y :: ys, h, h1, h2 => by
    obtain ⟨k1, k2⟩ := List.cons.inj (show x.2.2 :: xs.map (·.2.2) = y.2.2 :: ys.map (·.2.2) from h)
    obtain ⟨m1, m2⟩ := List.nodup_cons.mp (show (x.1 :: xs.map (·.1)).Nodup from h1)
    obtain ⟨p1, p2⟩ := List.nodup_cons.mp (show (y.1 :: ys.map (·.1)).Nodup from h2)
    obtain ⟨i1, i2⟩ := first_eq (last := last) k2 m2 p2
    rw [first_cons, first_cons, k1]
    by_cases hr : reachedS y.2.2 last = true
    · rw [if_pos hr, if_pos hr]
      refine ⟨(fun z => by cases z), fun e he => ⟨y, rfl, ?_⟩⟩
      cases he
      refine ⟨k1.symm, ?_⟩
      have d1 : dropS x.1 (x :: xs) = xs := by
        have : dropS x.1 (x :: xs) = dropS x.1 xs := by
          unfold dropS
          rw [List.filter_cons, if_neg (by simp)]
        rw [this, dropS_none m1]
      have d2 : dropS y.1 (y :: ys) = ys := by
        have : dropS y.1 (y :: ys) = dropS y.1 ys := by
          unfold dropS
          rw [List.filter_cons, if_neg (by simp)]
        rw [this, dropS_none p1]
      rw [d1, d2, k2]
    · rw [if_neg hr, if_neg hr]
      refine ⟨i1, fun e he => ?_⟩
      obtain ⟨e', q1, q2, q3⟩ := i2 e he
      refine ⟨e', q1, q2, ?_⟩
      have he1 : e ∈ xs := List.mem_of_find?_eq_some he
      have he2 : e' ∈ ys := List.mem_of_find?_eq_some q1
      have n1 : ¬ x.1 = e.1 := fun z => m1 (List.mem_map.mpr ⟨e, he1, z.symm⟩)
      have n2 : ¬ y.1 = e'.1 := fun z => p1 (List.mem_map.mpr ⟨e', he2, z.symm⟩)
      have d1 : dropS e.1 (x :: xs) = x :: dropS e.1 xs := by
        unfold dropS
        rw [List.filter_cons, if_pos (decide_eq_true n1)]
      have d2 : dropS e'.1 (y :: ys) = y :: dropS e'.1 ys := by
        unfold dropS
        rw [List.filter_cons, if_pos (decide_eq_true n2)]
      rw [d1, d2, List.map_cons, List.map_cons, k1, q3]
theorem off_eq {s s' : BS} {e e' : EntS} (h : EqB s s') (k : (dropS e.1 s.ss).map (·.2.2) = (dropS e'.1 s'.ss).map (·.2.2)) : EqB (offS s e.1) (offS s' e'.1) :=
  ⟨h.last, h.e1, h.e2, k, (List.filter_sublist.map _).nodup h.n1, (List.filter_sublist.map _).nodup h.n2⟩
theorem EqB.symm {s s' : BS} (h : EqB s s') : EqB s' s := ⟨h.last.symm, h.e1.symm, h.e2.symm, h.ss.symm, h.n2, h.n1⟩
theorem first_sim {s s' : BS} (h : EqB s s') {e e' : EntS} (h1 : firstS s.last s.ss = some e) (h2 : firstS s'.last s'.ss = some e') : e'.2.2 = e.2.2 ∧ EqB (offS s e.1) (offS s' e'.1) := by
  rw [← h.last] at h2
  obtain ⟨e2, q1, q2, q3⟩ := (first_eq (last := s.last) h.ss h.n1 h.n2).2 e h1
  rw [h2] at q1
  cases q1
  exact ⟨q2, off_eq h q3⟩
/-- runs of the same length end alike -/
theorem trig_same {s s' : BS} (h : EqB s s') : ∀ (n : Nat) {u u' : BS} {reps reps' : List RepT}, TrigS s u reps → TrigS s' u' reps' → reps.length = n → reps'.length = n → EqB u u' ∧ reps = reps'
  | 0, u, u', reps, reps', h1, h2, l1, l2 => by
    cases h1 with
    | nil => cases h2 with
      | nil => exact ⟨h, rfl⟩
      | snoc o dxo a b => rw [List.length_append] at l2; cases l2
    | snoc o dxo a b => rw [List.length_append] at l1; cases l1
  | n + 1, u, u', reps, reps', h1, h2, l1, l2 => by
    cases h1 with
    | nil => cases l1
    | @snoc s1 r1 e o dxo a b => cases h2 with
      | nil => cases l2
      | @snoc s2 r2 e' o' dxo' a' b' =>
        rw [List.length_append] at l1 l2
        have m1 : r1.length = n := Nat.succ.inj l1
        have m2 : r2.length = n := Nat.succ.inj l2
        obtain ⟨E, er⟩ := trig_same h n a a' m1 m2
        obtain ⟨k1, k2⟩ := first_sim E b b'
        have hE := enterB_eq (o := o) (dxo := dxo) (o' := o') (dxo' := dxo') (t := ordS e.2.2) (kd := kdS e.2.2) k2
        rw [k1]
        exact ⟨hE.1, by rw [er, hE.2]⟩
/-- a run has a beginning of each length -/
theorem trig_cut {s u : BS} {reps : List RepT} (h : TrigS s u reps) : ∀ k, k < reps.length → ∃ v r, TrigS s v r ∧ r.length = k ∧ firstS v.last v.ss ≠ none := by
  induction h with
  | nil => exact fun k hk => by cases hk
  | @snoc s1 r1 e o dxo a b ih =>
    intro k hk
    rw [List.length_append] at hk
    have hk' : k < r1.length + 1 := hk
    rcases Nat.lt_or_ge k r1.length with z | z
    · exact ih k z
    · exact ⟨s1, r1, a, by omega, by rw [b]; exact fun z => by cases z⟩
/-- runs to the end end alike -/
theorem trig_uniq {s s' u u' : BS} {reps reps' : List RepT} (h : EqB s s') (h1 : TrigS s u reps) (h2 : TrigS s' u' reps') (f1 : firstS u.last u.ss = none) (f2 : firstS u'.last u'.ss = none) : EqB u u' ∧ reps = reps' := by
  rcases Nat.lt_trichotomy reps.length reps'.length with z | z | z
  · exfalso
    obtain ⟨v, r, a, l, hn⟩ := trig_cut h2 _ z
    obtain ⟨E, _⟩ := trig_same h _ h1 a rfl l
    refine hn ?_
    rw [← E.last]
    exact (first_eq E.ss E.n1 E.n2).1 f1
  · exact trig_same h _ h1 h2 rfl z.symm
  · exfalso
    obtain ⟨v, r, a, l, hn⟩ := trig_cut h1 _ z
    obtain ⟨E, _⟩ := trig_same h _ a h2 l rfl
    refine hn ?_
    rw [E.last]
    exact (first_eq E.ss.symm E.n2 E.n1).1 f2

structure SlAt (H : Hp) (SD : Addr) (ss : List EntS) : Prop where
  li : H SD = some (.lst (refsS ss))
  row : ∀ e, e ∈ ss → H e.1 = some (.tup (rowS e.2.2))
  nd : (ss.map (·.1)).Nodup
theorem SlAt.same {H H' : Hp} {SD : Addr} {ss : List EntS} (h : SlAt H SD ss) (e : Same H H') : SlAt H' SD ss := ⟨e _ _ h.li, fun x hx => e _ _ (h.row x hx), h.nd⟩
theorem SlAt.dp {K : PySem.W.Frag} {H : Hp} : ∀ {ss : List EntS}, (∀ e, e ∈ ss → H e.1 = some (.tup (rowS e.2.2))) → DpAll K H (refsS ss) (ss.map fun e => layQ e.2.2)
  | [], _ => .nil
  | e :: ss, h => .cons (rowS_dp (h e List.mem_cons_self)) (SlAt.dp fun x hx => h x (List.mem_cons_of_mem _ hx))
theorem dropS_mid {pre post : List EntS} {e : EntS} (h : ((pre ++ e :: post).map (·.1)).Nodup) : dropS e.1 (pre ++ e :: post) = pre ++ post := by
  rw [List.map_append, List.map_cons] at h
  obtain ⟨h1, h2, h3⟩ := List.nodup_append.mp h
  obtain ⟨m1, _⟩ := List.nodup_cons.mp h2
  have e1 : dropS e.1 pre = pre := dropS_none fun z => h3 _ z _ List.mem_cons_self rfl
  have e2 : dropS e.1 (e :: post) = post := by
    have : dropS e.1 (e :: post) = dropS e.1 post := by
      unfold dropS
      rw [List.filter_cons, if_neg (by simp)]
    rw [this, dropS_none m1]
  unfold dropS at e1 e2 ⊢
  rw [List.filter_append, e1, e2]
theorem remS_of {K : PySem.W.Frag} {H : Hp} {SD : Addr} {ss : List EntS} {e : EntS} {Q : VK} (h : SlAt H SD ss) (hG : ∀ y, y ∈ ss → PyData.strOk y.2.2.house = true ∧ PyData.strOk y.2.2.side = true) (asc : ss.Pairwise fun x y => x.2.2.number < y.2.2.number) (he : e ∈ ss) (q : Q .non (upd H SD (.lst (refsS (dropS e.1 ss))))) : rRemD K (.ref SD) [.ref e.1] H Q := by
  obtain ⟨pre, post, hpp⟩ := List.append_of_mem he
  have hd : dropS e.1 ss = pre ++ post := by rw [hpp]; exact dropS_mid (by rw [← hpp]; exact h.nd)
  have hsh : SeqAt.shaped (.list (ss.map fun y => layQ y.2.2)) = true := by
    have := (layD_Q.list).shaped (by decide) (x := ss.map fun y => y.2.2) (fun o ho => by
      obtain ⟨y, hy, rfl⟩ := List.mem_map.mp ho
      exact hG y hy)
    rw [List.map_map] at this
    exact this
  refine ⟨(), SD, refsS ss, .ref e.1, layQ e.2.2, ss.map fun y => layQ y.2.2, pre.length, layQ e.2.2, rfl, rfl, h.li, SlAt.dp h.row, rowS_dp (h.row e he), hsh, layD_Q.shaped (by decide) (hG e he), ?_, ?_, fun m z' hm hz => ?_, ?_⟩
  · rw [hpp, List.map_append, List.getElem?_append_right (by rw [List.length_map]; exact Nat.le_refl _), List.length_map, Nat.sub_self]
    rfl
  · rw [layD_Q.eqv]
    exact decide_eq_true rfl
  · rw [hpp, List.map_append, List.getElem?_append_left (by rw [List.length_map]; exact hm), List.getElem?_map] at hz
    obtain ⟨y, hy, rfl⟩ := Option.map_eq_some_iff.mp hz
    rw [layD_Q.eqv]
    refine decide_eq_false fun z => ?_
    have hyp := List.mem_of_getElem? hy
    rw [hpp] at asc
    have := (List.pairwise_append.mp asc).2.2 y hyp e List.mem_cons_self
    rw [z] at this
    omega
  · have e1 : (refsS ss).eraseIdx pre.length = refsS (dropS e.1 ss) := by
      rw [hd, hpp]
      unfold refsS
      rw [List.map_append, List.map_cons, List.eraseIdx_append_of_length_le (by rw [List.length_map]; exact Nat.le_refl _), List.length_map, Nat.sub_self, List.map_append]
      rfl
    rw [e1]
    exact q
theorem side_ok {s : Str} (h : s = "buy" ∨ s = "sell") : PyData.strOk s = true := by
  rcases h with z | z <;> rw [z] <;> decide +kernel

def worldD (D SD : Addr) (last : Option Int) : List (Key × V) := [(.inr "orders", .ref D), (.inr "stops", .ref SD), (.inr "last", optV last)]
theorem world_orders {H : Hp} {W D SD : Addr} {last : Option Int} (h : H W = some (.dK (worldD D SD last))) : DGet H W (.str "orders") (some (.ref D)) := DGet.k (k := Sum.inr "orders") h
theorem world_stops {H : Hp} {W D SD : Addr} {last : Option Int} (h : H W = some (.dK (worldD D SD last))) : DGet H W (.str "stops") (some (.ref SD)) := DGet.k (k := Sum.inr "stops") h
theorem world_last {H : Hp} {W D SD : Addr} {last : Option Int} (h : H W = some (.dK (worldD D SD last))) : DGet H W (.str "last") (some (optV last)) := DGet.k (k := Sum.inr "last") h
theorem world_put {H : Hp} {W D SD : Addr} {last last' : Option Int} {R : Hp → Prop} (h : H W = some (.dK (worldD D SD last))) (q : R (upd H W (.dK (worldD D SD last')))) : ∃ H', V.ref W = V.ref W ∧ DPut H W (.str "last") (optV last') H' ∧ R H' :=
  ⟨_, rfl, DPut.k (k := Sum.inr "last") h (small1000 (by show 3 ≤ 1000; decide)), q⟩
structure LawW (H : Hp) (W D SD : Addr) (L : List Ent) (ss : List EntS) (last : Option Int) : Prop where
  w : H W = some (.dK (worldD D SD last))
  a : LoAt H D L
  s : SlAt H SD ss
  l : LawL L
  nDS : D ≠ SD
  nR : ∀ e, e ∈ L → e.1 ≠ SD
  asc : ss.Pairwise fun x y => x.2.2.number < y.2.2.number
  gs : ∀ e, e ∈ ss → (e.2.2.side = "buy" ∨ e.2.2.side = "sell") ∧ 1 ≤ e.2.2.quantity ∧ e.2.2.quantity ≤ 400 ∧ PyData.strOk e.2.2.house = true
  nn : ∀ e, e ∈ ss → e.2.2.number ∉ L.map fun e => e.2.2.number
theorem LawW.same {H H' : Hp} {W D SD : Addr} {L : List Ent} {ss : List EntS} {last : Option Int} (h : LawW H W D SD L ss last) (e : Same H H') : LawW H' W D SD L ss last := ⟨e _ _ h.w, h.a.same e, h.s.same e, h.l, h.nDS, h.nR, h.asc, h.gs, h.nn⟩
def bsL (L : List Ent) (ss : List EntS) (last : Option Int) : BS := ⟨last, 0, BL "buy" L, BL "sell" L, ss⟩
def TellAt (H : Hp) (t : Addr × Addr × RepT) : Prop := ∃ fs, Tups encFill H t.1 fs t.2.2.fills ∧ H t.2.1 = some (.lst (t.2.2.gone.map V.int))
theorem TellAt.same {H H' : Hp} {t : Addr × Addr × RepT} (h : TellAt H t) (e : Same H H') : TellAt H' t := by
  obtain ⟨fs, h1, h2⟩ := h
  exact ⟨fs, h1.same e, e _ _ h2⟩
def outL (z D SD : Addr) (L : List Ent) : Prop := z ≠ D ∧ z ≠ SD ∧ z ∉ L.map (·.1)
def readyS (last : Option Int) (ss : List EntS) : List EntS := ss.filter fun e => reachedS e.2.2 last
theorem ready_first {last : Option Int} : ∀ ss : List EntS, firstS last ss = (readyS last ss).head?
  | [] => rfl
  | x :: xs => by
    rw [first_cons]
    unfold readyS
    rw [List.filter_cons]
    cases reachedS x.2.2 last with
    | true => rfl
    | false => exact ready_first xs
theorem asc_inj : ∀ {ss : List EntS}, (ss.Pairwise fun x y => x.2.2.number < y.2.2.number) → ∀ {x y : EntS}, x ∈ ss → y ∈ ss → x.2.2.number = y.2.2.number → x = y
  | [], _, _, _, h, _, _ => by cases h
  | a :: r, h, x, y, hx, hy, e => by
    obtain ⟨h1, h2⟩ := List.pairwise_cons.mp h
    rcases List.mem_cons.mp hx with rfl | kx
    · rcases List.mem_cons.mp hy with rfl | ky
      · rfl
      · have := h1 y ky
        omega
    · rcases List.mem_cons.mp hy with rfl | ky
      · have := h1 x kx
        omega
      · exact asc_inj h2 kx ky e
theorem sub_lastF {kd : Str} {t : Ord} {o dxo : Addr} {last : Option Int} {oth own : List Ent} : (subF kd t o dxo last oth own).last = lastF last (subF kd t o dxo last oth own).fills := by
  unfold subF
  split
  · rfl
  · exact runM_last (l0 := last) _ (m := startM t last oth) rfl
theorem enterB_L {L1 L2 : List Ent} {s1 : List EntS} {l1 : Option Int} {a o : Addr} {t : Ord} {kd : Str} {R : SubR} (hs : t.side = "buy" ∨ t.side = "sell") (hR : R = subF kd t o 0 l1 (BL (otherS t.side) L1) (BL t.side L1)) (h1 : R.oth = BL (otherS t.side) L2) (h2 : R.own = BL t.side L2) :
    enterB (offS (bsL L1 s1 l1) a) o 0 t kd = (bsL L2 (dropS a s1) R.last, ⟨t.number, t.house, t.side, R.fills, R.gone, R.rest⟩) := by
  rcases hs with z | z
  · have ho : otherS t.side = "sell" := by rw [z]; exact if_pos buyS_buy
    have e1 : othE t.side (bsL L1 s1 l1).es1 (bsL L1 s1 l1).es2 = BL (otherS t.side) L1 := by rw [ho, z]; exact if_pos buyS_buy
    have e2 : ownE t.side (bsL L1 s1 l1).es1 (bsL L1 s1 l1).es2 = BL t.side L1 := by rw [z]; exact if_pos buyS_buy
    unfold enterB
    show (BS.mk (subF kd t o 0 l1 (othE t.side (bsL L1 s1 l1).es1 (bsL L1 s1 l1).es2) (ownE t.side (bsL L1 s1 l1).es1 (bsL L1 s1 l1).es2)).last 0 _ _ _, _) = _
    rw [show (offS (bsL L1 s1 l1) a).es1 = (bsL L1 s1 l1).es1 from rfl, show (offS (bsL L1 s1 l1) a).es2 = (bsL L1 s1 l1).es2 from rfl, show (offS (bsL L1 s1 l1) a).last = l1 from rfl, e1, e2, ← hR, h1, h2, z, if_pos buyS_buy, if_pos buyS_buy, show otherS "buy" = "sell" from if_pos buyS_buy]
    rfl
  · have hb : ¬ buyS "sell" = true := by rw [buyS_sell]; exact Bool.false_ne_true
    have ho : otherS t.side = "buy" := by rw [z]; exact if_neg hb
    have e1 : othE t.side (bsL L1 s1 l1).es1 (bsL L1 s1 l1).es2 = BL (otherS t.side) L1 := by rw [ho, z]; exact if_neg hb
    have e2 : ownE t.side (bsL L1 s1 l1).es1 (bsL L1 s1 l1).es2 = BL t.side L1 := by rw [z]; exact if_neg hb
    unfold enterB
    rw [show (offS (bsL L1 s1 l1) a).es1 = (bsL L1 s1 l1).es1 from rfl, show (offS (bsL L1 s1 l1) a).es2 = (bsL L1 s1 l1).es2 from rfl, show (offS (bsL L1 s1 l1) a).last = l1 from rfl, e1, e2, ← hR, h1, h2, z, if_neg hb, if_neg hb, show otherS "sell" = "buy" from if_neg hb]
    rfl
def sp_law_triggered (K : PySem.W.Frag) : Sp := fun vs H Q _ => ∃ (_ : Unit) (W D SD : Addr) (L : List Ent) (ss : List EntS) (last : Option Int), vs = [.ref W] ∧ LawW H W D SD L ss last ∧ L.length + ss.length ≤ 200 ∧ ss.length ≤ 30 ∧
  ∀ (reps : List RepT) (R : Addr) (ps : List Addr) (ts : List (Addr × Addr × RepT)) (L' : List Ent) (ss' : List EntS) (last' : Option Int) (H' : Hp), TrigS (bsL L ss last) (bsL L' ss' last') reps → firstS last' ss' = none → LawW H' W D SD L' ss' last' → L'.length + ss'.length ≤ L.length + ss.length → H R = none →
    Tups encT H' R ps ts → ts.map (·.2.2) = reps → (∀ t, t ∈ ts → TellAt H' t) → (∀ z v, z ≠ W → outL z D SD L → H z = some v → H' z = some v ∧ z ∉ L'.map (·.1)) → Q (.ref R) H'
set_option maxHeartbeats 0 in
theorem ok_law_triggered (T : Txt K mg) [TB : TabsOk T base] : FnOk P w K mg base CX0 5 T.f_law_triggered T.d_law_triggered ["world"] (sp_law_triggered K) := by
  refine T.F_law_triggered.ok sc_law_triggered (fun vs H Q E h => ?_) (fun cdv A outer s H vs Q E hr h => ?_)
  · obtain ⟨_, W, D, SD, L, ss, last, rfl, _⟩ := h
    rfl
  · obtain ⟨_, W, D, SD, L, ss, last, rfl, hW, hsz, hsl, q⟩ := h
    have G_law_enter : FnOk P w K mg base CX0 4 T.f_law_enter T.d_law_enter ["orders", "number", "house", "side", "limit", "quantity", "kind", "shown"] (sp_law_enter K) := ok_law_enter T
    have G_law_last : FnOk P w K mg base CX0 1 T.f_law_last T.d_law_last ["last", "due"] (sp_law_last K) := ok_law_last T
    have G_law_reached : FnOk P w K mg base CX0 1 T.f_law_reached T.d_law_reached ["stop", "last"] (sp_law_reached K) := ok_law_reached T
    refine ⟨_, (pss_cons (ps_set (i := 1) sc_law_triggered.nd rfl (Or.inl rfl) (pe_lst pa_nil))
    (pss_cons (ps_for PassesOwn.never rfl (pi_range1 (by rfl) T.z_range (pa_cons pe_int pa_nil)) (pg_name (i := 2) sc_law_triggered.nd rfl (Or.inl rfl))
      (pss_cons (ps_setLc (i := 3) (own := [("stop", 4)]) (g := gName 4) rfl sc_law_triggered.nd rfl rfl (sw_true rfl rfl rfl (by decide +kernel)) (pi_list (pe_dget (hu_of hr) (pv 0) pe_str (fun _ _ => rfl))) (blkOk_by (own := [("stop", 4)]) (N := N_law_triggered) (sc := defScope s_law_triggered) (by decide +kernel)) (fun _ _ _ _ _ => (pg_name (i := 4) sc_law_triggered.nd rfl (Or.inl rfl))) (fun _ _ _ _ _ => pts_one (pt_val (pe_call G_law_reached (hr.mono (by decide)) (by rfl) T.m_law_reached T.F_law_reached.kp T.b_law_reached .nil pass0 (pa_cons (pv 4) (pa_cons (pe_dget (hu_of hr) (pv 0) pe_str (fun _ _ => rfl)) pa_nil))))) (fun _ _ _ _ _ => (pv 4)))
      (pss_cons (ps_if (pt_not (pt_truth (pv 3) (by intro _; rfl)))
        (pss_one (ps_ret (pv 1)))
        pss_nil)
      (pss_cons (ps_set (i := 4) sc_law_triggered.nd rfl (Or.inl rfl) (pe_ix ix_list (pv 3) pe_int (fun _ _ => rfl)))
      (pss_cons (ps_for PassesOwn.never rfl (pi_list (pv 3)) (pg_name (i := 5) sc_law_triggered.nd rfl (Or.inl rfl))
        (pss_one (ps_if (pt_cmpR op_lt (pe_ix ix_tup (pv 5) pe_int (fun _ _ => rfl)) (pe_ix ix_tup (pv 4) pe_int (fun _ _ => rfl)) (nomark _))
          (pss_one (ps_set (i := 4) sc_law_triggered.nd rfl (Or.inl rfl) (pv 5)))
          pss_nil)))
      (pss_cons (ps_expr (pe_bm PySem.F.plainAttrs_list PySem.F.slot_list_remove PySem.F.type_list_remove (mt_removeD (hu65 hr)) (pe_dget (hu_of hr) (pv 0) pe_str (fun _ _ => rfl)) (pa_cons (pv 4) pa_nil)))
      (pss_cons (ps_set (i := 6) sc_law_triggered.nd rfl (Or.inl rfl) pe_str)
      (C8.pss_cut (ps_if (pt_cmpR op_isN (pe_ix ix_tup (pv 4) pe_int (fun _ _ => rfl)) pe_non (nomark _))
        (pss_one (ps_set (i := 6) sc_law_triggered.nd rfl (Or.inl rfl) pe_str))
        pss_nil)
      (pss_cons (ps_set (i := 7) sc_law_triggered.nd rfl (Or.inl rfl) (pe_call G_law_enter hr (by rfl) T.m_law_enter T.F_law_enter.kp T.b_law_enter .nil pass0 (pa_cons (pe_dget (hu_of hr) (pv 0) pe_str (fun _ _ => rfl)) (pa_cons (pe_ix ix_tup (pv 4) pe_int (fun _ _ => rfl)) (pa_cons (pe_ix ix_tup (pv 4) pe_int (fun _ _ => rfl)) (pa_cons (pe_ix ix_tup (pv 4) pe_int (fun _ _ => rfl)) (pa_cons (pe_ix ix_tup (pv 4) pe_int (fun _ _ => rfl)) (pa_cons (pe_ix ix_tup (pv 4) pe_int (fun _ _ => rfl)) (pa_cons (pv 6) (pa_cons pe_int pa_nil))))))))))
      (pss_cons (ps_dput (hu_of hr) (pv 0) pe_str (pe_call G_law_last (hr.mono (by decide)) (by rfl) T.m_law_last T.F_law_last.kp T.b_law_last .nil pass0 (pa_cons (pe_dget (hu_of hr) (pv 0) pe_str (fun _ _ => rfl)) (pa_cons (pv 7) pa_nil))) rfl)
      (pss_one (ps_expr (pe_bm PySem.F.plainAttrs_list PySem.F.slot_list_append PySem.F.type_list_append mt_append (pv 1) (pa_cons (pe_op op_catT (pe_tup (pa_cons (pe_ix ix_tup (pv 4) pe_int (fun _ _ => rfl)) (pa_cons (pe_ix ix_tup (pv 4) pe_int (fun _ _ => rfl)) (pa_cons (pe_ix ix_tup (pv 4) pe_int (fun _ _ => rfl)) pa_nil)))) (pv 7)) pa_nil))))))))))))))
    (pss_one (ps_ret (pv 1))))), ?_⟩
    walk_at "st"
    intro R nR
    have sR := same_upd (o := .lst []) nR
    have hWR := sR _ _ hW.w
    walk_at "st"
    refine for_range (lo := 0) (n := (40 : Int).toNat) (fun i σ H' => ∃ (v2 v3 v4 v5 v6 v7 : Option V) (L1 : List Ent) (s1 : List EntS) (l1 : Option Int) (reps : List RepT) (ps : List Addr) (ts : List (Addr × Addr × RepT)), σ = [some (.ref W), some (.ref R), v2, v3, v4, v5, v6, v7] ∧ TrigS (bsL L ss last) (bsL L1 s1 l1) reps ∧ LawW H' W D SD L1 s1 l1 ∧ L1.length + s1.length ≤ L.length + ss.length ∧ s1.length + i ≤ ss.length ∧
      Tups encT H' R ps ts ∧ ts.map (·.2.2) = reps ∧ ts.length ≤ i ∧ (∀ t, t ∈ ts → TellAt H' t ∧ outL t.1 D SD L1 ∧ outL t.2.1 D SD L1 ∧ t.1 ≠ R ∧ t.2.1 ≠ R) ∧ outL R D SD L1 ∧ (∀ z v, z ≠ W → outL z D SD L → H z = some v → H' z = some v ∧ z ∉ L1.map (·.1))) ?_ ?_ ?_
    · refine ⟨none, none, none, none, none, none, L, ss, last, [], [], [], rfl, .nil _, ⟨sR _ _ hW.w, hW.a.same sR, hW.s.same sR, hW.l, hW.nDS, hW.nR, hW.asc, hW.gs, hW.nn⟩, Nat.le_refl _, Nat.le_refl _, Tups.nil upd_same, rfl, Nat.le_refl _, (fun t ht => by cases ht), ⟨fun z => ?_, fun z => ?_, fun z => ?_⟩, fun z v h1 h2 hz => ⟨sR _ _ hz, h2.2.2⟩⟩
      · rw [z, hW.a.li] at nR; cases nR
      · rw [z, hW.s.li] at nR; cases nR
      · obtain ⟨u, hu, eu⟩ := List.mem_map.mp z
        rw [← eu, hW.a.row u hu] at nR; cases nR
    · rintro i σ H' hi ⟨v2, v3, v4, v5, v6, v7, L1, s1, l1, reps, ps, ts, rfl, hT, hW1, hsz1, hsl1, hTu, hts, htl, hte, hRo, hfr⟩
      have g1 := world_stops hW1.w
      have hSS := SqL.of (K := K) hW1.s.li
      walk_at "st"
      intro RD nRD
      have gL := world_last hW1.w
      refine lc_list (K := K) (a := SD) (xs := refsS s1) (fun i H2 => H2 RD = some (.lst (refsS (readyS l1 (s1.take i)))) ∧ Same H' H2) ⟨upd_same, same_upd nRD⟩ (fun i H2 _ ⟨_, e⟩ => SqL.of (e _ _ hW1.s.li)) ?_ ?_
      · rintro j v H2 hv ⟨hk, e2⟩
        obtain ⟨e, he, rfl⟩ := refsS_at hv
        have hmem := List.mem_of_getElem? he
        have hrow := e2 _ _ (hW1.s.row e hmem)
        have gL2 := world_last (e2 _ _ hW1.w)
        have hj := (List.getElem?_eq_some_iff.mp he).1
        have hst : readyS l1 (s1.take (j + 1)) = readyS l1 (s1.take j) ++ if reachedS e.2.2 l1 = true then [e] else [] := by
          rw [take_succ he]
          unfold readyS
          rw [List.filter_append, List.filter_cons, List.filter_nil]
        rw [hst]
        have hrl : (refsS (readyS l1 (s1.take j))).length < sizeLine := small1000 (by
          show (List.map _ _).length ≤ _
          rw [List.length_map]
          have := List.length_filter_le (fun e : EntS => reachedS e.2.2 l1) (s1.take j)
          rw [List.length_take] at this
          unfold readyS
          omega)
        walk_at "st"
        refine ⟨(), e.1, e.2.2, l1, rfl, hrow, ?_⟩
        cases hre : reachedS e.2.2 l1 with
        | true =>
          rw [if_pos rfl]
          have hra : refsS (readyS l1 (s1.take j) ++ [e]) = refsS (readyS l1 (s1.take j)) ++ [.ref e.1] := List.map_append ..
          rw [hra]
          walk_at "st"
          exact same_over e2 nRD
        | false =>
          rw [if_neg Bool.false_ne_true, List.append_nil]
          walk_at "st"
          exact e2
      · rintro H2 ⟨hk, e2⟩
        have hsl : (refsS s1).length = s1.length := List.length_map ..
        rw [hsl, List.take_of_length_le (Nat.le_refl _)] at hk
        have hkS := SqL.of (K := K) hk
        have hff := ready_first (last := l1) s1
        have hrs : (readyS l1 s1).Sublist s1 := List.filter_sublist
        have hasc := hW1.asc.sublist hrs
        have hrow2 : ∀ e, e ∈ s1 → H2 e.1 = some (.tup (rowS e.2.2)) := fun e he => e2 _ _ (hW1.s.row e he)
        cases hrd : readyS l1 s1 with
        | nil =>
          rw [hrd] at hk hkS hff
          walk_at "st"
          exact q reps R ps ts L1 s1 l1 H2 hT hff (hW1.same e2) hsz1 nR (hTu.same e2) hts (fun t ht => (hte t ht).1.same e2) fun z v h1 h2 hz => ⟨e2 _ _ (hfr z v h1 h2 hz).1, (hfr z v h1 h2 hz).2⟩
        | cons e rest =>
          rw [hrd] at hk hkS hff hrs hasc
          have heS : e ∈ s1 := hrs.subset List.mem_cons_self
          have a0 : atI (refsS (e :: rest)) 0 = some (.ref e.1) := at_of (j := 0) rfl rfl
          have hleast : ∀ y, y ∈ e :: rest → ¬ y.2.2.number < e.2.2.number := fun y hy hlt => by
            rcases List.mem_cons.mp hy with k | k
            · rw [k] at hlt; omega
            · have := (List.pairwise_cons.mp hasc).1 y k
              omega
          walk_at "st"
          refine for_list (K := K) (a := RD) (xs := refsS (e :: rest)) (fun j σ H3 => H3 = H2 ∧ ∃ v5 : Option V, σ = [some (.ref W), some (.ref R), some (.int (0 + i)), some (.ref RD), some (.ref e.1), v5, v6, v7]) ⟨rfl, v5, rfl⟩ (fun j σ H3 _ ⟨k, _⟩ => by rw [k]; exact hkS) ?_ ?_
          · rintro j v σ H3 hv ⟨rfl, v5, rfl⟩
            obtain ⟨y, hy, rfl⟩ := refsS_at hv
            have hmy := List.mem_of_getElem? hy
            have hyS := SqT.of (K := K) (hrow2 y (hrs.subset hmy))
            have heS2 := SqT.of (K := K) (hrow2 e heS)
            have c0 : atI (rowS y.2.2) 0 = some (.int y.2.2.number) := rfl
            have d0 : atI (rowS e.2.2) 0 = some (.int e.2.2.number) := rfl
            walk_at "st"
            refine iteB (fun hlt => absurd (of_decide_eq_true hlt) (hleast y hmy)) (fun _ => ?_)
            exact ⟨rfl, _, rfl⟩
          · rintro σ H9 ⟨k9, v5, rfl⟩
            rw [k9]
            clear k9 H9
            have g2 := world_stops (e2 _ _ hW1.w)
            have hSl2 := e2 _ _ hW1.s.li
            walk_at "st"
            delta tNil
            have hGS : ∀ y, y ∈ s1 → PyData.strOk y.2.2.house = true ∧ PyData.strOk y.2.2.side = true := fun y hy => ⟨(hW1.gs y hy).2.2.2, side_ok (hW1.gs y hy).1⟩
            refine remS_of (hW1.s.same e2) hGS hW1.asc heS ?_
            have W2 := hW1.same e2
            have hdl := dropS_len heS
            have hDSD := hW1.nDS
            have hWS : W ≠ SD := fun z => by have := W2.w; rw [z, W2.s.li] at this; cases this
            have nt : ∀ {z : Addr} {xs : List V}, H2 z = some (.tup xs) → z ≠ SD := fun h z => by rw [z, W2.s.li] at h; cases h
            have W3 : LawW (upd H2 SD (.lst (refsS (dropS e.1 s1)))) W D SD L1 (dropS e.1 s1) l1 := ⟨(upd_ne hWS).trans W2.w, W2.a.other hDSD W2.nR, ⟨upd_same, fun y hy => (upd_ne (nt (W2.s.row y (dropS_mem hy)))).trans (W2.s.row y (dropS_mem hy)), (List.filter_sublist.map _).nodup W2.s.nd⟩, W2.l, W2.nDS, W2.nR, W2.asc.sublist List.filter_sublist, fun y hy => W2.gs y (dropS_mem hy), fun y hy => W2.nn y (dropS_mem hy)⟩
            have hrow3 : upd H2 SD (.lst (refsS (dropS e.1 s1))) e.1 = some (.tup (rowS e.2.2)) := (upd_ne (nt (W2.s.row e heS))).trans (W2.s.row e heS)
            have ge := hW1.gs e heS
            have gn := hW1.nn e heS
            have hRS : R ≠ SD := hRo.2.1
            have hTu3 : Tups encT (upd H2 SD (.lst (refsS (dropS e.1 s1)))) R ps ts := (hTu.same e2).other W2.s.li hRS
            have hte3 : ∀ t, t ∈ ts → TellAt (upd H2 SD (.lst (refsS (dropS e.1 s1)))) t := fun t ht => by
              obtain ⟨⟨fs, t1, t2⟩, o1, o2, _⟩ := hte t ht
              exact ⟨fs, (t1.same e2).other W2.s.li o1.2.1, (upd_ne o2.2.1).trans (e2 _ _ t2)⟩
            have hfr3 : ∀ z v, z ≠ W → outL z D SD L → H z = some v → upd H2 SD (.lst (refsS (dropS e.1 s1))) z = some v ∧ z ∉ L1.map (·.1) := fun z v h1 h2 hz => ⟨(upd_ne h2.2.1).trans (e2 _ _ (hfr z v h1 h2 hz).1), (hfr z v h1 h2 hz).2⟩
            have hsd3 : upd H2 SD (.lst (refsS (dropS e.1 s1))) SD = some (.lst (refsS (dropS e.1 s1))) := upd_same
            generalize upd H2 SD (.lst (refsS (dropS e.1 s1))) = H3 at W3 hrow3 hTu3 hte3 hfr3 hsd3 ⊢
            have hrow3S := SqT.of (K := K) hrow3
            have b0 : atI (rowS e.2.2) 0 = some (.int e.2.2.number) := rfl
            have b1 : atI (rowS e.2.2) 1 = some (.str e.2.2.house) := rfl
            have b2 : atI (rowS e.2.2) 2 = some (.str e.2.2.side) := rfl
            have b4 : atI (rowS e.2.2) 4 = some (optV e.2.2.price) := rfl
            have b5 : atI (rowS e.2.2) 5 = some (.int e.2.2.quantity) := rfl
            have g3 := world_orders W3.w
            have g4 := world_last W3.w
            walk_at "st"
            refine ⟨fun σ' H4 => H4 = H3 ∧ σ' = [some (.ref W), some (.ref R), some (.int (0 + i)), some (.ref RD), some (.ref e.1), v5, some (.str (kdS e.2.2)), v7], ?_, ?_⟩
            · have hk1 : kdS e.2.2 = match e.2.2.price with | none => "now" | some _ => "rest" := rfl
              cases hpr : e.2.2.price with
              | none =>
                rw [hpr] at b4 hk1
                walk_at "st"
                rw [hk1]
                exact rfl
              | some pp =>
                rw [hpr] at b4 hk1
                walk_at "st"
                rw [hk1]
                exact rfl
            · rintro σ' H4 ⟨k4, rfl⟩
              rw [k4]
              clear k4 H4
              walk_at "st"
              refine ⟨(), D, L1, ordS e.2.2, kdS e.2.2, l1, rfl, W3.a, W3.l, ge.1, by omega, ge.2.1, ge.2.2.1, Int.le_refl 0, kdS_price, ge.2.2.2, gn, fun R' pt fl rm fs o L2 H8 hR' hpt hT' hG' hLo' hlaw' hoth hown hlen' hsub nfl nrm npt hfr8 => ?_⟩
              have hptS := SqT.of (K := K) hpt
              have hWD : W ≠ D := fun z => by have := W3.w; rw [z, W3.a.li] at this; cases this
              have hWL : W ∉ L1.map (·.1) := fun z => by
                obtain ⟨u, hu, eu⟩ := List.mem_map.mp z
                have := W3.w
                rw [← eu, W3.a.row u hu] at this
                cases this
              have hSL : SD ∉ L1.map (·.1) := fun z => by
                obtain ⟨u, hu, eu⟩ := List.mem_map.mp z
                exact W3.nR u hu eu
              have ntL : ∀ {z : Addr} {xs : List V}, H3 z = some (.tup xs) → z ≠ D ∧ z ∉ L1.map (·.1) := fun h => by
                refine ⟨fun z => ?_, fun z => ?_⟩
                · rw [z, W3.a.li] at h; cases h
                · obtain ⟨u, hu, eu⟩ := List.mem_map.mp z
                  rw [← eu, W3.a.row u hu] at h; cases h
              have hW8 := hfr8 _ _ hWD hWL W3.w
              have gL8 := world_last hW8
              have hS8 : SlAt H8 SD (dropS e.1 s1) := ⟨hfr8 _ _ W3.nDS.symm hSL W3.s.li, fun y hy => hfr8 _ _ (ntL (W3.s.row y hy)).1 (ntL (W3.s.row y hy)).2 (W3.s.row y hy), W3.s.nd⟩
              have hrow8 := hfr8 _ _ (ntL hrow3).1 (ntL hrow3).2 hrow3
              have hTu8 : Tups encT H8 R ps ts := ⟨hfr8 _ _ hRo.1 hRo.2.2 hTu3.lst, hTu3.len, fun j a x h1 h2 => hfr8 _ _ (ntL (hTu3.row j a x h1 h2)).1 (ntL (hTu3.row j a x h1 h2)).2 (hTu3.row j a x h1 h2)⟩
              have hlast : R'.last = lastF l1 R'.fills := by
                rw [hR']
                exact sub_lastF
              walk_at "st"
              refine ⟨(), pt, fl, rm, R'.rest, l1, fs, R'.fills, rfl, hpt, hT', ?_⟩
              walk_at "st"
              refine world_put (last' := lastF l1 R'.fills) hW8 ?_
              rw [← hlast]
              have ntW : ∀ {z : Addr} {xs : List V}, H8 z = some (.tup xs) → z ≠ W := fun h z => by rw [z, hW8] at h; cases h
              have nlW : ∀ {z : Addr} {xs : List V}, H8 z = some (.lst xs) → z ≠ W := fun h z => by rw [z, hW8] at h; cases h
              have hE := enterB_L (a := e.1) (s1 := s1) (o := o) (t := ordS e.2.2) (kd := kdS e.2.2) ge.1 hR' hoth hown
              have hwt : ∀ {z : Addr} {v : HO}, z ≠ W → H8 z = some v → upd H8 W (.dK (worldD D SD R'.last)) z = some v := fun h1 h2 => (upd_ne h1).trans h2
              have hW10 : upd H8 W (.dK (worldD D SD R'.last)) W = some (.dK (worldD D SD R'.last)) := upd_same
              generalize upd H8 W (.dK (worldD D SD R'.last)) = H10 at hwt hW10 ⊢
              have hpt10 := hwt (ntW hpt) hpt
              have hrow10 := hwt (ntW hrow8) hrow8
              have hTu10 : Tups encT H10 R ps ts := ⟨hwt (nlW hTu8.lst) hTu8.lst, hTu8.len, fun j a x h1 h2 => hwt (ntW (hTu8.row j a x h1 h2)) (hTu8.row j a x h1 h2)⟩
              have hpt10S := SqT.of (K := K) hpt10
              have hrow10S := SqT.of (K := K) hrow10
              have hRl := hTu10.lst
              have hRlen : (ps.map V.ref).length < sizeLine := small1000 (by rw [List.length_map, hTu10.len]; omega)
              walk_at "st"
              intro p np
              generalize hHA : upd H10 p _ = HA
              have sA : Same H10 HA := hHA ▸ same_upd np
              have hpA := (congrFun hHA p).symm.trans upd_same
              have hpAS := SqT.of (K := K) hpA
              have hptAS := SqT.of (K := K) (sA _ _ hpt10)
              have hRA := sA _ _ hRl
              walk_at "st"
              refine ⟨by simp, len_le rfl, fun h => (by cases h), fun _ pq npq => ?_⟩
              have hRpq : R ≠ pq := ne_of_none hRA npq
              have hRB : upd HA pq (.tup ([V.int e.2.2.number, V.str e.2.2.house, V.str e.2.2.side] ++ [V.ref fl, V.ref rm, V.int R'.rest])) R = some (.lst (ps.map V.ref)) := (upd_ne hRpq).trans hRA
              have sB := sA.trans (same_upd (o := .tup ([V.int e.2.2.number, V.str e.2.2.house, V.str e.2.2.side] ++ [V.ref fl, V.ref rm, V.int R'.rest])) npq)
              have hpq : upd HA pq (.tup ([V.int e.2.2.number, V.str e.2.2.house, V.str e.2.2.side] ++ [V.ref fl, V.ref rm, V.int R'.rest])) pq = some (.tup (encT (fl, rm, ⟨e.2.2.number, e.2.2.house, e.2.2.side, R'.fills, R'.gone, R'.rest⟩))) := upd_same
              generalize upd HA pq (.tup ([V.int e.2.2.number, V.str e.2.2.house, V.str e.2.2.side] ++ [V.ref fl, V.ref rm, V.int R'.rest])) = HB at hRB sB hpq ⊢
              refine ⟨R, ps.map V.ref, .ref pq, rfl, rfl, hRB, hRlen, ?_⟩
              have up : ∀ {z : Addr} {v : HO}, z ≠ W → z ≠ R → H8 z = some v → upd HB R (.lst (ps.map V.ref ++ [V.ref pq])) z = some v := fun h1 h2 h3 => (upd_ne h2).trans (sB _ _ (hwt h1 h3))
              have hR3 := hTu3.lst
              have fresh2 : ∀ {z : Addr} {v : HO}, H3 z = some v → z ∉ L1.map (·.1) → z ∉ L2.map (·.1) := fun {z v} h1 h2 m => by
                obtain ⟨u, hu, eu⟩ := List.mem_map.mp m
                rcases hsub u hu with ⟨y, hy, k, _⟩ | ⟨_, k, _⟩
                · exact h2 (List.mem_map.mpr ⟨y, hy, k.trans eu⟩)
                · rw [eu, h1] at k; cases k
              have hR8 : H8 R = some (.lst (ps.map V.ref)) := hTu8.lst
              have tupR : ∀ {z : Addr} {xs : List V}, H8 z = some (.tup xs) → z ≠ R := fun h z => by rw [z, hR8] at h; cases h
              have hRL2 : R ∉ L2.map (·.1) := fresh2 hR3 hRo.2.2
              have hRW : W ≠ R := fun z => by rw [z, hR8] at hW8; cases hW8
              have nD : D ≠ R := fun z => hRo.1 z.symm
              have nSD : SD ≠ R := fun z => hRo.2.1 z.symm
              have rowNe : ∀ u, u ∈ L2 → u.1 ≠ R := fun u hu z => hRL2 (List.mem_map.mpr ⟨u, hu, z⟩)
              have hA : LoAt (upd HB R (.lst (ps.map V.ref ++ [V.ref pq]))) D L2 := ⟨up (nlW hLo'.li) nD hLo'.li, fun u hu => up (nlW (hLo'.row u hu)) (rowNe u hu) (hLo'.row u hu), hLo'.nd, hLo'.out⟩
              have hSl : SlAt (upd HB R (.lst (ps.map V.ref ++ [V.ref pq]))) SD (dropS e.1 s1) := ⟨up (nlW hS8.li) nSD hS8.li, fun u hu => up (ntW (hS8.row u hu)) (tupR (hS8.row u hu)) (hS8.row u hu), hS8.nd⟩
              have tupUp : ∀ {l : Addr} {gs : List Addr} {fl' : List (Int × Str × Int × Int)}, l ≠ R → Tups encFill H8 l gs fl' → Tups encFill (upd HB R (.lst (ps.map V.ref ++ [V.ref pq]))) l gs fl' := fun h1 h2 => ⟨up (nlW h2.lst) h1 h2.lst, h2.len, fun j a x k1 k2 => up (ntW (h2.row j a x k1 k2)) (tupR (h2.row j a x k1 k2)) (h2.row j a x k1 k2)⟩
              have lnD : ∀ {z : Addr}, H3 z = none → z ≠ D ∧ z ≠ SD ∧ z ≠ R := fun h => ⟨fun k => (by rw [k, W3.a.li] at h; cases h), fun k => (by rw [k, W3.s.li] at h; cases h), fun k => (by rw [k, hR3] at h; cases h)⟩
              have hflL : fl ∉ L2.map (·.1) := fun m => by
                obtain ⟨u, hu, eu⟩ := List.mem_map.mp m
                have h1 := hT'.lst
                rw [← eu, hLo'.row u hu] at h1
                have h2 : V.int u.2.2.number ∈ fs.map V.ref := by rw [← HO.lst.inj (Option.some.inj h1)]; exact List.mem_cons_self
                obtain ⟨_, _, ev⟩ := List.mem_map.mp h2
                cases ev
              have hrmL : rm ∉ L2.map (·.1) := fun m => by
                obtain ⟨u, hu, eu⟩ := List.mem_map.mp m
                have h1 := hG'
                rw [← eu, hLo'.row u hu] at h1
                have h2 : V.str u.2.2.house ∈ R'.gone.map V.int := by rw [← HO.lst.inj (Option.some.inj h1)]; exact List.mem_cons_of_mem _ List.mem_cons_self
                obtain ⟨_, _, ev⟩ := List.mem_map.mp h2
                cases ev
              have hTr : TrigS (bsL L ss last) (bsL L2 (dropS e.1 s1) R'.last) (reps ++ [⟨e.2.2.number, e.2.2.house, e.2.2.side, R'.fills, R'.gone, R'.rest⟩]) := by
                have h1 := TrigS.snoc (e := e) o 0 hT hff
                rw [hE] at h1
                exact h1
              refine ⟨_, _, _, _, _, _, L2, dropS e.1 s1, R'.last, _, ps ++ [pq], ts ++ [(fl, rm, ⟨e.2.2.number, e.2.2.house, e.2.2.side, R'.fills, R'.gone, R'.rest⟩)], rfl, hTr, ⟨(upd_ne hRW).trans (sB _ _ hW10), hA, hSl, hlaw', W3.nDS, ?_, W3.asc, W3.gs, ?_⟩, ?_, ?_, (hTu10.same sB).push2 hpq, ?_, ?_, ?_, ⟨hRo.1, hRo.2.1, hRL2⟩, ?_⟩
              · intro u hu z
                rcases hsub u hu with ⟨y, hy, k, _⟩ | ⟨_, k, _⟩
                · exact W3.nR y hy (k.trans z)
                · rw [z, W3.s.li] at k; cases k
              · intro y hy m
                obtain ⟨u, hu, eu⟩ := List.mem_map.mp m
                rcases hsub u hu with ⟨x, hx, _, k, _⟩ | ⟨k, _⟩
                · exact W3.nn y hy (List.mem_map.mpr ⟨x, hx, k.trans eu⟩)
                · have h1 := asc_inj hW1.asc (dropS_mem hy) heS (eu.symm.trans k)
                  have h2 := (List.mem_filter.mp hy).2
                  rw [h1] at h2
                  exact absurd rfl (of_decide_eq_true h2)
              · omega
              · omega
              · rw [List.map_append, hts]
                rfl
              · rw [List.length_append, List.length_singleton]
                omega
              · intro t ht
                rcases List.mem_append.mp ht with k | k
                · obtain ⟨_, o1, o2, o3, o4⟩ := hte t k
                  obtain ⟨gs, t1, t2⟩ := hte3 t k
                  have t18 : Tups encFill H8 t.1 gs t.2.2.fills := ⟨hfr8 _ _ o1.1 o1.2.2 t1.lst, t1.len, fun j a x k1 k2 => hfr8 _ _ (ntL (t1.row j a x k1 k2)).1 (ntL (t1.row j a x k1 k2)).2 (t1.row j a x k1 k2)⟩
                  have t28 := hfr8 _ _ o2.1 o2.2.2 t2
                  exact ⟨⟨gs, tupUp o3 t18, up (nlW t28) o4 t28⟩, ⟨o1.1, o1.2.1, fresh2 t1.lst o1.2.2⟩, ⟨o2.1, o2.2.1, fresh2 t2 o2.2.2⟩, o3, o4⟩
                · rw [List.mem_singleton.mp k]
                  exact ⟨⟨fs, tupUp (lnD nfl).2.2 hT', up (nlW hG') (lnD nrm).2.2 hG'⟩, ⟨(lnD nfl).1, (lnD nfl).2.1, hflL⟩, ⟨(lnD nrm).1, (lnD nrm).2.1, hrmL⟩, (lnD nfl).2.2, (lnD nrm).2.2⟩
              · intro z v h1 h2 hz
                obtain ⟨k1, k2⟩ := hfr3 z v h1 h2 hz
                have hzR : z ≠ R := fun k => by rw [k, nR] at hz; cases hz
                exact ⟨up h1 hzR (hfr8 _ _ h2.1 k2 k1), fresh2 k1 k2⟩
    · rintro σ H' ⟨v2, v3, v4, v5, v6, v7, L1, s1, l1, reps, ps, ts, rfl, hT, hW1, hsz1, hsl1, _⟩
      exfalso
      have : ((40 : Int).toNat) = 40 := rfl
      omega

/-! ### the book and the law's world side by side -/
structure SimW (C : BC) (H : Hp) (a : BA) (s : BS) (W D SD : Addr) (L : List Ent) (ss : List EntS) (last : Option Int) : Prop where
  B : BookW C H a s
  M : LawW H W D SD L ss last
  E : EqB s (bsL L ss last)
  oD : D ∉ foot a s
  oS : SD ∉ foot a s
  oR : ∀ e, e ∈ L → e.1 ∉ foot a s
  num : ∀ e, e ∈ L → e.2.2.number < s.next
  nus : ∀ e, e ∈ ss → e.2.2.number < s.next
  F : firstS s.last s.ss = none
theorem first_drop {last : Option Int} {ss : List EntS} {z : Addr} (h : firstS last ss = none) : firstS last (dropS z ss) = none := by
  unfold firstS at h ⊢
  exact List.find?_eq_none.mpr fun y hy => List.find?_eq_none.mp h y (dropS_mem hy)
theorem nomov_world {D SD : Addr} {last : Option Int} : ¬ Mov (.dK (worldD D SD last)) := fun h => by
  rcases h with ⟨_, h⟩ | ⟨_, _, _, h, e⟩ <;> cases h
/-- the law's world behind a command of the book -/
theorem SimW.keep {C : BC} {H H' : Hp} {a : BA} {s s' : BS} {W D SD : Addr} {L : List Ent} {ss : List EntS} {last : Option Int} (S : SimW C H a s W D SD L ss last) (p : StepW a s s' H H') : LawW H' W D SD L ss last := by
  have M := S.M
  refine ⟨p.fr _ _ (S.B.out M.w nomov_world) M.w, ⟨p.fr _ _ S.oD M.a.li, fun e he => p.fr _ _ (S.oR e he) (M.a.row e he), M.a.nd, M.a.out⟩, ⟨p.fr _ _ S.oS M.s.li, fun e he => p.fr _ _ (S.B.out (M.s.row e he) (nomov_tup _)) (M.s.row e he), M.s.nd⟩, M.l, M.nDS, M.nR, M.asc, M.gs, M.nn⟩
/-- the book behind what the law does to its world -/
theorem BookW.beside {C : BC} {H H' : Hp} {a : BA} {s : BS} {W D SD : Addr} {L : List Ent} {ss : List EntS} {last : Option Int} (B : BookW C H a s) (M : LawW H W D SD L ss last) (oD : D ∉ foot a s) (oS : SD ∉ foot a s) (oR : ∀ e, e ∈ L → e.1 ∉ foot a s)
    (h : ∀ z v, z ≠ W → outL z D SD L → H z = some v → H' z = some v) : BookW C H' a s := by
  have k : ∀ z v, H z = some v → (∀ ys, v ≠ .lst ys) → (∀ last, v ≠ .dK (worldD D SD last)) → H' z = some v := fun z v hz hv hw => by
    refine h z v (fun e => ?_) ⟨fun e => ?_, fun e => ?_, fun e => ?_⟩ hz
    · rw [e, M.w] at hz; exact hw _ (Option.some.inj hz).symm
    · rw [e, M.a.li] at hz; exact hv _ (Option.some.inj hz).symm
    · rw [e, M.s.li] at hz; exact hv _ (Option.some.inj hz).symm
    · obtain ⟨u, hu, eu⟩ := List.mem_map.mp e
      rw [← eu, M.a.row u hu] at hz; exact hv _ (Option.some.inj hz).symm
  have kf : ∀ z ys, z ∈ foot a s → H z = some (.lst ys) → H' z = some (.lst ys) := fun z ys hf hz => by
    refine h z _ (fun e => ?_) ⟨fun e => oD (e ▸ hf), fun e => oS (e ▸ hf), fun e => ?_⟩ hz
    · rw [e, M.w] at hz; cases hz
    · obtain ⟨u, hu, eu⟩ := List.mem_map.mp e
      exact oR u hu (eu ▸ hf)
  have f1 : a.l1 ∈ foot a s := foot_iff.mpr (.inr (.inl rfl))
  have f2 : a.l2 ∈ foot a s := foot_iff.mpr (.inr (.inr (.inl rfl)))
  have f3 : a.st ∈ foot a s := foot_iff.mpr (.inr (.inr (.inr (.inl rfl))))
  refine ⟨k _ _ B.ob (fun ys e => by unfold bookO at e; cases e) (fun l e => by unfold bookO at e; cases e), k _ _ B.sd (fun ys e => by unfold sidesO at e; cases e) (fun l e => ?_),
    ⟨kf _ _ f3 B.sp.li, fun e he => k _ _ (B.sp.en e he) (fun ys e => by unfold stopO at e; cases e) (fun l e => by unfold stopO at e; cases e), B.sp.nd, B.sp.sm⟩,
    ⟨k _ _ B.s1.ob (fun ys e => by cases e) (fun l e => by cases e), kf _ _ f1 B.s1.li, fun e he => k _ _ (B.s1.en e he) (fun ys e => by unfold ordO at e; cases e) (fun l e => by unfold ordO at e; cases e), B.s1.nd, B.s1.sm⟩,
    ⟨k _ _ B.s2.ob (fun ys e => by cases e) (fun l e => by cases e), kf _ _ f2 B.s2.li, fun e he => k _ _ (B.s2.en e he) (fun ys e => by unfold ordO at e; cases e) (fun l e => by unfold ordO at e; cases e), B.s2.nd, B.s2.sm⟩, B.r1, B.r2, B.dj, B.nll, B.n1, B.n2, B.gs, B.sz⟩
  unfold sidesO worldD at e
  exact absurd (congrArg List.length (HO.dK.inj e)) (by simp)

theorem nodup_num {L : List Ent} (h : (L.map fun e => e.2.2.number).Nodup) {x y : Ent} (hx : x ∈ L) (hy : y ∈ L) (z : x.2.2.number = y.2.2.number) : x = y := by
  obtain ⟨i, hi, ei⟩ := List.getElem_of_mem hx
  obtain ⟨j, hj, ej⟩ := List.getElem_of_mem hy
  have h1 := List.pairwise_iff_getElem.mp h
  have n1 : ∀ k (hk : k < L.length), (L.map fun e => e.2.2.number)[k]'(by rw [List.length_map]; exact hk) = L[k].2.2.number := fun k hk => by rw [List.getElem_map]
  rcases Nat.lt_trichotomy i j with c | c | c
  · have := h1 i j (by rw [List.length_map]; exact hi) (by rw [List.length_map]; exact hj) c
    rw [n1 i hi, n1 j hj, ei, ej] at this
    exact absurd z this
  · subst c
    rw [← ei, ← ej]
  · have := h1 j i (by rw [List.length_map]; exact hj) (by rw [List.length_map]; exact hi) c
    rw [n1 i hi, n1 j hj, ei, ej] at this
    exact absurd z.symm this
def Uniq (es : List Ent) (a : Addr) (n : Int) : Prop := ∀ y, y ∈ es → (y.1 = a ↔ y.2.2.number = n)
theorem drop_ords {es : List Ent} {a : Addr} {n : Int} (h : Uniq es a n) : ordsE (dropE a es) = (ordsE es).filter fun o => decide (o.number ≠ n) := by
  unfold ordsE dropE
  rw [List.filter_map]
  congr 1
  refine List.filter_congr fun y hy => ?_
  have := h y hy
  show decide (y.1 ≠ a) = decide (y.2.2.number ≠ n)
  by_cases z : y.1 = a
  · rw [decide_eq_false (fun k => k z), decide_eq_false (fun k => k (this.mp z))]
  · have h2 : y.2.2.number ≠ n := fun k => z (this.mpr k)
    rw [decide_eq_true (show y.1 ≠ a from z), decide_eq_true h2]
theorem set_ords {es : List Ent} {a : Addr} {n : Int} {f : Ord → Ord} (h : Uniq es a n) : ordsE (setE a f es) = (ordsE es).map fun o => if o.number = n then f o else o := by
  unfold ordsE setE
  rw [List.map_map, List.map_map]
  refine List.map_congr_left fun y hy => ?_
  have := h y hy
  show (if y.1 = a then _ else y).2.2 = if y.2.2.number = n then f y.2.2 else y.2.2
  by_cases z : y.1 = a
  · rw [if_pos z, if_pos (this.mp z)]
  · rw [if_neg z, if_neg fun k => z (this.mpr k)]
theorem uniq_L {L : List Ent} (h : LawL L) {e : Ent} (he : e ∈ L) : Uniq L e.1 e.2.2.number := fun y hy =>
  ⟨fun z => by rw [nodup_addr h.nda hy he z], fun z => by rw [nodup_num h.ndn hy he z]⟩
theorem Uniq.sub {es es' : List Ent} {a : Addr} {n : Int} (h : Uniq es a n) (s : ∀ y, y ∈ es' → y ∈ es) : Uniq es' a n := fun y hy => h y (s y hy)
theorem BL_dropE {s : Str} {L : List Ent} (h : LawL L) (a : Addr) : BL s (dropE a L) = dropE a (BL s L) := by
  unfold dropE
  exact BL_filter h.good
theorem ords_mem {a b : List Ent} (h : ordsE a = ordsE b) {y : Ent} (hy : y ∈ a) : ∃ u, u ∈ b ∧ u.2.2 = y.2.2 := by
  have h1 : y.2.2 ∈ ordsE a := List.mem_map.mpr ⟨y, hy, rfl⟩
  rw [h] at h1
  exact List.mem_map.mp h1
theorem ords_nums {a : List Ent} {s : Str} {L : List Ent} (h : ordsE a = ordsE (BL s L)) (l : LawL L) : (a.map fun e => e.2.2.number).Nodup := by
  have h1 := congrArg (List.map Ord.number) h
  unfold ordsE at h1
  rw [List.map_map, List.map_map] at h1
  have h2 : (a.map fun e => e.2.2.number) = (BL s L).map fun e => e.2.2.number := h1
  rw [h2]
  exact ((BL_perm s L).map _).nodup_iff.mpr ((List.filter_sublist.map _).nodup l.ndn)
theorem drop_both {s : Str} {es L : List Ent} {a : Addr} {e : Ent} (h : ordsE es = ordsE (BL s L)) (l : LawL L) (he : e ∈ L) (u : Uniq es a e.2.2.number) : ordsE (dropE a es) = ordsE (BL s (dropE e.1 L)) := by
  rw [drop_ords u, BL_dropE l, drop_ords ((uniq_L l he).sub fun y hy => (BL_mem hy).1), h]
theorem SimW.own {C : BC} {H : Hp} {a : BA} {s : BS} {W D SD : Addr} {L : List Ent} {ss : List EntS} {last : Option Int} (S : SimW C H a s W D SD L ss last) {e : Ent} (he : e ∈ L) :
    withNum s.es1 s.es2 e.2.2.number ≠ none ∧ ∀ e', withNum s.es1 s.es2 e.2.2.number = some e' → e'.2.2 = e.2.2 ∧ Uniq s.es1 e'.1 e.2.2.number ∧ Uniq s.es2 e'.1 e.2.2.number := by
  have sm1 : ∀ y, y ∈ s.es1 → y.2.2.number = e.2.2.number → y.2.2 = e.2.2 := fun y hy z => by
    obtain ⟨u, hu, k⟩ := ords_mem S.E.e1 hy
    rw [← k, nodup_num S.M.l.ndn (BL_mem hu).1 he (by rw [k]; exact z)]
  have sm2 : ∀ y, y ∈ s.es2 → y.2.2.number = e.2.2.number → y.2.2 = e.2.2 := fun y hy z => by
    obtain ⟨u, hu, k⟩ := ords_mem S.E.e2 hy
    rw [← k, nodup_num S.M.l.ndn (BL_mem hu).1 he (by rw [k]; exact z)]
  constructor
  · intro hn
    unfold withNum at hn
    have hmem : (∃ y, y ∈ s.es1 ∧ y.2.2 = e.2.2) ∨ ∃ y, y ∈ s.es2 ∧ y.2.2 = e.2.2 := by
      have hB : ∀ z, e.2.2.side = z → e ∈ BL z L := fun z hs => (BL_perm z L).mem_iff.mpr (List.mem_filter.mpr ⟨he, decide_eq_true hs⟩)
      rcases (S.M.l.good e he).side with z | z
      · exact .inl (ords_mem S.E.e1.symm (hB _ z))
      · exact .inr (ords_mem S.E.e2.symm (hB _ z))
    cases h1 : s.es1.find? (fun y => decide (y.2.2.number = e.2.2.number)) with
    | some y => rw [h1] at hn; cases hn
    | none =>
      rw [h1] at hn
      rcases hmem with ⟨y, hy, k⟩ | ⟨y, hy, k⟩
      · exact absurd (decide_eq_true (by rw [k])) (List.find?_eq_none.mp h1 y hy)
      · exact absurd (decide_eq_true (by rw [k])) (List.find?_eq_none.mp hn y hy)
  · intro e' hw
    obtain ⟨w1, w2⟩ := with_mem hw
    have hee : e'.2.2 = e.2.2 := w2.elim (fun z => sm1 e' z w1) fun z => sm2 e' z w1
    refine ⟨hee, fun y hy => ⟨fun z => ?_, fun z => ?_⟩, fun y hy => ⟨fun z => ?_, fun z => ?_⟩⟩
    · rcases w2 with w | w
      · rw [nodup_addr S.B.s1.nd hy w z]; exact w1
      · exact absurd z (S.B.dj y hy e' w)
    · rcases w2 with w | w
      · rw [nodup_num (ords_nums S.E.e1 S.M.l) hy w (z.trans w1.symm)]
      · exfalso
        have h1 := S.B.r1.side y hy
        have h2 := S.B.r2.side e' w
        rw [sm1 y hy z, ← hee, h2] at h1
        exact absurd (congrArg buyS h1) (by rw [buyS_buy, buyS_sell]; exact Bool.noConfusion)
    · rcases w2 with w | w
      · exact absurd z.symm (S.B.dj e' w y hy)
      · rw [nodup_addr S.B.s2.nd hy w z]; exact w1
    · rcases w2 with w | w
      · exfalso
        have h1 := S.B.r2.side y hy
        have h2 := S.B.r1.side e' w
        rw [sm2 y hy z, ← hee, h2] at h1
        exact absurd (congrArg buyS h1) (by rw [buyS_buy, buyS_sell]; exact Bool.noConfusion)
      · rw [nodup_num (ords_nums S.E.e2 S.M.l) hy w (z.trans w1.symm)]
theorem SimW.noStop {C : BC} {H : Hp} {a : BA} {s : BS} {W D SD : Addr} {L : List Ent} {ss : List EntS} {last : Option Int} (S : SimW C H a s W D SD L ss last) {e : Ent} (he : e ∈ L) : stopN s.ss e.2.2.number = none := by
  unfold stopN
  refine List.find?_eq_none.mpr fun y hy z => ?_
  have hz := of_decide_eq_true z
  have h1 : y.2.2 ∈ s.ss.map (·.2.2) := List.mem_map.mpr ⟨y, hy, rfl⟩
  rw [S.E.ss] at h1
  obtain ⟨u, hu, k⟩ := List.mem_map.mp h1
  exact S.M.nn u hu (List.mem_map.mpr ⟨e, he, by rw [k]; exact hz.symm⟩)

theorem LawW.keep {C : BC} {H H' : Hp} {a : BA} {s s' : BS} {W D SD : Addr} {L : List Ent} {ss : List EntS} {last : Option Int} (M : LawW H W D SD L ss last) (B : BookW C H a s) (oD : D ∉ foot a s) (oS : SD ∉ foot a s) (oR : ∀ e, e ∈ L → e.1 ∉ foot a s) (p : StepW a s s' H H') : LawW H' W D SD L ss last :=
  ⟨p.fr _ _ (B.out M.w nomov_world) M.w, ⟨p.fr _ _ oD M.a.li, fun e he => p.fr _ _ (oR e he) (M.a.row e he), M.a.nd, M.a.out⟩, ⟨p.fr _ _ oS M.s.li, fun e he => p.fr _ _ (B.out (M.s.row e he) (nomov_tup _)) (M.s.row e he), M.s.nd⟩, M.l, M.nDS, M.nR, M.asc, M.gs, M.nn⟩
/-- a list of another's stays what and where it is -/
def KeepW (H H' : Hp) (a : BA) (s s' : BS) (W D SD : Addr) (L L' : List Ent) : Prop := ∀ C v, H C = some v → C ≠ W → C ∉ foot a s → outL C D SD L → H' C = some v ∧ C ∉ foot a s' ∧ outL C D SD L'
theorem refsS_ix {ss : List EntS} {c : Int} (h0 : 0 ≤ c) (h1 : c < ((refsS ss).length : Int)) : ∃ e, e ∈ ss ∧ atI (refsS ss) c = some (.ref e.1) := by
  obtain ⟨n, hn⟩ := Int.eq_ofNat_of_zero_le h0
  have hl : n < ss.length := by
    have : (refsS ss).length = ss.length := List.length_map ..
    omega
  refine ⟨ss[n], List.getElem_mem hl, ?_⟩
  rw [hn]
  refine at_of (j := n) rfl ?_
  unfold refsS
  rw [List.getElem?_map, List.getElem?_eq_getElem hl]
  rfl
theorem refs_ix0 {L : List Ent} {c : Int} (h0 : 0 ≤ c) (h1 : c < ((refs L).length : Int)) : ∃ e, e ∈ L ∧ atI (refs L) c = some (.ref e.1) := by
  obtain ⟨n, hn⟩ := Int.eq_ofNat_of_zero_le h0
  have hl : n < L.length := by
    have : (refs L).length = L.length := List.length_map ..
    omega
  refine ⟨L[n], List.getElem_mem hl, ?_⟩
  rw [hn]
  refine at_of (j := n) rfl ?_
  unfold refs
  rw [List.getElem?_map, List.getElem?_eq_getElem hl]
  rfl
theorem dropS_num {ss : List EntS} {a : Addr} {n : Int} (h : ∀ y, y ∈ ss → (y.1 = a ↔ y.2.2.number = n)) : (dropS a ss).map (·.2.2) = (ss.map (·.2.2)).filter fun o => decide (o.number ≠ n) := by
  unfold dropS
  rw [List.filter_map]
  congr 1
  refine List.filter_congr fun y hy => ?_
  have := h y hy
  show decide (y.1 ≠ a) = decide (y.2.2.number ≠ n)
  by_cases z : y.1 = a
  · rw [decide_eq_false (fun k => k z), decide_eq_false (fun k => k (this.mp z))]
  · have h2 : y.2.2.number ≠ n := fun k => z (this.mpr k)
    rw [decide_eq_true (show y.1 ≠ a from z), decide_eq_true h2]
theorem nodupS : ∀ {ss : List EntS} {x y : EntS}, (ss.map (·.1)).Nodup → x ∈ ss → y ∈ ss → x.1 = y.1 → x = y
  | [], _, _, _, h, _, _ => by cases h
  | a :: r, x, y, h, hx, hy, e => by
    obtain ⟨h1, h2⟩ := List.nodup_cons.mp (show (a.1 :: r.map (·.1)).Nodup from h)
    rcases List.mem_cons.mp hx with rfl | kx
    · rcases List.mem_cons.mp hy with rfl | ky
      · rfl
      · exact absurd (List.mem_map.mpr ⟨y, ky, e.symm⟩) h1
    · rcases List.mem_cons.mp hy with rfl | ky
      · exact absurd (List.mem_map.mpr ⟨x, kx, e⟩) h1
      · exact nodupS h2 kx ky e
theorem asc_map {ss ss' : List EntS} (h : ss.map (·.2.2) = ss'.map (·.2.2)) (asc : ss'.Pairwise fun x y => x.2.2.number < y.2.2.number) : ss.Pairwise fun x y => x.2.2.number < y.2.2.number := by
  have h1 : (ss'.map (·.2.2)).Pairwise fun x y : Stp => x.number < y.number := List.pairwise_map.mpr asc
  rw [← h] at h1
  exact (List.pairwise_map (f := fun e : EntS => e.2.2) (R := fun x y : Stp => x.number < y.number)).mp h1
/-- a stop that waits, in the book and in the law's world -/
theorem SimW.stop {C : BC} {H : Hp} {a : BA} {s : BS} {W D SD : Addr} {L : List Ent} {ss : List EntS} {last : Option Int} (S : SimW C H a s W D SD L ss last) {e : EntS} (he : e ∈ ss) :
    stopN s.ss e.2.2.number ≠ none ∧ ∀ e', stopN s.ss e.2.2.number = some e' → e'.2.2 = e.2.2 ∧ (dropS e'.1 s.ss).map (·.2.2) = (dropS e.1 ss).map (·.2.2) := by
  have asc := asc_map S.E.ss S.M.asc
  constructor
  · intro hn
    have h1 : e.2.2 ∈ ss.map (·.2.2) := List.mem_map.mpr ⟨e, he, rfl⟩
    have h2 : e.2.2 ∈ s.ss.map (·.2.2) := by rw [S.E.ss]; exact h1
    obtain ⟨u, hu, k⟩ := List.mem_map.mp h2
    exact absurd (decide_eq_true (by rw [k])) (List.find?_eq_none.mp hn u hu)
  · intro e' h
    obtain ⟨m, n⟩ := stopN_mem h
    have h1 : e'.2.2 ∈ s.ss.map (·.2.2) := List.mem_map.mpr ⟨e', m, rfl⟩
    rw [S.E.ss] at h1
    obtain ⟨u, hu, k⟩ := List.mem_map.mp h1
    have hue : u = e := asc_inj S.M.asc hu he (by rw [k]; exact n)
    refine ⟨by rw [← k, hue], ?_⟩
    rw [dropS_num (n := e.2.2.number) fun y hy => ⟨fun z => by rw [nodupS S.B.sp.nd hy m z]; exact n, fun z => by rw [asc_inj asc hy m (z.trans n.symm)]⟩,
      dropS_num (n := e.2.2.number) fun y hy => ⟨fun z => by rw [nodupS S.M.s.nd hy he z], fun z => by rw [asc_inj S.M.asc hy he z]⟩, S.E.ss]
    rfl
def sp_law_cancel (K : PySem.W.Frag) (CO CB CK CS CR : Addr) : Sp := fun vs H Q _ => ∃ (_ : Unit) (a : BA) (s : BS) (W D SD : Addr) (L : List Ent) (ss : List EntS) (last : Option Int) (cell : Int), vs = [.ref a.x, .ref W, .int cell] ∧
  SimW ⟨CO, CB, CK, CS, CR⟩ H a s W D SD L ss last ∧ L.length + ss.length ≤ 200 ∧ 0 < ss.length + L.length ∧
  ∀ (H' : Hp) (s' : BS) (L' : List Ent) (ss' : List EntS), SimW ⟨CO, CB, CK, CS, CR⟩ H' a s' W D SD L' ss' last → s'.next = s.next → L'.length + ss'.length ≤ L.length + ss.length → KeepW H H' a s s' W D SD L L' → Q (.bl true) H'
set_option maxHeartbeats 0 in
theorem ok_law_cancel (T : Txt K mg) [TB : TabsOk T base] : FnOk P w K mg base CX0 5 T.f_law_cancel T.d_law_cancel ["book", "world", "cell"] (sp_law_cancel K T.c_Order T.c_BookSide T.c_Book T.c_Stop T.c_Report) := by
  refine T.F_law_cancel.ok sc_law_cancel (fun vs H Q E h => ?_) (fun cdv A outer s H vs Q E hr h => ?_)
  · obtain ⟨_, a, s, W, D, SD, L, ss, last, cell, rfl, _⟩ := h
    rfl
  · obtain ⟨_, a, s, W, D, SD, L, ss, last, cell, rfl, S, hlen, hpos, q⟩ := h
    have G_Book_cancel : FnOk P w K mg base (L2.CX P w) 4 T.f_Book_cancel T.d_Book_cancel ["self", "number", "house"] (sp_Book_cancel K T.c_UnknownOrder T.c_NotOwner T.c_Order T.c_BookSide T.c_Book T.c_Stop T.c_Report) := ok_Book_cancel T
    refine ⟨_, (pss_cons (ps_set (i := 3) sc_law_cancel.nd rfl (Or.inl rfl) (pe_dget (hu_of hr) (pv 1) pe_str (fun _ _ => rfl)))
    (pss_cons (ps_set (i := 4) sc_law_cancel.nd rfl (Or.inl rfl) (pe_dget (hu_of hr) (pv 1) pe_str (fun _ _ => rfl)))
    (pss_cons (ps_set (i := 5) sc_law_cancel.nd rfl (Or.inl rfl) (pe_op op_mod (pe_callTy call_int_i (by rfl) T.z_int (by decide +kernel) (pa_cons (pv 2) pa_nil)) (pe_op op_add (pe_callB call_len_seq (by rfl) T.z_len PySem.boot_len (pa_cons (pv 3) pa_nil)) (pe_callB call_len_seq (by rfl) T.z_len PySem.boot_len (pa_cons (pv 4) pa_nil)))))
    (pss_cons (ps_if (pt_cmpR op_lt (pv 5) (pe_callB call_len_seq (by rfl) T.z_len PySem.boot_len (pa_cons (pv 3) pa_nil)) (nomark _))
      (pss_cons (ps_set (i := 6) sc_law_cancel.nd rfl (Or.inl rfl) (pe_ix ix_list (pv 3) (pv 5) (fun _ _ => rfl)))
      (pss_cons (ps_expr (pe_bm PySem.F.plainAttrs_list PySem.F.slot_list_remove PySem.F.type_list_remove (mt_removeD (hu65 hr)) (pv 3) (pa_cons (pv 6) pa_nil)))
      (pss_one (ps_ret (pe_cmpR op_eq (pe_mx (pv 0) T.cl_Book T.mt_Book_cancel G_Book_cancel hr T.b_Book_cancel .nil (fun _ => passLat) (pa_cons (pe_ix ix_tup (pv 6) pe_int (fun _ _ => rfl)) (pa_cons (pe_ix ix_tup (pv 6) pe_int (fun _ _ => rfl)) pa_nil))) (pe_ix ix_tup (pv 6) pe_int (fun _ _ => rfl)) (nomark _))))))
      pss_nil)
    (pss_cons (ps_set (i := 7) sc_law_cancel.nd rfl (Or.inl rfl) (pe_ix ix_list (pv 4) (pe_op op_sub (pv 5) (pe_callB call_len_seq (by rfl) T.z_len PySem.boot_len (pa_cons (pv 3) pa_nil))) (fun _ _ => rfl)))
    (pss_cons (ps_expr (pe_bm PySem.F.plainAttrs_list PySem.F.slot_list_remove PySem.F.type_list_remove (mt_removeD (hu65 hr)) (pv 4) (pa_cons (pv 7) pa_nil)))
    (pss_one (ps_ret (pe_cmpR op_eq (pe_mx (pv 0) T.cl_Book T.mt_Book_cancel G_Book_cancel hr T.b_Book_cancel .nil (fun _ => passLat) (pa_cons (pe_ix ix_list (pv 7) pe_int (fun _ _ => rfl)) (pa_cons (pe_ix ix_list (pv 7) pe_int (fun _ _ => rfl)) pa_nil))) (pe_ix ix_list (pv 7) pe_int (fun _ _ => rfl)) (nomark _)))))))))), ?_⟩
    have fact_BookSide_0 := T.cl_BookSide; have fact_BookSide_1 := T.na_BookSide__orders; have fact_Book_0 := T.cl_Book; have fact_Book_1 := T.na_Book_last; have fact_Book_2 := T.na_Book__next_number; have fact_Book_3 := T.na_Book__sides; have fact_Book_4 := T.na_Book__stops; have fact_Order_0 := T.cl_Order; have fact_Order_1 := T.na_Order_number; have fact_Order_2 := T.na_Order_house; have fact_Order_3 := T.na_Order_side; have fact_Order_4 := T.na_Order_price; have fact_Order_5 := T.na_Order_shown; have fact_Order_6 := T.na_Order_left; have fact_Order_7 := T.na_Order_visible; have fact_Report_0 := T.cl_Report; have fact_Report_1 := T.na_Report_number; have fact_Report_2 := T.na_Report_house; have fact_Report_3 := T.na_Report_side; have fact_Report_4 := T.na_Report_fills; have fact_Report_5 := T.na_Report_removed; have fact_Report_6 := T.na_Report_resting; have fact_Stop_0 := T.cl_Stop; have fact_Stop_1 := T.na_Stop_number; have fact_Stop_2 := T.na_Stop_house; have fact_Stop_3 := T.na_Stop_side; have fact_Stop_4 := T.na_Stop_trigger; have fact_Stop_5 := T.na_Stop_price; have fact_Stop_6 := T.na_Stop_quantity
    have hob := S.B.ob
    unfold bookO at hob
    have g1 := world_stops S.M.w
    have g2 := world_orders S.M.w
    have hSL := SqL.of (K := K) S.M.s.li
    have hDL := SqL.of (K := K) S.M.a.li
    have hls : (refsS ss).length = ss.length := List.length_map ..
    have hlL : (refs L).length = L.length := List.length_map ..
    have hp0 : (0 : Int) < ((refsS ss).length : Int) + ((refs L).length : Int) := by omega
    have hc0 := Int.emod_nonneg cell (show ((refsS ss).length : Int) + ((refs L).length : Int) ≠ 0 by omega)
    have hc1 := Int.emod_lt_of_pos cell hp0
    walk_at "st"
    refine iteB (fun hx => ?_) (fun hx => ?_)
    · obtain ⟨e, he, hix⟩ := refsS_ix hc0 (of_decide_eq_true hx)
      have hrow := S.M.s.row e he
      have hSDr := S.M.s.li
      walk_at "st"
      delta tNil
      have hGS : ∀ y, y ∈ ss → PyData.strOk y.2.2.house = true ∧ PyData.strOk y.2.2.side = true := fun y hy => ⟨(S.M.gs y hy).2.2.2, side_ok (S.M.gs y hy).1⟩
      refine remS_of S.M.s hGS S.M.asc he ?_
      have hdl := dropS_len he
      have M := S.M
      have hWS : W ≠ SD := fun z => by have := M.w; rw [z, M.s.li] at this; cases this
      have nt : ∀ {z : Addr} {xs : List V}, H z = some (.tup xs) → z ≠ SD := fun h z => by rw [z, M.s.li] at h; cases h
      have M3 : LawW (upd H SD (.lst (refsS (dropS e.1 ss)))) W D SD L (dropS e.1 ss) last := ⟨(upd_ne hWS).trans M.w, M.a.other M.nDS M.nR, ⟨upd_same, fun y hy => (upd_ne (nt (M.s.row y (dropS_mem hy)))).trans (M.s.row y (dropS_mem hy)), (List.filter_sublist.map _).nodup M.s.nd⟩, M.l, M.nDS, M.nR, M.asc.sublist List.filter_sublist, fun y hy => M.gs y (dropS_mem hy), fun y hy => M.nn y (dropS_mem hy)⟩
      have hrow3 : upd H SD (.lst (refsS (dropS e.1 ss))) e.1 = some (.tup (rowS e.2.2)) := (upd_ne (nt hrow)).trans hrow
      have B3 := S.B.beside (H' := upd H SD (.lst (refsS (dropS e.1 ss)))) M S.oD S.oS S.oR fun z v h1 h2 hz => (upd_ne h2.2.1).trans hz
      have hkC : ∀ C cs, H C = some cs → outL C D SD L → upd H SD (.lst (refsS (dropS e.1 ss))) C = some cs := fun C cs hC ho => (upd_ne ho.2.1).trans hC
      generalize upd H SD (.lst (refsS (dropS e.1 ss))) = H3 at M3 hrow3 B3 hkC ⊢
      obtain ⟨k1, k2⟩ := S.stop he
      have hrow3S := SqT.of (K := K) hrow3
      have c0 : atI (rowS e.2.2) 0 = some (.int e.2.2.number) := rfl
      have c1 : atI (rowS e.2.2) 1 = some (.str e.2.2.house) := rfl
      have c5 : atI (rowS e.2.2) 5 = some (.int e.2.2.quantity) := rfl
      have hob3 := B3.ob
      unfold bookO at hob3
      have hlk : ([("last", optV s.last), ("_next_number", V.int s.next), ("_sides", .ref a.sd), ("_stops", .ref a.st)] : List (Str × V)).lookup ("cancel" : Str) = none := rfl
      walk_at "st"
      refine ⟨a, s, e.2.2.number, e.2.2.house, rfl, B3, fun e' H4 h1 h2 B4 S4 => ?_, fun e' h1 h2 => absurd (congrArg Stp.house (k2 e' h1).1) h2, fun e' H4 h1 => absurd h1 k1, fun h1 => absurd h1 k1, fun e' h1 => absurd h1 k1⟩
      have hrow4S := SqT.of (K := K) (S4.fr _ _ (B3.out hrow3 (nomov_tup _)) hrow3)
      obtain ⟨k3, k4⟩ := k2 e' h1
      rw [k3]
      walk_at "st"
      rw [decide_eq_true rfl]
      exact q H4 (offS s e'.1) L (dropS e.1 ss) ⟨B4, M3.keep B3 S.oD S.oS S.oR S4, ⟨S.E.last, S.E.e1, S.E.e2, k4, B4.sp.nd, M3.s.nd⟩, S.oD, S.oS, S.oR, S.num, fun y hy => S.nus y (dropS_mem hy), first_drop S.F⟩ rfl (by omega) fun C cs hC _ hf ho => ⟨S4.fr _ _ hf (hkC C cs hC ho), S4.out (hkC C cs hC ho) hf, ho⟩
    · have hge : ((refsS ss).length : Int) ≤ cell % (((refsS ss).length : Int) + ((refs L).length : Int)) := Int.not_lt.mp (of_decide_eq_false hx)
      obtain ⟨e, he, hix⟩ := refs_ix0 (L := L) (c := cell % (((refsS ss).length : Int) + ((refs L).length : Int)) - ((refsS ss).length : Int)) (by omega) (by omega)
      have hDr := S.M.a.li
      walk_at "st"
      (first | delta tNil | skip)
      refine rem_of S.M.a S.M.l he ?_
      have M := S.M
      have hdl : (dropE e.1 L).length + 1 ≤ L.length := drop_less he
      have hWD : W ≠ D := fun z => by have := M.w; rw [z, M.a.li] at this; cases this
      have ntD : ∀ {z : Addr} {xs : List V}, H z = some (.tup xs) → z ≠ D := fun h z => by rw [z, M.a.li] at h; cases h
      have M3 : LawW (upd H D (.lst (refs (dropE e.1 L)))) W D SD (dropE e.1 L) ss last := ⟨(upd_ne hWD).trans M.w, M.a.cut e.1, ⟨(upd_ne M.nDS.symm).trans M.s.li, fun y hy => (upd_ne (ntD (M.s.row y hy))).trans (M.s.row y hy), M.s.nd⟩, M.l.drop _, M.nDS, fun y hy => M.nR y (drop_mem hy).1, M.asc, M.gs, fun y hy m => by
        obtain ⟨u, hu, eu⟩ := List.mem_map.mp m
        exact M.nn y hy (List.mem_map.mpr ⟨u, (drop_mem hu).1, eu⟩)⟩
      have hrow3 : upd H D (.lst (refs (dropE e.1 L))) e.1 = some (.lst (rowL e.2.2)) := (upd_ne fun z => M.a.out (List.mem_map.mpr ⟨e, he, z⟩)).trans (M.a.row e he)
      have B3 := S.B.beside (H' := upd H D (.lst (refs (dropE e.1 L)))) M S.oD S.oS S.oR fun z v h1 h2 hz => (upd_ne h2.1).trans hz
      have hkC : ∀ C cs, H C = some cs → outL C D SD L → upd H D (.lst (refs (dropE e.1 L))) C = some cs := fun C cs hC ho => (upd_ne ho.1).trans hC
      generalize upd H D (.lst (refs (dropE e.1 L))) = H3 at M3 hrow3 B3 hkC ⊢
      obtain ⟨k1, k2⟩ := S.own he
      have hns := S.noStop he
      have hrow3S := SqL.of (K := K) hrow3
      have c0 : atI (rowL e.2.2) 0 = some (.int e.2.2.number) := rfl
      have c1 : atI (rowL e.2.2) 1 = some (.str e.2.2.house) := rfl
      have c4 : atI (rowL e.2.2) 4 = some (.int e.2.2.left) := rfl
      have hob3 := B3.ob
      unfold bookO at hob3
      have hlk : ([("last", optV s.last), ("_next_number", V.int s.next), ("_sides", .ref a.sd), ("_stops", .ref a.st)] : List (Str × V)).lookup ("cancel" : Str) = none := rfl
      walk_at "st"
      refine ⟨a, s, e.2.2.number, e.2.2.house, rfl, B3, fun e' H4 h1 => (by rw [hns] at h1; cases h1), fun e' h1 => (by rw [hns] at h1; cases h1), fun e' H4 _ h1 h2 B4 S4 => ?_, fun _ h1 => absurd h1 k1, fun e' _ h1 h2 => absurd (congrArg Ord.house (k2 e' h1).1) h2⟩
      have hrow4S := SqL.of (K := K) (S4.fr _ _ (S.oR e he) hrow3)
      obtain ⟨k3, u1, u2⟩ := k2 e' h1
      rw [k3]
      walk_at "st"
      rw [decide_eq_true rfl]
      have oR3 : ∀ y, y ∈ dropE e.1 L → y.1 ∉ foot a s := fun y hy => S.oR y (drop_mem hy).1
      exact q H4 (offO s e'.1) (dropE e.1 L) ss ⟨B4, M3.keep B3 S.oD S.oS oR3 S4, ⟨S.E.last, drop_both S.E.e1 S.M.l he u1, drop_both S.E.e2 S.M.l he u2, S.E.ss, S.E.n1, S.E.n2⟩, S4.out M3.a.li S.oD, S4.out M3.s.li S.oS, fun y hy => S4.out (M3.a.row y hy) (oR3 y hy), fun y hy => S.num y (drop_mem hy).1, S.nus, S.F⟩ rfl (by omega) fun C cs hC _ hf ho => ⟨S4.fr _ _ hf (hkC C cs hC ho), S4.out (hkC C cs hC ho) hf, ho.1, ho.2.1, fun m => by
        obtain ⟨u, hu, eu⟩ := List.mem_map.mp m
        exact ho.2.2 (List.mem_map.mpr ⟨u, (drop_mem hu).1, eu⟩)⟩

/-! ### houses and numbers of a run of triggers -/
theorem trade_hn {C : Str → Int → Prop} {e : Ent} {es : List Ent} {n p : Int} (he : C e.2.2.house e.2.2.number) (hes : ∀ z, z ∈ es → C z.2.2.house z.2.2.number) : ∀ y, y ∈ tradeF e es n p → C y.2.2.house y.2.2.number := by
  intro y h
  rw [trade_is] at h
  split at h
  · split at h
    · rcases List.mem_cons.mp ((insE_perm _ _ _).mem_iff.mp h) with z | z
      · rw [z]; exact he
      · exact hes y z
    · exact hes y h
  · rcases List.mem_cons.mp h with z | z
    · rw [z]; exact he
    · exact hes y z
theorem runM_hn {t : Ord} {C : Str → Int → Prop} : ∀ (k : Nat) {m : Mt}, (∀ e, e ∈ m.es → C e.2.2.house e.2.2.number) → ∀ y, y ∈ (runM t k m).es → C y.2.2.house y.2.2.number
  | 0, m, h => h
  | k + 1, m, h => by
    cases g : goesM t m with
    | none => rw [runM_stop g]; exact h
    | some e =>
      rw [runM_go g]
      refine runM_hn k fun y hy => ?_
      obtain ⟨h1, h2, h3⟩ := goesM_some g
      rw [h1] at h
      unfold stepM at hy
      split at hy
      · exact h y (List.mem_cons_of_mem _ hy)
      · exact trade_hn (h e List.mem_cons_self) (fun z hz => h z (List.mem_cons_of_mem _ hz)) y hy
theorem sub_hn {kd : Str} {t : Ord} {o dxo : Addr} {last : Option Int} {oth own : List Ent} {C : Str → Int → Prop} (h1 : ∀ e, e ∈ oth → C e.2.2.house e.2.2.number) (h2 : ∀ e, e ∈ own → C e.2.2.house e.2.2.number) (h0 : C t.house t.number) :
    ∀ e, (e ∈ (subF kd t o dxo last oth own).oth ∨ e ∈ (subF kd t o dxo last oth own).own) → C e.2.2.house e.2.2.number := by
  unfold subF
  split
  · exact fun e he => he.elim (h1 e) (h2 e)
  · intro e he
    rcases he with he | he
    · exact runM_hn _ (m := startM t last oth) h1 e he
    · dsimp only at he
      split at he
      · rcases insE_mem.mp he with z | z
        · rw [z]
          exact h0
        · exact h2 e z
      · exact h2 e he
structure GoodB (N : Int) (s : BS) : Prop where
  e1 : ∀ e, e ∈ s.es1 → PyData.strOk e.2.2.house = true ∧ e.2.2.number < N
  e2 : ∀ e, e ∈ s.es2 → PyData.strOk e.2.2.house = true ∧ e.2.2.number < N
  ss : ∀ e, e ∈ s.ss → PyData.strOk e.2.2.house = true ∧ (e.2.2.side = "buy" ∨ e.2.2.side = "sell") ∧ e.2.2.number < N
def GoodR (r : RepT) : Prop := PyData.strOk r.house = true ∧ PyData.strOk r.side = true ∧ ∀ f, f ∈ r.fills → PyData.strOk f.2.1 = true
theorem enter_good {N : Int} {s : BS} {o dxo : Addr} {t : Ord} {kd : Str} (h : GoodB N s) (h0 : PyData.strOk t.house = true) (hs : t.side = "buy" ∨ t.side = "sell") (hn : t.number < N) : GoodB N (enterB s o dxo t kd).1 ∧ GoodR (enterB s o dxo t kd).2 := by
  have ho : ∀ e, e ∈ othE t.side s.es1 s.es2 → PyData.strOk e.2.2.house = true ∧ e.2.2.number < N := by
    unfold othE
    split
    · exact h.e2
    · exact h.e1
  have hw : ∀ e, e ∈ ownE t.side s.es1 s.es2 → PyData.strOk e.2.2.house = true ∧ e.2.2.number < N := by
    unfold ownE
    split
    · exact h.e1
    · exact h.e2
  have k := sub_hn (kd := kd) (t := t) (o := o) (dxo := dxo) (last := s.last) (C := fun h n => PyData.strOk h = true ∧ n < N) ho hw ⟨h0, hn⟩
  have kf := sub_fills_ok (kd := kd) (t := t) (o := o) (dxo := dxo) (last := s.last) (own := ownE t.side s.es1 s.es2) fun e he => (ho e he).1
  unfold enterB
  refine ⟨⟨?_, ?_, h.ss⟩, h0, side_ok hs, kf⟩
  · intro e he
    have he : e ∈ (if buyS t.side = true then (subF kd t o dxo s.last (othE t.side s.es1 s.es2) (ownE t.side s.es1 s.es2)).own else (subF kd t o dxo s.last (othE t.side s.es1 s.es2) (ownE t.side s.es1 s.es2)).oth) := he
    split at he
    · exact k e (.inr he)
    · exact k e (.inl he)
  · intro e he
    have he : e ∈ (if buyS t.side = true then (subF kd t o dxo s.last (othE t.side s.es1 s.es2) (ownE t.side s.es1 s.es2)).oth else (subF kd t o dxo s.last (othE t.side s.es1 s.es2) (ownE t.side s.es1 s.es2)).own) := he
    split at he
    · exact k e (.inl he)
    · exact k e (.inr he)
theorem trig_good {N : Int} {s s' : BS} {reps : List RepT} (h : TrigS s s' reps) : GoodB N s → GoodB N s' ∧ ∀ r, r ∈ reps → GoodR r := by
  induction h with
  | nil => exact fun g => ⟨g, fun r hr => by cases hr⟩
  | @snoc s1 reps e o dxo h hf ih =>
    intro g
    obtain ⟨g1, gr⟩ := ih g
    obtain ⟨hm, _⟩ := firstS_mem hf
    obtain ⟨k1, k2, k3⟩ := g1.ss e hm
    have g2 : GoodB N (offS s1 e.1) := ⟨g1.e1, g1.e2, fun y hy => g1.ss y (dropS_mem hy)⟩
    have hE := enter_good (o := o) (dxo := dxo) (kd := kdS e.2.2) (t := ordS e.2.2) g2 k1 k2 k3
    refine ⟨hE.1, fun r hr => ?_⟩
    rcases List.mem_append.mp hr with z | z
    · exact gr r z
    · rw [List.mem_singleton.mp z]
      exact hE.2
theorem EqB.good {N : Int} {s s' : BS} (E : EqB s s') (g : GoodB N s') : GoodB N s := by
  refine ⟨fun e he => ?_, fun e he => ?_, fun e he => ?_⟩
  · obtain ⟨u, hu, k⟩ := ords_mem E.e1 he
    rw [← k]; exact g.e1 u hu
  · obtain ⟨u, hu, k⟩ := ords_mem E.e2 he
    rw [← k]; exact g.e2 u hu
  · have h1 : e.2.2 ∈ s.ss.map (·.2.2) := List.mem_map.mpr ⟨e, he, rfl⟩
    rw [E.ss] at h1
    obtain ⟨u, hu, k⟩ := List.mem_map.mp h1
    rw [← k]; exact g.ss u hu
theorem bsL_good {H : Hp} {W D SD : Addr} {L : List Ent} {ss : List EntS} {last l2 : Option Int} {N : Int} (M : LawW H W D SD L ss last) (h1 : ∀ e, e ∈ L → e.2.2.number < N) (h2 : ∀ e, e ∈ ss → e.2.2.number < N) : GoodB N (bsL L ss l2) :=
  ⟨fun e he => ⟨(M.l.good e (BL_mem he).1).ok, h1 e (BL_mem he).1⟩, fun e he => ⟨(M.l.good e (BL_mem he).1).ok, h1 e (BL_mem he).1⟩, fun e he => ⟨(M.gs e he).2.2.2, (M.gs e he).1, h2 e he⟩⟩
theorem good_bsL {H : Hp} {W D SD : Addr} {L : List Ent} {ss : List EntS} {last l2 : Option Int} {N : Int} (M : LawW H W D SD L ss last) (g : GoodB N (bsL L ss l2)) : (∀ e, e ∈ L → e.2.2.number < N) ∧ ∀ e, e ∈ ss → e.2.2.number < N := by
  refine ⟨fun e he => ?_, fun e he => (g.ss e he).2.2⟩
  have hB : ∀ z, e.2.2.side = z → e ∈ BL z L := fun z hs => (BL_perm z L).mem_iff.mpr (List.mem_filter.mpr ⟨he, decide_eq_true hs⟩)
  rcases (M.l.good e he).side with z | z
  · exact (g.e1 e (hB _ z)).2
  · exact (g.e2 e (hB _ z)).2
/-! ### told reports as data -/
theorem rep_ext {a b : RepT} : (a.number = b.number ∧ a.house = b.house ∧ a.side = b.side ∧ a.fills = b.fills ∧ a.gone = b.gone ∧ a.rest = b.rest) ↔ a = b := by
  cases a
  cases b
  simp only [RepT.mk.injEq]
instance repEq : DecidableEq RepT := fun _ _ => decidable_of_iff _ rep_ext
def layG (t : RepT) : PyData := .tuple [.int t.number, .str t.house, .str t.side, .list (t.fills.map layFill), .list (t.gone.map PyData.int), .int t.rest]
theorem layD_G : LayD layG 3 GoodR := by
  have F := layD_F.list
  have I := layD_int.list
  refine ⟨fun x a => ?_, fun x => ?_, fun x y => ?_⟩
  · obtain ⟨a1, a2, a3⟩ := a
    have f1 := F.lay x.fills fun f hf => ⟨trivial, a3 f hf, trivial, trivial⟩
    have f2 := I.lay x.gone fun f hf => trivial
    unfold layG
    simp only [PyData.canLay0, PyData.canLayAll0] at f1 f2 ⊢
    rw [a1, a2, f1, f2]
    rfl
  · have f1 := F.dep x.fills
    have f2 := I.dep x.gone
    unfold layG
    simp only [PyData.depth, PyData.depthAll] at f1 f2 ⊢
    omega
  · have f1 := F.eqv x.fills y.fills
    have f2 := I.eqv x.gone y.gone
    unfold layG
    simp only [PyData.eqv, PyData.eqvAll] at f1 f2 ⊢
    rw [f1, f2]
    simp only [Bool.and_true, Bool.beq_eq_decide_eq]
    rw [decide_and2 (p := x.gone = y.gone) (q := x.rest = y.rest) Iff.rfl, decide_and2 (p := x.fills = y.fills) Iff.rfl, decide_and2 (p := x.side = y.side) Iff.rfl, decide_and2 (p := x.house = y.house) Iff.rfl]
    exact decide_and2 rep_ext.symm
theorem tell_dp {K : PySem.W.Frag} {H : Hp} {p : Addr} {t : Addr × Addr × RepT} (h : TellAt H t) (hp : H p = some (.tup (encT t))) : Dp K H (.ref p) (layG t.2.2) := by
  obtain ⟨fs, h1, h2⟩ := h
  have d2 : Dp K H (.ref t.2.1) (.list (t.2.2.gone.map PyData.int)) := .lst (SqL.of h2) (dpAll_ints _)
  exact .tup (SqT.of hp) (.cons (.int _) (.cons (.str _) (.cons (.str _) (.cons (h1.dp fun f q hq => dpFill f q hq) (.cons d2 (.cons (.int _) .nil))))))
theorem told_dp {K : PySem.W.Frag} {H : Hp} {R : Addr} {ps : List Addr} {ts : List (Addr × Addr × RepT)} {reps : List RepT} (h : Tups encT H R ps ts) (ht : ∀ t, t ∈ ts → TellAt H t) (hr : ts.map (·.2.2) = reps) : Dp K H (.ref R) (.list (reps.map layG)) := by
  have h1 := tups_dp (K := K) (lay := fun t => layG t.2.2) h fun x p hx hp => tell_dp (ht x hx) hp
  rw [← hr, List.map_map]
  exact h1

theorem ords_lenW {a b : List Ent} (h : ordsE a = ordsE b) : a.length = b.length := by
  have := congrArg List.length h
  unfold ordsE at this
  rwa [List.length_map, List.length_map] at this
theorem BL_lenW (s : Str) (L : List Ent) : (BL s L).length ≤ L.length := by
  rw [(BL_perm s L).length_eq]
  exact List.length_filter_le _ _

/-! ### from the reports of a command and the law's own to the end of the step -/
theorem LawW.tup {H : Hp} {W D SD : Addr} {L : List Ent} {ss : List EntS} {last : Option Int} (M : LawW H W D SD L ss last) {z : Addr} {v : HO} (h : H z = some v) (hl : ∀ xs, v ≠ .lst xs) : outL z D SD L := by
  refine ⟨fun k => ?_, fun k => ?_, fun k => ?_⟩
  · rw [k, M.a.li] at h; exact hl _ (Option.some.inj h).symm
  · rw [k, M.s.li] at h; exact hl _ (Option.some.inj h).symm
  · obtain ⟨u, hu, eu⟩ := List.mem_map.mp k
    rw [← eu, M.a.row u hu] at h; exact hl _ (Option.some.inj h).symm
theorem LawW.neW {H : Hp} {W D SD : Addr} {L : List Ent} {ss : List EntS} {last : Option Int} (M : LawW H W D SD L ss last) {z : Addr} {v : HO} (h : H z = some v) (hl : ∀ ds, v ≠ .dK ds) : z ≠ W := fun k => by
  rw [k, M.w] at h; exact hl _ (Option.some.inj h).symm
theorem LawW.nil {H : Hp} {W D SD : Addr} {L : List Ent} {ss : List EntS} {last : Option Int} (M : LawW H W D SD L ss last) {z : Addr} (h : H z = none) : z ≠ W ∧ outL z D SD L := by
  refine ⟨fun k => ?_, fun k => ?_, fun k => ?_, fun k => ?_⟩
  · rw [k, M.w] at h; cases h
  · rw [k, M.a.li] at h; cases h
  · rw [k, M.s.li] at h; cases h
  · obtain ⟨u, hu, eu⟩ := List.mem_map.mp k
    rw [← eu, M.a.row u hu] at h; cases h
/-- what is kept from heap to heap beside the law's world -/
def Kept (H H' : Hp) (W D SD : Addr) (L : List Ent) : Prop := ∀ z v, z ≠ W → outL z D SD L → H z = some v → H' z = some v
theorem Kept.tell {H H' : Hp} {W D SD : Addr} {L : List Ent} {ss : List EntS} {last : Option Int} (k : Kept H H' W D SD L) (M : LawW H W D SD L ss last) {t : Addr × Addr × RepT} (h : TellAt H t) (o1 : outL t.1 D SD L) (o2 : outL t.2.1 D SD L) : TellAt H' t := by
  obtain ⟨fs, h1, h2⟩ := h
  refine ⟨fs, ⟨k _ _ (M.neW h1.lst fun _ e => by cases e) o1 h1.lst, h1.len, fun i q f a b => ?_⟩, k _ _ (M.neW h2 fun _ e => by cases e) o2 h2⟩
  have h3 := h1.row i q f a b
  exact k _ _ (M.neW h3 fun _ e => by cases e) (M.tup h3 fun _ e => by cases e) h3
theorem Kept.tups {α : Type} {enc : α → List V} {xs : List α} {H H' : Hp} {W D SD R : Addr} {L : List Ent} {ss : List EntS} {last : Option Int} {ps : List Addr} (k : Kept H H' W D SD L) (M : LawW H W D SD L ss last) (h : Tups enc H R ps xs) (o : outL R D SD L) : Tups enc H' R ps xs := by
  refine ⟨k _ _ (M.neW h.lst fun _ e => by cases e) o h.lst, h.len, fun i q f a b => ?_⟩
  have h3 := h.row i q f a b
  exact k _ _ (M.neW h3 fun _ e => by cases e) (M.tup h3 fun _ e => by cases e) h3
/-- the reports of a command, out of the law's lists -/
structure ToldAt (CR : Addr) (H : Hp) (D SD : Addr) (L : List Ent) (p : Addr) (rs : List Addr) (ts : List (Addr × Addr × RepT)) : Prop where
  li : H p = some (.lst (rs.map V.ref))
  op : outL p D SD L
  len : rs.length = ts.length
  rep : ∀ (i : Nat) (r : Addr) (t : Addr × Addr × RepT), rs[i]? = some r → ts[i]? = some t → ∃ dr, H r = some (repO CR dr t.2.2.number t.2.2.house t.2.2.side t.1 t.2.1 t.2.2.rest)
  te : ∀ t, t ∈ ts → TellAt H t ∧ outL t.1 D SD L ∧ outL t.2.1 D SD L
theorem reps_ts {CR : Addr} {H : Hp} {F : List Addr} : ∀ {rs : List Addr} {reps : List RepT}, rs.length = reps.length → (∀ (i : Nat) (r : Addr) (t : RepT), rs[i]? = some r → reps[i]? = some t → RepAt CR H F r t) →
    ∃ ts : List (Addr × Addr × RepT), ts.map (·.2.2) = reps ∧ rs.length = ts.length ∧ (∀ (i : Nat) (r : Addr) (t : Addr × Addr × RepT), rs[i]? = some r → ts[i]? = some t → ∃ dr, H r = some (repO CR dr t.2.2.number t.2.2.house t.2.2.side t.1 t.2.1 t.2.2.rest)) ∧ ∀ t, t ∈ ts → TellAt H t ∧ t.1 ∉ F ∧ t.2.1 ∉ F
  | [], [], _, _ => ⟨[], rfl, rfl, fun i r t h _ => (by rw [List.getElem?_nil] at h; cases h), fun t h => (by cases h)⟩
  | [], _ :: _, h, _ => by cases h
  | _ :: _, [], h, _ => by cases h
  | r :: rs, x :: reps, h, k => by
    obtain ⟨ts, h1, h2, h3, h4⟩ := reps_ts (Nat.succ.inj h) fun i r' t' a b => k (i + 1) r' t' a b
    obtain ⟨dr, fl, rm, fs, g1, g2, g3, g4, g5⟩ := k 0 r x rfl rfl
    refine ⟨(fl, rm, x) :: ts, by rw [List.map_cons, h1], by rw [List.length_cons, List.length_cons, h2], fun i r' t' a b => ?_, fun t ht => ?_⟩
    · cases i with
      | zero =>
        cases a
        cases b
        exact ⟨dr, g1⟩
      | succ i => exact h3 i r' t' a b
    · rcases List.mem_cons.mp ht with z | z
      · rw [z]; exact ⟨⟨fs, g2, g3⟩, g4, g5⟩
      · exact h4 t z
theorem outL_of {z D SD : Addr} {L : List Ent} {F : List Addr} (h : z ∉ (D :: SD :: L.map (·.1)) ++ F) : outL z D SD L := by
  refine ⟨fun k => h ?_, fun k => h ?_, fun k => h ?_⟩
  · rw [k]; exact List.mem_append.mpr (.inl List.mem_cons_self)
  · rw [k]; exact List.mem_append.mpr (.inl (List.mem_cons_of_mem _ List.mem_cons_self))
  · exact List.mem_append.mpr (.inl (List.mem_cons_of_mem _ (List.mem_cons_of_mem _ k)))
theorem ToldAt.of {CR : Addr} {H : Hp} {D SD p : Addr} {L : List Ent} {F : List Addr} {reps : List RepT} (h : RepsAt CR H ((D :: SD :: L.map (·.1)) ++ F) p reps) : ∃ rs ts, ToldAt CR H D SD L p rs ts ∧ ts.map (·.2.2) = reps := by
  obtain ⟨rs, h1, h2, h3, h4⟩ := h
  obtain ⟨ts, k1, k2, k3, k4⟩ := reps_ts h3 h4
  exact ⟨rs, ts, ⟨h1, outL_of h2, k2, k3, fun t ht => ⟨(k4 t ht).1, outL_of fun z => (k4 t ht).2.1 (List.mem_cons_of_mem _ z), outL_of fun z => (k4 t ht).2.2 (List.mem_cons_of_mem _ z)⟩⟩, k1⟩
theorem ToldAt.keep {CR : Addr} {H H' : Hp} {W D SD p : Addr} {L L' : List Ent} {ss : List EntS} {last : Option Int} {rs : List Addr} {ts : List (Addr × Addr × RepT)} (h : ToldAt CR H D SD L p rs ts) (M : LawW H W D SD L ss last) (k : Kept H H' W D SD L) (n : ∀ z v, outL z D SD L → H z = some v → outL z D SD L') : ToldAt CR H' D SD L' p rs ts := by
  refine ⟨k _ _ (M.neW h.li fun _ e => by cases e) h.op h.li, n _ _ h.op h.li, h.len, fun i r t a b => ?_, fun t ht => ?_⟩
  · obtain ⟨dr, hr⟩ := h.rep i r t a b
    exact ⟨dr, k _ _ (M.neW hr fun _ e => by unfold repO at e; cases e) (M.tup hr fun _ e => by unfold repO at e; cases e) hr⟩
  · obtain ⟨h1, h2, h3⟩ := h.te t ht
    refine ⟨k.tell M h1 h2 h3, ?_, ?_⟩
    · obtain ⟨fs, q1, q2⟩ := h1
      exact n _ _ h2 q1.lst
    · obtain ⟨fs, q1, q2⟩ := h1
      exact n _ _ h3 q2
/-- what stands behind a command and before the world's triggers -/
structure MidW (C : BC) (H : Hp) (a : BA) (s1 s' : BS) (W D SD p pd fl rm : Addr) (L : List Ent) (ss : List EntS) (last : Option Int) (rep : RepT) (reps : List RepT) (rs : List Addr) (ts : List (Addr × Addr × RepT)) : Prop where
  B : BookW C H a s'
  M : LawW H W D SD L ss last
  P : PureR s1
  E : EqB s1 (bsL L ss (lastF last rep.fills))
  T : TrigS s1 s' reps
  F : firstS s'.last s'.ss = none
  oD : D ∉ foot a s'
  oS : SD ∉ foot a s'
  oR : ∀ e, e ∈ L → e.1 ∉ foot a s'
  num : ∀ e, e ∈ L → e.2.2.number < s'.next
  nus : ∀ e, e ∈ ss → e.2.2.number < s'.next
  told : ToldAt C.CR H D SD L p rs ts
  tr : ts.map (·.2.2) = rep :: reps
  pd : H pd = some (.tup [.ref fl, .ref rm, .int rep.rest])
  te : TellAt H (fl, rm, rep)
  ofl : outL fl D SD L
  orm : outL rm D SD L
  gr : GoodR rep
/-- the world's last price is told anew -/
theorem MidW.put {C : BC} {H : Hp} {a : BA} {s1 s' : BS} {W D SD p pd fl rm : Addr} {L : List Ent} {ss : List EntS} {last : Option Int} {rep : RepT} {reps : List RepT} {rs : List Addr} {ts : List (Addr × Addr × RepT)} (m : MidW C H a s1 s' W D SD p pd fl rm L ss last rep reps rs ts) (last' : Option Int) :
    LawW (upd H W (.dK (worldD D SD last'))) W D SD L ss last' ∧ BookW C (upd H W (.dK (worldD D SD last'))) a s' ∧ ToldAt C.CR (upd H W (.dK (worldD D SD last'))) D SD L p rs ts ∧ upd H W (.dK (worldD D SD last')) pd = some (.tup [.ref fl, .ref rm, .int rep.rest]) ∧ TellAt (upd H W (.dK (worldD D SD last'))) (fl, rm, rep) := by
  have M := m.M
  have k : Kept H (upd H W (.dK (worldD D SD last'))) W D SD L := fun z v h1 _ hz => (upd_ne h1).trans hz
  have nl : ∀ {z xs}, H z = some (.lst xs) → z ≠ W := fun h => M.neW h fun _ e => by cases e
  have nt : ∀ {z xs}, H z = some (.tup xs) → z ≠ W := fun h => M.neW h fun _ e => by cases e
  refine ⟨⟨upd_same, ⟨(upd_ne (nl M.a.li)).trans M.a.li, fun e he => (upd_ne (nl (M.a.row e he))).trans (M.a.row e he), M.a.nd, M.a.out⟩, ⟨(upd_ne (nl M.s.li)).trans M.s.li, fun e he => (upd_ne (nt (M.s.row e he))).trans (M.s.row e he), M.s.nd⟩, M.l, M.nDS, M.nR, M.asc, M.gs, M.nn⟩, m.B.beside M m.oD m.oS m.oR k, m.told.keep M k fun z v h _ => h, (upd_ne (nt m.pd)).trans m.pd, k.tell M m.te m.ofl m.orm⟩
/-- the end of a step -/
theorem MidW.fin {C : BC} {H4 H8 H9 : Hp} {a : BA} {s1 s' : BS} {W D SD p pd fl rm : Addr} {L L' : List Ent} {ss ss' : List EntS} {last last' : Option Int} {rep : RepT} {reps reps' : List RepT} {rs : List Addr} {ts : List (Addr × Addr × RepT)} (m : MidW C H4 a s1 s' W D SD p pd fl rm L ss last rep reps rs ts)
    (B8 : BookW C H8 a s') (M8 : LawW H8 W D SD L ss (lastF last rep.fills)) (T' : TrigS (bsL L ss (lastF last rep.fills)) (bsL L' ss' last') reps') (F' : firstS last' ss' = none) (M9 : LawW H9 W D SD L' ss' last')
    (hk : ∀ z v, z ≠ W → outL z D SD L → H8 z = some v → H9 z = some v ∧ z ∉ L'.map (·.1)) : SimW C H9 a s' W D SD L' ss' last' ∧ reps = reps' ∧ ∀ r, r ∈ rep :: reps → GoodR r := by
  obtain ⟨E, er⟩ := trig_uniq m.E m.T T' m.F F'
  have g := bsL_good (l2 := lastF last rep.fills) m.M m.num m.nus
  obtain ⟨g1, gr⟩ := trig_good T' g
  obtain ⟨n1, n2⟩ := good_bsL M9 g1
  refine ⟨⟨B8.beside M8 m.oD m.oS m.oR fun z v h1 h2 hz => (hk z v h1 h2 hz).1, M9, E, m.oD, m.oS, fun e he z => ?_, n1, n2, m.F⟩, er, fun r hr => ?_⟩
  · by_cases hL : e.1 ∈ L.map (·.1)
    · obtain ⟨u, hu, eu⟩ := List.mem_map.mp hL
      exact m.oR u hu (eu ▸ z)
    · obtain ⟨v, hv, hm⟩ := B8.kind z
      have hW : e.1 ≠ W := fun k => by rw [k, M8.w] at hv; cases hv; exact nomov_world hm
      exact (hk e.1 v hW ⟨fun k => m.oD (k ▸ z), fun k => m.oS (k ▸ z), hL⟩ hv).2 (List.mem_map.mpr ⟨e, he, rfl⟩)
  · rcases List.mem_cons.mp hr with z | z
    · rw [z]; exact m.gr
    · rw [er] at z; exact gr r z
theorem SimW.len {C : BC} {H : Hp} {a : BA} {s : BS} {W D SD : Addr} {L : List Ent} {ss : List EntS} {last : Option Int} (S : SimW C H a s W D SD L ss last) : s.es1.length ≤ L.length ∧ s.es2.length ≤ L.length ∧ s.ss.length = ss.length := by
  refine ⟨?_, ?_, ?_⟩
  · exact Nat.le_trans (Nat.le_of_eq (ords_lenW S.E.e1)) (BL_lenW _ _)
  · exact Nat.le_trans (Nat.le_of_eq (ords_lenW S.E.e2)) (BL_lenW _ _)
  · have := congrArg List.length S.E.ss
    rwa [List.length_map, List.length_map] at this
theorem SimW.others {C : BC} {H : Hp} {a : BA} {s : BS} {W D SD : Addr} {L : List Ent} {ss : List EntS} {last : Option Int} (S : SimW C H a s W D SD L ss last) : Others H a s (D :: SD :: L.map (·.1)) := fun z hz => by
  rcases List.mem_cons.mp hz with k | k
  · rw [k]; exact ⟨S.oD, _, S.M.a.li⟩
  · rcases List.mem_cons.mp k with k | k
    · rw [k]; exact ⟨S.oS, _, S.M.s.li⟩
    · obtain ⟨u, hu, eu⟩ := List.mem_map.mp k
      rw [← eu]; exact ⟨S.oR u hu, _, S.M.a.row u hu⟩
theorem SimW.same {C : BC} {H H' : Hp} {a : BA} {s : BS} {W D SD : Addr} {L : List Ent} {ss : List EntS} {last : Option Int} (S : SimW C H a s W D SD L ss last) (e : Same H H') : SimW C H' a s W D SD L ss last := ⟨S.B.same e, S.M.same e, S.E, S.oD, S.oS, S.oR, S.num, S.nus, S.F⟩

/-- the law's own entry of an order, behind the book's -/
theorem mid_enter {C : BC} {H7 H8 : Hp} {a : BA} {s0 s1 s' : BS} {W D SD p pt fl' rm' o dxo o' : Addr} {L L' : List Ent} {ss : List EntS} {last : Option Int} {t : Ord} {kd : Str} {rep : RepT} {reps : List RepT} {rs fs' : List Addr} {ts : List (Addr × Addr × RepT)} {R' : SubR}
    (B : BookW C H7 a s') (M : LawW H7 W D SD L ss last) (P : PureR s1) (T : TrigS s1 s' reps) (F : firstS s'.last s'.ss = none) (oD : D ∉ foot a s') (oS : SD ∉ foot a s') (oR : ∀ e, e ∈ L → e.1 ∉ foot a s')
    (num : ∀ e, e ∈ L → e.2.2.number < s'.next) (nus : ∀ e, e ∈ ss → e.2.2.number < s'.next) (told : ToldAt C.CR H7 D SD L p rs ts) (tr : ts.map (·.2.2) = rep :: reps)
    (hn : t.number < s'.next) (hnS : ∀ e, e ∈ ss → e.2.2.number ≠ t.number) (E : EqB s0 (bsL L ss last)) (hs1 : s1 = (enterB s0 o dxo t kd).1) (hrep : rep = (enterB s0 o dxo t kd).2) (hs : t.side = "buy" ∨ t.side = "sell") (hok : PyData.strOk t.house = true)
    (hR : R' = subF kd t o' 0 last (BL (otherS t.side) L) (BL t.side L)) (hp : H8 pt = some (.tup [.ref fl', .ref rm', .int R'.rest])) (hT' : Tups encFill H8 fl' fs' R'.fills) (hG' : H8 rm' = some (.lst (R'.gone.map V.int)))
    (hLo' : LoAt H8 D L') (hlaw' : LawL L') (hoth : R'.oth = BL (otherS t.side) L') (hown : R'.own = BL t.side L')
    (hsub : ∀ e, e ∈ L' → (∃ x, x ∈ L ∧ x.1 = e.1 ∧ x.2.2.number = e.2.2.number ∧ x.2.2.price = e.2.2.price) ∨ (e.2.2.number = t.number ∧ H7 e.1 = none ∧ e.2.2.price = t.price)) (nfl' : H7 fl' = none) (nrm' : H7 rm' = none)
    (hfr : ∀ z v, z ≠ D → z ∉ L.map (·.1) → H7 z = some v → H8 z = some v) :
    MidW C H8 a s1 s' W D SD p pt fl' rm' L' ss last rep reps rs ts ∧ ∀ z v, outL z D SD L → H7 z = some v → H8 z = some v ∧ outL z D SD L' := by
  have hD : D ∉ ss.map (·.1) := fun m => by
    obtain ⟨u, hu, eu⟩ := List.mem_map.mp m
    have h1 := M.s.row u hu
    rw [eu, M.a.li] at h1; cases h1
  have hoff : offS (bsL L ss last) D = bsL L ss last := by
    unfold offS
    rw [show (bsL L ss last).ss = ss from rfl, dropS_none hD]
    rfl
  have hEL := enterB_L (s1 := ss) (l1 := last) (a := D) hs hR hoth hown
  rw [hoff, dropS_none hD] at hEL
  obtain ⟨hE1, hE2⟩ := enterB_eq (o := o) (dxo := dxo) (o' := o') (dxo' := 0) (t := t) (kd := kd) E
  rw [hEL] at hE1 hE2
  have hrep2 : rep = ⟨t.number, t.house, t.side, R'.fills, R'.gone, R'.rest⟩ := hrep.trans hE2
  have hll : lastF last rep.fills = R'.last := by
    rw [hrep2, hR]
    exact sub_lastF.symm
  have k : Kept H7 H8 W D SD L := fun z v _ h2 hz => hfr z v h2.1 h2.2.2 hz
  have fresh2 : ∀ z v, outL z D SD L → H7 z = some v → outL z D SD L' := fun z v h hz => by
    refine ⟨h.1, h.2.1, fun m => ?_⟩
    obtain ⟨u, hu, eu⟩ := List.mem_map.mp m
    rcases hsub u hu with ⟨x, hx, kx, _⟩ | ⟨_, kx, _⟩
    · exact h.2.2 (List.mem_map.mpr ⟨x, hx, kx.trans eu⟩)
    · rw [eu, hz] at kx; cases kx
  have hWD : W ≠ D ∧ W ∉ L.map (·.1) := by
    have := M.tup M.w fun _ e => by cases e
    exact ⟨this.1, this.2.2⟩
  have hSD : SD ∉ L.map (·.1) := fun m => by
    obtain ⟨u, hu, eu⟩ := List.mem_map.mp m
    exact M.nR u hu eu
  have outs : ∀ {z}, H7 z = none → H8 z ≠ none → ∀ xs, H8 z = some (.lst xs) → (∀ e, e ∈ L' → rowL e.2.2 ≠ xs) → outL z D SD L' := fun {z} h0 _ xs hx hne => by
    obtain ⟨_, h1, h2, h3⟩ := M.nil h0
    refine ⟨h1, h2, fun m => ?_⟩
    obtain ⟨u, hu, eu⟩ := List.mem_map.mp m
    have h4 := hLo'.row u hu
    rw [eu, hx] at h4
    exact hne u hu (HO.lst.inj (Option.some.inj h4)).symm
  refine ⟨⟨B.beside M oD oS oR k, ⟨hfr _ _ hWD.1 hWD.2 M.w, hLo', ⟨hfr _ _ M.nDS.symm hSD M.s.li, fun e he => ?_, M.s.nd⟩, hlaw', M.nDS, fun e he => ?_, M.asc, M.gs, fun e he m => ?_⟩, P, ?_, T, F, oD, oS, fun e he => ?_, fun e he => ?_, nus, told.keep M k fresh2, tr, ?_, ?_, ?_, ?_, ?_⟩, fun z v h hz => ⟨hfr _ _ h.1 h.2.2 hz, fresh2 z v h hz⟩⟩
  · have h1 := M.s.row e he
    have := M.tup h1 fun _ e => by cases e
    exact hfr _ _ this.1 this.2.2 h1
  · intro z
    rcases hsub e he with ⟨x, hx, kx, _⟩ | ⟨_, kx, _⟩
    · exact M.nR x hx (kx.trans z)
    · rw [z, M.s.li] at kx; cases kx
  · obtain ⟨u, hu, eu⟩ := List.mem_map.mp m
    rcases hsub u hu with ⟨x, hx, _, kx, _⟩ | ⟨kx, _⟩
    · exact M.nn e he (List.mem_map.mpr ⟨x, hx, kx.trans eu⟩)
    · exact hnS e he (eu.symm.trans kx)
  · rw [hll, hs1]
    exact hE1
  · rcases hsub e he with ⟨x, hx, kx, _⟩ | ⟨_, kx, _⟩
    · rw [← kx]; exact oR x hx
    · exact B.fresh kx
  · rcases hsub e he with ⟨x, hx, _, kx, _⟩ | ⟨kx, _⟩
    · rw [← kx]; exact num x hx
    · rw [kx]; exact hn
  · rw [hp, hrep2]
  · rw [hrep2]
    exact ⟨fs', hT', hG'⟩
  · refine outs nfl' (by rw [hT'.lst]; exact fun z => by cases z) _ hT'.lst fun e he z => ?_
    have h2 : V.int e.2.2.number ∈ fs'.map V.ref := by rw [← z]; exact List.mem_cons_self
    obtain ⟨_, _, ev⟩ := List.mem_map.mp h2
    cases ev
  · refine outs nrm' (by rw [hG']; exact fun z => by cases z) _ hG' fun e he z => ?_
    have h2 : V.str e.2.2.house ∈ R'.gone.map V.int := by rw [← z]; exact List.mem_cons_of_mem _ List.mem_cons_self
    obtain ⟨_, _, ev⟩ := List.mem_map.mp h2
    cases ev
  · rw [hrep2]
    refine ⟨hok, side_ok hs, ?_⟩
    show ∀ f, f ∈ R'.fills → _
    rw [hR]
    exact sub_fills_ok fun e he => (M.l.good e (BL_mem he).1).ok
/-- a stop order more in the law's world -/
theorem LawW.addS {H : Hp} {W D SD y : Addr} {L : List Ent} {ss : List EntS} {last : Option Int} {t : Stp} (M : LawW H W D SD L ss last) (hy : H y = some (.tup (rowS t))) (nin : y ∉ ss.map (·.1)) (hlt : ∀ e, e ∈ ss → e.2.2.number < t.number)
    (hg : (t.side = "buy" ∨ t.side = "sell") ∧ 1 ≤ t.quantity ∧ t.quantity ≤ 400 ∧ PyData.strOk t.house = true) (hn : t.number ∉ L.map fun e => e.2.2.number) : LawW (upd H SD (.lst (refsS ss ++ [.ref y]))) W D SD L (ss ++ [(y, 0, t)]) last := by
  have hWS : W ≠ SD := fun z => by have := M.w; rw [z, M.s.li] at this; cases this
  have nt : ∀ {z : Addr} {xs : List V}, H z = some (.tup xs) → z ≠ SD := fun h z => by rw [z, M.s.li] at h; cases h
  have mem : ∀ e, e ∈ ss ++ [(y, 0, t)] → e ∈ ss ∨ e = (y, 0, t) := fun e he => (List.mem_append.mp he).imp_right List.mem_singleton.mp
  refine ⟨(upd_ne hWS).trans M.w, M.a.other M.nDS M.nR, ⟨?_, fun e he => ?_, ?_⟩, M.l, M.nDS, M.nR, ?_, fun e he => ?_, fun e he => ?_⟩
  · rw [upd_same]
    unfold refsS
    rw [List.map_append]
    rfl
  · rcases mem e he with z | z
    · exact (upd_ne (nt (M.s.row e z))).trans (M.s.row e z)
    · rw [z]
      exact (upd_ne (nt hy)).trans hy
  · rw [List.map_append]
    refine List.nodup_append.mpr ⟨M.s.nd, List.nodup_cons.mpr ⟨List.not_mem_nil, List.nodup_nil⟩, fun u hu v hv q => ?_⟩
    rw [List.mem_singleton.mp hv] at q
    have q : u = y := q
    exact nin (q ▸ hu)
  · refine List.pairwise_append.mpr ⟨M.asc, List.pairwise_singleton .., fun u hu v hv => ?_⟩
    rw [List.mem_singleton.mp hv]
    exact hlt u hu
  · rcases mem e he with z | z
    · exact M.gs e z
    · rw [z]; exact hg
  · rcases mem e he with z | z
    · exact M.nn e z
    · rw [z]; exact hn
theorem kept_same {H H' : Hp} {W D SD : Addr} {L : List Ent} (e : Same H H') : Kept H H' W D SD L := fun z v _ _ h => e z v h
theorem num_out {L : List Ent} {n : Int} (h : ∀ e, e ∈ L → e.2.2.number < n) : n ∉ L.map fun e => e.2.2.number := fun m => by
  obtain ⟨u, hu, eu⟩ := List.mem_map.mp m
  have := h u hu
  omega
/-- what an empty answer of the law's own is -/
theorem mid_stop {C : BC} {H5 H8 : Hp} {a : BA} {s1 s' : BS} {W D SD p pd fl rm : Addr} {L : List Ent} {ss : List EntS} {last : Option Int} {n : Int} {ho si : Str} {reps : List RepT} {rs : List Addr} {ts : List (Addr × Addr × RepT)}
    (B : BookW C H5 a s') (M : LawW H5 W D SD L ss last) (P : PureR s1) (T : TrigS s1 s' reps) (F : firstS s'.last s'.ss = none) (E : EqB s1 (bsL L ss last)) (oD : D ∉ foot a s') (oS : SD ∉ foot a s') (oR : ∀ e, e ∈ L → e.1 ∉ foot a s')
    (num : ∀ e, e ∈ L → e.2.2.number < s'.next) (nus : ∀ e, e ∈ ss → e.2.2.number < s'.next) (told : ToldAt C.CR H5 D SD L p rs ts) (tr : ts.map (·.2.2) = ⟨n, ho, si, [], [], 0⟩ :: reps) (hok : PyData.strOk ho = true) (hs : si = "buy" ∨ si = "sell")
    (e : Same H5 H8) (nfl : H5 fl = none) (nrm : H5 rm = none) (hfl : H8 fl = some (.lst [])) (hrm : H8 rm = some (.lst [])) (hpd : H8 pd = some (.tup [.ref fl, .ref rm, .int 0])) : MidW C H8 a s1 s' W D SD p pd fl rm L ss last ⟨n, ho, si, [], [], 0⟩ reps rs ts :=
  ⟨B.same e, M.same e, P, E, T, F, oD, oS, oR, num, nus, told.keep M (kept_same e) fun z v h _ => h, tr, hpd, ⟨[], Tups.nil hfl, hrm⟩, (M.nil nfl).2, (M.nil nrm).2, ⟨hok, side_ok hs, fun f hf => by cases hf⟩⟩
theorem Tups.head {α : Type} {enc : α → List V} {H : Hp} {R l p : Addr} {ps : List Addr} {xs : List α} {x : α} (h : Tups enc H R ps xs) (hp : H p = some (.tup (enc x))) (hl : H l = some (.lst ([V.ref p] ++ ps.map V.ref))) : Tups enc H l (p :: ps) (x :: xs) :=
  ⟨hl, by rw [List.length_cons, List.length_cons, h.len], fun i q y h1 h2 => by
    cases i with
    | zero => cases h1; cases h2; exact hp
    | succ i => exact h.row i q y h1 h2⟩

theorem LawL.setG {L : List Ent} {e : Ent} {f : Ord → Ord} (h : LawL L) (he : e ∈ L) (hf : ∀ o, (f o).side = o.side ∧ (f o).price = o.price ∧ (f o).house = o.house ∧ (f o).number = o.number) (hv : 1 ≤ (f e.2.2).visible ∧ (f e.2.2).visible ≤ (f e.2.2).left ∧ 0 ≤ (f e.2.2).shown) : LawL (setE e.1 f L) := by
  refine ⟨fun y hy => ?_, by rw [setE_addr]; exact h.nda, ?_⟩
  · obtain ⟨x, hx, rfl⟩ := setE_mem hy
    split
    · next z =>
      have hxe := nodup_addr h.nda hx he z
      subst hxe
      have g := h.good x hx
      have k := hf x.2.2
      refine ⟨?_, ?_, hv, ?_⟩
      · show (f x.2.2).side = _ ∨ (f x.2.2).side = _
        rw [k.1]; exact g.side
      · show ∃ p, (f x.2.2).price = some p
        rw [k.2.1]; exact g.price
      · show PyData.strOk (f x.2.2).house = true
        rw [k.2.2.1]; exact g.ok
    · exact h.good x hx
  · have : (setE e.1 f L).map (fun e => e.2.2.number) = L.map fun e => e.2.2.number := by
      unfold setE
      rw [List.map_map]
      refine List.map_congr_left fun y _ => ?_
      show (if y.1 = e.1 then _ else y).2.2.number = y.2.2.number
      split
      · exact (hf y.2.2).2.2.2
      · rfl
    rw [this]
    exact h.ndn
theorem BL_setG {s : Str} {L : List Ent} (a : Addr) {f : Ord → Ord} (hf : ∀ o, (f o).side = o.side ∧ (f o).price = o.price) : BL s (setE a f L) = setE a f (BL s L) := by
  unfold setE
  refine BL_map (fun e => ?_) s L
  split
  · exact hf e.2.2
  · exact ⟨rfl, rfl⟩
theorem set_both {s : Str} {es L : List Ent} {a : Addr} {e : Ent} {f : Ord → Ord} (hf : ∀ o, (f o).side = o.side ∧ (f o).price = o.price) (h : ordsE es = ordsE (BL s L)) (l : LawL L) (he : e ∈ L) (u : Uniq es a e.2.2.number) : ordsE (setE a f es) = ordsE (BL s (setE e.1 f L)) := by
  rw [set_ords u, BL_setG e.1 hf, set_ords ((uniq_L l he).sub fun y hy => (BL_mem hy).1), h]
theorem set_get {a : Addr} {f : Ord → Ord} (hf : ∀ o, (f o).number = o.number ∧ (f o).price = o.price) {L : List Ent} {y : Ent} (h : y ∈ setE a f L) : ∃ x, x ∈ L ∧ x.1 = y.1 ∧ x.2.2.number = y.2.2.number ∧ x.2.2.price = y.2.2.price := by
  obtain ⟨x, hx, rfl⟩ := setE_mem h
  refine ⟨x, hx, ?_⟩
  split
  · exact ⟨rfl, (hf _).1.symm, (hf _).2.symm⟩
  · exact ⟨rfl, rfl, rfl⟩
/-- an order of the law's world is changed where it stands -/
theorem LawW.set {H : Hp} {W D SD : Addr} {L : List Ent} {ss : List EntS} {last : Option Int} {e : Ent} {f : Ord → Ord} (M : LawW H W D SD L ss last) (he : e ∈ L) (hf : ∀ o, (f o).side = o.side ∧ (f o).price = o.price ∧ (f o).house = o.house ∧ (f o).number = o.number)
    (hv : 1 ≤ (f e.2.2).visible ∧ (f e.2.2).visible ≤ (f e.2.2).left ∧ 0 ≤ (f e.2.2).shown) : LawW (upd H e.1 (.lst (rowL (f e.2.2)))) W D SD (setE e.1 f L) ss last := by
  have hf2 : ∀ o, (f o).number = o.number ∧ (f o).price = o.price := fun o => ⟨(hf o).2.2.2, (hf o).2.1⟩
  have hrow := M.a.row e he
  have nt : ∀ {z : Addr} {v : HO}, H z = some v → (∀ xs, v ≠ .lst xs) → z ≠ e.1 := fun h hv z => by rw [z, hrow] at h; exact hv _ (Option.some.inj h).symm
  refine ⟨(upd_ne (nt M.w fun _ k => by cases k)).trans M.w, M.a.set he f, ⟨(upd_ne (M.nR e he).symm).trans M.s.li, fun y hy => (upd_ne (nt (M.s.row y hy) fun _ k => by cases k)).trans (M.s.row y hy), M.s.nd⟩, M.l.setG he hf hv, M.nDS, fun y hy => ?_, M.asc, M.gs, fun y hy m => ?_⟩
  · obtain ⟨x, hx, k, _⟩ := set_get hf2 hy
    rw [← k]; exact M.nR x hx
  · obtain ⟨u, hu, eu⟩ := List.mem_map.mp m
    obtain ⟨x, hx, _, k, _⟩ := set_get hf2 hu
    exact M.nn y hy (List.mem_map.mpr ⟨x, hx, k.trans eu⟩)
theorem ite_else {c : Prop} [Decidable c] {A B : Prop} (hA : c → B → A) (hB : B) : if c then A else B := by
  by_cases h : c
  · rw [if_pos h]; exact hA h hB
  · rw [if_neg h]; exact hB

theorem mod_step (n : Int) (k : Int) (h : 0 < k) : 0 ≤ n % k ∧ n % k ≤ k - 1 := ⟨Int.emod_nonneg _ (by omega), by have := Int.emod_lt_of_pos n h; omega⟩
def sp_law_submit (K : PySem.W.Frag) (CO CB CK CS CR : Addr) : Sp := fun vs H Q _ => ∃ (_ : Unit) (a : BA) (s : BS) (W D SD : Addr) (L : List Ent) (ss : List EntS) (last : Option Int) (cell : Int), vs = [.ref a.x, .ref W, .int cell, .int s.next] ∧
  SimW ⟨CO, CB, CK, CS, CR⟩ H a s W D SD L ss last ∧ L.length + ss.length ≤ 28 ∧
  ∀ (H' : Hp) (s' : BS) (L' : List Ent) (ss' : List EntS) (last' : Option Int), SimW ⟨CO, CB, CK, CS, CR⟩ H' a s' W D SD L' ss' last' → s'.next = s.next + 1 → L'.length + ss'.length ≤ L.length + ss.length + 1 → KeepW H H' a s s' W D SD L L' → Q (.bl true) H'
set_option maxHeartbeats 0 in
theorem ok_law_submit (T : Txt K mg) [TB : TabsOk T base] : FnOk P w K mg base CX0 9 T.f_law_submit T.d_law_submit ["book", "world", "cell", "number"] (sp_law_submit K T.c_Order T.c_BookSide T.c_Book T.c_Stop T.c_Report) := by
  refine T.F_law_submit.ok sc_law_submit (fun vs H Q E h => ?_) (fun cdv A outer s H vs Q E hr h => ?_)
  · obtain ⟨_, a, s, W, D, SD, L, ss, last, cell, rfl, _⟩ := h
    rfl
  · obtain ⟨_, a, s, W, D, SD, L, ss, last, cell, rfl, S, hlen, q⟩ := h
    have G_law_house : FnOk P w K mg base CX0 1 T.f_law_house T.d_law_house ["cell"] (sp_law_house K) := ok_law_house T
    have G_law_last : FnOk P w K mg base CX0 1 T.f_law_last T.d_law_last ["last", "due"] (sp_law_last K) := ok_law_last T
    have G_Book_submit_stop : FnOk P w K mg base (L2.CX P w) 8 T.f_Book_submit_stop T.d_Book_submit_stop ["self", "house", "side", "trigger", "price", "quantity"] (sp_Book_submit_stop K T.c_InvalidOrder T.c_Order T.c_BookSide T.c_Book T.c_Stop T.c_Report) := ok_Book_submit_stop T
    have G_Book_submit : FnOk P w K mg base (L2.CX P w) 8 T.f_Book_submit T.d_Book_submit ["self", "house", "side", "price", "quantity", "kind", "shown"] (sp_Book_submit K T.c_InvalidOrder T.c_Order T.c_BookSide T.c_Book T.c_Stop T.c_Report) := ok_Book_submit T
    have G_law_enter : FnOk P w K mg base CX0 4 T.f_law_enter T.d_law_enter ["orders", "number", "house", "side", "limit", "quantity", "kind", "shown"] (sp_law_enter K) := ok_law_enter T
    have G_law_told : FnOk P w K mg base CX0 1 T.f_law_told T.d_law_told ["reports"] (sp_law_told K T.c_Report) := ok_law_told T
    have G_law_triggered : FnOk P w K mg base CX0 5 T.f_law_triggered T.d_law_triggered ["world"] (sp_law_triggered K) := ok_law_triggered T
    refine ⟨_, (pss_cons (ps_set (i := 4) sc_law_submit.nd rfl (Or.inl rfl) (pe_call G_law_house (hr.mono (by decide)) (by rfl) T.m_law_house T.F_law_house.kp T.b_law_house .nil pass0 (pa_cons (pv 2) pa_nil)))
    (pss_cons (ps_set (i := 5) sc_law_submit.nd rfl (Or.inl rfl) (pe_ix ix_list (pe_lst (pa_cons pe_str (pa_cons pe_str pa_nil))) (pe_op op_mod (pe_op op_fdiv (pe_callTy call_int_i (by rfl) T.z_int (by decide +kernel) (pa_cons (pv 2) pa_nil)) pe_int) pe_int) (fun _ _ => rfl)))
    (pss_cons (ps_set (i := 6) sc_law_submit.nd rfl (Or.inl rfl) (pe_op op_add pe_int (pe_op op_mod (pe_op op_fdiv (pe_callTy call_int_i (by rfl) T.z_int (by decide +kernel) (pa_cons (pv 2) pa_nil)) pe_int) pe_int)))
    (pss_cons (ps_set (i := 7) sc_law_submit.nd rfl (Or.inl rfl) (pe_op op_add pe_int (pe_op op_mod (pe_op op_fdiv (pe_callTy call_int_i (by rfl) T.z_int (by decide +kernel) (pa_cons (pv 2) pa_nil)) pe_int) pe_int)))
    (C8.pss_cut (ps_if (pt_cmpR op_eq (pe_op op_mod (pe_op op_fdiv (pe_callTy call_int_i (by rfl) T.z_int (by decide +kernel) (pa_cons (pv 2) pa_nil)) pe_int) pe_int) pe_int (nomark _))
      (pss_cons (ps_set (i := 8) sc_law_submit.nd rfl (Or.inl rfl) (pe_op op_add pe_int (pe_op op_mod (pe_op op_fdiv (pe_callTy call_int_i (by rfl) T.z_int (by decide +kernel) (pa_cons (pv 2) pa_nil)) pe_int) pe_int)))
      (C8.pss_cut (ps_if (pt_cmpR op_eq (pe_op op_mod (pe_op op_fdiv (pe_callTy call_int_i (by rfl) T.z_int (by decide +kernel) (pa_cons (pv 2) pa_nil)) pe_int) pe_int) pe_int (nomark _))
        (pss_one (ps_set (i := 6) sc_law_submit.nd rfl (Or.inl rfl) pe_non))
        pss_nil)
      (pss_cons (ps_expr (pe_bm PySem.F.plainAttrs_list PySem.F.slot_list_append PySem.F.type_list_append mt_append (pe_dget (hu_of hr) (pv 1) pe_str (fun _ _ => rfl)) (pa_cons (pe_tup (pa_cons (pv 3) (pa_cons (pv 4) (pa_cons (pv 5) (pa_cons (pv 8) (pa_cons (pv 6) (pa_cons (pv 7) pa_nil))))))) pa_nil)))
      (pss_cons (ps_set (i := 9) sc_law_submit.nd rfl (Or.inl rfl) (pe_mx (pv 0) T.cl_Book T.mt_Book_submit_stop G_Book_submit_stop hr T.b_Book_submit_stop .nil (fun _ => passLat) (pa_cons (pv 4) (pa_cons (pv 5) (pa_cons (pv 8) (pa_cons (pv 6) (pa_cons (pv 7) pa_nil)))))))
      (pss_one (ps_set (i := 10) sc_law_submit.nd rfl (Or.inl rfl) (pe_tup (pa_cons (pe_lst pa_nil) (pa_cons (pe_lst pa_nil) (pa_cons pe_int pa_nil))))))))))
      (pss_cons (ps_set (i := 11) sc_law_submit.nd rfl (Or.inl rfl) (pe_ix ix_list (pe_lst (pa_cons pe_str (pa_cons pe_str (pa_cons pe_str pa_nil)))) (pe_op op_mod (pe_op op_fdiv (pe_callTy call_int_i (by rfl) T.z_int (by decide +kernel) (pa_cons (pv 2) pa_nil)) pe_int) pe_int) (fun _ _ => rfl)))
      (pss_cons (ps_set (i := 12) sc_law_submit.nd rfl (Or.inl rfl) pe_int)
      (C8.pss_cut (ps_if (pt_cmpR op_eq (pv 11) pe_str (nomark _))
        (pss_one (ps_set (i := 12) sc_law_submit.nd rfl (Or.inl rfl) (pe_op op_mod (pe_op op_fdiv (pe_callTy call_int_i (by rfl) T.z_int (by decide +kernel) (pa_cons (pv 2) pa_nil)) pe_int) (pe_op op_add (pv 7) pe_int))))
        (pss_one (ps_if (pt_cmpR op_eq (pe_op op_mod (pe_op op_fdiv (pe_callTy call_int_i (by rfl) T.z_int (by decide +kernel) (pa_cons (pv 2) pa_nil)) pe_int) pe_int) pe_int (nomark _))
          (pss_one (ps_set (i := 6) sc_law_submit.nd rfl (Or.inl rfl) pe_non))
          pss_nil)))
      (pss_cons (ps_set (i := 9) sc_law_submit.nd rfl (Or.inl rfl) (pe_mk (pv 0) T.cl_Book T.mt_Book_submit G_Book_submit hr T.kb_Book_submit_kind_shown.choose_spec (fun _ => passLat) (pa_cons (pv 4) (pa_cons (pv 5) (pa_cons (pv 6) (pa_cons (pv 7) pa_nil)))) (pk_cons (pv 11) (pk_cons (pv 12) pk_nil))))
      (pss_one (ps_set (i := 10) sc_law_submit.nd rfl (Or.inl rfl) (pe_call G_law_enter (hr.mono (by decide)) (by rfl) T.m_law_enter T.F_law_enter.kp T.b_law_enter .nil pass0 (pa_cons (pe_dget (hu_of hr) (pv 1) pe_str (fun _ _ => rfl)) (pa_cons (pv 3) (pa_cons (pv 4) (pa_cons (pv 5) (pa_cons (pv 6) (pa_cons (pv 7) (pa_cons (pv 11) (pa_cons (pv 12) pa_nil))))))))))))))))
    (pss_cons (ps_dput (hu_of hr) (pv 1) pe_str (pe_call G_law_last (hr.mono (by decide)) (by rfl) T.m_law_last T.F_law_last.kp T.b_law_last .nil pass0 (pa_cons (pe_dget (hu_of hr) (pv 1) pe_str (fun _ _ => rfl)) (pa_cons (pv 10) pa_nil))) rfl)
    (pss_one (ps_ret (pe_cmpR (op_eqD hr.units) (pe_call G_law_told (hr.mono (by decide)) (by rfl) T.m_law_told T.F_law_told.kp T.b_law_told .nil pass0 (pa_cons (pv 9) pa_nil)) (pe_op op_cat (pe_lst (pa_cons (pe_op op_catT (pe_tup (pa_cons (pv 3) (pa_cons (pv 4) (pa_cons (pv 5) pa_nil)))) (pv 10)) pa_nil)) (pe_call G_law_triggered (hr.mono (by decide)) (by rfl) T.m_law_triggered T.F_law_triggered.kp T.b_law_triggered .nil pass0 (pa_cons (pv 1) pa_nil))) (nomark _)))))))))), ?_⟩
    have fact_BookSide_0 := T.cl_BookSide; have fact_BookSide_1 := T.na_BookSide__orders; have fact_Book_0 := T.cl_Book; have fact_Book_1 := T.na_Book_last; have fact_Book_2 := T.na_Book__next_number; have fact_Book_3 := T.na_Book__sides; have fact_Book_4 := T.na_Book__stops; have fact_Order_0 := T.cl_Order; have fact_Order_1 := T.na_Order_number; have fact_Order_2 := T.na_Order_house; have fact_Order_3 := T.na_Order_side; have fact_Order_4 := T.na_Order_price; have fact_Order_5 := T.na_Order_shown; have fact_Order_6 := T.na_Order_left; have fact_Order_7 := T.na_Order_visible; have fact_Report_0 := T.cl_Report; have fact_Report_1 := T.na_Report_number; have fact_Report_2 := T.na_Report_house; have fact_Report_3 := T.na_Report_side; have fact_Report_4 := T.na_Report_fills; have fact_Report_5 := T.na_Report_removed; have fact_Report_6 := T.na_Report_resting; have fact_Stop_0 := T.cl_Stop; have fact_Stop_1 := T.na_Stop_number; have fact_Stop_2 := T.na_Stop_house; have fact_Stop_3 := T.na_Stop_side; have fact_Stop_4 := T.na_Stop_trigger; have fact_Stop_5 := T.na_Stop_price; have fact_Stop_6 := T.na_Stop_quantity
    have hob := S.B.ob
    unfold bookO at hob
    have hq0 : 1 ≤ 1 + cell / 56 % 9 ∧ 1 + cell / 56 % 9 ≤ 9 := by have := mod_step (cell / 56) 9 (by decide); omega
    have hp0 : 97 ≤ 97 + cell / 8 % 7 ∧ 97 + cell / 8 % 7 ≤ 103 := by have := mod_step (cell / 8) 7 (by decide); omega
    have ht0 : 97 ≤ 97 + cell / 1512 % 7 ∧ 97 + cell / 1512 % 7 ≤ 103 := by have := mod_step (cell / 1512) 7 (by decide); omega
    have hs0 : 0 ≤ cell / 4536 % (1 + cell / 56 % 9 + 1) ∧ cell / 4536 % (1 + cell / 56 % 9 + 1) ≤ 1 + cell / 56 % 9 := by have := mod_step (cell / 4536) (1 + cell / 56 % 9 + 1) (by omega); omega
    obtain ⟨si, hsi, hia⟩ : ∃ si : Str, (si = "buy" ∨ si = "sell") ∧ atI [V.str "buy", V.str "sell"] (cell / 4 % 2) = some (.str si) := by
      rcases (show cell / 4 % 2 = 0 ∨ cell / 4 % 2 = 1 by omega) with e | e
      · rw [e]
        exact ⟨"buy", .inl rfl, rfl⟩
      · rw [e]
        exact ⟨"sell", .inr rfl, rfl⟩
    obtain ⟨kd, hkd, hka⟩ : ∃ kd : Str, (kd = "rest" ∨ kd = "now") ∧ atI [V.str "rest", V.str "rest", V.str "now"] (cell / 1512 % 3) = some (.str kd) := by
      rcases (show cell / 1512 % 3 = 0 ∨ cell / 1512 % 3 = 1 ∨ cell / 1512 % 3 = 2 by omega) with e | e | e
      · rw [e]; exact ⟨"rest", .inl rfl, rfl⟩
      · rw [e]; exact ⟨"rest", .inl rfl, rfl⟩
      · rw [e]; exact ⟨"now", .inr rfl, rfl⟩
    walk_at "st"
    intro H1 s1
    have hne := houseF_ne cell
    have hsok := houseF_sok cell
    generalize houseF cell = ho at hne hsok
    walk_at "st"
    intro p2 np2
    generalize hH2 : upd H1 p2 _ = H2
    have s2 : Same H1 H2 := hH2 ▸ same_upd np2
    have hp2S := SqL.of (K := K) ((congrFun hH2 p2).symm.trans upd_same)
    have s02 := s1.trans s2
    walk_at "st"
    refine ⟨fun σ' H5 => ∃ (v8 v11 v12 : Option V) (s1 s' : BS) (p pd fl rm : Addr) (L1 : List Ent) (ss1 : List EntS) (rep : RepT) (reps : List RepT) (rs : List Addr) (ts : List (Addr × Addr × RepT)) (lim : Option Int),
      σ' = [some (.ref a.x), some (.ref W), some (.int cell), some (.int s.next), some (.str ho), some (.str si), some (optV lim), some (.int (1 + cell / 56 % 9)), v8, some (.ref p), some (.ref pd), v11, v12] ∧ MidW ⟨T.c_Order, T.c_BookSide, T.c_Book, T.c_Stop, T.c_Report⟩ H5 a s1 s' W D SD p pd fl rm L1 ss1 last rep reps rs ts ∧
      (rep.number = s.next ∧ rep.house = ho ∧ rep.side = si) ∧ s'.next = s.next + 1 ∧ L1.length + ss1.length ≤ L.length + ss.length + 1 ∧ KeepW H H5 a s s' W D SD L L1, ?_, ?_⟩
    · walk_at "st"
      refine iteB (fun hx => ?_) (fun hx => ?_)
      · walk_at "st"
        refine ⟨fun σ' H4 => H4 = H2 ∧ ∃ lim : Option Int, (∀ p, lim = some p → 97 ≤ p ∧ p ≤ 103) ∧ σ' = [some (.ref a.x), some (.ref W), some (.int cell), some (.int s.next), some (.str ho), some (.str si), some (optV lim), some (.int (1 + cell / 56 % 9)), some (.int (97 + cell / 1512 % 7)), none, none, none, none], ?_, ?_⟩
        · walk_at "st"
          refine iteB (fun h => ?_) (fun h => ?_)
          · walk_at "st"
            exact ⟨none, fun p hp => (by cases hp), rfl⟩
          · exact ⟨rfl, some _, fun p hp => (by cases hp; exact hp0), rfl⟩
        · rintro σ' H4 ⟨rfl, lim, hlim, rfl⟩
          have S2 : SimW ⟨T.c_Order, T.c_BookSide, T.c_Book, T.c_Stop, T.c_Report⟩ H4 a s W D SD L ss last := S.same s02
          have g1 := world_stops S2.M.w
          have hSL := SqL.of (K := K) S2.M.s.li
          have hSDr := S2.M.s.li
          have hsl2 : (refsS ss).length < sizeLine := small1000 (by show (List.map _ _).length ≤ _; rw [List.length_map]; omega)
          walk_at "st"
          refine ⟨len_le rfl, fun y ny => ?_⟩
          generalize hH3 : upd H4 y _ = H3
          have sy : Same H4 H3 := hH3 ▸ same_upd ny
          have hy3 : H3 y = some (.tup (rowS ⟨s.next, ho, si, 97 + cell / 1512 % 7, lim, 1 + cell / 56 % 9⟩)) := (congrFun hH3 y).symm.trans upd_same
          have hSDy := sy _ _ hSDr
          walk_at "st"
          have S3 := S2.same sy
          have M4 := S3.M.addS hy3 (fun m => by
            obtain ⟨u, hu, eu⟩ := List.mem_map.mp m
            have h1 := S2.M.s.row u hu
            rw [eu, ny] at h1; cases h1) S3.nus ⟨hsi, by show 1 ≤ 1 + cell / 56 % 9; omega, by show 1 + cell / 56 % 9 ≤ 400; omega, hsok⟩ (num_out S3.num)
          have B4 := S3.B.beside (H' := upd H3 SD (.lst (refsS ss ++ [.ref y]))) S3.M S3.oD S3.oS S3.oR fun z v h1 h2 hz => (upd_ne h2.2.1).trans hz
          have hkC : ∀ C cs, H C = some cs → outL C D SD L → upd H3 SD (.lst (refsS ss ++ [.ref y])) C = some cs := fun C cs hC ho => (upd_ne ho.2.1).trans (sy _ _ (s02 _ _ hC))
          generalize upd H3 SD (.lst (refsS ss ++ [.ref y])) = H6 at M4 B4 hkC ⊢
          have hob6 := B4.ob
          unfold bookO at hob6
          have hlk : ([("last", optV s.last), ("_next_number", V.int s.next), ("_sides", .ref a.sd), ("_stops", .ref a.st)] : List (Str × V)).lookup ("submit_stop" : Str) = none := rfl
          have hl := S3.len
          have hoth4 : Others H6 a s (D :: SD :: L.map (·.1)) := fun z hz => by
            rcases List.mem_cons.mp hz with k | k
            · rw [k]; exact ⟨S3.oD, _, M4.a.li⟩
            · rcases List.mem_cons.mp k with k | k
              · rw [k]; exact ⟨S3.oS, _, M4.s.li⟩
              · obtain ⟨u, hu, eu⟩ := List.mem_map.mp k
                rw [← eu]; exact ⟨S3.oR u hu, _, M4.a.row u hu⟩
          have hG : GoodStp ho si (97 + cell / 1512 % 7) lim (1 + cell / 56 % 9) := by
            refine ⟨hne, ?_, by omega, fun p h => ?_, by omega⟩
            · rcases hsi with e | e <;> rw [e] <;> simp
            · have := hlim p h
              omega
          walk_at "st"
          refine ⟨(), a, s, D :: SD :: L.map (·.1), ho, si, 97 + cell / 1512 % 7, lim, 1 + cell / 56 % 9, rfl, B4, hoth4, by omega, fun _ s' reps p y' dy H5 hnd hT hF B5 St hRp => ?_, fun h => absurd hG h⟩
          have M5 := M4.keep B4 S3.oD S3.oS S3.oR St
          obtain ⟨rs, ts, told, htr⟩ := ToldAt.of hRp
          have hP1 : PureR (newS s y' dy ho si (97 + cell / 1512 % 7) lim (1 + cell / 56 % 9)) := ⟨S3.B.r1, S3.B.r2, fun e he => by
            rcases List.mem_append.mp he with z | z
            · exact S3.B.gs e z
            · rw [List.mem_singleton.mp z]
              exact ⟨hsi, by show 1 ≤ 1 + cell / 56 % 9; omega, by show 1 + cell / 56 % 9 ≤ 1000000; omega⟩⟩
          have hnx : s'.next = s.next + 1 := (trig_pure hT hP1).2.2
          walk_at "st"
          intro fl nfl
          walk_at "st"
          intro rm nrm
          walk_at "st"
          intro pd npd
          have t1 := same_upd (o := .lst []) nfl
          have t2 := same_upd (o := .lst []) nrm
          have t3 := same_upd (o := .tup [.ref fl, .ref rm, .int 0]) npd
          have tA := (t1.trans t2).trans t3
          have nrm5 : H5 rm = none := by
            by_cases k : rm = fl
            · rw [k]; exact nfl
            · rw [upd_ne k] at nrm; exact nrm
          have hfl3 := t3 _ _ (t2 _ _ (show upd H5 fl (.lst []) fl = some (.lst []) from upd_same))
          have hrm3 := t3 _ _ (show upd (upd H5 fl (.lst [])) rm (.lst []) rm = some (.lst []) from upd_same)
          have oR5 : ∀ e, e ∈ L → e.1 ∉ foot a s' := fun e he => St.out (M4.a.row e he) (S3.oR e he)
          have m := mid_stop (C := ⟨T.c_Order, T.c_BookSide, T.c_Book, T.c_Stop, T.c_Report⟩) (pd := pd) (fl := fl) (rm := rm) B5 M5 hP1 hT hF ⟨S3.E.last, S3.E.e1, S3.E.e2, (by show List.map _ (_ ++ _) = List.map _ (_ ++ _); rw [List.map_append, List.map_append, S3.E.ss]; rfl), hnd, M4.s.nd⟩ (St.out M4.a.li S3.oD) (St.out M4.s.li S3.oS) oR5
            (fun e he => by rw [hnx]; have := S3.num e he; omega) (fun e he => by
              rw [hnx]
              rcases List.mem_append.mp he with z | z
              · have := S3.nus e z; omega
              · rw [List.mem_singleton.mp z]; show s.next < s.next + 1; omega) told htr hsok hsi tA nfl nrm5 hfl3 hrm3 upd_same
          refine ⟨_, _, _, _, s', p, pd, fl, rm, L, _, _, reps, rs, ts, lim, rfl, m, ⟨rfl, rfl, rfl⟩, hnx, by rw [List.length_append, List.length_singleton]; omega, fun C cs hC hW0 hf hout => ⟨tA _ _ (St.fr _ _ hf (hkC C cs hC hout)), St.out (hkC C cs hC hout) hf, hout⟩⟩
      · walk_at "st"
        intro p3 np3
        generalize hH3 : upd H2 p3 _ = H3
        have s3 : Same H2 H3 := hH3 ▸ same_upd np3
        have hp3S := SqL.of (K := K) ((congrFun hH3 p3).symm.trans upd_same)
        have S3 : SimW ⟨T.c_Order, T.c_BookSide, T.c_Book, T.c_Stop, T.c_Report⟩ H3 a s W D SD L ss last := S.same (s02.trans s3)
        walk_at "st"
        refine ⟨fun σ' H4 => H4 = H3 ∧ ∃ (lim : Option Int) (sh : Int), σ' = [some (.ref a.x), some (.ref W), some (.int cell), some (.int s.next), some (.str ho), some (.str si), some (optV lim), some (.int (1 + cell / 56 % 9)), none, none, none, some (.str kd), some (.int sh)] ∧ (∀ p, lim = some p → 97 ≤ p ∧ p ≤ 103) ∧ (lim = none → ¬ V.str kd = V.str "rest") ∧ 0 ≤ sh ∧ sh ≤ 1 + cell / 56 % 9 ∧ (0 < sh → kd = "rest"), ?_, ?_⟩
        · walk_at "st"
          refine iteB (fun h => ?_) (fun h => ?_)
          · have hkr : kd = "rest" := V.str.inj (dec_t h)
            walk_at "st"
            exact ⟨some (97 + cell / 8 % 7), _, rfl, fun p hp => (by cases hp; omega), fun z => (by cases z), hs0.1, hs0.2, fun _ => hkr⟩
          · walk_at "st"
            refine iteB (fun h2 => ?_) (fun h2 => ?_)
            · walk_at "st"
              exact ⟨none, 0, rfl, fun p hp => (by cases hp), fun _ => dec_f h, Int.le_refl _, by omega, fun z => absurd z (by decide)⟩
            · exact ⟨rfl, some (97 + cell / 8 % 7), 0, rfl, fun p hp => (by cases hp; omega), fun z => (by cases z), Int.le_refl _, by omega, fun z => absurd z (by decide)⟩
        · rintro σ' H4 ⟨rfl, lim, sh, rfl, hlim, hln, hsh0, hsh1, hsr⟩
          have hob4 := S3.B.ob
          unfold bookO at hob4
          have hlk : ([("last", optV s.last), ("_next_number", V.int s.next), ("_sides", .ref a.sd), ("_stops", .ref a.st)] : List (Str × V)).lookup ("submit" : Str) = none := rfl
          walk_at "st"
          have hl := S3.len
          have hG : GoodOrd ho si lim (1 + cell / 56 % 9) kd sh := by
            refine ⟨hne, ?_, ?_, fun p h => ?_, hln, by omega, by omega, fun h => congrArg V.str (hsr h)⟩
            · rcases hsi with e | e <;> rw [e] <;> simp
            · rcases hkd with e | e <;> rw [e] <;> simp
            · have := hlim p h
              omega
          refine ⟨(), a, s, D :: SD :: L.map (·.1), ho, si, lim, 1 + cell / 56 % 9, kd, sh, rfl, S3.B, S3.others, by omega, fun _ s' reps p o dxo H5 hT hF B5 St hRp => ?_, fun h => absurd hG h⟩
          have M5 := S3.M.keep S3.B S3.oD S3.oS S3.oR St
          obtain ⟨rs, ts, told, htr⟩ := ToldAt.of hRp
          have g5 := world_orders M5.w
          have hhn := num_out S3.num
          have hkp : V.str kd = V.str "rest" → ∃ p, lim = some p := fun hk => by
            cases lim with
            | none => exact absurd hk (hln rfl)
            | some p => exact ⟨p, rfl⟩
          walk_at "st"
          refine ⟨(), D, L, newO s ho si lim (1 + cell / 56 % 9) sh, kd, last, rfl, M5.a, M5.l, hsi, by omega, by show 1 ≤ 1 + cell / 56 % 9; omega, by show 1 + cell / 56 % 9 ≤ 400; omega, hsh0, hkp, hsok, hhn, ?_⟩
          intro R' pt fl' rm' fs' o' L' H8 hR' hpt hT' hG' hLo' hlaw' hoth hown hlen' hsub nfl' nrm' npt hfr
          have hP0 : PureR (nxtS s) := ⟨S3.B.r1, S3.B.r2, S3.B.gs⟩
          have hP1 := (enter_pure (o := o) (dxo := dxo) (kd := kd) (t := newO s ho si lim (1 + cell / 56 % 9) sh) hP0 hsi (by show 1 ≤ 1 + cell / 56 % 9; omega) hsh0 hkp).1
          have hnx : s'.next = s.next + 1 := (trig_pure hT hP1).2.2
          have E0 : EqB (nxtS s) (bsL L ss last) := ⟨S3.E.last, S3.E.e1, S3.E.e2, S3.E.ss, S3.E.n1, S3.E.n2⟩
          obtain ⟨m, hk8⟩ := mid_enter (C := ⟨T.c_Order, T.c_BookSide, T.c_Book, T.c_Stop, T.c_Report⟩) B5 M5 hP1 hT hF (St.out S3.M.a.li S3.oD) (St.out S3.M.s.li S3.oS) (fun e he => St.out (S3.M.a.row e he) (S3.oR e he)) (fun e he => by rw [hnx]; have := S3.num e he; omega) (fun e he => by rw [hnx]; have := S3.nus e he; omega) told htr
            (t := newO s ho si lim (1 + cell / 56 % 9) sh) (by rw [hnx]; show s.next < s.next + 1; omega) (fun e he z => by have h1 := S3.nus e he; rw [z] at h1; exact absurd h1 (Int.lt_irrefl _)) E0 rfl rfl hsi hsok hR' hpt hT' hG' hLo' hlaw' hoth hown hsub nfl' nrm' hfr
          refine ⟨_, _, _, _, s', p, pt, fl', rm', L', ss, _, reps, rs, ts, lim, rfl, m, ⟨rfl, rfl, rfl⟩, hnx, by omega, fun C cs hC hW0 hf hout => ?_⟩
          have hC5 := St.fr _ _ hf (s3 _ _ (s02 _ _ hC))
          obtain ⟨k1, k2⟩ := hk8 C _ hout hC5
          exact ⟨k1, St.out (s3 _ _ (s02 _ _ hC)) hf, k2⟩
    · rintro σ' H5 ⟨v8, v11, v12, s1, s', p, pd, fl, rm, L1, ss1, rep, reps, rs, ts, lim, rfl, m, ⟨hr1, hr2, hr3⟩, hnx, hsz, hkeep⟩
      have g1 := world_last m.M.w
      obtain ⟨fs, hT, hG⟩ := m.te
      have hW := m.M.w
      walk_at "st"
      refine ⟨(), pd, fl, rm, rep.rest, last, fs, rep.fills, rfl, m.pd, hT, ?_⟩
      walk_at "st"
      refine world_put hW ?_
      obtain ⟨M5, B5, told5, pd5, te5⟩ := m.put (lastF last rep.fills)
      have h56 : ∀ z xs, z ≠ W → H5 z = some xs → upd H5 W (.dK (worldD D SD (lastF last rep.fills))) z = some xs := fun z xs h0 hz => (upd_ne h0).trans hz
      generalize upd H5 W (.dK (worldD D SD (lastF last rep.fills))) = H6 at M5 B5 told5 pd5 te5 h56 ⊢
      have htl : ts.length ≤ 400 := by
        have h1 := congrArg List.length m.tr
        rw [List.length_map, List.length_cons] at h1
        have h2 := trigS_len m.T
        have h3 := congrArg List.length m.E.ss
        rw [List.length_map, List.length_map] at h3
        have h4 : (bsL L1 ss1 (lastF last rep.fills)).ss.length = ss1.length := rfl
        omega
      walk_at "st"
      refine ⟨(), p, rs, ts, rfl, told5.li, told5.len, htl, told5.rep, fun R1 ps H7 s7 nR1 hT1 => ?_⟩
      have pd7 := s7 _ _ pd5
      have pd7S := SqT.of (K := K) pd7
      walk_at "st"
      intro q1 nq1
      generalize hH8 : upd H7 q1 _ = H8
      have s8 : Same H7 H8 := hH8 ▸ same_upd nq1
      have hq1S := SqT.of (K := K) ((congrFun hH8 q1).symm.trans upd_same)
      have pd8S := SqT.of (K := K) (s8 _ _ pd7)
      walk_at "st"
      refine ⟨by simp, len_le rfl, fun h => (by cases h), fun _ q2 nq2 => ?_⟩
      generalize hH9 : upd H8 q2 _ = H9
      have s9 : Same H8 H9 := hH9 ▸ same_upd nq2
      have hq2 : H9 q2 = some (.tup (encT (fl, rm, rep))) := by
        rw [← hH9, upd_same]
        unfold encT
        rw [hr1, hr2, hr3]
        rfl
      refine ⟨len_le rfl, fun q3 nq3 => ?_⟩
      generalize hH10 : upd H9 q3 _ = H10
      have s10 : Same H9 H10 := hH10 ▸ same_upd nq3
      have hq3 : H10 q3 = some (.lst [.ref q2]) := (congrFun hH10 q3).symm.trans upd_same
      have s610 := ((s7.trans s8).trans s9).trans s10
      have M10 := M5.same s610
      have hlen3 : ss1.length ≤ 30 := by omega
      walk_at "st"
      refine ⟨(), W, D, SD, L1, ss1, lastF last rep.fills, rfl, M10, by omega, hlen3, fun reps' R2 ps2 ts2 L2 ss2 last2 H12 hT2 hF2 M12 hsz2 nR2 hTu2 hts2 hte2 hk2 => ?_⟩
      have kk : Kept H10 H12 W D SD L1 := fun z v h1 h2 hz => (hk2 z v h1 h2 hz).1
      have hq3' := kk _ _ (((M5.same ((s7.trans s8).trans s9)).nil nq3).1) (((M5.same ((s7.trans s8).trans s9)).nil nq3).2) hq3
      have hR2 := hTu2.lst
      have hps2 : ps2.length ≤ 400 := by
        have h1 := congrArg List.length hts2
        rw [List.length_map] at h1
        have h2 := trigS_len hT2
        have h3 := hTu2.len
        have h4 : (bsL L1 ss1 (lastF last rep.fills)).ss.length = ss1.length := rfl
        omega
      have hps2' : [V.ref q2].length + (ps2.map V.ref).length ≤ sizeLine := Nat.le_of_lt (small1000 (by rw [List.length_map]; show 1 + _ ≤ _; omega))
      walk_at "st"
      intro q4 nq4
      have s13 := same_upd (o := .lst ([V.ref q2] ++ ps2.map V.ref)) nq4
      obtain ⟨S12, er, gr⟩ := m.fin (H8 := H10) (B5.same s610) M10 hT2 hF2 M12 hk2
      have hT12 : Tups encT H12 R1 ps ts := kk.tups M10 (hT1.same ((s8.trans s9).trans s10)) (M5.nil nR1).2
      have te12 : ∀ t, t ∈ ts → TellAt H12 t := fun t ht => kk.tell M10 ((told5.te t ht).1.same s610) (told5.te t ht).2.1 (told5.te t ht).2.2
      have hq2b := s10 _ _ hq2
      have hq2' : H12 q2 = some (.tup (encT (fl, rm, rep))) := kk _ _ (M10.neW hq2b fun _ e => by cases e) (M10.tup hq2b fun _ e => by cases e) hq2b
      have te0 : TellAt H12 (fl, rm, rep) := kk.tell M10 (te5.same s610) m.ofl m.orm
      have tups2 : Tups encT (upd H12 q4 (.lst ([V.ref q2] ++ ps2.map V.ref))) q4 (q2 :: ps2) ((fl, rm, rep) :: ts2) := (hTu2.same s13).head (s13 _ _ hq2') upd_same
      refine eqL layD_G.list (by decide) (a := rep :: reps) (b := rep :: reps) gr gr (told_dp (hT12.same s13) (fun t ht => (te12 t ht).same s13) m.tr) (told_dp tups2 (fun t ht => ?_) (by rw [List.map_cons, hts2, ← er])) ?_
      · rcases List.mem_cons.mp ht with z | z
        · rw [z]; exact te0.same s13
        · exact (hte2 t z).same s13
      rw [decide_eq_true rfl]
      refine q _ s' L2 ss2 last2 (S12.same s13) hnx (by omega) fun C cs hC hW0 hf hout => ?_
      obtain ⟨k1, k2, k3⟩ := hkeep C cs hC hW0 hf hout
      have k10 := s610 _ _ (h56 C cs hW0 k1)
      have k12 := hk2 C _ hW0 k3 k10
      exact ⟨s13 _ _ k12.1, k2, k3.1, k3.2.1, k12.2⟩

def sp_law_amend (K : PySem.W.Frag) (CO CB CK CS CR : Addr) : Sp := fun vs H Q _ => ∃ (_ : Unit) (a : BA) (s : BS) (W D SD : Addr) (L : List Ent) (ss : List EntS) (last : Option Int) (cell : Int), vs = [.ref a.x, .ref W, .int cell] ∧
  SimW ⟨CO, CB, CK, CS, CR⟩ H a s W D SD L ss last ∧ L.length + ss.length ≤ 28 ∧ 0 < L.length ∧
  ∀ (H' : Hp) (s' : BS) (L' : List Ent) (ss' : List EntS) (last' : Option Int), SimW ⟨CO, CB, CK, CS, CR⟩ H' a s' W D SD L' ss' last' → s'.next = s.next → L'.length + ss'.length ≤ L.length + ss.length → KeepW H H' a s s' W D SD L L' → Q (.bl true) H'
set_option maxHeartbeats 0 in
theorem ok_law_amend (T : Txt K mg) [TB : TabsOk T base] : FnOk P w K mg base CX0 9 T.f_law_amend T.d_law_amend ["book", "world", "cell"] (sp_law_amend K T.c_Order T.c_BookSide T.c_Book T.c_Stop T.c_Report) := by
  refine T.F_law_amend.ok sc_law_amend (fun vs H Q E h => ?_) (fun cdv A outer s H vs Q E hr h => ?_)
  · obtain ⟨_, a, s, W, D, SD, L, ss, last, cell, rfl, _⟩ := h
    rfl
  · obtain ⟨_, a, s, W, D, SD, L, ss, last, cell, rfl, S, hlen, hpos, q⟩ := h
    have G_Book_amend : FnOk P w K mg base (L2.CX P w) 8 T.f_Book_amend T.d_Book_amend ["self", "number", "house", "price", "quantity"] (sp_Book_amend K T.c_InvalidOrder T.c_UnknownOrder T.c_NotOwner T.c_Order T.c_BookSide T.c_Book T.c_Stop T.c_Report) := ok_Book_amend T
    have G_law_enter : FnOk P w K mg base CX0 4 T.f_law_enter T.d_law_enter ["orders", "number", "house", "side", "limit", "quantity", "kind", "shown"] (sp_law_enter K) := ok_law_enter T
    have G_law_last : FnOk P w K mg base CX0 1 T.f_law_last T.d_law_last ["last", "due"] (sp_law_last K) := ok_law_last T
    have G_law_told : FnOk P w K mg base CX0 1 T.f_law_told T.d_law_told ["reports"] (sp_law_told K T.c_Report) := ok_law_told T
    have G_law_triggered : FnOk P w K mg base CX0 5 T.f_law_triggered T.d_law_triggered ["world"] (sp_law_triggered K) := ok_law_triggered T
    refine ⟨_, (pss_cons (ps_set (i := 3) sc_law_amend.nd rfl (Or.inl rfl) (pe_dget (hu_of hr) (pv 1) pe_str (fun _ _ => rfl)))
    (pss_cons (ps_set (i := 4) sc_law_amend.nd rfl (Or.inl rfl) (pe_ix ix_list (pv 3) (pe_op op_mod (pe_callTy call_int_i (by rfl) T.z_int (by decide +kernel) (pa_cons (pv 2) pa_nil)) (pe_callB call_len_seq (by rfl) T.z_len PySem.boot_len (pa_cons (pv 3) pa_nil))) (fun _ _ => rfl)))
    (pss_cons (ps_set (i := 5) sc_law_amend.nd rfl (Or.inl rfl) (pe_op op_add pe_int (pe_op op_mod (pe_op op_fdiv (pe_callTy call_int_i (by rfl) T.z_int (by decide +kernel) (pa_cons (pv 2) pa_nil)) pe_int) pe_int)))
    (pss_cons (ps_set (i := 6) sc_law_amend.nd rfl (Or.inl rfl) (pe_op op_add pe_int (pe_op op_mod (pe_op op_fdiv (pe_callTy call_int_i (by rfl) T.z_int (by decide +kernel) (pa_cons (pv 2) pa_nil)) pe_int) pe_int)))
    (pss_cons (ps_set (i := 7) sc_law_amend.nd rfl (Or.inl rfl) (pe_mx (pv 0) T.cl_Book T.mt_Book_amend G_Book_amend hr T.b_Book_amend .nil (fun _ => passLat) (pa_cons (pe_ix ix_list (pv 4) pe_int (fun _ _ => rfl)) (pa_cons (pe_ix ix_list (pv 4) pe_int (fun _ _ => rfl)) (pa_cons (pv 5) (pa_cons (pv 6) pa_nil))))))
    (pss_cons (ps_if (PW.pt (pw_and (pt_cmpR op_eq (pv 5) (pe_ix ix_list (pv 4) pe_int (fun _ _ => rfl)) (nomark _)) (pw_and1 (pt_cmpR op_le (pv 6) (pe_ix ix_list (pv 4) pe_int (fun _ _ => rfl)) (nomark _)))))
      (pss_cons (ps_asg (pv 6) (pg_sub (pv 4) pe_int set_list))
      (pss_cons (ps_asg (pe_callB (call_min2 rfl) (by rfl) T.z_min (by decide +kernel) (pa_cons (pe_ix ix_list (pv 4) pe_int (fun _ _ => rfl)) (pa_cons (pv 6) pa_nil))) (pg_sub (pv 4) pe_int set_list))
      (pss_one (ps_ret (pe_cmpR (op_eqD hr.units) (pe_call G_law_told (hr.mono (by decide)) (by rfl) T.m_law_told T.F_law_told.kp T.b_law_told .nil pass0 (pa_cons (pv 7) pa_nil)) (pe_lst (pa_cons (pe_tup (pa_cons (pe_ix ix_list (pv 4) pe_int (fun _ _ => rfl)) (pa_cons (pe_ix ix_list (pv 4) pe_int (fun _ _ => rfl)) (pa_cons (pe_ix ix_list (pv 4) pe_int (fun _ _ => rfl)) (pa_cons (pe_lst pa_nil) (pa_cons (pe_lst pa_nil) (pa_cons (pv 6) pa_nil))))))) pa_nil)) (nomark _))))))
      pss_nil)
    (pss_cons (ps_expr (pe_bm PySem.F.plainAttrs_list PySem.F.slot_list_remove PySem.F.type_list_remove (mt_removeD (hu65 hr)) (pv 3) (pa_cons (pv 4) pa_nil)))
    (pss_cons (ps_set (i := 8) sc_law_amend.nd rfl (Or.inl rfl) (pe_call G_law_enter (hr.mono (by decide)) (by rfl) T.m_law_enter T.F_law_enter.kp T.b_law_enter .nil pass0 (pa_cons (pv 3) (pa_cons (pe_ix ix_list (pv 4) pe_int (fun _ _ => rfl)) (pa_cons (pe_ix ix_list (pv 4) pe_int (fun _ _ => rfl)) (pa_cons (pe_ix ix_list (pv 4) pe_int (fun _ _ => rfl)) (pa_cons (pv 5) (pa_cons (pv 6) (pa_cons pe_str (pa_cons (pe_callB (call_min2 rfl) (by rfl) T.z_min (by decide +kernel) (pa_cons (pe_ix ix_list (pv 4) pe_int (fun _ _ => rfl)) (pa_cons (pv 6) pa_nil))) pa_nil))))))))))
    (pss_cons (ps_dput (hu_of hr) (pv 1) pe_str (pe_call G_law_last (hr.mono (by decide)) (by rfl) T.m_law_last T.F_law_last.kp T.b_law_last .nil pass0 (pa_cons (pe_dget (hu_of hr) (pv 1) pe_str (fun _ _ => rfl)) (pa_cons (pv 8) pa_nil))) rfl)
    (pss_one (ps_ret (pe_cmpR (op_eqD hr.units) (pe_call G_law_told (hr.mono (by decide)) (by rfl) T.m_law_told T.F_law_told.kp T.b_law_told .nil pass0 (pa_cons (pv 7) pa_nil)) (pe_op op_cat (pe_lst (pa_cons (pe_op op_catT (pe_tup (pa_cons (pe_ix ix_list (pv 4) pe_int (fun _ _ => rfl)) (pa_cons (pe_ix ix_list (pv 4) pe_int (fun _ _ => rfl)) (pa_cons (pe_ix ix_list (pv 4) pe_int (fun _ _ => rfl)) pa_nil)))) (pv 8)) pa_nil)) (pe_call G_law_triggered (hr.mono (by decide)) (by rfl) T.m_law_triggered T.F_law_triggered.kp T.b_law_triggered .nil pass0 (pa_cons (pv 1) pa_nil))) (nomark _))))))))))))), ?_⟩
    have fact_BookSide_0 := T.cl_BookSide; have fact_BookSide_1 := T.na_BookSide__orders; have fact_Book_0 := T.cl_Book; have fact_Book_1 := T.na_Book_last; have fact_Book_2 := T.na_Book__next_number; have fact_Book_3 := T.na_Book__sides; have fact_Book_4 := T.na_Book__stops; have fact_Order_0 := T.cl_Order; have fact_Order_1 := T.na_Order_number; have fact_Order_2 := T.na_Order_house; have fact_Order_3 := T.na_Order_side; have fact_Order_4 := T.na_Order_price; have fact_Order_5 := T.na_Order_shown; have fact_Order_6 := T.na_Order_left; have fact_Order_7 := T.na_Order_visible; have fact_Report_0 := T.cl_Report; have fact_Report_1 := T.na_Report_number; have fact_Report_2 := T.na_Report_house; have fact_Report_3 := T.na_Report_side; have fact_Report_4 := T.na_Report_fills; have fact_Report_5 := T.na_Report_removed; have fact_Report_6 := T.na_Report_resting; have fact_Stop_0 := T.cl_Stop; have fact_Stop_1 := T.na_Stop_number; have fact_Stop_2 := T.na_Stop_house; have fact_Stop_3 := T.na_Stop_side; have fact_Stop_4 := T.na_Stop_trigger; have fact_Stop_5 := T.na_Stop_price; have fact_Stop_6 := T.na_Stop_quantity
    have hob := S.B.ob
    unfold bookO at hob
    have hq0 : 1 ≤ 1 + cell / 168 % 12 ∧ 1 + cell / 168 % 12 ≤ 12 := by have := mod_step (cell / 168) 12 (by decide); omega
    have hp0 : 97 ≤ 97 + cell / 24 % 7 ∧ 97 + cell / 24 % 7 ≤ 103 := by have := mod_step (cell / 24) 7 (by decide); omega
    have g2 := world_orders S.M.w
    have hDL := SqL.of (K := K) S.M.a.li
    have hlL : (refs L).length = L.length := List.length_map ..
    have hp1 : (0 : Int) < ((refs L).length : Int) := by omega
    obtain ⟨e, he, hix⟩ := refs_ix0 (Int.emod_nonneg cell (show ((refs L).length : Int) ≠ 0 by omega)) (Int.emod_lt_of_pos cell hp1)
    have hrow := S.M.a.row e he
    have hrowS := SqL.of (K := K) hrow
    obtain ⟨pe, hpe⟩ := (S.M.l.good e he).price
    have a0 : atI (rowL e.2.2) 0 = some (.int e.2.2.number) := rfl
    have a1 : atI (rowL e.2.2) 1 = some (.str e.2.2.house) := rfl
    have a2 : atI (rowL e.2.2) 2 = some (.str e.2.2.side) := rfl
    have a3 : atI (rowL e.2.2) 3 = some (.int pe) := by
      show some (optV e.2.2.price) = _
      rw [hpe]
      rfl
    have a4 : atI (rowL e.2.2) 4 = some (.int e.2.2.left) := rfl
    have a5 : atI (rowL e.2.2) 5 = some (.int e.2.2.visible) := rfl
    have a6 : atI (rowL e.2.2) 6 = some (.int e.2.2.shown) := rfl
    have hlk : ([("last", optV s.last), ("_next_number", V.int s.next), ("_sides", .ref a.sd), ("_stops", .ref a.st)] : List (Str × V)).lookup ("amend" : Str) = none := rfl
    obtain ⟨k1, k2⟩ := S.own he
    have hvis := (S.M.l.good e he).vis
    walk_at "st"
    refine ⟨(), a, s, D :: SD :: L.map (·.1), e.2.2.number, e.2.2.house, 97 + cell / 24 % 7, 1 + cell / 168 % 12, rfl, S.B, S.others, fun _ _ => ⟨fun e' hw hho s1 rep s' reps p H2 hA hT hF B2 St hRp => ?_, fun hn => absurd hn k1, fun e' hw hho => absurd (congrArg Ord.house (k2 e' hw).1) hho⟩, fun hn => absurd (show (1 ≤ 97 + cell / 24 % 7 ∧ 97 + cell / 24 % 7 ≤ 1000000) ∧ 1 ≤ 1 + cell / 168 % 12 ∧ 1 + cell / 168 % 12 ≤ 1000000 by omega) hn⟩
    obtain ⟨hee, u1, u2⟩ := k2 e' hw
    have M2 := S.M.keep S.B S.oD S.oS S.oR St
    obtain ⟨rs, ts, told, htr⟩ := ToldAt.of hRp
    have hrow2 := M2.a.row e he
    have hrow2S := SqL.of (K := K) hrow2
    have hl := S.len
    rcases hA with ⟨hpr, hqu, rfl, rfl⟩ | ⟨hno, o, dxo, hs1, hrep⟩
    · rw [hee] at hpr hqu htr
      obtain ⟨hs', hr0⟩ := trig_stuck hT S.F
      subst hr0
      have hpp : pe = 97 + cell / 24 % 7 := Option.some.inj (hpe.symm.trans hpr)
      have x4 : ixN (rowL e.2.2).length 4 = some 4 := rfl
      have hrow3 : upd H2 e.1 (.lst ((rowL e.2.2).set 4 (.int (1 + cell / 168 % 12)))) e.1 = some (.lst (rowL { e.2.2 with left := 1 + cell / 168 % 12 })) := upd_same
      have hrow3S := SqL.of (K := K) hrow3
      have y5 : atI (rowL { e.2.2 with left := 1 + cell / 168 % 12 }) 5 = some (.int e.2.2.visible) := rfl
      have x5 : ixN (rowL { e.2.2 with left := 1 + cell / 168 % 12 }).length 5 = some 5 := rfl
      walk_at "st"
      refine iteB (fun _ => ?_) (fun hx => absurd (congrArg V.int hpp.symm) (dec_f hx))
      walk_at "st"
      refine iteB (fun _ => ?_) (fun hx => absurd hqu (of_decide_eq_false hx))
      obtain ⟨HB, hHB2⟩ : ∃ HB, HB = upd H2 e.1 (.lst (rowL (e.2.2.cut (1 + cell / 168 % 12)))) := ⟨_, rfl⟩
      have hcf : ∀ o : Ord, (o.cut (1 + cell / 168 % 12)).side = o.side ∧ (o.cut (1 + cell / 168 % 12)).price = o.price ∧ (o.cut (1 + cell / 168 % 12)).house = o.house ∧ (o.cut (1 + cell / 168 % 12)).number = o.number := fun o => ⟨rfl, rfl, rfl, rfl⟩
      have hcf2 : ∀ o : Ord, (o.cut (1 + cell / 168 % 12)).side = o.side ∧ (o.cut (1 + cell / 168 % 12)).price = o.price := fun o => ⟨rfl, rfl⟩
      have hcf3 : ∀ o : Ord, (o.cut (1 + cell / 168 % 12)).number = o.number ∧ (o.cut (1 + cell / 168 % 12)).price = o.price := fun o => ⟨rfl, rfl⟩
      have hcv : 1 ≤ (e.2.2.cut (1 + cell / 168 % 12)).visible ∧ (e.2.2.cut (1 + cell / 168 % 12)).visible ≤ (e.2.2.cut (1 + cell / 168 % 12)).left ∧ 0 ≤ (e.2.2.cut (1 + cell / 168 % 12)).shown := by
        refine ⟨?_, ?_, hvis.2.2⟩
        · show 1 ≤ if 1 + cell / 168 % 12 < e.2.2.visible then 1 + cell / 168 % 12 else e.2.2.visible
          split <;> omega
        · show (if 1 + cell / 168 % 12 < e.2.2.visible then 1 + cell / 168 % 12 else e.2.2.visible) ≤ 1 + cell / 168 % 12
          split <;> omega
      have M3 := M2.set (f := fun o => o.cut (1 + cell / 168 % 12)) he hcf hcv
      have kB : Kept H2 HB W D SD L := fun z v _ h2 hz => by
        rw [hHB2]
        exact (upd_ne fun k => h2.2.2 (List.mem_map.mpr ⟨e, he, k.symm⟩)).trans hz
      have B3 := B2.beside M2 (St.out S.M.a.li S.oD) (St.out S.M.s.li S.oS) (fun y hy => St.out (S.M.a.row y hy) (S.oR y hy)) kB
      have told3 := told.keep M2 kB (L' := setE e.1 (fun o => o.cut (1 + cell / 168 % 12)) L) fun z v h _ => ⟨h.1, h.2.1, by rw [setE_addr]; exact h.2.2⟩
      rw [← hHB2] at M3
      have o1 := set_both hcf2 S.E.e1 S.M.l he u1
      have o2 := set_both hcf2 S.E.e2 S.M.l he u2
      have htl : ts.length ≤ 400 := by
        have h1 := congrArg List.length htr
        rw [List.length_map] at h1
        rw [h1]
        show 1 ≤ 400
        decide
      walk_at "st"
      refine ⟨(), p, rs, ts, rfl, ?_, told3.len, htl, ?_, fun R1 ps H7 s7 nR1 hT1 => ?_⟩
      · rw [upd_upd]
        have h1 := told3.li
        rw [hHB2] at h1
        exact h1
      · rw [upd_upd]
        have h1 := told3.rep
        rw [hHB2] at h1
        exact h1
      rw [upd_upd] at s7 nR1
      have s7 : Same HB H7 := by rw [hHB2]; exact s7
      have nR1 : HB R1 = none := by rw [hHB2]; exact nR1
      have M7 := M3.same s7
      have hrow7 : H7 e.1 = some (.lst (rowL (e.2.2.cut (1 + cell / 168 % 12)))) := s7 _ _ (by rw [hHB2]; exact upd_same)
      have hrow7S := SqL.of (K := K) hrow7
      have z0 : atI (rowL (e.2.2.cut (1 + cell / 168 % 12))) 0 = some (.int e.2.2.number) := rfl
      have z1 : atI (rowL (e.2.2.cut (1 + cell / 168 % 12))) 1 = some (.str e.2.2.house) := rfl
      have z2 : atI (rowL (e.2.2.cut (1 + cell / 168 % 12))) 2 = some (.str e.2.2.side) := rfl
      walk_at "st"
      intro fl nfl
      walk_at "st"
      intro rm nrm
      walk_at "st"
      refine ⟨len_le rfl, fun q2 nq2 => ?_⟩
      have t1 := same_upd (o := .lst []) nfl
      have t2 := same_upd (o := .lst []) nrm
      have t12 := t1.trans t2
      have hfl3 := t2 _ _ (show upd H7 fl (.lst []) fl = some (.lst []) from upd_same)
      have hrm3 : upd (upd H7 fl (.lst [])) rm (.lst []) rm = some (.lst []) := upd_same
      generalize upd (upd H7 fl (.lst [])) rm (.lst []) = H8 at nq2 t12 hfl3 hrm3 ⊢
      have te8 : TellAt H8 (fl, rm, ⟨e.2.2.number, e.2.2.house, e.2.2.side, [], [], 1 + cell / 168 % 12⟩) := ⟨[], Tups.nil hfl3, hrm3⟩
      generalize hH9 : upd H8 q2 _ = H9
      have s9 : Same H8 H9 := hH9 ▸ same_upd nq2
      have hq2 : H9 q2 = some (.tup (encT (fl, rm, ⟨e.2.2.number, e.2.2.house, e.2.2.side, [], [], 1 + cell / 168 % 12⟩))) := by
        rw [← hH9, upd_same]
        rfl
      refine ⟨len_le rfl, fun q3 nq3 => ?_⟩
      have s10 := same_upd (o := .lst [.ref q2]) nq3
      have hq3 : upd H9 q3 (.lst [.ref q2]) q3 = some (.lst ([q2].map V.ref)) := upd_same
      generalize hH10 : upd H9 q3 _ = H10 at s10 hq3 ⊢
      have gr : ∀ r, r ∈ ([⟨e.2.2.number, e.2.2.house, e.2.2.side, [], [], 1 + cell / 168 % 12⟩] : List RepT) → GoodR r := fun r hr => by
        rw [List.mem_singleton.mp hr]
        exact ⟨(S.M.l.good e he).ok, side_ok (S.M.l.good e he).side, fun f hf => by cases hf⟩
      have s710 := (t12.trans s9).trans s10
      have sF := s7.trans s710
      have tups2 : Tups encT H10 q3 [q2] [(fl, rm, ⟨e.2.2.number, e.2.2.house, e.2.2.side, [], [], 1 + cell / 168 % 12⟩)] := ⟨hq3, rfl, fun i p x h1 h2 => by
        cases i with
        | zero => cases h1; cases h2; exact s10 _ _ hq2
        | succ i => cases h1⟩
      walk_at "st"
      refine eqL layD_G.list (by decide) (a := [⟨e.2.2.number, e.2.2.house, e.2.2.side, [], [], 1 + cell / 168 % 12⟩]) (b := [⟨e.2.2.number, e.2.2.house, e.2.2.side, [], [], 1 + cell / 168 % 12⟩]) gr gr (told_dp (hT1.same s710) (fun t ht => ((told3.te t ht).1.same sF)) htr) (told_dp tups2 (fun t ht => ?_) rfl) ?_
      · rw [List.mem_singleton.mp ht]
        exact te8.same (s9.trans s10)
      rw [decide_eq_true rfl]
      subst hs'
      refine q _ (cutS s e'.1 (1 + cell / 168 % 12)) (setE e.1 (fun o => o.cut (1 + cell / 168 % 12)) L) ss last ⟨B3.same sF, M3.same sF, ⟨S.E.last, o1, o2, S.E.ss, S.E.n1, S.E.n2⟩, St.out S.M.a.li S.oD, St.out S.M.s.li S.oS, fun y hy => ?_, fun y hy => ?_, S.nus, S.F⟩ rfl (by rw [setE_len]; exact Nat.le_refl _) fun C cs hC hW0 hf hout => ?_
      · obtain ⟨x, hx, k, _⟩ := set_get hcf3 hy
        rw [← k]; exact St.out (S.M.a.row x hx) (S.oR x hx)
      · obtain ⟨x, hx, _, k, _⟩ := set_get hcf3 hy
        rw [← k]; exact S.num x hx
      · have h2 := St.fr _ _ hf hC
        exact ⟨sF _ _ (kB _ _ hW0 hout h2), St.out hC hf, hout.1, hout.2.1, by rw [setE_addr]; exact hout.2.2⟩
    · have hnoI : ¬ (pe = 97 + cell / 24 % 7 ∧ 1 + cell / 168 % 12 ≤ e.2.2.left) := fun z => hno (by rw [hee, hpe, z.1]; exact ⟨rfl, z.2⟩)
      walk_at "st"
      refine ite_else (fun hx hE => ?_) ?_
      · have hpq : pe = 97 + cell / 24 % 7 := (V.int.inj (dec_t hx)).symm
        walk_at "st"
        refine iteB (fun hx2 => absurd ⟨hpq, of_decide_eq_true hx2⟩ hnoI) (fun _ => ?_)
        exact hE
      have hDr := M2.a.li
      walk_at "st"
      (first | delta tNil | skip)
      refine rem_of M2.a M2.l he ?_
      have hdl : (dropE e.1 L).length + 1 ≤ L.length := drop_less he
      have hWD : W ≠ D := fun z => by have := M2.w; rw [z, M2.a.li] at this; cases this
      have ntD : ∀ {z : Addr} {xs : List V}, H2 z = some (.tup xs) → z ≠ D := fun h z => by rw [z, M2.a.li] at h; cases h
      have M3 : LawW (upd H2 D (.lst (refs (dropE e.1 L)))) W D SD (dropE e.1 L) ss last := ⟨(upd_ne hWD).trans M2.w, M2.a.cut e.1, ⟨(upd_ne M2.nDS.symm).trans M2.s.li, fun y hy => (upd_ne (ntD (M2.s.row y hy))).trans (M2.s.row y hy), M2.s.nd⟩, M2.l.drop _, M2.nDS, fun y hy => M2.nR y (drop_mem hy).1, M2.asc, M2.gs, fun y hy m => by
        obtain ⟨u, hu, eu⟩ := List.mem_map.mp m
        exact M2.nn y hy (List.mem_map.mpr ⟨u, (drop_mem hu).1, eu⟩)⟩
      have hrow3 : upd H2 D (.lst (refs (dropE e.1 L))) e.1 = some (.lst (rowL e.2.2)) := (upd_ne fun z => M2.a.out (List.mem_map.mpr ⟨e, he, z⟩)).trans hrow2
      have kB : Kept H2 (upd H2 D (.lst (refs (dropE e.1 L)))) W D SD L := fun z v _ h2 hz => (upd_ne h2.1).trans hz
      have hsubL : ∀ z, outL z D SD L → outL z D SD (dropE e.1 L) := fun z h => ⟨h.1, h.2.1, fun m => by
        obtain ⟨u, hu, eu⟩ := List.mem_map.mp m
        exact h.2.2 (List.mem_map.mpr ⟨u, (drop_mem hu).1, eu⟩)⟩
      have B3 := B2.beside M2 (St.out S.M.a.li S.oD) (St.out S.M.s.li S.oS) (fun y hy => St.out (S.M.a.row y hy) (S.oR y hy)) kB
      have told3 := told.keep M2 kB (L' := dropE e.1 L) fun z v h _ => hsubL z h
      have heD : e.1 ≠ D := fun z => M2.a.out (List.mem_map.mpr ⟨e, he, z⟩)
      generalize upd H2 D (.lst (refs (dropE e.1 L))) = H3 at M3 hrow3 B3 told3 kB ⊢
      have hrow3S := SqL.of (K := K) hrow3
      have hge := S.M.l.good e he
      have hag : againO e' (97 + cell / 24 % 7) (1 + cell / 168 % 12) = againO e (97 + cell / 24 % 7) (1 + cell / 168 % 12) := by unfold againO; rw [hee]
      rw [hag] at hs1 hrep
      have hsh : 0 ≤ (againO e (97 + cell / 24 % 7) (1 + cell / 168 % 12)).shown := by
        show 0 ≤ if 1 + cell / 168 % 12 < e.2.2.shown then 1 + cell / 168 % 12 else e.2.2.shown
        split <;> omega
      have hnn : (againO e (97 + cell / 24 % 7) (1 + cell / 168 % 12)).number ∉ (dropE e.1 L).map fun e => e.2.2.number := fun m => by
        obtain ⟨u, hu, eu⟩ := List.mem_map.mp m
        have h1 := nodup_num S.M.l.ndn (drop_mem hu).1 he eu
        exact (drop_mem hu).2 (by rw [h1])
      walk_at "st"
      refine ⟨(), D, dropE e.1 L, againO e (97 + cell / 24 % 7) (1 + cell / 168 % 12), "rest", last, rfl, M3.a, M3.l, hge.side, by omega, by show 1 ≤ 1 + cell / 168 % 12; omega, by show 1 + cell / 168 % 12 ≤ 400; omega, hsh, fun _ => ⟨_, rfl⟩, hge.ok, hnn, ?_⟩
      intro R' pd fl rm fs' o' L1 H5 hR' hpt hT' hG' hLo' hlaw' hoth hown hlen' hsub nfl' nrm' npt hfr
      have hP0 : PureR (offO s e'.1) := ⟨S.B.r1.sub List.filter_sublist, S.B.r2.sub List.filter_sublist, S.B.gs⟩
      have hP1 : PureR s1 := by
        rw [hs1]
        exact (enter_pure (o := o) (dxo := dxo) (kd := "rest") (t := againO e (97 + cell / 24 % 7) (1 + cell / 168 % 12)) hP0 hge.side (by show 1 ≤ 1 + cell / 168 % 12; omega) hsh fun _ => ⟨_, rfl⟩).1
      have hnx : s'.next = s.next := by
        rw [(trig_pure hT hP1).2.2, hs1]
        rfl
      have E0 : EqB (offO s e'.1) (bsL (dropE e.1 L) ss last) := ⟨S.E.last, drop_both S.E.e1 S.M.l he u1, drop_both S.E.e2 S.M.l he u2, S.E.ss, S.E.n1, S.E.n2⟩
      obtain ⟨m, hk8⟩ := mid_enter (C := ⟨T.c_Order, T.c_BookSide, T.c_Book, T.c_Stop, T.c_Report⟩) B3 M3 hP1 hT hF (St.out S.M.a.li S.oD) (St.out S.M.s.li S.oS) (fun y hy => St.out (S.M.a.row y (drop_mem hy).1) (S.oR y (drop_mem hy).1)) (fun y hy => by rw [hnx]; exact S.num y (drop_mem hy).1) (fun y hy => by rw [hnx]; exact S.nus y hy) told3 htr
        (t := againO e (97 + cell / 24 % 7) (1 + cell / 168 % 12)) (by rw [hnx]; exact S.num e he) (fun y hy z => S.M.nn y hy (List.mem_map.mpr ⟨e, he, z.symm⟩)) E0 hs1 hrep hge.side hge.ok hR' hpt hT' hG' hLo' hlaw' hoth hown hsub nfl' nrm' hfr
      have hr1 : rep.number = e.2.2.number := by rw [hrep]; rfl
      have hr2 : rep.house = e.2.2.house := by rw [hrep]; rfl
      have hr3 : rep.side = e.2.2.side := by rw [hrep]; rfl
      have hsz : L1.length + ss.length ≤ L.length + ss.length := by omega
      have hrow5 : H5 e.1 = some (.lst (rowL e.2.2)) := hfr _ _ heD drop_out hrow3
      have hkeep : KeepW H H5 a s s' W D SD L L1 := fun C cs hC hW0 hf hout => by
        have h2 := St.fr _ _ hf hC
        have h3 := kB _ _ hW0 hout h2
        obtain ⟨h4, h5⟩ := hk8 C _ (hsubL _ hout) h3
        exact ⟨h4, St.out hC hf, h5⟩
      have g1 := world_last m.M.w
      obtain ⟨fs, hT, hG⟩ := m.te
      have hW := m.M.w
      walk_at "st"
      refine ⟨(), pd, fl, rm, rep.rest, last, fs, rep.fills, rfl, m.pd, hT, ?_⟩
      walk_at "st"
      refine world_put hW ?_
      obtain ⟨M5, B5, told5, pd5, te5⟩ := m.put (lastF last rep.fills)
      have h56 : ∀ z xs, z ≠ W → H5 z = some xs → upd H5 W (.dK (worldD D SD (lastF last rep.fills))) z = some xs := fun z xs h0 hz => (upd_ne h0).trans hz
      generalize upd H5 W (.dK (worldD D SD (lastF last rep.fills))) = H6 at M5 B5 told5 pd5 te5 h56 ⊢
      have htl : ts.length ≤ 400 := by
        have h1 := congrArg List.length m.tr
        rw [List.length_map, List.length_cons] at h1
        have h2 := trigS_len m.T
        have h3 := congrArg List.length m.E.ss
        rw [List.length_map, List.length_map] at h3
        have h4 : (bsL L1 ss (lastF last rep.fills)).ss.length = ss.length := rfl
        omega
      walk_at "st"
      refine ⟨(), p, rs, ts, rfl, told5.li, told5.len, htl, told5.rep, fun R1 ps H7 s7 nR1 hT1 => ?_⟩
      have pd7 := s7 _ _ pd5
      have hrow7S := SqL.of (K := K) (s7 _ _ (h56 _ _ (m.M.neW hrow5 fun _ e => by cases e) hrow5))
      have pd7S := SqT.of (K := K) pd7
      walk_at "st"
      intro q1 nq1
      generalize hH8 : upd H7 q1 _ = H8
      have s8 : Same H7 H8 := hH8 ▸ same_upd nq1
      have hq1S := SqT.of (K := K) ((congrFun hH8 q1).symm.trans upd_same)
      have pd8S := SqT.of (K := K) (s8 _ _ pd7)
      walk_at "st"
      refine ⟨by simp, len_le rfl, fun h => (by cases h), fun _ q2 nq2 => ?_⟩
      generalize hH9 : upd H8 q2 _ = H9
      have s9 : Same H8 H9 := hH9 ▸ same_upd nq2
      have hq2 : H9 q2 = some (.tup (encT (fl, rm, rep))) := by
        rw [← hH9, upd_same]
        unfold encT
        rw [hr1, hr2, hr3]
        rfl
      refine ⟨len_le rfl, fun q3 nq3 => ?_⟩
      generalize hH10 : upd H9 q3 _ = H10
      have s10 : Same H9 H10 := hH10 ▸ same_upd nq3
      have hq3 : H10 q3 = some (.lst [.ref q2]) := (congrFun hH10 q3).symm.trans upd_same
      have s610 := ((s7.trans s8).trans s9).trans s10
      have M10 := M5.same s610
      have hlen3 : ss.length ≤ 30 := by omega
      walk_at "st"
      refine ⟨(), W, D, SD, L1, ss, lastF last rep.fills, rfl, M10, by omega, hlen3, fun reps' R2 ps2 ts2 L2 ss2 last2 H12 hT2 hF2 M12 hsz2 nR2 hTu2 hts2 hte2 hk2 => ?_⟩
      have kk : Kept H10 H12 W D SD L1 := fun z v h1 h2 hz => (hk2 z v h1 h2 hz).1
      have hq3' := kk _ _ (((M5.same ((s7.trans s8).trans s9)).nil nq3).1) (((M5.same ((s7.trans s8).trans s9)).nil nq3).2) hq3
      have hR2 := hTu2.lst
      have hps2 : ps2.length ≤ 400 := by
        have h1 := congrArg List.length hts2
        rw [List.length_map] at h1
        have h2 := trigS_len hT2
        have h3 := hTu2.len
        have h4 : (bsL L1 ss (lastF last rep.fills)).ss.length = ss.length := rfl
        omega
      have hps2' : [V.ref q2].length + (ps2.map V.ref).length ≤ sizeLine := Nat.le_of_lt (small1000 (by rw [List.length_map]; show 1 + _ ≤ _; omega))
      walk_at "st"
      intro q4 nq4
      have s13 := same_upd (o := .lst ([V.ref q2] ++ ps2.map V.ref)) nq4
      obtain ⟨S12, er, gr⟩ := m.fin (H8 := H10) (B5.same s610) M10 hT2 hF2 M12 hk2
      have hT12 : Tups encT H12 R1 ps ts := kk.tups M10 (hT1.same ((s8.trans s9).trans s10)) (M5.nil nR1).2
      have te12 : ∀ t, t ∈ ts → TellAt H12 t := fun t ht => kk.tell M10 ((told5.te t ht).1.same s610) (told5.te t ht).2.1 (told5.te t ht).2.2
      have hq2b := s10 _ _ hq2
      have hq2' : H12 q2 = some (.tup (encT (fl, rm, rep))) := kk _ _ (M10.neW hq2b fun _ e => by cases e) (M10.tup hq2b fun _ e => by cases e) hq2b
      have te0 : TellAt H12 (fl, rm, rep) := kk.tell M10 (te5.same s610) m.ofl m.orm
      have tups2 : Tups encT (upd H12 q4 (.lst ([V.ref q2] ++ ps2.map V.ref))) q4 (q2 :: ps2) ((fl, rm, rep) :: ts2) := (hTu2.same s13).head (s13 _ _ hq2') upd_same
      refine eqL layD_G.list (by decide) (a := rep :: reps) (b := rep :: reps) gr gr (told_dp (hT12.same s13) (fun t ht => (te12 t ht).same s13) m.tr) (told_dp tups2 (fun t ht => ?_) (by rw [List.map_cons, hts2, ← er])) ?_
      · rcases List.mem_cons.mp ht with z | z
        · rw [z]; exact te0.same s13
        · exact (hte2 t z).same s13
      rw [decide_eq_true rfl]
      refine q _ s' L2 ss2 last2 (S12.same s13) hnx (by omega) fun C cs hC hW0 hf hout => ?_
      obtain ⟨k1, k2, k3⟩ := hkeep C cs hC hW0 hf hout
      have k10 := s610 _ _ (h56 C cs hW0 k1)
      have k12 := hk2 C _ hW0 k3 k10
      exact ⟨s13 _ _ k12.1, k2, k3.1, k3.2.1, k12.2⟩
/-- the lambda's tables stay behind a command -/
theorem SimW.tabs {C : BC} {H H' : Hp} {a : BA} {s s' : BS} {W D SD : Addr} {L L' : List Ent} {ss : List EntS} {last : Option Int} {TL : List (Addr × Str)} (S : SimW C H a s W D SD L ss last) (k : KeepW H H' a s s' W D SD L L') (t : LamX.Tabs TL H) : LamX.Tabs TL H' := fun p hp => by
  obtain ⟨ps, h1, h2, h3⟩ := t p hp
  have up : ∀ {z : Addr} {v : HO}, H z = some v → ¬ Mov v → (∀ ds, v ≠ .dK ds) → (∀ xs, v ≠ .lst xs) → H' z = some v := fun h m d l => (k _ _ h (S.M.neW h d) (S.B.out h m) (S.M.tup h l)).1
  refine ⟨ps, up h1 (fun m => (by rcases m with ⟨_, e⟩ | ⟨_, _, _, e, _⟩ <;> cases e)) (fun _ e => (by cases e)) (fun _ e => (by cases e)), h2, fun pos cv hc => ?_⟩
  obtain ⟨c, e1, e2⟩ := h3 pos cv hc
  exact ⟨c, e1, up e2 (fun m => by rcases m with ⟨_, e⟩ | ⟨_, _, _, e, _⟩ <;> (unfold LamX.CodeO at e; cases e)) (fun _ e => by unfold LamX.CodeO at e; cases e) (fun _ e => by unfold LamX.CodeO at e; cases e)⟩
/-- all but the tables stay: so do book and world -/
theorem SimW.extN {C : BC} {H H' : Hp} {a : BA} {s : BS} {W D SD : Addr} {L : List Ent} {ss : List EntS} {last : Option Int} (S : SimW C H a s W D SD L ss last) (e : LamX.ExtN H H') : SimW C H' a s W D SD L ss last := by
  have B := S.B
  have M := S.M
  have k : ∀ {z : Addr} {v : HO}, H z = some v → (∀ ps, v ≠ .tbl ps) → H' z = some v := fun h n => e _ _ h n
  refine ⟨⟨k B.ob (fun _ q => (by unfold bookO at q; cases q)), k B.sd (fun _ q => (by unfold sidesO at q; cases q)), ⟨k B.sp.li (fun _ q => (by cases q)), fun y hy => k (B.sp.en y hy) (fun _ q => (by unfold stopO at q; cases q)), B.sp.nd, B.sp.sm⟩,
    ⟨k B.s1.ob (fun _ q => (by cases q)), k B.s1.li (fun _ q => (by cases q)), fun y hy => k (B.s1.en y hy) (fun _ q => (by unfold ordO at q; cases q)), B.s1.nd, B.s1.sm⟩,
    ⟨k B.s2.ob (fun _ q => (by cases q)), k B.s2.li (fun _ q => (by cases q)), fun y hy => k (B.s2.en y hy) (fun _ q => (by unfold ordO at q; cases q)), B.s2.nd, B.s2.sm⟩, B.r1, B.r2, B.dj, B.nll, B.n1, B.n2, B.gs, B.sz⟩,
    ⟨k M.w (fun _ q => (by cases q)), ⟨k M.a.li (fun _ q => (by cases q)), fun y hy => k (M.a.row y hy) (fun _ q => (by cases q)), M.a.nd, M.a.out⟩, ⟨k M.s.li (fun _ q => (by cases q)), fun y hy => k (M.s.row y hy) (fun _ q => (by cases q)), M.s.nd⟩, M.l, M.nDS, M.nR, M.asc, M.gs, M.nn⟩, S.E, S.oD, S.oS, S.oR, S.num, S.nus, S.F⟩

theorem rows_neq {K : PySem.W.Frag} {H : Hp} {D D' : Addr} {ts ts' : List (Addr × Ord)} {es : List Ent} {Q : VK} (hok : ∀ e, e ∈ es → PyData.strOk e.2.2.house = true) (hD : H D = some (.lst (ts.map fun t => V.ref t.1))) (hts : ts.map (·.2) = es.map (·.2.2)) (hrow : ∀ t, t ∈ ts → H t.1 = some (.tup (rowV t.2)))
    (hD' : H D' = some (.lst (ts'.map fun t => V.ref t.1))) (hts' : ts'.map (·.2) = es.map (·.2.2)) (hrow' : ∀ t, t ∈ ts' → H t.1 = some (.tup (rowV t.2))) (q : Q (.bl false) H) : rNeD K (.ref D) (.ref D') H Q := by
  have hG : ∀ x, x ∈ (es.map fun e => rowT e.2.2) → PyData.strOk x.2.1 = true := fun x hx => by
    obtain ⟨e, he, rfl⟩ := List.mem_map.mp hx
    exact hok e he
  refine neL layD_Row.list (by decide) (a := es.map fun e => rowT e.2.2) (b := es.map fun e => rowT e.2.2) hG hG (rows_dp hD hts hrow) (rows_dp hD' hts' hrow') ?_
  rw [decide_eq_true rfl]
  exact q
theorem Tups.extN {α : Type} {enc : α → List V} {H H' : Hp} {l : Addr} {ps : List Addr} {xs : List α} (h : Tups enc H l ps xs) (e : LamX.ExtN H H') : Tups enc H' l ps xs :=
  ⟨e _ _ h.lst (fun _ y => by cases y), h.len, fun i p x a b => e _ _ (h.row i p x a b) fun _ y => by cases y⟩
/-- all but the dicts stay -/
def KeepD (H H' : Hp) : Prop := ∀ b o, H b = some o → (∀ d, o ≠ .dK d) → H' b = some o
def numAt (ss : List EntS) : V → Int := fun v => match v with
  | .ref p => match ss.find? fun e => decide (e.1 = p) with
    | some e => e.2.2.number
    | none => 0
  | _ => 0
theorem numAt_is {ss : List EntS} (nd : (ss.map (·.1)).Nodup) {e : EntS} (he : e ∈ ss) : numAt ss (.ref e.1) = e.2.2.number := by
  have key : ∀ o : Option EntS, ss.find? (fun y => decide (y.1 = e.1)) = o → numAt ss (.ref e.1) = match o with | some e => e.2.2.number | none => 0 := fun o ho => by rw [← ho]; rfl
  cases h : ss.find? fun y => decide (y.1 = e.1) with
  | none => exact absurd (decide_eq_true rfl) (List.find?_eq_none.mp h e he)
  | some y =>
    have h1 := List.mem_of_find?_eq_some h
    have h2 : y.1 = e.1 := by
      have := List.find?_some h
      simpa using this
    rw [key _ h, nodupS nd h1 he h2]
theorem numAt_asc {ss : List EntS} (nd : (ss.map (·.1)).Nodup) (asc : ss.Pairwise fun x y => x.2.2.number < y.2.2.number) : (refsS ss).Pairwise fun x y => numAt ss x ≤ numAt ss y := by
  unfold refsS
  refine List.pairwise_map.mpr (List.Pairwise.imp_of_mem (fun {a b} ha hb h => ?_) asc)
  rw [numAt_is nd ha, numAt_is nd hb]
  exact Int.le_of_lt h
theorem scal_opt (a : Option Int) : scal (optV a) (optV a) = true := by cases a <;> rfl
def sp_law (K : PySem.W.Frag) (TL : List (Addr × Str)) : Sp := fun vs H Q _ => ∃ (a : Addr) (ns : List Int), vs = [.ref a] ∧ SqL K H a (ns.map V.int) ∧ ns.length ≤ 63 ∧ LamX.Tabs TL H ∧ ∀ H', Q (.bl true) H'
set_option maxHeartbeats 0 in
theorem ok_law {f : Addr} {fd : FuncData} (T : Txt K mg) [TB : TabsOk T base] (F : Fun K "law" "law" s_law f fd) (eq : fd.code = .ref T.cq_law) : FnOk P w K mg base CX0 10 f fd ["script"] (sp_law K (tabsL T)) := by
  refine fun_okC F sc_law eq (fun vs H Q E h => ?_) (fun A outer s H vs Q E hr h => ?_)
  · obtain ⟨a, ns, rfl, _⟩ := h
    rfl
  · obtain ⟨z, ns, rfl, hs, hl, hTb, q⟩ := h
    have G_Book_init : FnOk P w K mg base CX0 3 T.f_Book_init T.d_Book_init ["self", "first_number"] (sp_Book_init K T.c_Order T.c_BookSide T.c_Book) := ok_Book_init T
    have G_law_cancel : FnOk P w K mg base CX0 5 T.f_law_cancel T.d_law_cancel ["book", "world", "cell"] (sp_law_cancel K T.c_Order T.c_BookSide T.c_Book T.c_Stop T.c_Report) := ok_law_cancel T
    have G_law_amend : FnOk P w K mg base CX0 9 T.f_law_amend T.d_law_amend ["book", "world", "cell"] (sp_law_amend K T.c_Order T.c_BookSide T.c_Book T.c_Stop T.c_Report) := ok_law_amend T
    have G_law_submit : FnOk P w K mg base CX0 9 T.f_law_submit T.d_law_submit ["book", "world", "cell", "number"] (sp_law_submit K T.c_Order T.c_BookSide T.c_Book T.c_Stop T.c_Report) := ok_law_submit T
    have G_Book_stops : FnOk P w K mg base CX0 2 T.f_Book_stops T.d_Book_stops ["self"] (sp_Book_stops K T.c_Stop T.c_Book) := ok_Book_stops T
    have G_Book_orders : FnOk P w K mg base CX0 2 T.f_Book_orders T.d_Book_orders ["self", "side"] (sp_Book_orders K T.c_Order T.c_BookSide T.c_Book) := ok_Book_orders T
    have G_law_listed : FnOk P w K mg base CX0 3 T.f_law_listed T.d_law_listed ["orders", "side"] (sp_law_listed K) := ok_law_listed T
    obtain ⟨D0_Book_init, B0_Book_init⟩ := T.b0_Book_init
    refine ⟨_, (pss_cons (ps_set (i := 1) sc_law.nd rfl (Or.inl rfl) (pe_make0 T.mk_Book G_Book_init (hr.mono (by decide)) (by rfl) T.m_Book B0_Book_init.2 B0_Book_init.1 pass0))
    (pss_cons (ps_set (i := 2) sc_law.nd rfl (Or.inl rfl) (pe_disp (pps_cons pe_str (pe_lst pa_nil) (pps_cons pe_str (pe_lst pa_nil) (pps_cons pe_str pe_non pps_nil))) (by rfl) (by rfl) (fun z => by cases z) (by decide)))
    (pss_cons (ps_set (i := 3) sc_law.nd rfl (Or.inl rfl) pe_int)
    (pss_cons (ps_for PassesOwn.never rfl (pi_list (pe_slice sl_list (pv 0) po_none (po_some pe_int))) (pg_name (i := 4) sc_law.nd rfl (Or.inl rfl))
      (pss_cons (ps_set (i := 5) sc_law.nd rfl (Or.inl rfl) (pe_op op_mod (pe_callTy call_int_i (by rfl) T.z_int (by decide +kernel) (pa_cons (pv 4) pa_nil)) pe_int))
      (C8.pss_cut (ps_if (PW.pt (pw_and (pt_cmpR op_eq (pv 5) pe_int (nomark _)) (pw_and1 (pt_cmpR op_gt (pe_op op_add (pe_callB call_len_seq (by rfl) T.z_len PySem.boot_len (pa_cons (pe_dget (hu_of hr) (pv 2) pe_str (fun _ _ => rfl)) pa_nil)) (pe_callB call_len_seq (by rfl) T.z_len PySem.boot_len (pa_cons (pe_dget (hu_of hr) (pv 2) pe_str (fun _ _ => rfl)) pa_nil))) pe_int (nomark _)))))
        (pss_one (ps_set (i := 6) sc_law.nd rfl (Or.inl rfl) (pe_call G_law_cancel (hr.mono (by decide)) (by rfl) T.m_law_cancel T.F_law_cancel.kp T.b_law_cancel .nil pass0 (pa_cons (pv 1) (pa_cons (pv 2) (pa_cons (pe_op op_fdiv (pv 4) pe_int) pa_nil))))))
        (pss_one (ps_if (PW.pt (pw_and (pt_cmpR op_eq (pv 5) pe_int (nomark _)) (pw_and1 (pt_truth (pe_dget (hu_of hr) (pv 2) pe_str (fun _ _ => rfl)) (by intro _; rfl)))))
          (pss_one (ps_set (i := 6) sc_law.nd rfl (Or.inl rfl) (pe_call G_law_amend hr (by rfl) T.m_law_amend T.F_law_amend.kp T.b_law_amend .nil pass0 (pa_cons (pv 1) (pa_cons (pv 2) (pa_cons (pe_op op_fdiv (pv 4) pe_int) pa_nil))))))
          (pss_cons (ps_set (i := 3) sc_law.nd rfl (Or.inl rfl) (pe_op op_add (pv 3) pe_int))
          (pss_one (ps_set (i := 6) sc_law.nd rfl (Or.inl rfl) (pe_call G_law_submit hr (by rfl) T.m_law_submit T.F_law_submit.kp T.b_law_submit .nil pass0 (pa_cons (pv 1) (pa_cons (pv 2) (pa_cons (pe_op op_fdiv (pv 4) pe_int) (pa_cons (pv 3) pa_nil)))))))))))
      (pss_cons (ps_if (PW.pt (pw_or (pt_not (pt_val (pv 6))) (pw_or (pt_cmpR op_ne (pe_fld (pv 1) rfl) (pe_dget (hu_of hr) (pv 2) pe_str (fun _ _ => rfl)) (nomark _)) (pw_or1 (pt_cmpR (op_neD hr.units) (pe_meth0 (pv 1) T.cl_Book T.mt_Book_stops G_Book_stops (hr.mono (by decide)) T.b_Book_stops .nil pass0) (pe_sortLam1 (T := tabsL T) (j := 0) (a := "stop") (pe_dget (hu_of hr) (pv 2) pe_str (fun _ _ => rfl)) (by rfl) T.z_sorted TB.tb_law rfl (.head _) (tabsU_law T) (hr.mono (by decide)) (lamP_by (by show lamPB (defScope s_law) _ _ = true; decide +kernel)) (by show (N_law.all fun y => decide (y ≠ "stop")) = true; decide +kernel) rfl (fun _ _ _ _ _ _ => rfl) (fun _ _ _ _ _ hr => (pe_ix (show IxR _ (rIxT K) from ix_tup) (pv 8) pe_int (fun _ _ => rfl)))) (nomark _))))))
        (pss_one (ps_ret pe_bl))
        pss_nil)
      (pss_one (ps_for PassesOwn.never rfl (pi_tup (pe_tup (pa_cons pe_str (pa_cons pe_str pa_nil)))) (pg_name (i := 7) sc_law.nd rfl (Or.inl rfl))
        (pss_one (ps_if (pt_cmpR (op_neD hr.units) (pe_meth (pv 1) T.cl_Book T.mt_Book_orders G_Book_orders (hr.mono (by decide)) T.b_Book_orders .nil pass0 (pa_cons (pv 7) pa_nil)) (pe_call G_law_listed (hr.mono (by decide)) (by rfl) T.m_law_listed T.F_law_listed.kp T.b_law_listed .nil pass0 (pa_cons (pe_dget (hu_of hr) (pv 2) pe_str (fun _ _ => rfl)) (pa_cons (pv 7) pa_nil))) (nomark _))
          (pss_one (ps_ret pe_bl))
          pss_nil))))))))
    (pss_one (ps_ret pe_bl)))))), ?_⟩
    have fact_BookSide_0 := T.cl_BookSide; have fact_BookSide_1 := T.na_BookSide__orders; have fact_Book_0 := T.cl_Book; have fact_Book_1 := T.na_Book_last; have fact_Book_2 := T.na_Book__next_number; have fact_Book_3 := T.na_Book__sides; have fact_Book_4 := T.na_Book__stops; have fact_Order_0 := T.cl_Order; have fact_Order_1 := T.na_Order_number; have fact_Order_2 := T.na_Order_house; have fact_Order_3 := T.na_Order_side; have fact_Order_4 := T.na_Order_price; have fact_Order_5 := T.na_Order_shown; have fact_Order_6 := T.na_Order_left; have fact_Order_7 := T.na_Order_visible; have fact_Report_0 := T.cl_Report; have fact_Report_1 := T.na_Report_number; have fact_Report_2 := T.na_Report_house; have fact_Report_3 := T.na_Report_side; have fact_Report_4 := T.na_Report_fills; have fact_Report_5 := T.na_Report_removed; have fact_Report_6 := T.na_Report_resting; have fact_Stop_0 := T.cl_Stop; have fact_Stop_1 := T.na_Stop_number; have fact_Stop_2 := T.na_Stop_house; have fact_Stop_3 := T.na_Stop_side; have fact_Stop_4 := T.na_Stop_trigger; have fact_Stop_5 := T.na_Stop_price; have fact_Stop_6 := T.na_Stop_quantity
    walk_at "st"
    intro x dx nx ndx nex
    refine ⟨x, dx, 1, rfl, upd_same, fun H1 sd st b1 d1 l1 b2 d2 l2 BA hlls hnew hfr => ?_⟩
    have s1 : Same H H1 := fun z o hz => by
      have zx : z ≠ x := fun e => by rw [e, nx] at hz; cases hz
      have zd : z ≠ dx := fun e => by rw [e, ndx] at hz; cases hz
      refine hfr z o zx ?_
      rw [upd_ne zx, upd_ne zd]
      exact hz
    have B0 : BookW ⟨T.c_Order, T.c_BookSide, T.c_Book, T.c_Stop, T.c_Report⟩ H1 ⟨x, dx, sd, st, b1, d1, l1, b2, d2, l2⟩ ⟨none, 1, [], [], []⟩ :=
      ⟨BA.ob, BA.sd, ⟨BA.st, (fun e he => by cases he), List.nodup_nil, Nat.zero_le _⟩, BA.s1, BA.s2, Rank.nil _, Rank.nil _, (fun e he => by cases he), hlls.1, hlls.2.1, hlls.2.2, (fun e he => by cases he), Nat.zero_le _⟩
    refine ⟨rfl, ?_⟩
    have hs1 := s1.seq hs
    walk_at "st"
    intro W nW
    rw [tPairs]
    walk_at "st"
    intro D nD
    show tPairs _ _ _ _
    rw [tPairs]
    walk_at "st"
    intro SD nSD
    show tPairs _ _ _ _
    rw [tPairs]
    have tW := same_upd (o := .dK []) nW
    have tD := same_upd (o := .lst []) nD
    have tS := same_upd (o := .lst []) nSD
    have hW3 : upd (upd (upd H1 W (.dK [])) D (.lst [])) SD (.lst []) W = some (.dK []) := tS _ _ (tD _ _ upd_same)
    have hD3 : upd (upd (upd H1 W (.dK [])) D (.lst [])) SD (.lst []) D = some (.lst []) := tS _ _ upd_same
    have hS3 : upd (upd (upd H1 W (.dK [])) D (.lst [])) SD (.lst []) SD = some (.lst []) := upd_same
    have s13 : Same H1 (upd (upd (upd H1 W (.dK [])) D (.lst [])) SD (.lst [])) := (tW.trans tD).trans tS
    have nD1 : H1 D = none := by
      by_cases k : D = W
      · rw [k]; exact nW
      · rw [upd_ne k] at nD; exact nD
    have nS1 : H1 SD = none := by
      have h1 : upd H1 W (.dK []) SD = none := by
        by_cases k : SD = D
        · rw [k]; exact nD
        · rw [upd_ne k] at nSD; exact nSD
      by_cases k : SD = W
      · rw [k]; exact nW
      · rw [upd_ne k] at h1; exact h1
    generalize upd (upd (upd H1 W (.dK [])) D (.lst [])) SD (.lst []) = H3 at hW3 hD3 hS3 s13 ⊢
    walk_at "st"
    refine ⟨worldD D SD none, rfl, (show 3 ≤ 15 by decide), ?_⟩
    rw [show mergeK [] (worldD D SD none) = worldD D SD none from rfl]
    have s14 : Same H1 (upd H3 W (.dK (worldD D SD none))) := fun z v hz => (upd_ne fun k => by rw [k, nW] at hz; cases hz).trans (s13 _ _ hz)
    have hW4 : upd H3 W (.dK (worldD D SD none)) W = some (.dK (worldD D SD none)) := upd_same
    have hD4 : upd H3 W (.dK (worldD D SD none)) D = some (.lst []) := (upd_ne fun k => by rw [k, hW3] at hD3; cases hD3).trans hD3
    have hS4 : upd H3 W (.dK (worldD D SD none)) SD = some (.lst []) := (upd_ne fun k => by rw [k, hW3] at hS3; cases hS3).trans hS3
    have hDS : D ≠ SD := fun k => by rw [k] at nD; rw [k, upd_same] at nSD; cases nSD
    generalize upd H3 W (.dK (worldD D SD none)) = H4 at hW4 hD4 hS4 s14 ⊢
    have S4 : SimW ⟨T.c_Order, T.c_BookSide, T.c_Book, T.c_Stop, T.c_Report⟩ H4 ⟨x, dx, sd, st, b1, d1, l1, b2, d2, l2⟩ ⟨none, 1, [], [], []⟩ W D SD [] [] none :=
      ⟨B0.same s14, ⟨hW4, ⟨hD4, fun e he => (by cases he), List.nodup_nil, List.not_mem_nil⟩, ⟨hS4, fun e he => (by cases he), List.nodup_nil⟩, ⟨fun e he => (by cases he), List.nodup_nil, List.nodup_nil⟩, hDS, fun e he => (by cases he), List.Pairwise.nil, fun e he => (by cases he), fun e he => (by cases he)⟩,
        ⟨rfl, rfl, rfl, rfl, List.nodup_nil, List.nodup_nil⟩, B0.fresh nD1, B0.fresh nS1, fun e he => (by cases he), fun e he => (by cases he), fun e he => (by cases he), rfl⟩
    have hs4 := s14.seq hs1
    have hTb4 := hTb.ext (s1.trans s14)
    walk_at "st"
    intro C nC
    generalize hH5 : upd H4 C _ = H5
    have s5 : Same H4 H5 := hH5 ▸ same_upd nC
    have hC := (congrFun hH5 C).symm.trans upd_same
    rw [cutV_ints] at hC
    have hcl : (cutI ns none (some 24)).length ≤ 24 := by
      unfold cutI
      rw [HT.sIx_none, show (24 : Int) = ((24 : Nat) : Int) from rfl, HT.sIx_nat, List.length_take]
      omega
    generalize cutI ns none (some 24) = cs at hC hcl
    have fC := S4.B.fresh nC
    have oC := S4.M.nil nC
    have S5 := S4.same s5
    have hTb5 := hTb4.ext s5
    walk_at "st"
    refine for_list (K := K) (a := C) (xs := cs.map V.int) (fun i σ H' => ∃ (v4 v5 v6 v7 : Option V) (s : BS) (L : List Ent) (ss : List EntS) (last : Option Int) (n : Int), σ = [some (.ref z), some (.ref x), some (.ref W), some (.int n), v4, v5, v6, v7] ∧ H' C = some (.lst (cs.map V.int)) ∧ C ∉ foot ⟨x, dx, sd, st, b1, d1, l1, b2, d2, l2⟩ s ∧ outL C D SD L ∧
        SimW ⟨T.c_Order, T.c_BookSide, T.c_Book, T.c_Stop, T.c_Report⟩ H' ⟨x, dx, sd, st, b1, d1, l1, b2, d2, l2⟩ s W D SD L ss last ∧ s.next = n + 1 ∧ L.length + ss.length ≤ i ∧ LamX.Tabs (tabsL T) H')
      ⟨none, none, none, none, _, [], [], none, 0, rfl, hC, fC, oC.2, S5, rfl, Nat.le_refl _, hTb5⟩ (fun i σ H' _ ⟨_, _, _, _, _, _, _, _, _, _, h, _⟩ => SqL.of h) ?_ ?_
    · rintro i y σ H' hy ⟨v4, v5, v6, v7, s, L, ss, last, n, rfl, hC', fC', oC', S', hnx, hsz, hTb'⟩
      obtain ⟨c, hc, rfl⟩ := ints_at hy
      have hi := (List.getElem?_eq_some_iff.mp hc).1
      have g1 := world_orders S'.M.w
      have g2 := world_stops S'.M.w
      have hDS := SqL.of (K := K) S'.M.a.li
      have hSS := SqL.of (K := K) S'.M.s.li
      walk_at "st"
      refine ⟨fun σ' H6 => ∃ (s' : BS) (L' : List Ent) (ss' : List EntS) (last' : Option Int) (n' : Int), σ' = [some (.ref z), some (.ref x), some (.ref W), some (.int n'), some (.int c), some (.int (c % 8)), some (.bl true), v7] ∧ SimW ⟨T.c_Order, T.c_BookSide, T.c_Book, T.c_Stop, T.c_Report⟩ H6 ⟨x, dx, sd, st, b1, d1, l1, b2, d2, l2⟩ s' W D SD L' ss' last' ∧ s'.next = n' + 1 ∧ L'.length + ss'.length ≤ i + 1 ∧
        H6 C = some (.lst (cs.map V.int)) ∧ C ∉ foot ⟨x, dx, sd, st, b1, d1, l1, b2, d2, l2⟩ s' ∧ outL C D SD L' ∧ LamX.Tabs (tabsL T) H6, ?_, ?_⟩
      · walk_at "st"
        refine ite_else (fun h6 hE => ?_) ?_
        · walk_at "st"
          refine iteB (fun hpos => ?_) (fun _ => hE)
          have hll : (refs L).length = L.length := List.length_map ..
          have hls : (refsS ss).length = ss.length := List.length_map ..
          have hp2 : (0 : Int) < ((refs L).length : Int) + ((refsS ss).length : Int) := of_decide_eq_true hpos
          walk_at "st"
          refine ⟨(), ⟨x, dx, sd, st, b1, d1, l1, b2, d2, l2⟩, s, W, D, SD, L, ss, last, c / 8, rfl, S', by omega, by omega, fun H4 s4 L4 ss4 S4' hn4 hl4 kc => ?_⟩
          have kC := kc C _ hC' (S'.M.neW hC' fun _ e => by cases e) fC' oC'
          have hT4 := S'.tabs kc hTb'
          walk_at "st"
          exact ⟨s4, L4, ss4, last, n, rfl, S4', hn4.trans hnx, by omega, kC.1, kC.2.1, kC.2.2, hT4⟩
        walk_at "st"
        refine ite_else (fun h7 hE => ?_) ?_
        · cases L with
          | nil =>
            walk_at "st"
            refine ⟨(), ⟨x, dx, sd, st, b1, d1, l1, b2, d2, l2⟩, s, W, D, SD, [], ss, last, c / 8, (by rw [hnx]; rfl), S', by omega, fun H4 s4 L4 ss4 last4 S4' hn4 hl4 kc => ?_⟩
            have kC := kc C _ hC' (S'.M.neW hC' fun _ e => by cases e) fC' oC'
            have hT4 := S'.tabs kc hTb'
            walk_at "st"
            exact ⟨s4, L4, ss4, last4, n + 1, rfl, S4', (by rw [hn4, hnx]), by omega, kC.1, kC.2.1, kC.2.2, hT4⟩
          | cons e0 L0 =>
            walk_at "st"
            refine ⟨(), ⟨x, dx, sd, st, b1, d1, l1, b2, d2, l2⟩, s, W, D, SD, e0 :: L0, ss, last, c / 8, rfl, S', by omega, Nat.succ_pos _, fun H4 s4 L4 ss4 last4 S4' hn4 hl4 kc => ?_⟩
            have kC := kc C _ hC' (S'.M.neW hC' fun _ e => by cases e) fC' oC'
            have hT4 := S'.tabs kc hTb'
            walk_at "st"
            exact ⟨s4, L4, ss4, last4, n, rfl, S4', hn4.trans hnx, by omega, kC.1, kC.2.1, kC.2.2, hT4⟩
        walk_at "st"
        refine ⟨(), ⟨x, dx, sd, st, b1, d1, l1, b2, d2, l2⟩, s, W, D, SD, L, ss, last, c / 8, (by rw [hnx]; rfl), S', by omega, fun H4 s4 L4 ss4 last4 S4' hn4 hl4 kc => ?_⟩
        have kC := kc C _ hC' (S'.M.neW hC' fun _ e => by cases e) fC' oC'
        have hT4 := S'.tabs kc hTb'
        walk_at "st"
        exact ⟨s4, L4, ss4, last4, n + 1, rfl, S4', (by rw [hn4, hnx]), by omega, kC.1, kC.2.1, kC.2.2, hT4⟩
      · rintro σ' H6 ⟨s', L', ss', last', n', rfl, S6, hnx', hsz', hC6, fC6, oC6, hTb6⟩
        have hob := S6.B.ob
        unfold bookO at hob
        have hl := S6.E.last
        have g3 := world_last S6.M.w
        walk_at "st"
        show rNe _ _ _ _
        rw [show s'.last = last' from hl]
        refine ⟨scal_opt _, ?_⟩
        rw [show decide (optV last' = optV last') = true from decide_eq_true rfl]
        walk_at "st"
        refine ⟨last', s'.next, s'.ss, rfl, (by have := S6.B.ob; rw [show s'.last = last' from hl] at this; exact this), S6.B.sp, fun D1 ps1 H7 s7 nD1 hT1 => ?_⟩
        have S7 := S6.same s7
        have hTb7 := hTb6.ext s7
        have g4 := world_stops S7.M.w
        have hSS7 := SqL.of (K := K) S7.M.s.li
        walk_at "st"
        intro H8 e8 t8
        have S8 := S7.extN e8
        have hC8 : H8 C = some (.lst (cs.map V.int)) := e8 _ _ (s7 _ _ hC6) fun _ k => by cases k
        have hT8 : Tups rowS H8 D1 ps1 (s'.ss.map fun e => e.2.2) := hT1.extN e8
        have hSl := S8.M.s.li
        refine ⟨(), SD, refsS ss', numAt ss', rfl, SqL.of hSl, fun v hv H9 s9 => ?_, fun _ p H9 s9 np np9 => ?_⟩
        · obtain ⟨e, he, rfl⟩ := List.mem_map.mp hv
          have hrS := SqT.of (K := K) (s9 _ _ (S8.M.s.row e he))
          have c0 : atI (rowS e.2.2) 0 = some (.int e.2.2.number) := rfl
          rw [numAt_is S8.M.s.nd he]
          walk_at "st"
          exact ⟨Same.refl _, rfl⟩
        rw [oneLe_sorted (numAt_asc S8.M.s.nd S8.M.asc)]
        have sP := same_upd (o := .lst (refsS ss')) np9
        have hp : upd H9 p (.lst (refsS ss')) p = some (.lst (refsS ss')) := upd_same
        have s8A : Same H8 (upd H9 p (.lst (refsS ss'))) := s9.trans sP
        generalize upd H9 p (.lst (refsS ss')) = HA at hp s8A ⊢
        have SA := S8.same s8A
        have tA := t8.ext s8A
        have hCA := s8A _ _ hC8
        have hGQ : ∀ q, q ∈ ss'.map (fun e => e.2.2) → PyData.strOk q.house = true ∧ PyData.strOk q.side = true := fun q hq => by
          obtain ⟨e, he, rfl⟩ := List.mem_map.mp hq
          exact ⟨(SA.M.gs e he).2.2.2, side_ok (SA.M.gs e he).1⟩
        have hd1 : Dp K HA (.ref D1) (.list ((ss'.map fun e => e.2.2).map layQ)) := by
          have h1 := (hT8.same s8A).dp (K := K) (L := layQ) fun q r hr => rowS_dp hr
          rw [show (s'.ss.map fun e => e.2.2) = ss'.map fun e => e.2.2 from S6.E.ss] at h1
          exact h1
        have hd2 : Dp K HA (.ref p) (.list ((ss'.map fun e => e.2.2).map layQ)) := by
          refine .lst (SqL.of hp) ?_
          rw [List.map_map]
          exact SlAt.dp SA.M.s.row
        refine neL layD_Q.list (by decide) (a := ss'.map fun e : EntS => e.2.2) (b := ss'.map fun e : EntS => e.2.2) hGQ hGQ hd1 hd2 ?_
        rw [decide_eq_true rfl]
        walk_at "st"
        intro U nU
        generalize hHB : upd HA U _ = HB
        have sU : Same HA HB := hHB ▸ same_upd nU
        have hU := (congrFun hHB U).symm.trans upd_same
        have hqU := SqT.of (K := K) hU
        walk_at "st"
        refine for_tup (K := K) (a := U) (xs := [.str "buy", .str "sell"]) (fun j σ Hx => (∃ v7 : Option V, σ = [some (.ref z), some (.ref x), some (.ref W), some (.int n'), some (.int c), some (.int (c % 8)), some (.bl true), v7]) ∧ Same HB Hx) ⟨⟨_, rfl⟩, Same.refl _⟩ (fun j σ Hx _ ⟨_, e⟩ => SqT.of (e _ _ hU)) ?_ ?_
        · rintro j v σ Hx hv ⟨⟨v7, rfl⟩, ex⟩
          have SX := SA.same (sU.trans ex)
          obtain ⟨si, hsi, rfl⟩ : ∃ si : Str, (si = "buy" ∨ si = "sell") ∧ v = .str si := by
            have := List.mem_of_getElem? hv
            rcases List.mem_cons.mp this with k | k
            · exact ⟨"buy", .inl rfl, k⟩
            · exact ⟨"sell", .inr rfl, List.mem_singleton.mp k⟩
          obtain ⟨b, d, l, es, hBS, hes⟩ : ∃ (b d l : Addr) (es : List Ent), BookSideAt T.c_Order T.c_BookSide T.c_Book Hx x dx sd st s'.last s'.next si b d l es ∧ ordsE es = ordsE (BL si L') := by
            rcases hsi with k | k
            · rw [k]; exact ⟨b1, d1, l1, s'.es1, ⟨SX.B.ob, sides_buy SX.B.sd, SX.B.s1⟩, SX.E.e1⟩
            · rw [k]; exact ⟨b2, d2, l2, s'.es2, ⟨SX.B.ob, sides_sell SX.B.sd, SX.B.s2⟩, SX.E.e2⟩
          have hobX := SX.B.ob
          unfold bookO at hobX
          have hlo : ([("last", optV s'.last), ("_next_number", V.int s'.next), ("_sides", .ref sd), ("_stops", .ref st)] : List (Str × V)).lookup ("orders" : Str) = none := rfl
          walk_at "st"
          refine ⟨s'.last, s'.next, es, si, rfl, hBS, fun D2 H2 t2 s2 nD2 hD2 ht2 hr2 => ?_⟩
          have S2 := SX.same s2
          have g5 := world_orders S2.M.w
          walk_at "st"
          refine ⟨(), D, L', si, rfl, S2.M.a, S2.M.l, hsi, by omega, fun D3 H3 t3 s3 nD3 hD3 ht3 hr3 => ?_⟩
          refine rows_neq (es := es) (ords_ok hes fun e he => (S2.M.l.good e (BL_mem he).1).ok) (s3 _ _ hD2) ht2 (fun t ht => s3 _ _ (hr2 t ht)) hD3 (ht3.trans (ords_rows hes).symm) hr3 ?_
          walk_at "st"
          exact ⟨⟨_, rfl⟩, ex.trans (s2.trans s3)⟩
        · rintro σ Hx ⟨⟨v7, rfl⟩, ex⟩
          have sX := sU.trans ex
          exact ⟨_, _, _, _, s', L', ss', last', n', rfl, sX _ _ hCA, fC6, oC6, SA.same sX, hnx', hsz', tA.ext sX⟩
    · rintro σ H' ⟨v4, v5, v6, v7, s, L, ss, last, n, rfl, _⟩
      walk_at "st"
      exact q _

end
set_option maxHeartbeats 0 in
theorem all_mk {l : PySem.W.OpenLaw} {w : World} {K : PySem.W.Frag} {h : Heap} {mg : Str → Option Value} {fa f1 f2 f3 f4 f5 f6 f7 f8 f9 f10 f11 f12 f13 f14 f15 f16 f17 f18 f19 f20 f21 f22 f23 f24 f25 f26 f27 f28 f29 f30 f31 f32 f33 f34 f35 f36 f37 f38 f39 f40 f41 f42 f43 f44 f45 f46 f47 f48 f49 f50 f51 f52 f53 f54 f55 f56 f57 f58 f59 f60 f61 f62 f63 f64 : Addr} (X : K.In h) (G : h.Ns mainGlobals mg) (hfa : mg "law" = some (.ref fa))
    {cq64 pq64 : Addr} {ocq64 : Value} {odq64 : Option Addr} {slq64 : Array (Option Value)} {vq64 : Array Value}
    {c_BourseError c_InvalidOrder c_UnknownOrder c_NotOwner c_Order c_Stop c_BookSide c_Report c_Book : Addr}
    {od1 an1 od2 an2 od3 an3 od4 an4 od5 an5 od6 an6 od7 an7 od8 an8 od9 an9 od10 an10 od11 an11 od12 an12 od13 an13 od14 an14 od15 an15 od16 an16 od17 an17 od18 an18 od19 an19 od20 an20 od21 an21 od22 an22 od23 an23 od24 an24 od25 an25 od26 an26 od27 an27 od28 an28 od29 an29 od30 an30 od31 an31 od32 an32 od33 an33 od34 an34 od35 an35 od36 an36 od37 an37 od38 an38 od39 an39 od40 an40 od41 an41 od42 an42 od43 an43 od44 an44 od45 an45 od46 an46 od47 an47 od48 an48 od49 an49 od50 an50 od51 an51 od52 an52 od53 an53 od54 an54 od55 an55 od56 an56 od57 an57 od58 an58 od59 an59 od60 an60 od61 an61 od62 an62 od63 an63 od64 an64 : Option Addr} {sl1 sl2 sl3 sl4 sl5 sl6 sl7 sl8 sl9 sl10 sl11 sl12 sl13 sl14 sl15 sl16 sl17 sl18 sl19 sl20 sl21 sl22 sl23 sl24 sl25 sl26 sl27 sl28 sl29 sl30 sl31 sl32 sl33 sl34 sl35 sl36 sl37 sl38 sl39 sl40 sl41 sl42 sl43 sl44 sl45 sl46 sl47 sl48 sl49 sl50 sl51 sl52 sl53 sl54 sl55 sl56 sl57 sl58 sl59 sl60 sl61 sl62 sl63 sl64 : Array (Option Value)} {oc1 kV1 dc1 pm1 cd1 ct1 oc2 kV2 dc2 pm2 cd2 ct2 oc3 kV3 dc3 pm3 cd3 ct3 oc4 kV4 dc4 pm4 cd4 ct4 oc5 kV5 dc5 pm5 cd5 ct5 oc6 kV6 dc6 pm6 cd6 ct6 oc7 kV7 dc7 pm7 cd7 ct7 oc8 kV8 dc8 pm8 cd8 ct8 oc9 kV9 dc9 pm9 cd9 ct9 oc10 kV10 dc10 pm10 cd10 ct10 oc11 kV11 dc11 pm11 cd11 ct11 oc12 kV12 dc12 pm12 cd12 ct12 oc13 kV13 dc13 pm13 cd13 ct13 oc14 kV14 dc14 pm14 cd14 ct14 oc15 kV15 dc15 pm15 cd15 ct15 oc16 kV16 dc16 pm16 cd16 ct16 oc17 kV17 dc17 pm17 cd17 ct17 oc18 kV18 dc18 pm18 cd18 ct18 oc19 kV19 dc19 pm19 cd19 ct19 oc20 kV20 dc20 pm20 cd20 ct20 oc21 kV21 dc21 pm21 cd21 ct21 oc22 kV22 dc22 pm22 cd22 ct22 oc23 kV23 dc23 pm23 cd23 ct23 oc24 kV24 dc24 pm24 cd24 ct24 oc25 kV25 dc25 pm25 cd25 ct25 oc26 kV26 dc26 pm26 cd26 ct26 oc27 kV27 dc27 pm27 cd27 ct27 oc28 kV28 dc28 pm28 cd28 ct28 oc29 kV29 dc29 pm29 cd29 ct29 oc30 kV30 dc30 pm30 cd30 ct30 oc31 dc31 pm31 cd31 ct31 oc32 kV32 dc32 pm32 cd32 ct32 oc33 kV33 dc33 pm33 cd33 ct33 oc34 kV34 dc34 pm34 cd34 ct34 oc35 kV35 dc35 pm35 cd35 ct35 oc36 kV36 dc36 pm36 cd36 ct36 oc37 kV37 dc37 pm37 cd37 ct37 oc38 kV38 dc38 pm38 cd38 ct38 oc39 kV39 dc39 pm39 cd39 ct39 oc40 kV40 dc40 pm40 cd40 ct40 oc41 kV41 dc41 pm41 cd41 ct41 oc42 kV42 dc42 pm42 cd42 ct42 oc43 kV43 dc43 pm43 cd43 ct43 oc44 kV44 dc44 pm44 cd44 ct44 oc45 kV45 dc45 pm45 cd45 ct45 oc46 kV46 dc46 pm46 cd46 ct46 oc47 kV47 dc47 pm47 cd47 ct47 oc48 kV48 dc48 pm48 cd48 ct48 oc49 kV49 dc49 pm49 cd49 ct49 oc50 kV50 dc50 pm50 cd50 ct50 oc51 kV51 dc51 pm51 cd51 ct51 oc52 kV52 dc52 pm52 cd52 ct52 oc53 kV53 dc53 pm53 cd53 ct53 oc54 kV54 dc54 pm54 cd54 ct54 oc55 kV55 dc55 pm55 cd55 ct55 oc56 kV56 dc56 pm56 cd56 ct56 oc57 kV57 dc57 pm57 cd57 ct57 oc58 kV58 dc58 pm58 cd58 ct58 oc59 kV59 dc59 pm59 cd59 ct59 oc60 kV60 dc60 pm60 cd60 ct60 oc61 kV61 dc61 pm61 cd61 ct61 oc62 kV62 dc62 pm62 cd62 ct62 oc63 kV63 dc63 pm63 cd63 ct63 oc64 kV64 dc64 pm64 ct64 : Value}
    (a1 : PySem.W.nsIn K mainGlobals "is_integral" = some (some (.ref f1)))
    (l1 : K.lookup f1 = some ⟨oc1, od1, .func (PySem.W.fnOf "is_integral" "is_integral" (defArgs s_is_integral) (defBody s_is_integral) (defScope s_is_integral) .none kV1 dc1 pm1 an1 cd1 ct1), sl1⟩) (c1 : PySem.W.codeIn K cd1 "is_integral" = true) (k1 : PySem.W.keepIn K (.ref f1) = true)
    (a2 : PySem.W.nsIn K mainGlobals "is_within" = some (some (.ref f2)))
    (l2 : K.lookup f2 = some ⟨oc2, od2, .func (PySem.W.fnOf "is_within" "is_within" (defArgs s_is_within) (defBody s_is_within) (defScope s_is_within) .none kV2 dc2 pm2 an2 cd2 ct2), sl2⟩) (c2 : PySem.W.codeIn K cd2 "is_within" = true) (k2 : PySem.W.keepIn K (.ref f2) = true)
    (a3 : PySem.W.nsIn K mainGlobals "other_side" = some (some (.ref f3)))
    (l3 : K.lookup f3 = some ⟨oc3, od3, .func (PySem.W.fnOf "other_side" "other_side" (defArgs s_other_side) (defBody s_other_side) (defScope s_other_side) .none kV3 dc3 pm3 an3 cd3 ct3), sl3⟩) (c3 : PySem.W.codeIn K cd3 "other_side" = true) (k3 : PySem.W.keepIn K (.ref f3) = true)
    (a4 : PySem.W.nsIn K mainGlobals "accepts" = some (some (.ref f4)))
    (l4 : K.lookup f4 = some ⟨oc4, od4, .func (PySem.W.fnOf "accepts" "accepts" (defArgs s_accepts) (defBody s_accepts) (defScope s_accepts) .none kV4 dc4 pm4 an4 cd4 ct4), sl4⟩) (c4 : PySem.W.codeIn K cd4 "accepts" = true) (k4 : PySem.W.keepIn K (.ref f4) = true)
    (a5 : PySem.W.nsIn K mainGlobals "check_house" = some (some (.ref f5)))
    (l5 : K.lookup f5 = some ⟨oc5, od5, .func (PySem.W.fnOf "check_house" "check_house" (defArgs s_check_house) (defBody s_check_house) (defScope s_check_house) .none kV5 dc5 pm5 an5 cd5 ct5), sl5⟩) (c5 : PySem.W.codeIn K cd5 "check_house" = true) (k5 : PySem.W.keepIn K (.ref f5) = true)
    (a6 : PySem.W.nsIn K mainGlobals "check_side" = some (some (.ref f6)))
    (l6 : K.lookup f6 = some ⟨oc6, od6, .func (PySem.W.fnOf "check_side" "check_side" (defArgs s_check_side) (defBody s_check_side) (defScope s_check_side) .none kV6 dc6 pm6 an6 cd6 ct6), sl6⟩) (c6 : PySem.W.codeIn K cd6 "check_side" = true) (k6 : PySem.W.keepIn K (.ref f6) = true)
    (a7 : PySem.W.nsIn K mainGlobals "check_number" = some (some (.ref f7)))
    (l7 : K.lookup f7 = some ⟨oc7, od7, .func (PySem.W.fnOf "check_number" "check_number" (defArgs s_check_number) (defBody s_check_number) (defScope s_check_number) .none kV7 dc7 pm7 an7 cd7 ct7), sl7⟩) (c7 : PySem.W.codeIn K cd7 "check_number" = true) (k7 : PySem.W.keepIn K (.ref f7) = true)
    (a8 : PySem.W.nsIn K mainGlobals "check_price" = some (some (.ref f8)))
    (l8 : K.lookup f8 = some ⟨oc8, od8, .func (PySem.W.fnOf "check_price" "check_price" (defArgs s_check_price) (defBody s_check_price) (defScope s_check_price) .none kV8 dc8 pm8 an8 cd8 ct8), sl8⟩) (c8 : PySem.W.codeIn K cd8 "check_price" = true) (k8 : PySem.W.keepIn K (.ref f8) = true)
    (a9 : PySem.W.nsIn K mainGlobals "check_quantity" = some (some (.ref f9)))
    (l9 : K.lookup f9 = some ⟨oc9, od9, .func (PySem.W.fnOf "check_quantity" "check_quantity" (defArgs s_check_quantity) (defBody s_check_quantity) (defScope s_check_quantity) .none kV9 dc9 pm9 an9 cd9 ct9), sl9⟩) (c9 : PySem.W.codeIn K cd9 "check_quantity" = true) (k9 : PySem.W.keepIn K (.ref f9) = true)
    (a10 : PySem.W.nsIn K mainGlobals "check_order" = some (some (.ref f10)))
    (l10 : K.lookup f10 = some ⟨oc10, od10, .func (PySem.W.fnOf "check_order" "check_order" (defArgs s_check_order) (defBody s_check_order) (defScope s_check_order) .none kV10 dc10 pm10 an10 cd10 ct10), sl10⟩) (c10 : PySem.W.codeIn K cd10 "check_order" = true) (k10 : PySem.W.keepIn K (.ref f10) = true)
    (a11 : PySem.W.nsIn K mainGlobals "check_stop" = some (some (.ref f11)))
    (l11 : K.lookup f11 = some ⟨oc11, od11, .func (PySem.W.fnOf "check_stop" "check_stop" (defArgs s_check_stop) (defBody s_check_stop) (defScope s_check_stop) .none kV11 dc11 pm11 an11 cd11 ct11), sl11⟩) (c11 : PySem.W.codeIn K cd11 "check_stop" = true) (k11 : PySem.W.keepIn K (.ref f11) = true)
    (a12 : PySem.W.findIn K (.ref c_Order) "__init__" = some (some (.ref f12))) (i12 : PySem.W.isFn K (.ref f12) = true)
    (l12 : K.lookup f12 = some ⟨oc12, od12, .func (PySem.W.fnOf "__init__" "Order.__init__" (defArgs s_Order_init) (defBody s_Order_init) (defScope s_Order_init) .none kV12 dc12 pm12 an12 cd12 ct12), sl12⟩) (c12 : PySem.W.codeIn K cd12 "Order.__init__" = true) (k12 : PySem.W.keepIn K (.ref f12) = true)
    (a13 : PySem.W.findIn K (.ref c_Order) "accepts_price" = some (some (.ref f13))) (i13 : PySem.W.isFn K (.ref f13) = true)
    (l13 : K.lookup f13 = some ⟨oc13, od13, .func (PySem.W.fnOf "accepts_price" "Order.accepts_price" (defArgs s_Order_accepts_price) (defBody s_Order_accepts_price) (defScope s_Order_accepts_price) .none kV13 dc13 pm13 an13 cd13 ct13), sl13⟩) (c13 : PySem.W.codeIn K cd13 "Order.accepts_price" = true) (k13 : PySem.W.keepIn K (.ref f13) = true)
    (a14 : PySem.W.findIn K (.ref c_Order) "show_next_part" = some (some (.ref f14))) (i14 : PySem.W.isFn K (.ref f14) = true)
    (l14 : K.lookup f14 = some ⟨oc14, od14, .func (PySem.W.fnOf "show_next_part" "Order.show_next_part" (defArgs s_Order_show_next_part) (defBody s_Order_show_next_part) (defScope s_Order_show_next_part) .none kV14 dc14 pm14 an14 cd14 ct14), sl14⟩) (c14 : PySem.W.codeIn K cd14 "Order.show_next_part" = true) (k14 : PySem.W.keepIn K (.ref f14) = true)
    (a15 : PySem.W.findIn K (.ref c_Order) "trade_visible" = some (some (.ref f15))) (i15 : PySem.W.isFn K (.ref f15) = true)
    (l15 : K.lookup f15 = some ⟨oc15, od15, .func (PySem.W.fnOf "trade_visible" "Order.trade_visible" (defArgs s_Order_trade_visible) (defBody s_Order_trade_visible) (defScope s_Order_trade_visible) .none kV15 dc15 pm15 an15 cd15 ct15), sl15⟩) (c15 : PySem.W.codeIn K cd15 "Order.trade_visible" = true) (k15 : PySem.W.keepIn K (.ref f15) = true)
    (a16 : PySem.W.findIn K (.ref c_Order) "reduce" = some (some (.ref f16))) (i16 : PySem.W.isFn K (.ref f16) = true)
    (l16 : K.lookup f16 = some ⟨oc16, od16, .func (PySem.W.fnOf "reduce" "Order.reduce" (defArgs s_Order_reduce) (defBody s_Order_reduce) (defScope s_Order_reduce) .none kV16 dc16 pm16 an16 cd16 ct16), sl16⟩) (c16 : PySem.W.codeIn K cd16 "Order.reduce" = true) (k16 : PySem.W.keepIn K (.ref f16) = true)
    (a17 : PySem.W.findIn K (.ref c_Stop) "__init__" = some (some (.ref f17))) (i17 : PySem.W.isFn K (.ref f17) = true)
    (l17 : K.lookup f17 = some ⟨oc17, od17, .func (PySem.W.fnOf "__init__" "Stop.__init__" (defArgs s_Stop_init) (defBody s_Stop_init) (defScope s_Stop_init) .none kV17 dc17 pm17 an17 cd17 ct17), sl17⟩) (c17 : PySem.W.codeIn K cd17 "Stop.__init__" = true) (k17 : PySem.W.keepIn K (.ref f17) = true)
    (a18 : PySem.W.findIn K (.ref c_Stop) "is_reached" = some (some (.ref f18))) (i18 : PySem.W.isFn K (.ref f18) = true)
    (l18 : K.lookup f18 = some ⟨oc18, od18, .func (PySem.W.fnOf "is_reached" "Stop.is_reached" (defArgs s_Stop_is_reached) (defBody s_Stop_is_reached) (defScope s_Stop_is_reached) .none kV18 dc18 pm18 an18 cd18 ct18), sl18⟩) (c18 : PySem.W.codeIn K cd18 "Stop.is_reached" = true) (k18 : PySem.W.keepIn K (.ref f18) = true)
    (a19 : PySem.W.findIn K (.ref c_Stop) "row" = some (some (.ref f19))) (i19 : PySem.W.isFn K (.ref f19) = true)
    (l19 : K.lookup f19 = some ⟨oc19, od19, .func (PySem.W.fnOf "row" "Stop.row" (defArgs s_Stop_row) (defBody s_Stop_row) (defScope s_Stop_row) .none kV19 dc19 pm19 an19 cd19 ct19), sl19⟩) (c19 : PySem.W.codeIn K cd19 "Stop.row" = true) (k19 : PySem.W.keepIn K (.ref f19) = true)
    (a20 : PySem.W.findIn K (.ref c_BookSide) "__init__" = some (some (.ref f20))) (i20 : PySem.W.isFn K (.ref f20) = true)
    (l20 : K.lookup f20 = some ⟨oc20, od20, .func (PySem.W.fnOf "__init__" "BookSide.__init__" (defArgs s_BookSide_init) (defBody s_BookSide_init) (defScope s_BookSide_init) .none kV20 dc20 pm20 an20 cd20 ct20), sl20⟩) (c20 : PySem.W.codeIn K cd20 "BookSide.__init__" = true) (k20 : PySem.W.keepIn K (.ref f20) = true)
    (a21 : PySem.W.findIn K (.ref c_BookSide) "rows" = some (some (.ref f21))) (i21 : PySem.W.isFn K (.ref f21) = true)
    (l21 : K.lookup f21 = some ⟨oc21, od21, .func (PySem.W.fnOf "rows" "BookSide.rows" (defArgs s_BookSide_rows) (defBody s_BookSide_rows) (defScope s_BookSide_rows) .none kV21 dc21 pm21 an21 cd21 ct21), sl21⟩) (c21 : PySem.W.codeIn K cd21 "BookSide.rows" = true) (k21 : PySem.W.keepIn K (.ref f21) = true)
    (a22 : PySem.W.findIn K (.ref c_BookSide) "first" = some (some (.ref f22))) (i22 : PySem.W.isFn K (.ref f22) = true)
    (l22 : K.lookup f22 = some ⟨oc22, od22, .func (PySem.W.fnOf "first" "BookSide.first" (defArgs s_BookSide_first) (defBody s_BookSide_first) (defScope s_BookSide_first) .none kV22 dc22 pm22 an22 cd22 ct22), sl22⟩) (c22 : PySem.W.codeIn K cd22 "BookSide.first" = true) (k22 : PySem.W.keepIn K (.ref f22) = true)
    (a23 : PySem.W.findIn K (.ref c_BookSide) "with_number" = some (some (.ref f23))) (i23 : PySem.W.isFn K (.ref f23) = true)
    (l23 : K.lookup f23 = some ⟨oc23, od23, .func (PySem.W.fnOf "with_number" "BookSide.with_number" (defArgs s_BookSide_with_number) (defBody s_BookSide_with_number) (defScope s_BookSide_with_number) .none kV23 dc23 pm23 an23 cd23 ct23), sl23⟩) (c23 : PySem.W.codeIn K cd23 "BookSide.with_number" = true) (k23 : PySem.W.keepIn K (.ref f23) = true)
    (a24 : PySem.W.findIn K (.ref c_BookSide) "available" = some (some (.ref f24))) (i24 : PySem.W.isFn K (.ref f24) = true)
    (l24 : K.lookup f24 = some ⟨oc24, od24, .func (PySem.W.fnOf "available" "BookSide.available" (defArgs s_BookSide_available) (defBody s_BookSide_available) (defScope s_BookSide_available) .none kV24 dc24 pm24 an24 cd24 ct24), sl24⟩) (c24 : PySem.W.codeIn K cd24 "BookSide.available" = true) (k24 : PySem.W.keepIn K (.ref f24) = true)
    (a25 : PySem.W.findIn K (.ref c_BookSide) "enter" = some (some (.ref f25))) (i25 : PySem.W.isFn K (.ref f25) = true)
    (l25 : K.lookup f25 = some ⟨oc25, od25, .func (PySem.W.fnOf "enter" "BookSide.enter" (defArgs s_BookSide_enter) (defBody s_BookSide_enter) (defScope s_BookSide_enter) .none kV25 dc25 pm25 an25 cd25 ct25), sl25⟩) (c25 : PySem.W.codeIn K cd25 "BookSide.enter" = true) (k25 : PySem.W.keepIn K (.ref f25) = true)
    (a26 : PySem.W.findIn K (.ref c_BookSide) "_place_behind" = some (some (.ref f26))) (i26 : PySem.W.isFn K (.ref f26) = true)
    (l26 : K.lookup f26 = some ⟨oc26, od26, .func (PySem.W.fnOf "_place_behind" "BookSide._place_behind" (defArgs s_BookSideplace_behind) (defBody s_BookSideplace_behind) (defScope s_BookSideplace_behind) .none kV26 dc26 pm26 an26 cd26 ct26), sl26⟩) (c26 : PySem.W.codeIn K cd26 "BookSide._place_behind" = true) (k26 : PySem.W.keepIn K (.ref f26) = true)
    (a27 : PySem.W.findIn K (.ref c_BookSide) "leave" = some (some (.ref f27))) (i27 : PySem.W.isFn K (.ref f27) = true)
    (l27 : K.lookup f27 = some ⟨oc27, od27, .func (PySem.W.fnOf "leave" "BookSide.leave" (defArgs s_BookSide_leave) (defBody s_BookSide_leave) (defScope s_BookSide_leave) .none kV27 dc27 pm27 an27 cd27 ct27), sl27⟩) (c27 : PySem.W.codeIn K cd27 "BookSide.leave" = true) (k27 : PySem.W.keepIn K (.ref f27) = true)
    (a28 : PySem.W.findIn K (.ref c_BookSide) "trade_first" = some (some (.ref f28))) (i28 : PySem.W.isFn K (.ref f28) = true)
    (l28 : K.lookup f28 = some ⟨oc28, od28, .func (PySem.W.fnOf "trade_first" "BookSide.trade_first" (defArgs s_BookSide_trade_first) (defBody s_BookSide_trade_first) (defScope s_BookSide_trade_first) .none kV28 dc28 pm28 an28 cd28 ct28), sl28⟩) (c28 : PySem.W.codeIn K cd28 "BookSide.trade_first" = true) (k28 : PySem.W.keepIn K (.ref f28) = true)
    (a29 : PySem.W.findIn K (.ref c_Report) "__init__" = some (some (.ref f29))) (i29 : PySem.W.isFn K (.ref f29) = true)
    (l29 : K.lookup f29 = some ⟨oc29, od29, .func (PySem.W.fnOf "__init__" "Report.__init__" (defArgs s_Report_init) (defBody s_Report_init) (defScope s_Report_init) .none kV29 dc29 pm29 an29 cd29 ct29), sl29⟩) (c29 : PySem.W.codeIn K cd29 "Report.__init__" = true) (k29 : PySem.W.keepIn K (.ref f29) = true)
    (a30 : PySem.W.findIn K (.ref c_Book) "__init__" = some (some (.ref f30))) (i30 : PySem.W.isFn K (.ref f30) = true)
    {T30 : Addr} {ocT30 : Value} {odT30 : Option Addr} {slT30 : Array (Option Value)} {nT30 : Nat} {tT30_0 : Tok}
    (l30 : K.lookup f30 = some ⟨oc30, od30, .func (PySem.W.fnOf "__init__" "Book.__init__" (defArgs s_Book_init) (defBody s_Book_init) (defScope s_Book_init) (.ref T30) kV30 dc30 pm30 an30 cd30 ct30), sl30⟩)
    (lT30 : K.lookup T30 = some ⟨ocT30, odT30, .seq #[.int 1 tT30_0] nT30, slT30⟩)
    (c30 : PySem.W.codeIn K cd30 "Book.__init__" = true) (k30 : PySem.W.keepIn K (.ref f30) = true)
    (a31 : PySem.W.findIn K (.ref c_Book) "submit" = some (some (.ref f31))) (i31 : PySem.W.isFn K (.ref f31) = true)
    {KD31 : Addr} {tK31_0 tK31_1 : Tok}
    (l31 : K.lookup f31 = some ⟨oc31, od31, .func (PySem.W.fnOf "submit" "Book.submit" (defArgs s_Book_submit) (defBody s_Book_submit) (defScope s_Book_submit) .none (.ref KD31) dc31 pm31 an31 cd31 ct31), sl31⟩) (c31 : PySem.W.codeIn K cd31 "Book.submit" = true) (k31 : PySem.W.keepIn K (.ref f31) = true)
    (kd31_0 : PySem.W.nsIn K KD31 "kind" = some (some (.str "rest" tK31_0)))
    (kd31_1 : PySem.W.nsIn K KD31 "shown" = some (some (.int 0 tK31_1)))
    (a32 : PySem.W.findIn K (.ref c_Book) "submit_stop" = some (some (.ref f32))) (i32 : PySem.W.isFn K (.ref f32) = true)
    (l32 : K.lookup f32 = some ⟨oc32, od32, .func (PySem.W.fnOf "submit_stop" "Book.submit_stop" (defArgs s_Book_submit_stop) (defBody s_Book_submit_stop) (defScope s_Book_submit_stop) .none kV32 dc32 pm32 an32 cd32 ct32), sl32⟩) (c32 : PySem.W.codeIn K cd32 "Book.submit_stop" = true) (k32 : PySem.W.keepIn K (.ref f32) = true)
    (a33 : PySem.W.findIn K (.ref c_Book) "place" = some (some (.ref f33))) (i33 : PySem.W.isFn K (.ref f33) = true)
    (l33 : K.lookup f33 = some ⟨oc33, od33, .func (PySem.W.fnOf "place" "Book.place" (defArgs s_Book_place) (defBody s_Book_place) (defScope s_Book_place) .none kV33 dc33 pm33 an33 cd33 ct33), sl33⟩) (c33 : PySem.W.codeIn K cd33 "Book.place" = true) (k33 : PySem.W.keepIn K (.ref f33) = true)
    (a34 : PySem.W.findIn K (.ref c_Book) "cancel" = some (some (.ref f34))) (i34 : PySem.W.isFn K (.ref f34) = true)
    (l34 : K.lookup f34 = some ⟨oc34, od34, .func (PySem.W.fnOf "cancel" "Book.cancel" (defArgs s_Book_cancel) (defBody s_Book_cancel) (defScope s_Book_cancel) .none kV34 dc34 pm34 an34 cd34 ct34), sl34⟩) (c34 : PySem.W.codeIn K cd34 "Book.cancel" = true) (k34 : PySem.W.keepIn K (.ref f34) = true)
    (a35 : PySem.W.findIn K (.ref c_Book) "amend" = some (some (.ref f35))) (i35 : PySem.W.isFn K (.ref f35) = true)
    (l35 : K.lookup f35 = some ⟨oc35, od35, .func (PySem.W.fnOf "amend" "Book.amend" (defArgs s_Book_amend) (defBody s_Book_amend) (defScope s_Book_amend) .none kV35 dc35 pm35 an35 cd35 ct35), sl35⟩) (c35 : PySem.W.codeIn K cd35 "Book.amend" = true) (k35 : PySem.W.keepIn K (.ref f35) = true)
    (a36 : PySem.W.findIn K (.ref c_Book) "orders" = some (some (.ref f36))) (i36 : PySem.W.isFn K (.ref f36) = true)
    (l36 : K.lookup f36 = some ⟨oc36, od36, .func (PySem.W.fnOf "orders" "Book.orders" (defArgs s_Book_orders) (defBody s_Book_orders) (defScope s_Book_orders) .none kV36 dc36 pm36 an36 cd36 ct36), sl36⟩) (c36 : PySem.W.codeIn K cd36 "Book.orders" = true) (k36 : PySem.W.keepIn K (.ref f36) = true)
    (a37 : PySem.W.findIn K (.ref c_Book) "stops" = some (some (.ref f37))) (i37 : PySem.W.isFn K (.ref f37) = true)
    (l37 : K.lookup f37 = some ⟨oc37, od37, .func (PySem.W.fnOf "stops" "Book.stops" (defArgs s_Book_stops) (defBody s_Book_stops) (defScope s_Book_stops) .none kV37 dc37 pm37 an37 cd37 ct37), sl37⟩) (c37 : PySem.W.codeIn K cd37 "Book.stops" = true) (k37 : PySem.W.keepIn K (.ref f37) = true)
    (a38 : PySem.W.findIn K (.ref c_Book) "best" = some (some (.ref f38))) (i38 : PySem.W.isFn K (.ref f38) = true)
    (l38 : K.lookup f38 = some ⟨oc38, od38, .func (PySem.W.fnOf "best" "Book.best" (defArgs s_Book_best) (defBody s_Book_best) (defScope s_Book_best) .none kV38 dc38 pm38 an38 cd38 ct38), sl38⟩) (c38 : PySem.W.codeIn K cd38 "Book.best" = true) (k38 : PySem.W.keepIn K (.ref f38) = true)
    (a39 : PySem.W.findIn K (.ref c_Book) "_take_number" = some (some (.ref f39))) (i39 : PySem.W.isFn K (.ref f39) = true)
    (l39 : K.lookup f39 = some ⟨oc39, od39, .func (PySem.W.fnOf "_take_number" "Book._take_number" (defArgs s_Booktake_number) (defBody s_Booktake_number) (defScope s_Booktake_number) .none kV39 dc39 pm39 an39 cd39 ct39), sl39⟩) (c39 : PySem.W.codeIn K cd39 "Book._take_number" = true) (k39 : PySem.W.keepIn K (.ref f39) = true)
    (a40 : PySem.W.findIn K (.ref c_Book) "_enter" = some (some (.ref f40))) (i40 : PySem.W.isFn K (.ref f40) = true)
    (l40 : K.lookup f40 = some ⟨oc40, od40, .func (PySem.W.fnOf "_enter" "Book._enter" (defArgs s_Bookenter) (defBody s_Bookenter) (defScope s_Bookenter) .none kV40 dc40 pm40 an40 cd40 ct40), sl40⟩) (c40 : PySem.W.codeIn K cd40 "Book._enter" = true) (k40 : PySem.W.keepIn K (.ref f40) = true)
    (a41 : PySem.W.findIn K (.ref c_Book) "_reduce" = some (some (.ref f41))) (i41 : PySem.W.isFn K (.ref f41) = true)
    (l41 : K.lookup f41 = some ⟨oc41, od41, .func (PySem.W.fnOf "_reduce" "Book._reduce" (defArgs s_Bookreduce) (defBody s_Bookreduce) (defScope s_Bookreduce) .none kV41 dc41 pm41 an41 cd41 ct41), sl41⟩) (c41 : PySem.W.codeIn K cd41 "Book._reduce" = true) (k41 : PySem.W.keepIn K (.ref f41) = true)
    (a42 : PySem.W.findIn K (.ref c_Book) "_enter_again" = some (some (.ref f42))) (i42 : PySem.W.isFn K (.ref f42) = true)
    (l42 : K.lookup f42 = some ⟨oc42, od42, .func (PySem.W.fnOf "_enter_again" "Book._enter_again" (defArgs s_Bookenter_again) (defBody s_Bookenter_again) (defScope s_Bookenter_again) .none kV42 dc42 pm42 an42 cd42 ct42), sl42⟩) (c42 : PySem.W.codeIn K cd42 "Book._enter_again" = true) (k42 : PySem.W.keepIn K (.ref f42) = true)
    (a43 : PySem.W.findIn K (.ref c_Book) "_order_of" = some (some (.ref f43))) (i43 : PySem.W.isFn K (.ref f43) = true)
    (l43 : K.lookup f43 = some ⟨oc43, od43, .func (PySem.W.fnOf "_order_of" "Book._order_of" (defArgs s_Bookorder_of) (defBody s_Bookorder_of) (defScope s_Bookorder_of) .none kV43 dc43 pm43 an43 cd43 ct43), sl43⟩) (c43 : PySem.W.codeIn K cd43 "Book._order_of" = true) (k43 : PySem.W.keepIn K (.ref f43) = true)
    (a44 : PySem.W.findIn K (.ref c_Book) "_order_with" = some (some (.ref f44))) (i44 : PySem.W.isFn K (.ref f44) = true)
    (l44 : K.lookup f44 = some ⟨oc44, od44, .func (PySem.W.fnOf "_order_with" "Book._order_with" (defArgs s_Bookorder_with) (defBody s_Bookorder_with) (defScope s_Bookorder_with) .none kV44 dc44 pm44 an44 cd44 ct44), sl44⟩) (c44 : PySem.W.codeIn K cd44 "Book._order_with" = true) (k44 : PySem.W.keepIn K (.ref f44) = true)
    (a45 : PySem.W.findIn K (.ref c_Book) "_stop_with" = some (some (.ref f45))) (i45 : PySem.W.isFn K (.ref f45) = true)
    (l45 : K.lookup f45 = some ⟨oc45, od45, .func (PySem.W.fnOf "_stop_with" "Book._stop_with" (defArgs s_Bookstop_with) (defBody s_Bookstop_with) (defScope s_Bookstop_with) .none kV45 dc45 pm45 an45 cd45 ct45), sl45⟩) (c45 : PySem.W.codeIn K cd45 "Book._stop_with" = true) (k45 : PySem.W.keepIn K (.ref f45) = true)
    (a46 : PySem.W.findIn K (.ref c_Book) "_trigger_stops" = some (some (.ref f46))) (i46 : PySem.W.isFn K (.ref f46) = true)
    (l46 : K.lookup f46 = some ⟨oc46, od46, .func (PySem.W.fnOf "_trigger_stops" "Book._trigger_stops" (defArgs s_Booktrigger_stops) (defBody s_Booktrigger_stops) (defScope s_Booktrigger_stops) .none kV46 dc46 pm46 an46 cd46 ct46), sl46⟩) (c46 : PySem.W.codeIn K cd46 "Book._trigger_stops" = true) (k46 : PySem.W.keepIn K (.ref f46) = true)
    (a47 : PySem.W.findIn K (.ref c_Book) "_first_reached" = some (some (.ref f47))) (i47 : PySem.W.isFn K (.ref f47) = true)
    (l47 : K.lookup f47 = some ⟨oc47, od47, .func (PySem.W.fnOf "_first_reached" "Book._first_reached" (defArgs s_Bookfirst_reached) (defBody s_Bookfirst_reached) (defScope s_Bookfirst_reached) .none kV47 dc47 pm47 an47 cd47 ct47), sl47⟩) (c47 : PySem.W.codeIn K cd47 "Book._first_reached" = true) (k47 : PySem.W.keepIn K (.ref f47) = true)
    (a48 : PySem.W.nsIn K mainGlobals "_law_house" = some (some (.ref f48)))
    (l48 : K.lookup f48 = some ⟨oc48, od48, .func (PySem.W.fnOf "_law_house" "_law_house" (defArgs s_law_house) (defBody s_law_house) (defScope s_law_house) .none kV48 dc48 pm48 an48 cd48 ct48), sl48⟩) (c48 : PySem.W.codeIn K cd48 "_law_house" = true) (k48 : PySem.W.keepIn K (.ref f48) = true)
    (a49 : PySem.W.nsIn K mainGlobals "_law_resting_side" = some (some (.ref f49)))
    (l49 : K.lookup f49 = some ⟨oc49, od49, .func (PySem.W.fnOf "_law_resting_side" "_law_resting_side" (defArgs s_law_resting_side) (defBody s_law_resting_side) (defScope s_law_resting_side) .none kV49 dc49 pm49 an49 cd49 ct49), sl49⟩) (c49 : PySem.W.codeIn K cd49 "_law_resting_side" = true) (k49 : PySem.W.keepIn K (.ref f49) = true)
    (a50 : PySem.W.nsIn K mainGlobals "_law_fits" = some (some (.ref f50)))
    (l50 : K.lookup f50 = some ⟨oc50, od50, .func (PySem.W.fnOf "_law_fits" "_law_fits" (defArgs s_law_fits) (defBody s_law_fits) (defScope s_law_fits) .none kV50 dc50 pm50 an50 cd50 ct50), sl50⟩) (c50 : PySem.W.codeIn K cd50 "_law_fits" = true) (k50 : PySem.W.keepIn K (.ref f50) = true)
    (a51 : PySem.W.nsIn K mainGlobals "_law_first" = some (some (.ref f51)))
    (l51 : K.lookup f51 = some ⟨oc51, od51, .func (PySem.W.fnOf "_law_first" "_law_first" (defArgs s_law_first) (defBody s_law_first) (defScope s_law_first) .none kV51 dc51 pm51 an51 cd51 ct51), sl51⟩) (c51 : PySem.W.codeIn K cd51 "_law_first" = true) (k51 : PySem.W.keepIn K (.ref f51) = true)
    (a52 : PySem.W.nsIn K mainGlobals "_law_visible" = some (some (.ref f52)))
    (l52 : K.lookup f52 = some ⟨oc52, od52, .func (PySem.W.fnOf "_law_visible" "_law_visible" (defArgs s_law_visible) (defBody s_law_visible) (defScope s_law_visible) .none kV52 dc52 pm52 an52 cd52 ct52), sl52⟩) (c52 : PySem.W.codeIn K cd52 "_law_visible" = true) (k52 : PySem.W.keepIn K (.ref f52) = true)
    (a53 : PySem.W.nsIn K mainGlobals "_law_trade" = some (some (.ref f53)))
    (l53 : K.lookup f53 = some ⟨oc53, od53, .func (PySem.W.fnOf "_law_trade" "_law_trade" (defArgs s_law_trade) (defBody s_law_trade) (defScope s_law_trade) .none kV53 dc53 pm53 an53 cd53 ct53), sl53⟩) (c53 : PySem.W.codeIn K cd53 "_law_trade" = true) (k53 : PySem.W.keepIn K (.ref f53) = true)
    (a54 : PySem.W.nsIn K mainGlobals "_law_available" = some (some (.ref f54)))
    (l54 : K.lookup f54 = some ⟨oc54, od54, .func (PySem.W.fnOf "_law_available" "_law_available" (defArgs s_law_available) (defBody s_law_available) (defScope s_law_available) .none kV54 dc54 pm54 an54 cd54 ct54), sl54⟩) (c54 : PySem.W.codeIn K cd54 "_law_available" = true) (k54 : PySem.W.keepIn K (.ref f54) = true)
    (a55 : PySem.W.nsIn K mainGlobals "_law_enter" = some (some (.ref f55)))
    (l55 : K.lookup f55 = some ⟨oc55, od55, .func (PySem.W.fnOf "_law_enter" "_law_enter" (defArgs s_law_enter) (defBody s_law_enter) (defScope s_law_enter) .none kV55 dc55 pm55 an55 cd55 ct55), sl55⟩) (c55 : PySem.W.codeIn K cd55 "_law_enter" = true) (k55 : PySem.W.keepIn K (.ref f55) = true)
    (a56 : PySem.W.nsIn K mainGlobals "_law_listed" = some (some (.ref f56)))
    (l56 : K.lookup f56 = some ⟨oc56, od56, .func (PySem.W.fnOf "_law_listed" "_law_listed" (defArgs s_law_listed) (defBody s_law_listed) (defScope s_law_listed) .none kV56 dc56 pm56 an56 cd56 ct56), sl56⟩) (c56 : PySem.W.codeIn K cd56 "_law_listed" = true) (k56 : PySem.W.keepIn K (.ref f56) = true)
    (a57 : PySem.W.nsIn K mainGlobals "_law_reached" = some (some (.ref f57)))
    (l57 : K.lookup f57 = some ⟨oc57, od57, .func (PySem.W.fnOf "_law_reached" "_law_reached" (defArgs s_law_reached) (defBody s_law_reached) (defScope s_law_reached) .none kV57 dc57 pm57 an57 cd57 ct57), sl57⟩) (c57 : PySem.W.codeIn K cd57 "_law_reached" = true) (k57 : PySem.W.keepIn K (.ref f57) = true)
    (a58 : PySem.W.nsIn K mainGlobals "_law_last" = some (some (.ref f58)))
    (l58 : K.lookup f58 = some ⟨oc58, od58, .func (PySem.W.fnOf "_law_last" "_law_last" (defArgs s_law_last) (defBody s_law_last) (defScope s_law_last) .none kV58 dc58 pm58 an58 cd58 ct58), sl58⟩) (c58 : PySem.W.codeIn K cd58 "_law_last" = true) (k58 : PySem.W.keepIn K (.ref f58) = true)
    (a59 : PySem.W.nsIn K mainGlobals "_law_triggered" = some (some (.ref f59)))
    (l59 : K.lookup f59 = some ⟨oc59, od59, .func (PySem.W.fnOf "_law_triggered" "_law_triggered" (defArgs s_law_triggered) (defBody s_law_triggered) (defScope s_law_triggered) .none kV59 dc59 pm59 an59 cd59 ct59), sl59⟩) (c59 : PySem.W.codeIn K cd59 "_law_triggered" = true) (k59 : PySem.W.keepIn K (.ref f59) = true)
    (a60 : PySem.W.nsIn K mainGlobals "_law_told" = some (some (.ref f60)))
    (l60 : K.lookup f60 = some ⟨oc60, od60, .func (PySem.W.fnOf "_law_told" "_law_told" (defArgs s_law_told) (defBody s_law_told) (defScope s_law_told) .none kV60 dc60 pm60 an60 cd60 ct60), sl60⟩) (c60 : PySem.W.codeIn K cd60 "_law_told" = true) (k60 : PySem.W.keepIn K (.ref f60) = true)
    (a61 : PySem.W.nsIn K mainGlobals "_law_submit" = some (some (.ref f61)))
    (l61 : K.lookup f61 = some ⟨oc61, od61, .func (PySem.W.fnOf "_law_submit" "_law_submit" (defArgs s_law_submit) (defBody s_law_submit) (defScope s_law_submit) .none kV61 dc61 pm61 an61 cd61 ct61), sl61⟩) (c61 : PySem.W.codeIn K cd61 "_law_submit" = true) (k61 : PySem.W.keepIn K (.ref f61) = true)
    (a62 : PySem.W.nsIn K mainGlobals "_law_cancel" = some (some (.ref f62)))
    (l62 : K.lookup f62 = some ⟨oc62, od62, .func (PySem.W.fnOf "_law_cancel" "_law_cancel" (defArgs s_law_cancel) (defBody s_law_cancel) (defScope s_law_cancel) .none kV62 dc62 pm62 an62 cd62 ct62), sl62⟩) (c62 : PySem.W.codeIn K cd62 "_law_cancel" = true) (k62 : PySem.W.keepIn K (.ref f62) = true)
    (a63 : PySem.W.nsIn K mainGlobals "_law_amend" = some (some (.ref f63)))
    (l63 : K.lookup f63 = some ⟨oc63, od63, .func (PySem.W.fnOf "_law_amend" "_law_amend" (defArgs s_law_amend) (defBody s_law_amend) (defScope s_law_amend) .none kV63 dc63 pm63 an63 cd63 ct63), sl63⟩) (c63 : PySem.W.codeIn K cd63 "_law_amend" = true) (k63 : PySem.W.keepIn K (.ref f63) = true)
    (a64 : PySem.W.nsIn K mainGlobals "law" = some (some (.ref f64)))
    (l64 : K.lookup f64 = some ⟨oc64, od64, .func (PySem.W.fnOf "law" "law" (defArgs s_law) (defBody s_law) (defScope s_law) .none kV64 dc64 pm64 an64 (.ref cq64) ct64), sl64⟩) (c64 : PySem.W.codeIn K (.ref cq64) "law" = true) (k64 : PySem.W.keepIn K (.ref f64) = true)
    (z_bool : PySem.W.nsIn K mainGlobals "bool" = some none)
    (z_int : PySem.W.nsIn K mainGlobals "int" = some none)
    (z_isinstance : PySem.W.nsIn K mainGlobals "isinstance" = some none)
    (z_len : PySem.W.nsIn K mainGlobals "len" = some none)
    (z_max : PySem.W.nsIn K mainGlobals "max" = some none)
    (z_min : PySem.W.nsIn K mainGlobals "min" = some none)
    (z_range : PySem.W.nsIn K mainGlobals "range" = some none)
    (z_sorted : PySem.W.nsIn K mainGlobals "sorted" = some none)
    (z_sum : PySem.W.nsIn K mainGlobals "sum" = some none)
    {t_MOST : Tok}
    (v_MOST : PySem.W.nsIn K mainGlobals "MOST" = some (some (.int 1000000 t_MOST)))
    {ac_SIDES : Addr} {oc_SIDES : Option Addr} {sc'_SIDES : Array (Option Value)} {nc_SIDES : Nat} {tc_SIDES_0 tc_SIDES_1 : Tok}
    (v_SIDES : PySem.W.nsIn K mainGlobals "SIDES" = some (some (.ref ac_SIDES))) (lc_SIDES : K.lookup ac_SIDES = some ⟨.type "tuple", oc_SIDES, .seq #[.str "buy" tc_SIDES_0, .str "sell" tc_SIDES_1] nc_SIDES, sc'_SIDES⟩)
    {ac_KINDS : Addr} {oc_KINDS : Option Addr} {sc'_KINDS : Array (Option Value)} {nc_KINDS : Nat} {tc_KINDS_0 tc_KINDS_1 tc_KINDS_2 : Tok}
    (v_KINDS : PySem.W.nsIn K mainGlobals "KINDS" = some (some (.ref ac_KINDS))) (lc_KINDS : K.lookup ac_KINDS = some ⟨.type "tuple", oc_KINDS, .seq #[.str "rest" tc_KINDS_0, .str "now" tc_KINDS_1, .str "all" tc_KINDS_2] nc_KINDS, sc'_KINDS⟩)
    (g_BourseError : PySem.W.nsIn K mainGlobals "BourseError" = some (some (.ref c_BourseError)))
    (g_InvalidOrder : PySem.W.nsIn K mainGlobals "InvalidOrder" = some (some (.ref c_InvalidOrder)))
    (x_InvalidOrder : PySem.W.excIn K c_InvalidOrder [.type "ValueError", .type "Exception", .type "BaseException", .type "object"] "ValueError.__new__" = true)
    (k_InvalidOrder : PySem.W.keepIn K (.ref c_InvalidOrder) = true)
    (b_InvalidOrder : PySem.W.subIn K (.ref c_InvalidOrder) (.type "BaseException") = some true)
    (t_InvalidOrder : PySem.W.typeIn K (.ref c_InvalidOrder) = some (.type "type"))
    (d_InvalidOrder : PySem.W.hasDictIn K c_InvalidOrder = true)
    (s_InvalidOrder : PySem.W.subIn K (.ref c_InvalidOrder) (.ref c_InvalidOrder) = some true)
    (g_UnknownOrder : PySem.W.nsIn K mainGlobals "UnknownOrder" = some (some (.ref c_UnknownOrder)))
    (x_UnknownOrder : PySem.W.excIn K c_UnknownOrder [.type "ValueError", .type "Exception", .type "BaseException", .type "object"] "ValueError.__new__" = true)
    (k_UnknownOrder : PySem.W.keepIn K (.ref c_UnknownOrder) = true)
    (b_UnknownOrder : PySem.W.subIn K (.ref c_UnknownOrder) (.type "BaseException") = some true)
    (t_UnknownOrder : PySem.W.typeIn K (.ref c_UnknownOrder) = some (.type "type"))
    (d_UnknownOrder : PySem.W.hasDictIn K c_UnknownOrder = true)
    (s_UnknownOrder : PySem.W.subIn K (.ref c_UnknownOrder) (.ref c_UnknownOrder) = some true)
    (g_NotOwner : PySem.W.nsIn K mainGlobals "NotOwner" = some (some (.ref c_NotOwner)))
    (x_NotOwner : PySem.W.excIn K c_NotOwner [.type "ValueError", .type "Exception", .type "BaseException", .type "object"] "ValueError.__new__" = true)
    (k_NotOwner : PySem.W.keepIn K (.ref c_NotOwner) = true)
    (b_NotOwner : PySem.W.subIn K (.ref c_NotOwner) (.type "BaseException") = some true)
    (t_NotOwner : PySem.W.typeIn K (.ref c_NotOwner) = some (.type "type"))
    (d_NotOwner : PySem.W.hasDictIn K c_NotOwner = true)
    (s_NotOwner : PySem.W.subIn K (.ref c_NotOwner) (.ref c_NotOwner) = some true)
    (g_Order : PySem.W.nsIn K mainGlobals "Order" = some (some (.ref c_Order)))
    (pg_Order : PySem.W.plainGet K c_Order Str.empty = true)
    (hd_Order : PySem.W.hasDictIn K c_Order = true)
    (po_Order : PySem.W.plainOver K c_Order = true)
    (sa_Order : PySem.W.findIn K (.ref c_Order) "__setattr__" = some (some (.builtin "object.__setattr__")))
    (ma_Order : PySem.W.makesIn K c_Order = true)
    (kc_Order : PySem.W.keepIn K (.ref c_Order) = true)
    (eq_Order : PySem.W.findIn K (.ref c_Order) "__eq__" = some (some (.builtin "object.__eq__")))
    (mo_Order : PySem.W.mroIn K c_Order (.type "object") = some true)
    (na_Order_number : PySem.W.findIn K (.ref c_Order) "number" = some none)
    (na_Order_house : PySem.W.findIn K (.ref c_Order) "house" = some none)
    (na_Order_side : PySem.W.findIn K (.ref c_Order) "side" = some none)
    (na_Order_price : PySem.W.findIn K (.ref c_Order) "price" = some none)
    (na_Order_shown : PySem.W.findIn K (.ref c_Order) "shown" = some none)
    (na_Order_left : PySem.W.findIn K (.ref c_Order) "left" = some none)
    (na_Order_visible : PySem.W.findIn K (.ref c_Order) "visible" = some none)
    (g_Stop : PySem.W.nsIn K mainGlobals "Stop" = some (some (.ref c_Stop)))
    (pg_Stop : PySem.W.plainGet K c_Stop Str.empty = true)
    (hd_Stop : PySem.W.hasDictIn K c_Stop = true)
    (po_Stop : PySem.W.plainOver K c_Stop = true)
    (sa_Stop : PySem.W.findIn K (.ref c_Stop) "__setattr__" = some (some (.builtin "object.__setattr__")))
    (ma_Stop : PySem.W.makesIn K c_Stop = true)
    (kc_Stop : PySem.W.keepIn K (.ref c_Stop) = true)
    (eq_Stop : PySem.W.findIn K (.ref c_Stop) "__eq__" = some (some (.builtin "object.__eq__")))
    (mo_Stop : PySem.W.mroIn K c_Stop (.type "object") = some true)
    (na_Stop_number : PySem.W.findIn K (.ref c_Stop) "number" = some none)
    (na_Stop_house : PySem.W.findIn K (.ref c_Stop) "house" = some none)
    (na_Stop_side : PySem.W.findIn K (.ref c_Stop) "side" = some none)
    (na_Stop_trigger : PySem.W.findIn K (.ref c_Stop) "trigger" = some none)
    (na_Stop_price : PySem.W.findIn K (.ref c_Stop) "price" = some none)
    (na_Stop_quantity : PySem.W.findIn K (.ref c_Stop) "quantity" = some none)
    (g_BookSide : PySem.W.nsIn K mainGlobals "BookSide" = some (some (.ref c_BookSide)))
    (pg_BookSide : PySem.W.plainGet K c_BookSide Str.empty = true)
    (hd_BookSide : PySem.W.hasDictIn K c_BookSide = true)
    (po_BookSide : PySem.W.plainOver K c_BookSide = true)
    (sa_BookSide : PySem.W.findIn K (.ref c_BookSide) "__setattr__" = some (some (.builtin "object.__setattr__")))
    (ma_BookSide : PySem.W.makesIn K c_BookSide = true)
    (kc_BookSide : PySem.W.keepIn K (.ref c_BookSide) = true)
    (na_BookSide__orders : PySem.W.findIn K (.ref c_BookSide) "_orders" = some none)
    (g_Report : PySem.W.nsIn K mainGlobals "Report" = some (some (.ref c_Report)))
    (pg_Report : PySem.W.plainGet K c_Report Str.empty = true)
    (hd_Report : PySem.W.hasDictIn K c_Report = true)
    (po_Report : PySem.W.plainOver K c_Report = true)
    (sa_Report : PySem.W.findIn K (.ref c_Report) "__setattr__" = some (some (.builtin "object.__setattr__")))
    (ma_Report : PySem.W.makesIn K c_Report = true)
    (kc_Report : PySem.W.keepIn K (.ref c_Report) = true)
    (na_Report_number : PySem.W.findIn K (.ref c_Report) "number" = some none)
    (na_Report_house : PySem.W.findIn K (.ref c_Report) "house" = some none)
    (na_Report_side : PySem.W.findIn K (.ref c_Report) "side" = some none)
    (na_Report_fills : PySem.W.findIn K (.ref c_Report) "fills" = some none)
    (na_Report_removed : PySem.W.findIn K (.ref c_Report) "removed" = some none)
    (na_Report_resting : PySem.W.findIn K (.ref c_Report) "resting" = some none)
    (g_Book : PySem.W.nsIn K mainGlobals "Book" = some (some (.ref c_Book)))
    (pg_Book : PySem.W.plainGet K c_Book Str.empty = true)
    (hd_Book : PySem.W.hasDictIn K c_Book = true)
    (po_Book : PySem.W.plainOver K c_Book = true)
    (sa_Book : PySem.W.findIn K (.ref c_Book) "__setattr__" = some (some (.builtin "object.__setattr__")))
    (ma_Book : PySem.W.makesIn K c_Book = true)
    (kc_Book : PySem.W.keepIn K (.ref c_Book) = true)
    (na_Book_last : PySem.W.findIn K (.ref c_Book) "last" = some none)
    (na_Book__next_number : PySem.W.findIn K (.ref c_Book) "_next_number" = some none)
    (na_Book__sides : PySem.W.findIn K (.ref c_Book) "_sides" = some none)
    (na_Book__stops : PySem.W.findIn K (.ref c_Book) "_stops" = some none)
    (lq64 : K.lookup cq64 = some ⟨ocq64, odq64, .fields vq64, slq64⟩) (vp64 : (vq64[11]? : Option Value) = some (.ref pq64)) (nk64 : K.lookup pq64 = none)
    (tq64 : PySem.W.CodeHd h cq64 pq64 ∧ h.get? pq64 = some { cls := .none, data := .fields #[] }) :
    LamX.LawAtS l w K CX0 10 63 "script" mg fa h := by
  have e := hfa.symm.trans (PySem.W.mg_of X G a64)
  cases e
  have F1 := fun_mk (st := s_is_integral) l1 c1 k1
  have b1 := F1.binds (ps := ["value"]) fun _ _ _ _ _ _ us hl => match us, hl with | [_], _ => rfl
  have F2 := fun_mk (st := s_is_within) l2 c2 k2
  have b2 := F2.binds (ps := ["least", "most", "value"]) fun _ _ _ _ _ _ us hl => match us, hl with | [_, _, _], _ => rfl
  have F3 := fun_mk (st := s_other_side) l3 c3 k3
  have b3 := F3.binds (ps := ["side"]) fun _ _ _ _ _ _ us hl => match us, hl with | [_], _ => rfl
  have F4 := fun_mk (st := s_accepts) l4 c4 k4
  have b4 := F4.binds (ps := ["side", "limit", "price"]) fun _ _ _ _ _ _ us hl => match us, hl with | [_, _, _], _ => rfl
  have F5 := fun_mk (st := s_check_house) l5 c5 k5
  have b5 := F5.binds (ps := ["house"]) fun _ _ _ _ _ _ us hl => match us, hl with | [_], _ => rfl
  have F6 := fun_mk (st := s_check_side) l6 c6 k6
  have b6 := F6.binds (ps := ["side"]) fun _ _ _ _ _ _ us hl => match us, hl with | [_], _ => rfl
  have F7 := fun_mk (st := s_check_number) l7 c7 k7
  have b7 := F7.binds (ps := ["number", "least", "most"]) fun _ _ _ _ _ _ us hl => match us, hl with | [_, _, _], _ => rfl
  have F8 := fun_mk (st := s_check_price) l8 c8 k8
  have b8 := F8.binds (ps := ["price"]) fun _ _ _ _ _ _ us hl => match us, hl with | [_], _ => rfl
  have F9 := fun_mk (st := s_check_quantity) l9 c9 k9
  have b9 := F9.binds (ps := ["quantity"]) fun _ _ _ _ _ _ us hl => match us, hl with | [_], _ => rfl
  have F10 := fun_mk (st := s_check_order) l10 c10 k10
  have b10 := F10.binds (ps := ["house", "side", "price", "quantity", "kind", "shown"]) fun _ _ _ _ _ _ us hl => match us, hl with | [_, _, _, _, _, _], _ => rfl
  have F11 := fun_mk (st := s_check_stop) l11 c11 k11
  have b11 := F11.binds (ps := ["house", "side", "trigger", "price", "quantity"]) fun _ _ _ _ _ _ us hl => match us, hl with | [_, _, _, _, _], _ => rfl
  have F12 := fun_mk (st := s_Order_init) l12 c12 k12
  have b12 := F12.binds (ps := ["self", "number", "house", "side", "price", "quantity", "shown"]) fun _ _ _ _ _ _ us hl => match us, hl with | [_, _, _, _, _, _, _], _ => rfl
  have F13 := fun_mk (st := s_Order_accepts_price) l13 c13 k13
  have b13 := F13.binds (ps := ["self", "price"]) fun _ _ _ _ _ _ us hl => match us, hl with | [_, _], _ => rfl
  have F14 := fun_mk (st := s_Order_show_next_part) l14 c14 k14
  have b14 := F14.binds (ps := ["self"]) fun _ _ _ _ _ _ us hl => match us, hl with | [_], _ => rfl
  have F15 := fun_mk (st := s_Order_trade_visible) l15 c15 k15
  have b15 := F15.binds (ps := ["self", "quantity"]) fun _ _ _ _ _ _ us hl => match us, hl with | [_, _], _ => rfl
  have F16 := fun_mk (st := s_Order_reduce) l16 c16 k16
  have b16 := F16.binds (ps := ["self", "quantity"]) fun _ _ _ _ _ _ us hl => match us, hl with | [_, _], _ => rfl
  have F17 := fun_mk (st := s_Stop_init) l17 c17 k17
  have b17 := F17.binds (ps := ["self", "number", "house", "side", "trigger", "price", "quantity"]) fun _ _ _ _ _ _ us hl => match us, hl with | [_, _, _, _, _, _, _], _ => rfl
  have F18 := fun_mk (st := s_Stop_is_reached) l18 c18 k18
  have b18 := F18.binds (ps := ["self", "last"]) fun _ _ _ _ _ _ us hl => match us, hl with | [_, _], _ => rfl
  have F19 := fun_mk (st := s_Stop_row) l19 c19 k19
  have b19 := F19.binds (ps := ["self"]) fun _ _ _ _ _ _ us hl => match us, hl with | [_], _ => rfl
  have F20 := fun_mk (st := s_BookSide_init) l20 c20 k20
  have b20 := F20.binds (ps := ["self"]) fun _ _ _ _ _ _ us hl => match us, hl with | [_], _ => rfl
  have F21 := fun_mk (st := s_BookSide_rows) l21 c21 k21
  have b21 := F21.binds (ps := ["self"]) fun _ _ _ _ _ _ us hl => match us, hl with | [_], _ => rfl
  have F22 := fun_mk (st := s_BookSide_first) l22 c22 k22
  have b22 := F22.binds (ps := ["self"]) fun _ _ _ _ _ _ us hl => match us, hl with | [_], _ => rfl
  have F23 := fun_mk (st := s_BookSide_with_number) l23 c23 k23
  have b23 := F23.binds (ps := ["self", "number"]) fun _ _ _ _ _ _ us hl => match us, hl with | [_, _], _ => rfl
  have F24 := fun_mk (st := s_BookSide_available) l24 c24 k24
  have b24 := F24.binds (ps := ["self", "taker"]) fun _ _ _ _ _ _ us hl => match us, hl with | [_, _], _ => rfl
  have F25 := fun_mk (st := s_BookSide_enter) l25 c25 k25
  have b25 := F25.binds (ps := ["self", "order"]) fun _ _ _ _ _ _ us hl => match us, hl with | [_, _], _ => rfl
  have F26 := fun_mk (st := s_BookSideplace_behind) l26 c26 k26
  have b26 := F26.binds (ps := ["self", "order"]) fun _ _ _ _ _ _ us hl => match us, hl with | [_, _], _ => rfl
  have F27 := fun_mk (st := s_BookSide_leave) l27 c27 k27
  have b27 := F27.binds (ps := ["self", "order"]) fun _ _ _ _ _ _ us hl => match us, hl with | [_, _], _ => rfl
  have F28 := fun_mk (st := s_BookSide_trade_first) l28 c28 k28
  have b28 := F28.binds (ps := ["self", "quantity"]) fun _ _ _ _ _ _ us hl => match us, hl with | [_, _], _ => rfl
  have F29 := fun_mk (st := s_Report_init) l29 c29 k29
  have b29 := F29.binds (ps := ["self", "number", "house", "side"]) fun _ _ _ _ _ _ us hl => match us, hl with | [_, _, _, _], _ => rfl
  have F30 : FunD K "__init__" "Book.__init__" (defArgs s_Book_init) (defBody s_Book_init) (defScope s_Book_init) [.int 1] [] f30 (PySem.W.fnOf "__init__" "Book.__init__" (defArgs s_Book_init) (defBody s_Book_init) (defScope s_Book_init) (.ref T30) kV30 dc30 pm30 an30 cd30 ct30) := ⟨⟨_, _, _, _, _, _, _, _, _, _, rfl, l30, c30, .inr ⟨by simp, T30, _, _, _, rfl, lT30, rfl, .cons ⟨_, rfl⟩ (.nil)⟩, .inl rfl⟩, k30⟩
  have b30_0 := F30.binds1 (ps := ["self", "first_number"]) 1 0 (by simp) rfl fun _ _ _ _ _ _ _ us its h1 h2 => match us, its, h1, h2 with | [_], [_], _, _ => ⟨_, rfl, rfl⟩
  have b30 : Binds K (PySem.W.fnOf "__init__" "Book.__init__" (defArgs s_Book_init) (defBody s_Book_init) (defScope s_Book_init) (.ref T30) kV30 dc30 pm30 an30 cd30 ct30) ["self", "first_number"] [] := by
    obtain ⟨ds, v, b⟩ := F30.binds1 (ps := ["self", "first_number"]) 2 1 (by simp) rfl fun _ _ _ _ _ _ _ us its h1 h2 => match us, its, h1, h2 with | [_, _], [_], _, _ => ⟨_, rfl, rfl⟩
    cases v
    exact b
  have hk31 : ∀ q ∈ ([("kind", .str "rest"), ("shown", .int 0)] : List (Str × V)), ∃ u, PySem.W.nsIn K KD31 q.1 = some (some u) ∧ RelV q.2 u := by
    intro q hq
    rcases List.mem_cons.mp hq with e | hq
    · rw [e]
      exact ⟨_, kd31_0, ⟨_, rfl⟩⟩
    rw [List.mem_singleton.mp hq]
    exact ⟨_, kd31_1, ⟨_, rfl⟩⟩
  have F31 : FunD K "submit" "Book.submit" (defArgs s_Book_submit) (defBody s_Book_submit) (defScope s_Book_submit) [] [("kind", .str "rest"), ("shown", .int 0)] f31 (PySem.W.fnOf "submit" "Book.submit" (defArgs s_Book_submit) (defBody s_Book_submit) (defScope s_Book_submit) .none (.ref KD31) dc31 pm31 an31 cd31 ct31) := ⟨⟨_, _, _, _, _, _, _, _, _, _, rfl, l31, c31, .inl ⟨rfl, rfl⟩, .inr ⟨KD31, rfl, hk31⟩⟩, k31⟩
  have b31 := F31.binds0 (ps := ["self", "house", "side", "price", "quantity", "kind", "shown"]) 5 (by simp) rfl fun _ _ _ _ _ _ us ks h1 h2 => match us, ks, h1, h2 with | [_, _, _, _, _], [_, _], _, _ => ⟨_, _, _, _, _, _, rfl, rfl, ⟨_, _, _, _, _, _, rfl, rfl, rfl⟩⟩
  have kb31_kind_shown : ∃ g : List Value → List Value → List Value, KBn K (PySem.W.fnOf "submit" "Book.submit" (defArgs s_Book_submit) (defBody s_Book_submit) (defScope s_Book_submit) .none (.ref KD31) dc31 pm31 an31 cd31 ct31) ["self", "house", "side", "price", "quantity", "kind", "shown"] 5 ["kind", "shown"] g _ := (F31.kbinds0 (ps := ["self", "house", "side", "price", "quantity", "kind", "shown"]) 5 ["kind", "shown"] [] (fun us mv ws => us ++ ws) (by simp) (by simp) (fun r1 r2 r3 => (r1.append r3)) fun _ _ _ _ _ _ us mv ws h1 h2 h3 => match us, mv, ws, h1, h2, h3 with | [_, _, _, _, _], [], [_, _], _, _, _ => rfl).elim fun mv h => ⟨_, h⟩
  have F32 := fun_mk (st := s_Book_submit_stop) l32 c32 k32
  have b32 := F32.binds (ps := ["self", "house", "side", "trigger", "price", "quantity"]) fun _ _ _ _ _ _ us hl => match us, hl with | [_, _, _, _, _, _], _ => rfl
  have F33 := fun_mk (st := s_Book_place) l33 c33 k33
  have b33 := F33.binds (ps := ["self", "number", "house", "side", "price", "quantity"]) fun _ _ _ _ _ _ us hl => match us, hl with | [_, _, _, _, _, _], _ => rfl
  have F34 := fun_mk (st := s_Book_cancel) l34 c34 k34
  have b34 := F34.binds (ps := ["self", "number", "house"]) fun _ _ _ _ _ _ us hl => match us, hl with | [_, _, _], _ => rfl
  have F35 := fun_mk (st := s_Book_amend) l35 c35 k35
  have b35 := F35.binds (ps := ["self", "number", "house", "price", "quantity"]) fun _ _ _ _ _ _ us hl => match us, hl with | [_, _, _, _, _], _ => rfl
  have F36 := fun_mk (st := s_Book_orders) l36 c36 k36
  have b36 := F36.binds (ps := ["self", "side"]) fun _ _ _ _ _ _ us hl => match us, hl with | [_, _], _ => rfl
  have F37 := fun_mk (st := s_Book_stops) l37 c37 k37
  have b37 := F37.binds (ps := ["self"]) fun _ _ _ _ _ _ us hl => match us, hl with | [_], _ => rfl
  have F38 := fun_mk (st := s_Book_best) l38 c38 k38
  have b38 := F38.binds (ps := ["self", "side"]) fun _ _ _ _ _ _ us hl => match us, hl with | [_, _], _ => rfl
  have F39 := fun_mk (st := s_Booktake_number) l39 c39 k39
  have b39 := F39.binds (ps := ["self"]) fun _ _ _ _ _ _ us hl => match us, hl with | [_], _ => rfl
  have F40 := fun_mk (st := s_Bookenter) l40 c40 k40
  have b40 := F40.binds (ps := ["self", "order", "kind"]) fun _ _ _ _ _ _ us hl => match us, hl with | [_, _, _], _ => rfl
  have F41 := fun_mk (st := s_Bookreduce) l41 c41 k41
  have b41 := F41.binds (ps := ["self", "order", "quantity"]) fun _ _ _ _ _ _ us hl => match us, hl with | [_, _, _], _ => rfl
  have F42 := fun_mk (st := s_Bookenter_again) l42 c42 k42
  have b42 := F42.binds (ps := ["self", "order", "price", "quantity"]) fun _ _ _ _ _ _ us hl => match us, hl with | [_, _, _, _], _ => rfl
  have F43 := fun_mk (st := s_Bookorder_of) l43 c43 k43
  have b43 := F43.binds (ps := ["self", "number", "house"]) fun _ _ _ _ _ _ us hl => match us, hl with | [_, _, _], _ => rfl
  have F44 := fun_mk (st := s_Bookorder_with) l44 c44 k44
  have b44 := F44.binds (ps := ["self", "number"]) fun _ _ _ _ _ _ us hl => match us, hl with | [_, _], _ => rfl
  have F45 := fun_mk (st := s_Bookstop_with) l45 c45 k45
  have b45 := F45.binds (ps := ["self", "number"]) fun _ _ _ _ _ _ us hl => match us, hl with | [_, _], _ => rfl
  have F46 := fun_mk (st := s_Booktrigger_stops) l46 c46 k46
  have b46 := F46.binds (ps := ["self"]) fun _ _ _ _ _ _ us hl => match us, hl with | [_], _ => rfl
  have F47 := fun_mk (st := s_Bookfirst_reached) l47 c47 k47
  have b47 := F47.binds (ps := ["self"]) fun _ _ _ _ _ _ us hl => match us, hl with | [_], _ => rfl
  have F48 := fun_mk (st := s_law_house) l48 c48 k48
  have b48 := F48.binds (ps := ["cell"]) fun _ _ _ _ _ _ us hl => match us, hl with | [_], _ => rfl
  have F49 := fun_mk (st := s_law_resting_side) l49 c49 k49
  have b49 := F49.binds (ps := ["side"]) fun _ _ _ _ _ _ us hl => match us, hl with | [_], _ => rfl
  have F50 := fun_mk (st := s_law_fits) l50 c50 k50
  have b50 := F50.binds (ps := ["side", "limit", "price"]) fun _ _ _ _ _ _ us hl => match us, hl with | [_, _, _], _ => rfl
  have F51 := fun_mk (st := s_law_first) l51 c51 k51
  have b51 := F51.binds (ps := ["orders", "side", "limit"]) fun _ _ _ _ _ _ us hl => match us, hl with | [_, _, _], _ => rfl
  have F52 := fun_mk (st := s_law_visible) l52 c52 k52
  have b52 := F52.binds (ps := ["left", "shown"]) fun _ _ _ _ _ _ us hl => match us, hl with | [_, _], _ => rfl
  have F53 := fun_mk (st := s_law_trade) l53 c53 k53
  have b53 := F53.binds (ps := ["orders", "house", "side", "limit", "quantity"]) fun _ _ _ _ _ _ us hl => match us, hl with | [_, _, _, _, _], _ => rfl
  have F54 := fun_mk (st := s_law_available) l54 c54 k54
  have b54 := F54.binds (ps := ["orders", "house", "side", "limit"]) fun _ _ _ _ _ _ us hl => match us, hl with | [_, _, _, _], _ => rfl
  have F55 := fun_mk (st := s_law_enter) l55 c55 k55
  have b55 := F55.binds (ps := ["orders", "number", "house", "side", "limit", "quantity", "kind", "shown"]) fun _ _ _ _ _ _ us hl => match us, hl with | [_, _, _, _, _, _, _, _], _ => rfl
  have F56 := fun_mk (st := s_law_listed) l56 c56 k56
  have b56 := F56.binds (ps := ["orders", "side"]) fun _ _ _ _ _ _ us hl => match us, hl with | [_, _], _ => rfl
  have F57 := fun_mk (st := s_law_reached) l57 c57 k57
  have b57 := F57.binds (ps := ["stop", "last"]) fun _ _ _ _ _ _ us hl => match us, hl with | [_, _], _ => rfl
  have F58 := fun_mk (st := s_law_last) l58 c58 k58
  have b58 := F58.binds (ps := ["last", "due"]) fun _ _ _ _ _ _ us hl => match us, hl with | [_, _], _ => rfl
  have F59 := fun_mk (st := s_law_triggered) l59 c59 k59
  have b59 := F59.binds (ps := ["world"]) fun _ _ _ _ _ _ us hl => match us, hl with | [_], _ => rfl
  have F60 := fun_mk (st := s_law_told) l60 c60 k60
  have b60 := F60.binds (ps := ["reports"]) fun _ _ _ _ _ _ us hl => match us, hl with | [_], _ => rfl
  have F61 := fun_mk (st := s_law_submit) l61 c61 k61
  have b61 := F61.binds (ps := ["book", "world", "cell", "number"]) fun _ _ _ _ _ _ us hl => match us, hl with | [_, _, _, _], _ => rfl
  have F62 := fun_mk (st := s_law_cancel) l62 c62 k62
  have b62 := F62.binds (ps := ["book", "world", "cell"]) fun _ _ _ _ _ _ us hl => match us, hl with | [_, _, _], _ => rfl
  have F63 := fun_mk (st := s_law_amend) l63 c63 k63
  have b63 := F63.binds (ps := ["book", "world", "cell"]) fun _ _ _ _ _ _ us hl => match us, hl with | [_, _, _], _ => rfl
  have F64 := fun_mk (st := s_law) l64 c64 k64
  have b64 := F64.binds (ps := ["script"]) fun _ _ _ _ _ _ us hl => match us, hl with | [_], _ => rfl
  obtain ⟨T, e64, g64⟩ : ∃ T : Txt K mg, T.cq_law = cq64 ∧ T.pq_law = pq64 := ⟨⟨f1, _, F1, PySem.W.mg_of X G a1, b1, f2, _, F2, PySem.W.mg_of X G a2, b2, f3, _, F3, PySem.W.mg_of X G a3, b3, f4, _, F4, PySem.W.mg_of X G a4, b4, f5, _, F5, PySem.W.mg_of X G a5, b5, f6, _, F6, PySem.W.mg_of X G a6, b6, f7, _, F7, PySem.W.mg_of X G a7, b7, f8, _, F8, PySem.W.mg_of X G a8, b8, f9, _, F9, PySem.W.mg_of X G a9, b9, f10, _, F10, PySem.W.mg_of X G a10, b10, f11, _, F11, PySem.W.mg_of X G a11, b11, f12, _, F12, b12, f13, _, F13, b13, f14, _, F14, b14, f15, _, F15, b15, f16, _, F16, b16, f17, _, F17, b17, f18, _, F18, b18, f19, _, F19, b19, f20, _, F20, b20, f21, _, F21, b21, f22, _, F22, b22, f23, _, F23, b23, f24, _, F24, b24, f25, _, F25, b25, f26, _, F26, b26, f27, _, F27, b27, f28, _, F28, b28, f29, _, F29, b29, f30, _, F30, b30_0, b30, f31, _, F31, b31, kb31_kind_shown, f32, _, F32, b32, f33, _, F33, b33, f34, _, F34, b34, f35, _, F35, b35, f36, _, F36, b36, f37, _, F37, b37, f38, _, F38, b38, f39, _, F39, b39, f40, _, F40, b40, f41, _, F41, b41, f42, _, F42, b42, f43, _, F43, b43, f44, _, F44, b44, f45, _, F45, b45, f46, _, F46, b46, f47, _, F47, b47, f48, _, F48, PySem.W.mg_of X G a48, b48, f49, _, F49, PySem.W.mg_of X G a49, b49, f50, _, F50, PySem.W.mg_of X G a50, b50, f51, _, F51, PySem.W.mg_of X G a51, b51, f52, _, F52, PySem.W.mg_of X G a52, b52, f53, _, F53, PySem.W.mg_of X G a53, b53, f54, _, F54, PySem.W.mg_of X G a54, b54, f55, _, F55, PySem.W.mg_of X G a55, b55, f56, _, F56, PySem.W.mg_of X G a56, b56, f57, _, F57, PySem.W.mg_of X G a57, b57, f58, _, F58, PySem.W.mg_of X G a58, b58, f59, _, F59, PySem.W.mg_of X G a59, b59, f60, _, F60, PySem.W.mg_of X G a60, b60, f61, _, F61, PySem.W.mg_of X G a61, b61, f62, _, F62, PySem.W.mg_of X G a62, b62, f63, _, F63, PySem.W.mg_of X G a63, b63, c_BourseError, PySem.W.mg_of X G g_BourseError, c_InvalidOrder, PySem.W.mg_of X G g_InvalidOrder, x_InvalidOrder, k_InvalidOrder, b_InvalidOrder, t_InvalidOrder, d_InvalidOrder, s_InvalidOrder, c_UnknownOrder, PySem.W.mg_of X G g_UnknownOrder, x_UnknownOrder, k_UnknownOrder, b_UnknownOrder, t_UnknownOrder, d_UnknownOrder, s_UnknownOrder, c_NotOwner, PySem.W.mg_of X G g_NotOwner, x_NotOwner, k_NotOwner, b_NotOwner, t_NotOwner, d_NotOwner, s_NotOwner, c_Order, PySem.W.mg_of X G g_Order, pg_Order, hd_Order, po_Order, sa_Order, ma_Order, kc_Order, eq_Order, mo_Order, ⟨pg_Order, hd_Order, po_Order, sa_Order⟩, na_Order_number, na_Order_house, na_Order_side, na_Order_price, na_Order_shown, na_Order_left, na_Order_visible, c_Stop, PySem.W.mg_of X G g_Stop, pg_Stop, hd_Stop, po_Stop, sa_Stop, ma_Stop, kc_Stop, eq_Stop, mo_Stop, ⟨pg_Stop, hd_Stop, po_Stop, sa_Stop⟩, na_Stop_number, na_Stop_house, na_Stop_side, na_Stop_trigger, na_Stop_price, na_Stop_quantity, c_BookSide, PySem.W.mg_of X G g_BookSide, pg_BookSide, hd_BookSide, po_BookSide, sa_BookSide, ma_BookSide, kc_BookSide, ⟨pg_BookSide, hd_BookSide, po_BookSide, sa_BookSide⟩, na_BookSide__orders, c_Report, PySem.W.mg_of X G g_Report, pg_Report, hd_Report, po_Report, sa_Report, ma_Report, kc_Report, ⟨pg_Report, hd_Report, po_Report, sa_Report⟩, na_Report_number, na_Report_house, na_Report_side, na_Report_fills, na_Report_removed, na_Report_resting, c_Book, PySem.W.mg_of X G g_Book, pg_Book, hd_Book, po_Book, sa_Book, ma_Book, kc_Book, ⟨pg_Book, hd_Book, po_Book, sa_Book⟩, na_Book_last, na_Book__next_number, na_Book__sides, na_Book__stops, ⟨ma_Order, a12, i12, kc_Order⟩, ⟨a13, i13, k13⟩, ⟨a14, i14, k14⟩, ⟨a15, i15, k15⟩, ⟨a16, i16, k16⟩, ⟨ma_Stop, a17, i17, kc_Stop⟩, ⟨a18, i18, k18⟩, ⟨a19, i19, k19⟩, ⟨ma_BookSide, a20, i20, kc_BookSide⟩, ⟨a21, i21, k21⟩, ⟨a22, i22, k22⟩, ⟨a23, i23, k23⟩, ⟨a24, i24, k24⟩, ⟨a25, i25, k25⟩, ⟨a26, i26, k26⟩, ⟨a27, i27, k27⟩, ⟨a28, i28, k28⟩, ⟨ma_Report, a29, i29, kc_Report⟩, ⟨ma_Book, a30, i30, kc_Book⟩, ⟨a31, i31, k31⟩, ⟨a32, i32, k32⟩, ⟨a33, i33, k33⟩, ⟨a34, i34, k34⟩, ⟨a35, i35, k35⟩, ⟨a36, i36, k36⟩, ⟨a37, i37, k37⟩, ⟨a38, i38, k38⟩, ⟨a39, i39, k39⟩, ⟨a40, i40, k40⟩, ⟨a41, i41, k41⟩, ⟨a42, i42, k42⟩, ⟨a43, i43, k43⟩, ⟨a44, i44, k44⟩, ⟨a45, i45, k45⟩, ⟨a46, i46, k46⟩, ⟨a47, i47, k47⟩, PySem.W.mg_none_of X G z_bool, PySem.W.mg_none_of X G z_int, PySem.W.mg_none_of X G z_isinstance, PySem.W.mg_none_of X G z_len, PySem.W.mg_none_of X G z_max, PySem.W.mg_none_of X G z_min, PySem.W.mg_none_of X G z_range, PySem.W.mg_none_of X G z_sorted, PySem.W.mg_none_of X G z_sum, ac_SIDES, PySem.W.mg_of X G v_SIDES, (fun H => .inr ⟨_, _, _, lc_SIDES, rfl, rfl, (show 2 ≤ sizeLine from len_le rfl), .cons ⟨_, rfl⟩ (.cons ⟨_, rfl⟩ (.nil))⟩), ac_KINDS, PySem.W.mg_of X G v_KINDS, (fun H => .inr ⟨_, _, _, lc_KINDS, rfl, rfl, (show 3 ≤ sizeLine from len_le rfl), .cons ⟨_, rfl⟩ (.cons ⟨_, rfl⟩ (.cons ⟨_, rfl⟩ (.nil)))⟩), t_MOST, PySem.W.mg_of X G v_MOST, cq64, pq64⟩, rfl, rfl⟩
  have hcs : ∀ {R : Addr × Addr → Prop}, R (cq64, pq64) → ∀ p ∈ [(cq64, pq64)], R p := fun r64 p hp => by
    rcases List.mem_cons.mp hp with e | hp
    · rw [e]; exact r64
    exact absurd hp List.not_mem_nil
  refine ⟨PySem.W.fnOf "law" "law" (defArgs s_law) (defBody s_law) (defScope s_law) .none kV64 dc64 pm64 an64 (.ref cq64) ct64, [(cq64, pq64)], sp_law K (tabsL T), hcs tq64.2, hcs nk64, hcs tq64.1, fun s v => .of_eq rfl, fun H a ns hl _ hH hS => ⟨a, ns, rfl, hS, hl, fun p hp => ?_, fun _ => rfl⟩, fun base _ _ hB => ?_⟩
  · unfold tabsL at hp
    rcases List.mem_cons.mp hp with e | hp
    · rw [e]
      exact LamX.TabS.nil (by rw [g64]; exact hH (cq64, pq64) List.mem_cons_self)
    exact absurd hp List.not_mem_nil
  · haveI TB : TabsOk T base := ⟨by rw [e64, g64]; exact hB (cq64, pq64) List.mem_cons_self⟩
    exact ok_law T F64 (congrArg Value.ref e64).symm
end FB
open PySem PySem.W PyProof.Rows
set_option maxRecDepth 100000 in
set_option maxHeartbeats 0 in
theorem PySem.Challenge.cw_fairbourse_k29_book_with_stops_whole_mod_holds : PySem.Challenge.rw_fairbourse_k29_book_with_stops_whole_mod.Holds := by
  w_on; o_law; k_head; (case hw => w_witness2)
  k_fill
  refine LamX.walk_ofTs (l := PySem.Challenge.rw_fairbourse_k29_book_with_stops_whole_mod) (n := 63) (k := 10) (x := "script") (CX := fun _ => L2.CX0) rfl (by decide) rfl ⟨rfl, by decide, by decide⟩ (fun w h Y => PySem.W.km_in_of Y) ?F (fun _ _ _ _ _ h => h)
  case F =>
    intro w mg fa h Y KX G hmg
    refine' FB.all_mk KX G hmg ?a1 ?l1 ?c1 ?k1 ?a2 ?l2 ?c2 ?k2 ?a3 ?l3 ?c3 ?k3 ?a4 ?l4 ?c4 ?k4 ?a5 ?l5 ?c5 ?k5 ?a6 ?l6 ?c6 ?k6 ?a7 ?l7 ?c7 ?k7 ?a8 ?l8 ?c8 ?k8 ?a9 ?l9 ?c9 ?k9 ?a10 ?l10 ?c10 ?k10 ?a11 ?l11 ?c11 ?k11 ?a12 ?i12 ?l12 ?c12 ?k12 ?a13 ?i13 ?l13 ?c13 ?k13 ?a14 ?i14 ?l14 ?c14 ?k14 ?a15 ?i15 ?l15 ?c15 ?k15 ?a16 ?i16 ?l16 ?c16 ?k16 ?a17 ?i17 ?l17 ?c17 ?k17 ?a18 ?i18 ?l18 ?c18 ?k18 ?a19 ?i19 ?l19 ?c19 ?k19 ?a20 ?i20 ?l20 ?c20 ?k20 ?a21 ?i21 ?l21 ?c21 ?k21 ?a22 ?i22 ?l22 ?c22 ?k22 ?a23 ?i23 ?l23 ?c23 ?k23 ?a24 ?i24 ?l24 ?c24 ?k24 ?a25 ?i25 ?l25 ?c25 ?k25 ?a26 ?i26 ?l26 ?c26 ?k26 ?a27 ?i27 ?l27 ?c27 ?k27 ?a28 ?i28 ?l28 ?c28 ?k28 ?a29 ?i29 ?l29 ?c29 ?k29 ?a30 ?i30 ?l30 ?lT30 ?c30 ?k30 ?a31 ?i31 ?l31 ?c31 ?k31 ?kd31_0 ?kd31_1 ?a32 ?i32 ?l32 ?c32 ?k32 ?a33 ?i33 ?l33 ?c33 ?k33 ?a34 ?i34 ?l34 ?c34 ?k34 ?a35 ?i35 ?l35 ?c35 ?k35 ?a36 ?i36 ?l36 ?c36 ?k36 ?a37 ?i37 ?l37 ?c37 ?k37 ?a38 ?i38 ?l38 ?c38 ?k38 ?a39 ?i39 ?l39 ?c39 ?k39 ?a40 ?i40 ?l40 ?c40 ?k40 ?a41 ?i41 ?l41 ?c41 ?k41 ?a42 ?i42 ?l42 ?c42 ?k42 ?a43 ?i43 ?l43 ?c43 ?k43 ?a44 ?i44 ?l44 ?c44 ?k44 ?a45 ?i45 ?l45 ?c45 ?k45 ?a46 ?i46 ?l46 ?c46 ?k46 ?a47 ?i47 ?l47 ?c47 ?k47 ?a48 ?l48 ?c48 ?k48 ?a49 ?l49 ?c49 ?k49 ?a50 ?l50 ?c50 ?k50 ?a51 ?l51 ?c51 ?k51 ?a52 ?l52 ?c52 ?k52 ?a53 ?l53 ?c53 ?k53 ?a54 ?l54 ?c54 ?k54 ?a55 ?l55 ?c55 ?k55 ?a56 ?l56 ?c56 ?k56 ?a57 ?l57 ?c57 ?k57 ?a58 ?l58 ?c58 ?k58 ?a59 ?l59 ?c59 ?k59 ?a60 ?l60 ?c60 ?k60 ?a61 ?l61 ?c61 ?k61 ?a62 ?l62 ?c62 ?k62 ?a63 ?l63 ?c63 ?k63 ?a64 ?l64 ?c64 ?k64 ?z_bool ?z_int ?z_isinstance ?z_len ?z_max ?z_min ?z_range ?z_sorted ?z_sum ?v_MOST ?v_SIDES ?lc_SIDES ?v_KINDS ?lc_KINDS ?g_BourseError ?g_InvalidOrder ?x_InvalidOrder ?k_InvalidOrder ?b_InvalidOrder ?t_InvalidOrder ?d_InvalidOrder ?s_InvalidOrder ?g_UnknownOrder ?x_UnknownOrder ?k_UnknownOrder ?b_UnknownOrder ?t_UnknownOrder ?d_UnknownOrder ?s_UnknownOrder ?g_NotOwner ?x_NotOwner ?k_NotOwner ?b_NotOwner ?t_NotOwner ?d_NotOwner ?s_NotOwner ?g_Order ?pg_Order ?hd_Order ?po_Order ?sa_Order ?ma_Order ?kc_Order ?eq_Order ?mo_Order ?na_Order_number ?na_Order_house ?na_Order_side ?na_Order_price ?na_Order_shown ?na_Order_left ?na_Order_visible ?g_Stop ?pg_Stop ?hd_Stop ?po_Stop ?sa_Stop ?ma_Stop ?kc_Stop ?eq_Stop ?mo_Stop ?na_Stop_number ?na_Stop_house ?na_Stop_side ?na_Stop_trigger ?na_Stop_price ?na_Stop_quantity ?g_BookSide ?pg_BookSide ?hd_BookSide ?po_BookSide ?sa_BookSide ?ma_BookSide ?kc_BookSide ?na_BookSide__orders ?g_Report ?pg_Report ?hd_Report ?po_Report ?sa_Report ?ma_Report ?kc_Report ?na_Report_number ?na_Report_house ?na_Report_side ?na_Report_fills ?na_Report_removed ?na_Report_resting ?g_Book ?pg_Book ?hd_Book ?po_Book ?sa_Book ?ma_Book ?kc_Book ?na_Book_last ?na_Book__next_number ?na_Book__sides ?na_Book__stops ?lq64 ?vp64 ?nk64 ?tq64
    (case g_BourseError => k_is)
    (case g_InvalidOrder => k_is)
    (case g_UnknownOrder => k_is)
    (case g_NotOwner => k_is)
    (case g_Order => k_is)
    (case g_Stop => k_is)
    (case g_BookSide => k_is)
    (case g_Report => k_is)
    (case g_Book => k_is)
    (case a1 => k_is)
    (case l1 => k_is)
    (case c1 => k_is)
    (case k1 => k_is)
    (case a2 => k_is)
    (case l2 => k_is)
    (case c2 => k_is)
    (case k2 => k_is)
    (case a3 => k_is)
    (case l3 => k_is)
    (case c3 => k_is)
    (case k3 => k_is)
    (case a4 => k_is)
    (case l4 => k_is)
    (case c4 => k_is)
    (case k4 => k_is)
    (case a5 => k_is)
    (case l5 => k_is)
    (case c5 => k_is)
    (case k5 => k_is)
    (case a6 => k_is)
    (case l6 => k_is)
    (case c6 => k_is)
    (case k6 => k_is)
    (case a7 => k_is)
    (case l7 => k_is)
    (case c7 => k_is)
    (case k7 => k_is)
    (case a8 => k_is)
    (case l8 => k_is)
    (case c8 => k_is)
    (case k8 => k_is)
    (case a9 => k_is)
    (case l9 => k_is)
    (case c9 => k_is)
    (case k9 => k_is)
    (case a10 => k_is)
    (case l10 => k_is)
    (case c10 => k_is)
    (case k10 => k_is)
    (case a11 => k_is)
    (case l11 => k_is)
    (case c11 => k_is)
    (case k11 => k_is)
    (case a12 => k_is)
    (case i12 => k_is)
    (case l12 => k_is)
    (case c12 => k_is)
    (case k12 => k_is)
    (case a13 => k_is)
    (case i13 => k_is)
    (case l13 => k_is)
    (case c13 => k_is)
    (case k13 => k_is)
    (case a14 => k_is)
    (case i14 => k_is)
    (case l14 => k_is)
    (case c14 => k_is)
    (case k14 => k_is)
    (case a15 => k_is)
    (case i15 => k_is)
    (case l15 => k_is)
    (case c15 => k_is)
    (case k15 => k_is)
    (case a16 => k_is)
    (case i16 => k_is)
    (case l16 => k_is)
    (case c16 => k_is)
    (case k16 => k_is)
    (case a17 => k_is)
    (case i17 => k_is)
    (case l17 => k_is)
    (case c17 => k_is)
    (case k17 => k_is)
    (case a18 => k_is)
    (case i18 => k_is)
    (case l18 => k_is)
    (case c18 => k_is)
    (case k18 => k_is)
    (case a19 => k_is)
    (case i19 => k_is)
    (case l19 => k_is)
    (case c19 => k_is)
    (case k19 => k_is)
    (case a20 => k_is)
    (case i20 => k_is)
    (case l20 => k_is)
    (case c20 => k_is)
    (case k20 => k_is)
    (case a21 => k_is)
    (case i21 => k_is)
    (case l21 => k_is)
    (case c21 => k_is)
    (case k21 => k_is)
    (case a22 => k_is)
    (case i22 => k_is)
    (case l22 => k_is)
    (case c22 => k_is)
    (case k22 => k_is)
    (case a23 => k_is)
    (case i23 => k_is)
    (case l23 => k_is)
    (case c23 => k_is)
    (case k23 => k_is)
    (case a24 => k_is)
    (case i24 => k_is)
    (case l24 => k_is)
    (case c24 => k_is)
    (case k24 => k_is)
    (case a25 => k_is)
    (case i25 => k_is)
    (case l25 => k_is)
    (case c25 => k_is)
    (case k25 => k_is)
    (case a26 => k_is)
    (case i26 => k_is)
    (case l26 => k_is)
    (case c26 => k_is)
    (case k26 => k_is)
    (case a27 => k_is)
    (case i27 => k_is)
    (case l27 => k_is)
    (case c27 => k_is)
    (case k27 => k_is)
    (case a28 => k_is)
    (case i28 => k_is)
    (case l28 => k_is)
    (case c28 => k_is)
    (case k28 => k_is)
    (case a29 => k_is)
    (case i29 => k_is)
    (case l29 => k_is)
    (case c29 => k_is)
    (case k29 => k_is)
    (case a30 => k_is)
    (case i30 => k_is)
    (case l30 => k_is)
    (case lT30 => k_is)
    (case c30 => k_is)
    (case k30 => k_is)
    (case a31 => k_is)
    (case i31 => k_is)
    (case l31 => k_is)
    (case c31 => k_is)
    (case k31 => k_is)
    (case kd31_0 => k_is)
    (case kd31_1 => k_is)
    (case a32 => k_is)
    (case i32 => k_is)
    (case l32 => k_is)
    (case c32 => k_is)
    (case k32 => k_is)
    (case a33 => k_is)
    (case i33 => k_is)
    (case l33 => k_is)
    (case c33 => k_is)
    (case k33 => k_is)
    (case a34 => k_is)
    (case i34 => k_is)
    (case l34 => k_is)
    (case c34 => k_is)
    (case k34 => k_is)
    (case a35 => k_is)
    (case i35 => k_is)
    (case l35 => k_is)
    (case c35 => k_is)
    (case k35 => k_is)
    (case a36 => k_is)
    (case i36 => k_is)
    (case l36 => k_is)
    (case c36 => k_is)
    (case k36 => k_is)
    (case a37 => k_is)
    (case i37 => k_is)
    (case l37 => k_is)
    (case c37 => k_is)
    (case k37 => k_is)
    (case a38 => k_is)
    (case i38 => k_is)
    (case l38 => k_is)
    (case c38 => k_is)
    (case k38 => k_is)
    (case a39 => k_is)
    (case i39 => k_is)
    (case l39 => k_is)
    (case c39 => k_is)
    (case k39 => k_is)
    (case a40 => k_is)
    (case i40 => k_is)
    (case l40 => k_is)
    (case c40 => k_is)
    (case k40 => k_is)
    (case a41 => k_is)
    (case i41 => k_is)
    (case l41 => k_is)
    (case c41 => k_is)
    (case k41 => k_is)
    (case a42 => k_is)
    (case i42 => k_is)
    (case l42 => k_is)
    (case c42 => k_is)
    (case k42 => k_is)
    (case a43 => k_is)
    (case i43 => k_is)
    (case l43 => k_is)
    (case c43 => k_is)
    (case k43 => k_is)
    (case a44 => k_is)
    (case i44 => k_is)
    (case l44 => k_is)
    (case c44 => k_is)
    (case k44 => k_is)
    (case a45 => k_is)
    (case i45 => k_is)
    (case l45 => k_is)
    (case c45 => k_is)
    (case k45 => k_is)
    (case a46 => k_is)
    (case i46 => k_is)
    (case l46 => k_is)
    (case c46 => k_is)
    (case k46 => k_is)
    (case a47 => k_is)
    (case i47 => k_is)
    (case l47 => k_is)
    (case c47 => k_is)
    (case k47 => k_is)
    (case a48 => k_is)
    (case l48 => k_is)
    (case c48 => k_is)
    (case k48 => k_is)
    (case a49 => k_is)
    (case l49 => k_is)
    (case c49 => k_is)
    (case k49 => k_is)
    (case a50 => k_is)
    (case l50 => k_is)
    (case c50 => k_is)
    (case k50 => k_is)
    (case a51 => k_is)
    (case l51 => k_is)
    (case c51 => k_is)
    (case k51 => k_is)
    (case a52 => k_is)
    (case l52 => k_is)
    (case c52 => k_is)
    (case k52 => k_is)
    (case a53 => k_is)
    (case l53 => k_is)
    (case c53 => k_is)
    (case k53 => k_is)
    (case a54 => k_is)
    (case l54 => k_is)
    (case c54 => k_is)
    (case k54 => k_is)
    (case a55 => k_is)
    (case l55 => k_is)
    (case c55 => k_is)
    (case k55 => k_is)
    (case a56 => k_is)
    (case l56 => k_is)
    (case c56 => k_is)
    (case k56 => k_is)
    (case a57 => k_is)
    (case l57 => k_is)
    (case c57 => k_is)
    (case k57 => k_is)
    (case a58 => k_is)
    (case l58 => k_is)
    (case c58 => k_is)
    (case k58 => k_is)
    (case a59 => k_is)
    (case l59 => k_is)
    (case c59 => k_is)
    (case k59 => k_is)
    (case a60 => k_is)
    (case l60 => k_is)
    (case c60 => k_is)
    (case k60 => k_is)
    (case a61 => k_is)
    (case l61 => k_is)
    (case c61 => k_is)
    (case k61 => k_is)
    (case a62 => k_is)
    (case l62 => k_is)
    (case c62 => k_is)
    (case k62 => k_is)
    (case a63 => k_is)
    (case l63 => k_is)
    (case c63 => k_is)
    (case k63 => k_is)
    (case a64 => k_is)
    (case l64 => k_is)
    (case c64 => k_is)
    (case k64 => k_is)
    (case z_bool => k_is)
    (case z_int => k_is)
    (case z_isinstance => k_is)
    (case z_len => k_is)
    (case z_max => k_is)
    (case z_min => k_is)
    (case z_range => k_is)
    (case z_sorted => k_is)
    (case z_sum => k_is)
    (case v_MOST => k_is)
    (case v_SIDES => k_is)
    (case lc_SIDES => k_is)
    (case v_KINDS => k_is)
    (case lc_KINDS => k_is)
    (case x_InvalidOrder => k_exc)
    (case k_InvalidOrder => k_is)
    (case b_InvalidOrder => k_is)
    (case t_InvalidOrder => k_is)
    (case d_InvalidOrder => k_is)
    (case s_InvalidOrder => first | rfl | k_is)
    (case x_UnknownOrder => k_exc)
    (case k_UnknownOrder => k_is)
    (case b_UnknownOrder => k_is)
    (case t_UnknownOrder => k_is)
    (case d_UnknownOrder => k_is)
    (case s_UnknownOrder => first | rfl | k_is)
    (case x_NotOwner => k_exc)
    (case k_NotOwner => k_is)
    (case b_NotOwner => k_is)
    (case t_NotOwner => k_is)
    (case d_NotOwner => k_is)
    (case s_NotOwner => first | rfl | k_is)
    (case pg_Order => k_is)
    (case hd_Order => k_is)
    (case po_Order => k_is)
    (case sa_Order => k_is)
    (case ma_Order => k_is)
    (case kc_Order => k_is)
    (case eq_Order => k_is)
    (case mo_Order => k_is)
    (case na_Order_number => k_is)
    (case na_Order_house => k_is)
    (case na_Order_side => k_is)
    (case na_Order_price => k_is)
    (case na_Order_shown => k_is)
    (case na_Order_left => k_is)
    (case na_Order_visible => k_is)
    (case pg_Stop => k_is)
    (case hd_Stop => k_is)
    (case po_Stop => k_is)
    (case sa_Stop => k_is)
    (case ma_Stop => k_is)
    (case kc_Stop => k_is)
    (case eq_Stop => k_is)
    (case mo_Stop => k_is)
    (case na_Stop_number => k_is)
    (case na_Stop_house => k_is)
    (case na_Stop_side => k_is)
    (case na_Stop_trigger => k_is)
    (case na_Stop_price => k_is)
    (case na_Stop_quantity => k_is)
    (case pg_BookSide => k_is)
    (case hd_BookSide => k_is)
    (case po_BookSide => k_is)
    (case sa_BookSide => k_is)
    (case ma_BookSide => k_is)
    (case kc_BookSide => k_is)
    (case na_BookSide__orders => k_is)
    (case pg_Report => k_is)
    (case hd_Report => k_is)
    (case po_Report => k_is)
    (case sa_Report => k_is)
    (case ma_Report => k_is)
    (case kc_Report => k_is)
    (case na_Report_number => k_is)
    (case na_Report_house => k_is)
    (case na_Report_side => k_is)
    (case na_Report_fills => k_is)
    (case na_Report_removed => k_is)
    (case na_Report_resting => k_is)
    (case pg_Book => k_is)
    (case hd_Book => k_is)
    (case po_Book => k_is)
    (case sa_Book => k_is)
    (case ma_Book => k_is)
    (case kc_Book => k_is)
    (case na_Book_last => k_is)
    (case na_Book__next_number => k_is)
    (case na_Book__sides => k_is)
    (case na_Book__stops => k_is)
    (case lq64 => k_is)
    (case vp64 => rfl)
    (case nk64 => first | rfl | k_is)
    (case tq64 => exact ⟨PySem.W.codeHd_of_K KX (by kernel_rfl), PySem.W.km_tabs_of Y _ (by k_mem)⟩)
