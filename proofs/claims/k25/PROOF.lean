import PyProof.Rows.All
import Wide.All
import OpenK.AllK
import Wide.FinOn
import HandS.ForMost
import HandS.ForExc
import HandS.Defaults
import HandS.IsInst
import HandS.Wide
import HandS.Codes
import HandS.Walk
import HandS.SetFor
import HandS.More
import KE.DataFind
import HandS.ExcIs
import HandS.MakeKwOnly
import HandS.CallSlots
import HandS.ListItems
import HandS.OwnEq
import PySem.Challenge.RW_fairbourse_k25_stop_orders
set_option Elab.async false
set_option linter.all false
set_option maxRecDepth 100000
namespace FB
open PySem PySem.Spec PyProof.Rows L2
def topS (i : Nat) : Stmt := PySem.Challenge.pw_fairbourse_k25_stop_orders.main.body.getD i (.Pass ⟨0, 0, 0, 0⟩)
abbrev s_is_integral : Stmt := topS 7
abbrev N_is_integral : List Str := ["value"]
theorem sc_is_integral : FnScope N_is_integral ["value"] (defScope s_is_integral) := ⟨rfl, rfl, rfl, by decide +kernel, rfl, by decide +kernel, by decide +kernel⟩
abbrev s_is_within : Stmt := topS 8
abbrev N_is_within : List Str := ["least", "most", "value"]
theorem sc_is_within : FnScope N_is_within ["least", "most", "value"] (defScope s_is_within) := ⟨rfl, rfl, rfl, by decide +kernel, rfl, by decide +kernel, by decide +kernel⟩
abbrev s_other_side : Stmt := topS 13
abbrev N_other_side : List Str := ["side"]
theorem sc_other_side : FnScope N_other_side ["side"] (defScope s_other_side) := ⟨rfl, rfl, rfl, by decide +kernel, rfl, by decide +kernel, by decide +kernel⟩
abbrev s_accepts : Stmt := topS 14
abbrev N_accepts : List Str := ["side", "limit", "price"]
theorem sc_accepts : FnScope N_accepts ["side", "limit", "price"] (defScope s_accepts) := ⟨rfl, rfl, rfl, by decide +kernel, rfl, by decide +kernel, by decide +kernel⟩
abbrev s_check_house : Stmt := topS 15
abbrev N_check_house : List Str := ["house"]
theorem sc_check_house : FnScope N_check_house ["house"] (defScope s_check_house) := ⟨rfl, rfl, rfl, by decide +kernel, rfl, by decide +kernel, by decide +kernel⟩
abbrev s_check_side : Stmt := topS 16
abbrev N_check_side : List Str := ["side"]
theorem sc_check_side : FnScope N_check_side ["side"] (defScope s_check_side) := ⟨rfl, rfl, rfl, by decide +kernel, rfl, by decide +kernel, by decide +kernel⟩
abbrev s_check_number : Stmt := topS 17
abbrev N_check_number : List Str := ["number", "least", "most"]
theorem sc_check_number : FnScope N_check_number ["number", "least", "most"] (defScope s_check_number) := ⟨rfl, rfl, rfl, by decide +kernel, rfl, by decide +kernel, by decide +kernel⟩
abbrev s_check_price : Stmt := topS 18
abbrev N_check_price : List Str := ["price"]
theorem sc_check_price : FnScope N_check_price ["price"] (defScope s_check_price) := ⟨rfl, rfl, rfl, by decide +kernel, rfl, by decide +kernel, by decide +kernel⟩
abbrev s_check_quantity : Stmt := topS 19
abbrev N_check_quantity : List Str := ["quantity"]
theorem sc_check_quantity : FnScope N_check_quantity ["quantity"] (defScope s_check_quantity) := ⟨rfl, rfl, rfl, by decide +kernel, rfl, by decide +kernel, by decide +kernel⟩
abbrev s_check_order : Stmt := topS 20
abbrev N_check_order : List Str := ["house", "side", "price", "quantity", "kind", "shown"]
theorem sc_check_order : FnScope N_check_order ["house", "side", "price", "quantity", "kind", "shown"] (defScope s_check_order) := ⟨rfl, rfl, rfl, by decide +kernel, rfl, by decide +kernel, by decide +kernel⟩
abbrev s_check_stop : Stmt := topS 21
abbrev N_check_stop : List Str := ["house", "side", "trigger", "price", "quantity"]
theorem sc_check_stop : FnScope N_check_stop ["house", "side", "trigger", "price", "quantity"] (defScope s_check_stop) := ⟨rfl, rfl, rfl, by decide +kernel, rfl, by decide +kernel, by decide +kernel⟩
abbrev s_Order_init : Stmt := inClass (topS 23) 0
abbrev N_Order_init : List Str := ["self", "number", "house", "side", "price", "quantity", "shown"]
theorem sc_Order_init : FnScope N_Order_init ["self", "number", "house", "side", "price", "quantity", "shown"] (defScope s_Order_init) := ⟨rfl, rfl, rfl, by decide +kernel, rfl, by decide +kernel, by decide +kernel⟩
abbrev s_Order_accepts_price : Stmt := inClass (topS 23) 1
abbrev N_Order_accepts_price : List Str := ["self", "price"]
theorem sc_Order_accepts_price : FnScope N_Order_accepts_price ["self", "price"] (defScope s_Order_accepts_price) := ⟨rfl, rfl, rfl, by decide +kernel, rfl, by decide +kernel, by decide +kernel⟩
abbrev s_Order_show_next_part : Stmt := inClass (topS 23) 2
abbrev N_Order_show_next_part : List Str := ["self"]
theorem sc_Order_show_next_part : FnScope N_Order_show_next_part ["self"] (defScope s_Order_show_next_part) := ⟨rfl, rfl, rfl, by decide +kernel, rfl, by decide +kernel, by decide +kernel⟩
abbrev s_Order_trade_visible : Stmt := inClass (topS 23) 3
abbrev N_Order_trade_visible : List Str := ["self", "quantity"]
theorem sc_Order_trade_visible : FnScope N_Order_trade_visible ["self", "quantity"] (defScope s_Order_trade_visible) := ⟨rfl, rfl, rfl, by decide +kernel, rfl, by decide +kernel, by decide +kernel⟩
abbrev s_Stop_init : Stmt := inClass (topS 24) 0
abbrev N_Stop_init : List Str := ["self", "number", "house", "side", "trigger", "price", "quantity"]
theorem sc_Stop_init : FnScope N_Stop_init ["self", "number", "house", "side", "trigger", "price", "quantity"] (defScope s_Stop_init) := ⟨rfl, rfl, rfl, by decide +kernel, rfl, by decide +kernel, by decide +kernel⟩
abbrev s_Stop_is_reached : Stmt := inClass (topS 24) 1
abbrev N_Stop_is_reached : List Str := ["self", "last"]
theorem sc_Stop_is_reached : FnScope N_Stop_is_reached ["self", "last"] (defScope s_Stop_is_reached) := ⟨rfl, rfl, rfl, by decide +kernel, rfl, by decide +kernel, by decide +kernel⟩
abbrev s_Stop_row : Stmt := inClass (topS 24) 2
abbrev N_Stop_row : List Str := ["self"]
theorem sc_Stop_row : FnScope N_Stop_row ["self"] (defScope s_Stop_row) := ⟨rfl, rfl, rfl, by decide +kernel, rfl, by decide +kernel, by decide +kernel⟩
abbrev s_BookSide_init : Stmt := inClass (topS 25) 0
abbrev N_BookSide_init : List Str := ["self"]
theorem sc_BookSide_init : FnScope N_BookSide_init ["self"] (defScope s_BookSide_init) := ⟨rfl, rfl, rfl, by decide +kernel, rfl, by decide +kernel, by decide +kernel⟩
abbrev s_BookSide_rows : Stmt := inClass (topS 25) 1
abbrev N_BookSide_rows : List Str := ["self", "order"]
theorem sc_BookSide_rows : FnScope N_BookSide_rows ["self"] (defScope s_BookSide_rows) := ⟨rfl, rfl, rfl, by decide +kernel, rfl, by decide +kernel, by decide +kernel⟩
abbrev s_BookSide_first : Stmt := inClass (topS 25) 4
abbrev N_BookSide_first : List Str := ["self"]
theorem sc_BookSide_first : FnScope N_BookSide_first ["self"] (defScope s_BookSide_first) := ⟨rfl, rfl, rfl, by decide +kernel, rfl, by decide +kernel, by decide +kernel⟩
abbrev s_BookSide_with_number : Stmt := inClass (topS 25) 5
abbrev N_BookSide_with_number : List Str := ["self", "number", "order"]
theorem sc_BookSide_with_number : FnScope N_BookSide_with_number ["self", "number"] (defScope s_BookSide_with_number) := ⟨rfl, rfl, rfl, by decide +kernel, rfl, by decide +kernel, by decide +kernel⟩
abbrev s_BookSide_available : Stmt := inClass (topS 25) 6
abbrev N_BookSide_available : List Str := ["self", "taker", "lefts", "order"]
theorem sc_BookSide_available : FnScope N_BookSide_available ["self", "taker"] (defScope s_BookSide_available) := ⟨rfl, rfl, rfl, by decide +kernel, rfl, by decide +kernel, by decide +kernel⟩
abbrev s_BookSide_enter : Stmt := inClass (topS 25) 7
abbrev N_BookSide_enter : List Str := ["self", "order"]
theorem sc_BookSide_enter : FnScope N_BookSide_enter ["self", "order"] (defScope s_BookSide_enter) := ⟨rfl, rfl, rfl, by decide +kernel, rfl, by decide +kernel, by decide +kernel⟩
abbrev s_BookSideplace_behind : Stmt := inClass (topS 25) 8
abbrev N_BookSideplace_behind : List Str := ["self", "order", "low", "high", "middle"]
theorem sc_BookSideplace_behind : FnScope N_BookSideplace_behind ["self", "order"] (defScope s_BookSideplace_behind) := ⟨rfl, rfl, rfl, by decide +kernel, rfl, by decide +kernel, by decide +kernel⟩
abbrev s_BookSide_leave : Stmt := inClass (topS 25) 9
abbrev N_BookSide_leave : List Str := ["self", "order"]
theorem sc_BookSide_leave : FnScope N_BookSide_leave ["self", "order"] (defScope s_BookSide_leave) := ⟨rfl, rfl, rfl, by decide +kernel, rfl, by decide +kernel, by decide +kernel⟩
abbrev s_BookSide_trade_first : Stmt := inClass (topS 25) 10
abbrev N_BookSide_trade_first : List Str := ["self", "quantity", "first"]
theorem sc_BookSide_trade_first : FnScope N_BookSide_trade_first ["self", "quantity"] (defScope s_BookSide_trade_first) := ⟨rfl, rfl, rfl, by decide +kernel, rfl, by decide +kernel, by decide +kernel⟩
abbrev s_Report_init : Stmt := inClass (topS 27) 0
abbrev N_Report_init : List Str := ["self", "number", "house", "side"]
theorem sc_Report_init : FnScope N_Report_init ["self", "number", "house", "side"] (defScope s_Report_init) := ⟨rfl, rfl, rfl, by decide +kernel, rfl, by decide +kernel, by decide +kernel⟩
abbrev s_Book_init : Stmt := inClass (topS 28) 0
abbrev N_Book_init : List Str := ["self", "first_number"]
theorem sc_Book_init : FnScope N_Book_init ["self", "first_number"] (defScope s_Book_init) := ⟨rfl, rfl, rfl, by decide +kernel, rfl, by decide +kernel, by decide +kernel⟩
abbrev s_Book_submit : Stmt := inClass (topS 28) 1
abbrev N_Book_submit : List Str := ["self", "house", "side", "price", "quantity", "kind", "shown", "order", "report"]
theorem sc_Book_submit : FnScope N_Book_submit ["self", "house", "side", "price", "quantity", "kind", "shown"] (defScope s_Book_submit) := ⟨rfl, rfl, rfl, by decide +kernel, rfl, by decide +kernel, by decide +kernel⟩
abbrev s_Book_submit_stop : Stmt := inClass (topS 28) 2
abbrev N_Book_submit_stop : List Str := ["self", "house", "side", "trigger", "price", "quantity", "stop"]
theorem sc_Book_submit_stop : FnScope N_Book_submit_stop ["self", "house", "side", "trigger", "price", "quantity"] (defScope s_Book_submit_stop) := ⟨rfl, rfl, rfl, by decide +kernel, rfl, by decide +kernel, by decide +kernel⟩
abbrev s_Book_cancel : Stmt := inClass (topS 28) 4
abbrev N_Book_cancel : List Str := ["self", "number", "house", "stop", "order"]
theorem sc_Book_cancel : FnScope N_Book_cancel ["self", "number", "house"] (defScope s_Book_cancel) := ⟨rfl, rfl, rfl, by decide +kernel, rfl, by decide +kernel, by decide +kernel⟩
abbrev s_Book_orders : Stmt := inClass (topS 28) 6
abbrev N_Book_orders : List Str := ["self", "side"]
theorem sc_Book_orders : FnScope N_Book_orders ["self", "side"] (defScope s_Book_orders) := ⟨rfl, rfl, rfl, by decide +kernel, rfl, by decide +kernel, by decide +kernel⟩
abbrev s_Book_stops : Stmt := inClass (topS 28) 7
abbrev N_Book_stops : List Str := ["self", "stop"]
theorem sc_Book_stops : FnScope N_Book_stops ["self"] (defScope s_Book_stops) := ⟨rfl, rfl, rfl, by decide +kernel, rfl, by decide +kernel, by decide +kernel⟩
abbrev s_Booktake_number : Stmt := inClass (topS 28) 11
abbrev N_Booktake_number : List Str := ["self", "number"]
theorem sc_Booktake_number : FnScope N_Booktake_number ["self"] (defScope s_Booktake_number) := ⟨rfl, rfl, rfl, by decide +kernel, rfl, by decide +kernel, by decide +kernel⟩
abbrev s_Bookenter : Stmt := inClass (topS 28) 12
abbrev N_Bookenter : List Str := ["self", "order", "kind", "report", "across", "first", "quantity"]
theorem sc_Bookenter : FnScope N_Bookenter ["self", "order", "kind"] (defScope s_Bookenter) := ⟨rfl, rfl, rfl, by decide +kernel, rfl, by decide +kernel, by decide +kernel⟩
abbrev s_Bookorder_of : Stmt := inClass (topS 28) 15
abbrev N_Bookorder_of : List Str := ["self", "number", "house", "order"]
theorem sc_Bookorder_of : FnScope N_Bookorder_of ["self", "number", "house"] (defScope s_Bookorder_of) := ⟨rfl, rfl, rfl, by decide +kernel, rfl, by decide +kernel, by decide +kernel⟩
abbrev s_Bookorder_with : Stmt := inClass (topS 28) 16
abbrev N_Bookorder_with : List Str := ["self", "number", "order"]
theorem sc_Bookorder_with : FnScope N_Bookorder_with ["self", "number"] (defScope s_Bookorder_with) := ⟨rfl, rfl, rfl, by decide +kernel, rfl, by decide +kernel, by decide +kernel⟩
abbrev s_Bookstop_with : Stmt := inClass (topS 28) 17
abbrev N_Bookstop_with : List Str := ["self", "number", "stop"]
theorem sc_Bookstop_with : FnScope N_Bookstop_with ["self", "number"] (defScope s_Bookstop_with) := ⟨rfl, rfl, rfl, by decide +kernel, rfl, by decide +kernel, by decide +kernel⟩
abbrev s_Booktrigger_stops : Stmt := inClass (topS 28) 18
abbrev N_Booktrigger_stops : List Str := ["self", "reports", "stop", "kind", "order"]
theorem sc_Booktrigger_stops : FnScope N_Booktrigger_stops ["self"] (defScope s_Booktrigger_stops) := ⟨rfl, rfl, rfl, by decide +kernel, rfl, by decide +kernel, by decide +kernel⟩
abbrev s_Bookfirst_reached : Stmt := inClass (topS 28) 19
abbrev N_Bookfirst_reached : List Str := ["self", "stop"]
theorem sc_Bookfirst_reached : FnScope N_Bookfirst_reached ["self"] (defScope s_Bookfirst_reached) := ⟨rfl, rfl, rfl, by decide +kernel, rfl, by decide +kernel, by decide +kernel⟩
abbrev s_law_house : Stmt := topS 30
abbrev N_law_house : List Str := ["cell"]
theorem sc_law_house : FnScope N_law_house ["cell"] (defScope s_law_house) := ⟨rfl, rfl, rfl, by decide +kernel, rfl, by decide +kernel, by decide +kernel⟩
abbrev s_law_reached : Stmt := topS 31
abbrev N_law_reached : List Str := ["row", "last"]
theorem sc_law_reached : FnScope N_law_reached ["row", "last"] (defScope s_law_reached) := ⟨rfl, rfl, rfl, by decide +kernel, rfl, by decide +kernel, by decide +kernel⟩
abbrev s_law_run : Stmt := topS 32
abbrev N_law_run : List Str := ["book", "cell", "count", "house", "side", "price", "quantity", "step", "limit"]
theorem sc_law_run : FnScope N_law_run ["book", "cell", "count"] (defScope s_law_run) := ⟨rfl, rfl, rfl, by decide +kernel, rfl, by decide +kernel, by decide +kernel⟩
abbrev s_law_last : Stmt := topS 33
abbrev N_law_last : List Str := ["last", "reports", "report", "fill"]
theorem sc_law_last : FnScope N_law_last ["last", "reports"] (defScope s_law_last) := ⟨rfl, rfl, rfl, by decide +kernel, rfl, by decide +kernel, by decide +kernel⟩
abbrev s_law_stops_right : Stmt := topS 34
abbrev N_law_stops_right : List Str := ["book", "before", "reports", "numbers", "row", "triggered", "report", "number"]
theorem sc_law_stops_right : FnScope N_law_stops_right ["book", "before", "reports"] (defScope s_law_stops_right) := ⟨rfl, rfl, rfl, by decide +kernel, rfl, by decide +kernel, by decide +kernel⟩
abbrev s_law : Stmt := topS 35
abbrev N_law : List Str := ["script", "book", "last", "count", "cell", "before", "row", "reports", "now", "number", "report"]
theorem sc_law : FnScope N_law ["script"] (defScope s_law) := ⟨rfl, rfl, rfl, by decide +kernel, rfl, by decide +kernel, by decide +kernel⟩
set_option maxHeartbeats 0 in
structure Txt (K : PySem.W.Frag) (mg : Str → Option Value) where
  f_is_integral : Addr
  d_is_integral : FuncData
  F_is_integral : Fun K "is_integral" "is_integral" s_is_integral f_is_integral d_is_integral
  m_is_integral : mg "is_integral" = some (.ref f_is_integral)
  b_is_integral : Binds K d_is_integral ["value"] []
  f_is_within : Addr
  d_is_within : FuncData
  F_is_within : Fun K "is_within" "is_within" s_is_within f_is_within d_is_within
  m_is_within : mg "is_within" = some (.ref f_is_within)
  b_is_within : Binds K d_is_within ["least", "most", "value"] []
  f_other_side : Addr
  d_other_side : FuncData
  F_other_side : Fun K "other_side" "other_side" s_other_side f_other_side d_other_side
  m_other_side : mg "other_side" = some (.ref f_other_side)
  b_other_side : Binds K d_other_side ["side"] []
  f_accepts : Addr
  d_accepts : FuncData
  F_accepts : Fun K "accepts" "accepts" s_accepts f_accepts d_accepts
  m_accepts : mg "accepts" = some (.ref f_accepts)
  b_accepts : Binds K d_accepts ["side", "limit", "price"] []
  f_check_house : Addr
  d_check_house : FuncData
  F_check_house : Fun K "check_house" "check_house" s_check_house f_check_house d_check_house
  m_check_house : mg "check_house" = some (.ref f_check_house)
  b_check_house : Binds K d_check_house ["house"] []
  f_check_side : Addr
  d_check_side : FuncData
  F_check_side : Fun K "check_side" "check_side" s_check_side f_check_side d_check_side
  m_check_side : mg "check_side" = some (.ref f_check_side)
  b_check_side : Binds K d_check_side ["side"] []
  f_check_number : Addr
  d_check_number : FuncData
  F_check_number : Fun K "check_number" "check_number" s_check_number f_check_number d_check_number
  m_check_number : mg "check_number" = some (.ref f_check_number)
  b_check_number : Binds K d_check_number ["number", "least", "most"] []
  f_check_price : Addr
  d_check_price : FuncData
  F_check_price : Fun K "check_price" "check_price" s_check_price f_check_price d_check_price
  m_check_price : mg "check_price" = some (.ref f_check_price)
  b_check_price : Binds K d_check_price ["price"] []
  f_check_quantity : Addr
  d_check_quantity : FuncData
  F_check_quantity : Fun K "check_quantity" "check_quantity" s_check_quantity f_check_quantity d_check_quantity
  m_check_quantity : mg "check_quantity" = some (.ref f_check_quantity)
  b_check_quantity : Binds K d_check_quantity ["quantity"] []
  f_check_order : Addr
  d_check_order : FuncData
  F_check_order : Fun K "check_order" "check_order" s_check_order f_check_order d_check_order
  m_check_order : mg "check_order" = some (.ref f_check_order)
  b_check_order : Binds K d_check_order ["house", "side", "price", "quantity", "kind", "shown"] []
  f_check_stop : Addr
  d_check_stop : FuncData
  F_check_stop : Fun K "check_stop" "check_stop" s_check_stop f_check_stop d_check_stop
  m_check_stop : mg "check_stop" = some (.ref f_check_stop)
  b_check_stop : Binds K d_check_stop ["house", "side", "trigger", "price", "quantity"] []
  f_Order_init : Addr
  d_Order_init : FuncData
  F_Order_init : Fun K "__init__" "Order.__init__" s_Order_init f_Order_init d_Order_init
  b_Order_init : Binds K d_Order_init ["self", "number", "house", "side", "price", "quantity", "shown"] []
  f_Order_accepts_price : Addr
  d_Order_accepts_price : FuncData
  F_Order_accepts_price : Fun K "accepts_price" "Order.accepts_price" s_Order_accepts_price f_Order_accepts_price d_Order_accepts_price
  b_Order_accepts_price : Binds K d_Order_accepts_price ["self", "price"] []
  f_Order_show_next_part : Addr
  d_Order_show_next_part : FuncData
  F_Order_show_next_part : Fun K "show_next_part" "Order.show_next_part" s_Order_show_next_part f_Order_show_next_part d_Order_show_next_part
  b_Order_show_next_part : Binds K d_Order_show_next_part ["self"] []
  f_Order_trade_visible : Addr
  d_Order_trade_visible : FuncData
  F_Order_trade_visible : Fun K "trade_visible" "Order.trade_visible" s_Order_trade_visible f_Order_trade_visible d_Order_trade_visible
  b_Order_trade_visible : Binds K d_Order_trade_visible ["self", "quantity"] []
  f_Stop_init : Addr
  d_Stop_init : FuncData
  F_Stop_init : Fun K "__init__" "Stop.__init__" s_Stop_init f_Stop_init d_Stop_init
  b_Stop_init : Binds K d_Stop_init ["self", "number", "house", "side", "trigger", "price", "quantity"] []
  f_Stop_is_reached : Addr
  d_Stop_is_reached : FuncData
  F_Stop_is_reached : Fun K "is_reached" "Stop.is_reached" s_Stop_is_reached f_Stop_is_reached d_Stop_is_reached
  b_Stop_is_reached : Binds K d_Stop_is_reached ["self", "last"] []
  f_Stop_row : Addr
  d_Stop_row : FuncData
  F_Stop_row : Fun K "row" "Stop.row" s_Stop_row f_Stop_row d_Stop_row
  b_Stop_row : Binds K d_Stop_row ["self"] []
  f_BookSide_init : Addr
  d_BookSide_init : FuncData
  F_BookSide_init : Fun K "__init__" "BookSide.__init__" s_BookSide_init f_BookSide_init d_BookSide_init
  b_BookSide_init : Binds K d_BookSide_init ["self"] []
  f_BookSide_rows : Addr
  d_BookSide_rows : FuncData
  F_BookSide_rows : Fun K "rows" "BookSide.rows" s_BookSide_rows f_BookSide_rows d_BookSide_rows
  b_BookSide_rows : Binds K d_BookSide_rows ["self"] []
  f_BookSide_first : Addr
  d_BookSide_first : FuncData
  F_BookSide_first : Fun K "first" "BookSide.first" s_BookSide_first f_BookSide_first d_BookSide_first
  b_BookSide_first : Binds K d_BookSide_first ["self"] []
  f_BookSide_with_number : Addr
  d_BookSide_with_number : FuncData
  F_BookSide_with_number : Fun K "with_number" "BookSide.with_number" s_BookSide_with_number f_BookSide_with_number d_BookSide_with_number
  b_BookSide_with_number : Binds K d_BookSide_with_number ["self", "number"] []
  f_BookSide_available : Addr
  d_BookSide_available : FuncData
  F_BookSide_available : Fun K "available" "BookSide.available" s_BookSide_available f_BookSide_available d_BookSide_available
  b_BookSide_available : Binds K d_BookSide_available ["self", "taker"] []
  f_BookSide_enter : Addr
  d_BookSide_enter : FuncData
  F_BookSide_enter : Fun K "enter" "BookSide.enter" s_BookSide_enter f_BookSide_enter d_BookSide_enter
  b_BookSide_enter : Binds K d_BookSide_enter ["self", "order"] []
  f_BookSideplace_behind : Addr
  d_BookSideplace_behind : FuncData
  F_BookSideplace_behind : Fun K "_place_behind" "BookSide._place_behind" s_BookSideplace_behind f_BookSideplace_behind d_BookSideplace_behind
  b_BookSideplace_behind : Binds K d_BookSideplace_behind ["self", "order"] []
  f_BookSide_leave : Addr
  d_BookSide_leave : FuncData
  F_BookSide_leave : Fun K "leave" "BookSide.leave" s_BookSide_leave f_BookSide_leave d_BookSide_leave
  b_BookSide_leave : Binds K d_BookSide_leave ["self", "order"] []
  f_BookSide_trade_first : Addr
  d_BookSide_trade_first : FuncData
  F_BookSide_trade_first : Fun K "trade_first" "BookSide.trade_first" s_BookSide_trade_first f_BookSide_trade_first d_BookSide_trade_first
  b_BookSide_trade_first : Binds K d_BookSide_trade_first ["self", "quantity"] []
  f_Report_init : Addr
  d_Report_init : FuncData
  F_Report_init : Fun K "__init__" "Report.__init__" s_Report_init f_Report_init d_Report_init
  b_Report_init : Binds K d_Report_init ["self", "number", "house", "side"] []
  f_Book_init : Addr
  d_Book_init : FuncData
  F_Book_init : FunD K "__init__" "Book.__init__" (defArgs s_Book_init) (defBody s_Book_init) (defScope s_Book_init) [.int 1] [] f_Book_init d_Book_init
  b0_Book_init : ∃ ds, Vals [.int 1] ds ∧ Binds K d_Book_init ["self", "first_number"] ds
  b_Book_init : Binds K d_Book_init ["self", "first_number"] []
  f_Book_submit : Addr
  d_Book_submit : FuncData
  F_Book_submit : FunD K "submit" "Book.submit" (defArgs s_Book_submit) (defBody s_Book_submit) (defScope s_Book_submit) [] [("kind", .str "rest"), ("shown", .int 0)] f_Book_submit d_Book_submit
  b_Book_submit : ∃ ds, Vals [.str "rest", .int 0] ds ∧ Binds K d_Book_submit ["self", "house", "side", "price", "quantity", "kind", "shown"] ds
  kb_Book_submit_kind : ∃ g : List Value → List Value → List Value, KBn K d_Book_submit ["self", "house", "side", "price", "quantity", "kind", "shown"] 5 ["kind"] g (fun vs zs => vs ++ zs ++ ([.int 0] : List V))
  f_Book_submit_stop : Addr
  d_Book_submit_stop : FuncData
  F_Book_submit_stop : Fun K "submit_stop" "Book.submit_stop" s_Book_submit_stop f_Book_submit_stop d_Book_submit_stop
  b_Book_submit_stop : Binds K d_Book_submit_stop ["self", "house", "side", "trigger", "price", "quantity"] []
  f_Book_cancel : Addr
  d_Book_cancel : FuncData
  F_Book_cancel : Fun K "cancel" "Book.cancel" s_Book_cancel f_Book_cancel d_Book_cancel
  b_Book_cancel : Binds K d_Book_cancel ["self", "number", "house"] []
  f_Book_orders : Addr
  d_Book_orders : FuncData
  F_Book_orders : Fun K "orders" "Book.orders" s_Book_orders f_Book_orders d_Book_orders
  b_Book_orders : Binds K d_Book_orders ["self", "side"] []
  f_Book_stops : Addr
  d_Book_stops : FuncData
  F_Book_stops : Fun K "stops" "Book.stops" s_Book_stops f_Book_stops d_Book_stops
  b_Book_stops : Binds K d_Book_stops ["self"] []
  f_Booktake_number : Addr
  d_Booktake_number : FuncData
  F_Booktake_number : Fun K "_take_number" "Book._take_number" s_Booktake_number f_Booktake_number d_Booktake_number
  b_Booktake_number : Binds K d_Booktake_number ["self"] []
  f_Bookenter : Addr
  d_Bookenter : FuncData
  F_Bookenter : Fun K "_enter" "Book._enter" s_Bookenter f_Bookenter d_Bookenter
  b_Bookenter : Binds K d_Bookenter ["self", "order", "kind"] []
  f_Bookorder_of : Addr
  d_Bookorder_of : FuncData
  F_Bookorder_of : Fun K "_order_of" "Book._order_of" s_Bookorder_of f_Bookorder_of d_Bookorder_of
  b_Bookorder_of : Binds K d_Bookorder_of ["self", "number", "house"] []
  f_Bookorder_with : Addr
  d_Bookorder_with : FuncData
  F_Bookorder_with : Fun K "_order_with" "Book._order_with" s_Bookorder_with f_Bookorder_with d_Bookorder_with
  b_Bookorder_with : Binds K d_Bookorder_with ["self", "number"] []
  f_Bookstop_with : Addr
  d_Bookstop_with : FuncData
  F_Bookstop_with : Fun K "_stop_with" "Book._stop_with" s_Bookstop_with f_Bookstop_with d_Bookstop_with
  b_Bookstop_with : Binds K d_Bookstop_with ["self", "number"] []
  f_Booktrigger_stops : Addr
  d_Booktrigger_stops : FuncData
  F_Booktrigger_stops : Fun K "_trigger_stops" "Book._trigger_stops" s_Booktrigger_stops f_Booktrigger_stops d_Booktrigger_stops
  b_Booktrigger_stops : Binds K d_Booktrigger_stops ["self"] []
  f_Bookfirst_reached : Addr
  d_Bookfirst_reached : FuncData
  F_Bookfirst_reached : Fun K "_first_reached" "Book._first_reached" s_Bookfirst_reached f_Bookfirst_reached d_Bookfirst_reached
  b_Bookfirst_reached : Binds K d_Bookfirst_reached ["self"] []
  f_law_house : Addr
  d_law_house : FuncData
  F_law_house : Fun K "_law_house" "_law_house" s_law_house f_law_house d_law_house
  m_law_house : mg "_law_house" = some (.ref f_law_house)
  b_law_house : Binds K d_law_house ["cell"] []
  f_law_reached : Addr
  d_law_reached : FuncData
  F_law_reached : Fun K "_law_reached" "_law_reached" s_law_reached f_law_reached d_law_reached
  m_law_reached : mg "_law_reached" = some (.ref f_law_reached)
  b_law_reached : Binds K d_law_reached ["row", "last"] []
  f_law_run : Addr
  d_law_run : FuncData
  F_law_run : Fun K "_law_run" "_law_run" s_law_run f_law_run d_law_run
  m_law_run : mg "_law_run" = some (.ref f_law_run)
  b_law_run : Binds K d_law_run ["book", "cell", "count"] []
  f_law_last : Addr
  d_law_last : FuncData
  F_law_last : Fun K "_law_last" "_law_last" s_law_last f_law_last d_law_last
  m_law_last : mg "_law_last" = some (.ref f_law_last)
  b_law_last : Binds K d_law_last ["last", "reports"] []
  f_law_stops_right : Addr
  d_law_stops_right : FuncData
  F_law_stops_right : Fun K "_law_stops_right" "_law_stops_right" s_law_stops_right f_law_stops_right d_law_stops_right
  m_law_stops_right : mg "_law_stops_right" = some (.ref f_law_stops_right)
  b_law_stops_right : Binds K d_law_stops_right ["book", "before", "reports"] []
  c_BourseError : Addr
  m_BourseError : mg "BourseError" = some (.ref c_BourseError)
  x_BourseError : PySem.W.excIn K c_BourseError [.type "ValueError", .type "Exception", .type "BaseException", .type "object"] "ValueError.__new__" = true
  k_BourseError : PySem.W.keepIn K (.ref c_BourseError) = true
  b_BourseError : PySem.W.subIn K (.ref c_BourseError) (.type "BaseException") = some true
  t_BourseError : PySem.W.typeIn K (.ref c_BourseError) = some (.type "type")
  d_BourseError : PySem.W.hasDictIn K c_BourseError = true
  s_BourseError : PySem.W.subIn K (.ref c_BourseError) (.ref c_BourseError) = some true
  eg_BourseError : PySem.W.findIn K (.ref c_BourseError) "__getattribute__" = some (some (.builtin "BaseException.__getattribute__"))
  ek_BourseError : PySem.W.findIn K (.ref c_BourseError) "__getattr__" = some none
  ea_BourseError : PySem.W.findIn K (.ref c_BourseError) "__class__" = some (some (.builtin "object.__class__"))
  en_BourseError : PySem.W.specialIn K (.builtin "object.__class__") "__get__" = some (some (.builtin "getset_descriptor.__get__"))
  et_BourseError : PySem.W.takesIn K (.builtin "object.__class__") = some true
  em_BourseError : PySem.W.mroIn K c_BourseError (.type "object") = some true
  e_BourseError : ExcC K c_BourseError
  c_InvalidOrder : Addr
  m_InvalidOrder : mg "InvalidOrder" = some (.ref c_InvalidOrder)
  x_InvalidOrder : PySem.W.excIn K c_InvalidOrder [.type "ValueError", .type "Exception", .type "BaseException", .type "object"] "ValueError.__new__" = true
  k_InvalidOrder : PySem.W.keepIn K (.ref c_InvalidOrder) = true
  b_InvalidOrder : PySem.W.subIn K (.ref c_InvalidOrder) (.type "BaseException") = some true
  t_InvalidOrder : PySem.W.typeIn K (.ref c_InvalidOrder) = some (.type "type")
  d_InvalidOrder : PySem.W.hasDictIn K c_InvalidOrder = true
  s_InvalidOrder : PySem.W.subIn K (.ref c_InvalidOrder) (.ref c_InvalidOrder) = some true
  c_UnknownOrder : Addr
  m_UnknownOrder : mg "UnknownOrder" = some (.ref c_UnknownOrder)
  x_UnknownOrder : PySem.W.excIn K c_UnknownOrder [.type "ValueError", .type "Exception", .type "BaseException", .type "object"] "ValueError.__new__" = true
  k_UnknownOrder : PySem.W.keepIn K (.ref c_UnknownOrder) = true
  b_UnknownOrder : PySem.W.subIn K (.ref c_UnknownOrder) (.type "BaseException") = some true
  t_UnknownOrder : PySem.W.typeIn K (.ref c_UnknownOrder) = some (.type "type")
  d_UnknownOrder : PySem.W.hasDictIn K c_UnknownOrder = true
  s_UnknownOrder : PySem.W.subIn K (.ref c_UnknownOrder) (.ref c_UnknownOrder) = some true
  c_NotOwner : Addr
  m_NotOwner : mg "NotOwner" = some (.ref c_NotOwner)
  x_NotOwner : PySem.W.excIn K c_NotOwner [.type "ValueError", .type "Exception", .type "BaseException", .type "object"] "ValueError.__new__" = true
  k_NotOwner : PySem.W.keepIn K (.ref c_NotOwner) = true
  b_NotOwner : PySem.W.subIn K (.ref c_NotOwner) (.type "BaseException") = some true
  t_NotOwner : PySem.W.typeIn K (.ref c_NotOwner) = some (.type "type")
  d_NotOwner : PySem.W.hasDictIn K c_NotOwner = true
  s_NotOwner : PySem.W.subIn K (.ref c_NotOwner) (.ref c_NotOwner) = some true
  c_Order : Addr
  m_Order : mg "Order" = some (.ref c_Order)
  pg_Order : PySem.W.plainGet K c_Order Str.empty = true
  hd_Order : PySem.W.hasDictIn K c_Order = true
  po_Order : PySem.W.plainOver K c_Order = true
  sa_Order : PySem.W.findIn K (.ref c_Order) "__setattr__" = some (some (.builtin "object.__setattr__"))
  ma_Order : PySem.W.makesIn K c_Order = true
  kc_Order : PySem.W.keepIn K (.ref c_Order) = true
  eq_Order : PySem.W.findIn K (.ref c_Order) "__eq__" = some (some (.builtin "object.__eq__"))
  mo_Order : PySem.W.mroIn K c_Order (.type "object") = some true
  cl_Order : Cls K c_Order
  na_Order_number : PySem.W.findIn K (.ref c_Order) "number" = some none
  na_Order_house : PySem.W.findIn K (.ref c_Order) "house" = some none
  na_Order_side : PySem.W.findIn K (.ref c_Order) "side" = some none
  na_Order_price : PySem.W.findIn K (.ref c_Order) "price" = some none
  na_Order_shown : PySem.W.findIn K (.ref c_Order) "shown" = some none
  na_Order_left : PySem.W.findIn K (.ref c_Order) "left" = some none
  na_Order_visible : PySem.W.findIn K (.ref c_Order) "visible" = some none
  c_Stop : Addr
  m_Stop : mg "Stop" = some (.ref c_Stop)
  pg_Stop : PySem.W.plainGet K c_Stop Str.empty = true
  hd_Stop : PySem.W.hasDictIn K c_Stop = true
  po_Stop : PySem.W.plainOver K c_Stop = true
  sa_Stop : PySem.W.findIn K (.ref c_Stop) "__setattr__" = some (some (.builtin "object.__setattr__"))
  ma_Stop : PySem.W.makesIn K c_Stop = true
  kc_Stop : PySem.W.keepIn K (.ref c_Stop) = true
  eq_Stop : PySem.W.findIn K (.ref c_Stop) "__eq__" = some (some (.builtin "object.__eq__"))
  mo_Stop : PySem.W.mroIn K c_Stop (.type "object") = some true
  cl_Stop : Cls K c_Stop
  na_Stop_number : PySem.W.findIn K (.ref c_Stop) "number" = some none
  na_Stop_house : PySem.W.findIn K (.ref c_Stop) "house" = some none
  na_Stop_side : PySem.W.findIn K (.ref c_Stop) "side" = some none
  na_Stop_trigger : PySem.W.findIn K (.ref c_Stop) "trigger" = some none
  na_Stop_price : PySem.W.findIn K (.ref c_Stop) "price" = some none
  na_Stop_quantity : PySem.W.findIn K (.ref c_Stop) "quantity" = some none
  c_BookSide : Addr
  m_BookSide : mg "BookSide" = some (.ref c_BookSide)
  pg_BookSide : PySem.W.plainGet K c_BookSide Str.empty = true
  hd_BookSide : PySem.W.hasDictIn K c_BookSide = true
  po_BookSide : PySem.W.plainOver K c_BookSide = true
  sa_BookSide : PySem.W.findIn K (.ref c_BookSide) "__setattr__" = some (some (.builtin "object.__setattr__"))
  ma_BookSide : PySem.W.makesIn K c_BookSide = true
  kc_BookSide : PySem.W.keepIn K (.ref c_BookSide) = true
  cl_BookSide : Cls K c_BookSide
  na_BookSide__orders : PySem.W.findIn K (.ref c_BookSide) "_orders" = some none
  c_Report : Addr
  m_Report : mg "Report" = some (.ref c_Report)
  pg_Report : PySem.W.plainGet K c_Report Str.empty = true
  hd_Report : PySem.W.hasDictIn K c_Report = true
  po_Report : PySem.W.plainOver K c_Report = true
  sa_Report : PySem.W.findIn K (.ref c_Report) "__setattr__" = some (some (.builtin "object.__setattr__"))
  ma_Report : PySem.W.makesIn K c_Report = true
  kc_Report : PySem.W.keepIn K (.ref c_Report) = true
  cl_Report : Cls K c_Report
  na_Report_number : PySem.W.findIn K (.ref c_Report) "number" = some none
  na_Report_house : PySem.W.findIn K (.ref c_Report) "house" = some none
  na_Report_side : PySem.W.findIn K (.ref c_Report) "side" = some none
  na_Report_fills : PySem.W.findIn K (.ref c_Report) "fills" = some none
  na_Report_removed : PySem.W.findIn K (.ref c_Report) "removed" = some none
  na_Report_resting : PySem.W.findIn K (.ref c_Report) "resting" = some none
  c_Book : Addr
  m_Book : mg "Book" = some (.ref c_Book)
  pg_Book : PySem.W.plainGet K c_Book Str.empty = true
  hd_Book : PySem.W.hasDictIn K c_Book = true
  po_Book : PySem.W.plainOver K c_Book = true
  sa_Book : PySem.W.findIn K (.ref c_Book) "__setattr__" = some (some (.builtin "object.__setattr__"))
  ma_Book : PySem.W.makesIn K c_Book = true
  kc_Book : PySem.W.keepIn K (.ref c_Book) = true
  cl_Book : Cls K c_Book
  na_Book_last : PySem.W.findIn K (.ref c_Book) "last" = some none
  na_Book__next_number : PySem.W.findIn K (.ref c_Book) "_next_number" = some none
  na_Book__sides : PySem.W.findIn K (.ref c_Book) "_sides" = some none
  na_Book__stops : PySem.W.findIn K (.ref c_Book) "_stops" = some none
  mk_Order : Mk K c_Order f_Order_init
  mt_Order_accepts_price : Meth K c_Order "accepts_price" f_Order_accepts_price
  mt_Order_show_next_part : Meth K c_Order "show_next_part" f_Order_show_next_part
  mt_Order_trade_visible : Meth K c_Order "trade_visible" f_Order_trade_visible
  mk_Stop : Mk K c_Stop f_Stop_init
  mt_Stop_is_reached : Meth K c_Stop "is_reached" f_Stop_is_reached
  mt_Stop_row : Meth K c_Stop "row" f_Stop_row
  mk_BookSide : Mk K c_BookSide f_BookSide_init
  mt_BookSide_rows : Meth K c_BookSide "rows" f_BookSide_rows
  mt_BookSide_first : Meth K c_BookSide "first" f_BookSide_first
  mt_BookSide_with_number : Meth K c_BookSide "with_number" f_BookSide_with_number
  mt_BookSide_available : Meth K c_BookSide "available" f_BookSide_available
  mt_BookSide_enter : Meth K c_BookSide "enter" f_BookSide_enter
  mt_BookSideplace_behind : Meth K c_BookSide "_place_behind" f_BookSideplace_behind
  mt_BookSide_leave : Meth K c_BookSide "leave" f_BookSide_leave
  mt_BookSide_trade_first : Meth K c_BookSide "trade_first" f_BookSide_trade_first
  mk_Report : Mk K c_Report f_Report_init
  mk_Book : Mk K c_Book f_Book_init
  mt_Book_submit : Meth K c_Book "submit" f_Book_submit
  mt_Book_submit_stop : Meth K c_Book "submit_stop" f_Book_submit_stop
  mt_Book_cancel : Meth K c_Book "cancel" f_Book_cancel
  mt_Book_orders : Meth K c_Book "orders" f_Book_orders
  mt_Book_stops : Meth K c_Book "stops" f_Book_stops
  mt_Booktake_number : Meth K c_Book "_take_number" f_Booktake_number
  mt_Bookenter : Meth K c_Book "_enter" f_Bookenter
  mt_Bookorder_of : Meth K c_Book "_order_of" f_Bookorder_of
  mt_Bookorder_with : Meth K c_Book "_order_with" f_Bookorder_with
  mt_Bookstop_with : Meth K c_Book "_stop_with" f_Bookstop_with
  mt_Booktrigger_stops : Meth K c_Book "_trigger_stops" f_Booktrigger_stops
  mt_Bookfirst_reached : Meth K c_Book "_first_reached" f_Bookfirst_reached
  su_UnknownOrder_BourseError : PySem.W.subIn K (.ref c_UnknownOrder) (.ref c_BourseError) = some true
  su_NotOwner_BourseError : PySem.W.subIn K (.ref c_NotOwner) (.ref c_BourseError) = some true
  z_bool : mg "bool" = none
  z_enumerate : mg "enumerate" = none
  z_int : mg "int" = none
  z_isinstance : mg "isinstance" = none
  z_len : mg "len" = none
  z_min : mg "min" = none
  z_sorted : mg "sorted" = none
  z_sum : mg "sum" = none
  c_SIDES : Addr
  m_SIDES : mg "SIDES" = some (.ref c_SIDES)
  q_SIDES : ∀ H : Hp, SqT K H c_SIDES [.str "buy", .str "sell"]
  c_KINDS : Addr
  m_KINDS : mg "KINDS" = some (.ref c_KINDS)
  q_KINDS : ∀ H : Hp, SqT K H c_KINDS [.str "rest", .str "now", .str "all"]
  t_MOST : Tok
  m_MOST : mg "MOST" = some (.int 1000000 t_MOST)
/-! own short words -/
theorem iteD {p A B : Prop} [Decidable p] (h1 : p → A) (h2 : ¬ p → B) : if decide p = true then A else B := by
  by_cases h : p
  · rw [decide_eq_true h, if_pos rfl]; exact h1 h
  · rw [decide_eq_false h, if_neg Bool.false_ne_true]; exact h2 h
theorem iteDN {p A B : Prop} [Decidable p] (h1 : ¬ p → A) (h2 : p → B) : if (!decide p) = true then A else B := by
  by_cases h : p
  · rw [decide_eq_true h]; exact iteF (h2 h)
  · rw [decide_eq_false h]; exact iteT (h1 h)
theorem len_le {n : Nat} (h : Nat.ble n 1000 = true) : n ≤ sizeLine := Nat.le_trans (Nat.le_of_ble_eq_true h) (by decide)
theorem iteB {b : Bool} {A B : Prop} (h1 : b = true → A) (h2 : b = false → B) : if b = true then A else B := by
  cases b with
  | true => exact iteT (h1 rfl)
  | false => exact iteF (h2 rfl)
theorem cmul_l {i j : Int} (h : -(2 ^ 64) < i) (h' : i < 2 ^ 64) : CMul i j := .inl ⟨h, h'⟩
theorem cmul_r {i j : Int} (h : -(2 ^ 64) < j) (h' : j < 2 ^ 64) : CMul i j := .inr ⟨h, h'⟩
theorem dec_t {p : Prop} [Decidable p] (h : decide p = true) : p := of_decide_eq_true h
theorem dec_f {p : Prop} [Decidable p] (h : decide p = false) : ¬ p := of_decide_eq_false h
theorem ndec_t {p : Prop} [Decidable p] (h : (!decide p) = true) : ¬ p := fun q => by rw [decide_eq_true q] at h; cases h
theorem ndec_f {p : Prop} [Decidable p] (h : (!decide p) = false) : p := by
  by_cases q : p
  · exact q
  · rw [decide_eq_false q] at h; cases h
theorem fld_lt {n : Nat} (h : Nat.ble (n + 1) 1000 = true) : n < 1000 := Nat.le_of_ble_eq_true h
def rLen (K : PySem.W.Frag) : List V → Hp → VK → Prop := fun xs H Q => ∃ p ys, xs = [.ref p] ∧ (SqL K H p ys ∨ SqT K H p ys) ∧ Q (.int ys.length) H
def rListOf (K : PySem.W.Frag) : List V → Hp → VK → Prop := fun xs H Q => ∃ p ys, xs = [.ref p] ∧ (SqL K H p ys ∨ SqT K H p ys) ∧ ∀ l, H l = none → Q (.ref l) (upd H l (.lst ys))
def rTupleOf (K : PySem.W.Frag) : List V → Hp → VK → Prop := fun xs H Q => ∃ p ys, xs = [.ref p] ∧ ((SqL K H p ys ∧ ∀ l, H l = none → Q (.ref l) (upd H l (.tup ys))) ∨ (SqT K H p ys ∧ Q (.ref p) H))
theorem len0 : ([] : List V).length ≤ sizeLine := len_le rfl
theorem len1 {a : V} : [a].length ≤ sizeLine := len_le rfl
theorem len2 {a b : V} : [a, b].length ≤ sizeLine := len_le rfl
theorem len3 {a b c : V} : [a, b, c].length ≤ sizeLine := len_le rfl
theorem len4 {a b c d : V} : [a, b, c, d].length ≤ sizeLine := len_le rfl
theorem len5 {a b c d e : V} : [a, b, c, d, e].length ≤ sizeLine := len_le rfl
local macro_rules | `(tactic| walk_at "st") => `(tactic| repeat (first
  | (apply Exists.intro (α := V))
  | (apply Exists.intro (α := Int))
  | (apply Exists.intro (α := Bool))
  | (apply Exists.intro (α := Addr))
  | (apply Exists.intro (α := List V))
  | (apply Exists.intro (α := List Int))
  | (apply Exists.intro (α := List (Str × V)))
  | (apply Exists.intro (α := Str))
  | (apply And.intro; focus (first | omega | (dsimp only; omega) | (simp only [List.length_map, List.length_replicate]; omega) | exact rfl | assumption | exact SqL.of (by assumption) | exact Or.inl (by assumption) | exact Or.inr (by assumption) | exact Or.inr (SqT.of (by assumption)) | exact Or.inl (Or.inl upd_same) | exact Or.inl (Or.inl (Or.inl upd_same)) | (with_reducible exact len0) | (with_reducible exact len1) | (with_reducible exact len2) | (with_reducible exact len3) | (with_reducible exact len4) | (with_reducible exact len5) | exact upd_same | exact ⟨_, Or.inl (Or.inl upd_same)⟩ | exact ⟨_, SqL.of (by assumption)⟩ | exact ⟨_, by assumption⟩ | exact Or.inl ⟨rfl, _, SqL.of (by assumption)⟩ | exact Or.inl ⟨rfl, _, SqL.of upd_same⟩ | exact cmul_l (by omega) (by omega) | exact cmul_r (by omega) (by omega) | exact ⟨by omega, by omega⟩ | (simp only [List.length_map, List.length_replicate]; omega) | exact Or.inl (SqL.of (by assumption)) | exact SqT.of (by assumption) | exact fld_lt rfl | exact Or.inl ⟨_, by assumption, rfl⟩))))
/-- the script's cell at j, 0 where there is none -/
def cellOf (ns : List Int) (j : Nat) : Int := ns.getD j 0
theorem atI_ints {ns : List Int} {j : Nat} (h : j < ns.length) : atI (ns.map V.int) (j : Int) = some (.int (cellOf ns j)) := by
  refine at_of (j := j) rfl ?_
  rw [List.getElem?_map, List.getElem?_eq_getElem h]
  unfold cellOf
  rw [List.getD_eq_getElem?_getD, List.getElem?_eq_getElem h]
  rfl
theorem cellOf_out {ns : List Int} {j : Nat} (h : ¬ j < ns.length) : cellOf ns j = 0 := by
  unfold cellOf
  rw [List.getD_eq_getElem?_getD, List.getElem?_eq_none (by omega)]
  rfl
theorem same_upd {H : Hp} {p : Addr} {o : HO} (h : H p = none) : Same H (upd H p o) := fun b x e => by
  rw [upd_ne (ne_of_none e h)]
  exact e
/-- a slice of a list of ints -/
def cutI (ns : List Int) (lo hi : Option Int) : List Int := (ns.drop (HT.sIx ns.length 0 lo)).take (HT.sIx ns.length ns.length hi - HT.sIx ns.length 0 lo)
theorem cutV_ints (ns : List Int) (lo hi : Option Int) : cutV (ns.map V.int) lo hi = (cutI ns lo hi).map V.int := by
  unfold cutV cutI
  rw [List.length_map, List.map_take, List.map_drop]
theorem cutI_len (ns : List Int) (lo hi : Option Int) : (cutI ns lo hi).length ≤ ns.length := by
  unfold cutI
  rw [List.length_take, List.length_drop]
  omega
theorem ints_at {ns : List Int} {i : Nat} {x : V} (h : (ns.map V.int)[i]? = some x) : ∃ z, ns[i]? = some z ∧ x = V.int z := by
  rw [List.getElem?_map] at h
  cases e : ns[i]? with
  | none => rw [e] at h; cases h
  | some z => rw [e] at h; exact ⟨z, rfl, (Option.some.inj h).symm⟩
theorem take_succ {α : Type} {xs : List α} {i : Nat} {x : α} (h : xs[i]? = some x) : xs.take (i + 1) = xs.take i ++ [x] := by
  rw [List.take_add_one, h]
  rfl
theorem sum_le_mul : ∀ (ws : List Int) (b : Int), (∀ w, w ∈ ws → w ≤ b) → ws.sum ≤ (ws.length : Int) * b
  | [], b, _ => by show (0 : Int) ≤ ((0 : Nat) : Int) * b; omega
  | w :: ws, b, h => by
    rw [List.sum_cons, List.length_cons, Int.natCast_add, Int.add_mul]
    have h1 := h w List.mem_cons_self
    have h2 := sum_le_mul ws b fun x hx => h x (List.mem_cons_of_mem _ hx)
    omega
theorem ixN_nat {n j : Nat} (h : j < n) : ixN n (j : Int) = some j := by
  unfold ixN
  rw [if_pos (by omega), if_pos (by omega), Int.toNat_natCast]
theorem call_int_i {X : Cx} : CallR X (.type "int") (fun xs H Q => ∃ i : Int, xs = [.int i] ∧ Q (.int i) H) := by
  intro pins s σ H xs us Q I r h
  obtain ⟨i, e, q⟩ := h
  exact call_int1 pins s σ H xs us Q I r (.inl ⟨i, e, q⟩)
theorem dpAll_ints {K : PySem.W.Frag} {H : Hp} : ∀ xs : List Int, DpAll K H (xs.map V.int) (xs.map PyData.int)
  | [] => .nil
  | x :: xs => .cons (.int x) (dpAll_ints xs)
theorem eqvAll_ints : ∀ xs ys : List Int, PyData.eqvAll (xs.map PyData.int) (ys.map PyData.int) = decide (xs = ys)
  | [], [] => by simp [PyData.eqvAll]
  | [], _ :: _ => by simp [PyData.eqvAll]
  | _ :: _, [] => by simp [PyData.eqvAll]
  | x :: xs, y :: ys => by
    rw [List.map_cons, List.map_cons]
    simp only [PyData.eqvAll, PyData.eqv]
    rw [eqvAll_ints xs ys]
    by_cases h : x = y <;> by_cases h2 : xs = ys <;> simp [h, h2]
theorem lay_ints : ∀ xs : List Int, PyData.canLayAll0 (xs.map PyData.int) = true
  | [] => rfl
  | x :: xs => by
    rw [List.map_cons]
    simp only [PyData.canLayAll0, PyData.canLay0, Bool.true_and]
    exact lay_ints xs
theorem depth_ints : ∀ xs : List Int, PyData.depthAll (xs.map PyData.int) = 0
  | [] => rfl
  | x :: xs => by
    rw [List.map_cons]
    simp only [PyData.depthAll, PyData.depth, depth_ints xs]
    rfl
theorem shaped_ints (xs : List Int) : SeqAt.shaped (.list (xs.map PyData.int)) = true := by
  unfold SeqAt.shaped
  simp only [PyData.canLay0, PyData.depth, lay_ints, depth_ints]
  rfl
theorem eqD_ints {K : PySem.W.Frag} {H : Hp} {a b : Addr} {xs ys : List Int} {Q : VK} (h1 : SqL K H a (xs.map V.int)) (h2 : SqL K H b (ys.map V.int)) (q : Q (.bl (decide (xs = ys))) H) : rEqD K (.ref a) (.ref b) H Q :=
  ⟨_, _, .lst h1 (dpAll_ints xs), .lst h2 (dpAll_ints ys), shaped_ints xs, shaped_ints ys, by rw [show PyData.eqv (.list (xs.map PyData.int)) (.list (ys.map PyData.int)) = decide (xs = ys) by simp only [PyData.eqv, eqvAll_ints]]; exact q⟩
theorem neD_ints {K : PySem.W.Frag} {H : Hp} {a b : Addr} {xs ys : List Int} {Q : VK} (h1 : SqL K H a (xs.map V.int)) (h2 : SqL K H b (ys.map V.int)) (q : Q (.bl (!decide (xs = ys))) H) : rNeD K (.ref a) (.ref b) H Q :=
  ⟨_, _, .lst h1 (dpAll_ints xs), .lst h2 (dpAll_ints ys), shaped_ints xs, shaped_ints ys, by rw [show PyData.eqv (.list (xs.map PyData.int)) (.list (ys.map PyData.int)) = decide (xs = ys) by simp only [PyData.eqv, eqvAll_ints]]; exact q⟩

/-- how items of one kind are told as data; equal data are equal items -/
structure LayD {α : Type} [DecidableEq α] (L : α → PyData) (k : Nat) (G : α → Prop) : Prop where
  lay : ∀ x, G x → (L x).canLay0 = true
  dep : ∀ x, (L x).depth ≤ k
  eqv : ∀ x y, PyData.eqv (L x) (L y) = decide (x = y)
theorem LayD.shaped {α : Type} [DecidableEq α] {L : α → PyData} {k : Nat} {G : α → Prop} (h : LayD L k G) (hk : k ≤ 64) {x : α} (g : G x) : SeqAt.shaped (L x) = true := by
  have h1 := h.lay x g
  have h2 := h.dep x
  unfold SeqAt.shaped
  rw [h1, Bool.true_and]
  exact decide_eq_true (by omega)
theorem layD_int : LayD PyData.int 0 (fun _ => True) := ⟨fun _ _ => rfl, fun _ => Nat.le_refl _, fun x y => by simp only [PyData.eqv]; exact (Bool.beq_eq_decide_eq x y)⟩
theorem layD_str : LayD PyData.str 0 (fun x => PyData.strOk x = true) := ⟨fun _ h => by simp only [PyData.canLay0]; exact h, fun _ => Nat.le_refl _, fun x y => by simp only [PyData.eqv]; exact (Bool.beq_eq_decide_eq x y)⟩
theorem decide_and2 {p q r : Prop} [Decidable p] [Decidable q] [Decidable r] (h : r ↔ p ∧ q) : (decide p && decide q) = decide r := by
  by_cases hp : p <;> by_cases hq : q <;> simp [h, hp, hq]
theorem layD_all {α : Type} [DecidableEq α] {L : α → PyData} {k : Nat} {G : α → Prop} (h : LayD L k G) : (∀ xs : List α, (∀ x, x ∈ xs → G x) → PyData.canLayAll0 (xs.map L) = true) ∧ (∀ xs : List α, PyData.depthAll (xs.map L) ≤ k) ∧ ∀ xs ys : List α, PyData.eqvAll (xs.map L) (ys.map L) = decide (xs = ys) := by
  refine ⟨fun xs => ?_, fun xs => ?_, fun xs => ?_⟩
  · induction xs with
    | nil => exact fun _ => rfl
    | cons x xs ih =>
      intro g
      rw [List.map_cons]
      simp only [PyData.canLayAll0, ih fun y hy => g y (List.mem_cons_of_mem _ hy), h.lay x (g x List.mem_cons_self)]
      rfl
  · induction xs with
    | nil => exact Nat.zero_le _
    | cons x xs ih => rw [List.map_cons]; simp only [PyData.depthAll]; exact Nat.max_le.mpr ⟨h.dep x, ih⟩
  · induction xs with
    | nil =>
      intro ys
      cases ys with
      | nil => rfl
      | cons y ys => simp [PyData.eqvAll]
    | cons x xs ih =>
      intro ys
      cases ys with
      | nil => simp [PyData.eqvAll]
      | cons y ys =>
        rw [List.map_cons, List.map_cons]
        simp only [PyData.eqvAll]
        rw [ih ys, h.eqv x y]
        exact decide_and2 (by rw [List.cons.injEq])
theorem LayD.list {α : Type} [DecidableEq α] {L : α → PyData} {k : Nat} {G : α → Prop} (h : LayD L k G) : LayD (fun xs : List α => PyData.list (xs.map L)) (k + 1) (fun xs => ∀ x, x ∈ xs → G x) := by
  obtain ⟨h1, h2, h3⟩ := layD_all h
  refine ⟨fun xs g => ?_, fun xs => ?_, fun xs ys => ?_⟩
  · simp only [PyData.canLay0]; exact h1 xs g
  · simp only [PyData.depth]; exact Nat.succ_le_succ (h2 xs)
  · simp only [PyData.eqv]; exact h3 xs ys
theorem LayD.tup2 {α β : Type} [DecidableEq α] [DecidableEq β] {L : α → PyData} {M : β → PyData} {k : Nat} {G : α → Prop} {G2 : β → Prop} (h : LayD L k G) (g : LayD M k G2) : LayD (fun x : α × β => PyData.tuple [L x.1, M x.2]) (k + 1) (fun x => G x.1 ∧ G2 x.2) := by
  refine ⟨fun x a => ?_, fun x => ?_, fun x y => ?_⟩
  · simp only [PyData.canLay0, PyData.canLayAll0, h.lay _ a.1, g.lay _ a.2, Bool.and_true]
  · simp only [PyData.depth, PyData.depthAll]
    have := h.dep x.1
    have := g.dep x.2
    omega
  · simp only [PyData.eqv, PyData.eqvAll, h.eqv, g.eqv, Bool.and_true]
    exact decide_and2 (by rw [Prod.ext_iff])
theorem LayD.tup3 {α β γ : Type} [DecidableEq α] [DecidableEq β] [DecidableEq γ] {L : α → PyData} {M : β → PyData} {N : γ → PyData} {k : Nat} {G : α → Prop} {G2 : β → Prop} {G3 : γ → Prop} (h : LayD L k G) (g : LayD M k G2) (e : LayD N k G3) : LayD (fun x : α × β × γ => PyData.tuple [L x.1, M x.2.1, N x.2.2]) (k + 1) (fun x => G x.1 ∧ G2 x.2.1 ∧ G3 x.2.2) := by
  refine ⟨fun x a => ?_, fun x => ?_, fun x y => ?_⟩
  · simp only [PyData.canLay0, PyData.canLayAll0, h.lay _ a.1, g.lay _ a.2.1, e.lay _ a.2.2, Bool.and_true]
  · simp only [PyData.depth, PyData.depthAll]
    have := h.dep x.1
    have := g.dep x.2.1
    have := e.dep x.2.2
    omega
  · simp only [PyData.eqv, PyData.eqvAll, h.eqv, g.eqv, e.eqv, Bool.and_true]
    rw [decide_and2 (r := x.2 = y.2) (by rw [Prod.ext_iff])]
    exact decide_and2 (by rw [Prod.ext_iff])
theorem LayD.tup4 {α β γ δ : Type} [DecidableEq α] [DecidableEq β] [DecidableEq γ] [DecidableEq δ] {L : α → PyData} {M : β → PyData} {N : γ → PyData} {O : δ → PyData} {k : Nat} {G : α → Prop} {G2 : β → Prop} {G3 : γ → Prop} {G4 : δ → Prop} (h : LayD L k G) (g : LayD M k G2) (e : LayD N k G3) (d : LayD O k G4) : LayD (fun x : α × β × γ × δ => PyData.tuple [L x.1, M x.2.1, N x.2.2.1, O x.2.2.2]) (k + 1) (fun x => G x.1 ∧ G2 x.2.1 ∧ G3 x.2.2.1 ∧ G4 x.2.2.2) := by
  refine ⟨fun x a => ?_, fun x => ?_, fun x y => ?_⟩
  · simp only [PyData.canLay0, PyData.canLayAll0, h.lay _ a.1, g.lay _ a.2.1, e.lay _ a.2.2.1, d.lay _ a.2.2.2, Bool.and_true]
  · simp only [PyData.depth, PyData.depthAll]
    have := h.dep x.1
    have := g.dep x.2.1
    have := e.dep x.2.2.1
    have := d.dep x.2.2.2
    omega
  · simp only [PyData.eqv, PyData.eqvAll, h.eqv, g.eqv, e.eqv, d.eqv, Bool.and_true]
    rw [decide_and2 (r := x.2.2 = y.2.2) (by rw [Prod.ext_iff]), decide_and2 (r := x.2 = y.2) (by rw [Prod.ext_iff])]
    exact decide_and2 (by rw [Prod.ext_iff])
theorem eqL {α : Type} [DecidableEq α] {L : α → PyData} {k : Nat} {G : α → Prop} (h : LayD L k G) (hk : k ≤ 64) {K : PySem.W.Frag} {H : Hp} {x y : V} {a b : α} {Q : VK} (ga : G a) (gb : G b) (h1 : Dp K H x (L a)) (h2 : Dp K H y (L b)) (q : Q (.bl (decide (a = b))) H) : rEqD K x y H Q :=
  ⟨_, _, h1, h2, h.shaped hk ga, h.shaped hk gb, by rw [h.eqv]; exact q⟩
theorem neL {α : Type} [DecidableEq α] {L : α → PyData} {k : Nat} {G : α → Prop} (h : LayD L k G) (hk : k ≤ 64) {K : PySem.W.Frag} {H : Hp} {x y : V} {a b : α} {Q : VK} (ga : G a) (gb : G b) (h1 : Dp K H x (L a)) (h2 : Dp K H y (L b)) (q : Q (.bl (!decide (a = b))) H) : rNeD K x y H Q :=
  ⟨_, _, h1, h2, h.shaped hk ga, h.shaped hk gb, by rw [h.eqv]; exact q⟩
theorem dpAll_refs {α : Type} {L : α → PyData} {K : PySem.W.Frag} {H : Hp} : ∀ {ps : List Addr} {xs : List α}, ps.length = xs.length → (∀ (i : Nat) (p : Addr) (x : α), ps[i]? = some p → xs[i]? = some x → Dp K H (.ref p) (L x)) → DpAll K H (ps.map V.ref) (xs.map L)
  | [], [], _, _ => .nil
  | [], _ :: _, h, _ => by cases h
  | _ :: _, [], h, _ => by cases h
  | p :: ps, x :: xs, h, e => .cons (e 0 p x rfl rfl) (dpAll_refs (Nat.succ.inj h) fun i p' x' h1 h2 => e (i + 1) p' x' h1 h2)

theorem refs_at {ps : List Addr} {i : Nat} {x : V} (h : (ps.map V.ref)[i]? = some x) : ∃ p, ps[i]? = some p ∧ x = V.ref p := by
  rw [List.getElem?_map] at h
  cases e : ps[i]? with
  | none => rw [e] at h; cases h
  | some z => rw [e] at h; exact ⟨z, rfl, (Option.some.inj h).symm⟩

/-- a list of tuples: the tuple of each item -/
structure Tups {α : Type} (enc : α → List V) (H : Hp) (l : Addr) (ps : List Addr) (xs : List α) : Prop where
  lst : H l = some (.lst (ps.map V.ref))
  len : ps.length = xs.length
  row : ∀ (i : Nat) (p : Addr) (x : α), ps[i]? = some p → xs[i]? = some x → H p = some (.tup (enc x))
theorem Tups.nil {α : Type} {enc : α → List V} {H : Hp} {l : Addr} (h : H l = some (.lst [])) : Tups enc H l [] ([] : List α) :=
  ⟨h, rfl, fun _ _ _ e => (by rw [List.getElem?_nil] at e; cases e)⟩
theorem Tups.same {α : Type} {enc : α → List V} {H H' : Hp} {l : Addr} {ps : List Addr} {xs : List α} (h : Tups enc H l ps xs) (e : Same H H') : Tups enc H' l ps xs :=
  ⟨e _ _ h.lst, h.len, fun i p x a b => e _ _ (h.row i p x a b)⟩
theorem Tups.at {α : Type} {enc : α → List V} {H : Hp} {l : Addr} {ps : List Addr} {xs : List α} (h : Tups enc H l ps xs) {i : Nat} {x : α} (e : xs[i]? = some x) : ∃ p, ps[i]? = some p ∧ atI (ps.map V.ref) (i : Int) = some (.ref p) ∧ H p = some (.tup (enc x)) := by
  have hi := (List.getElem?_eq_some_iff.mp e).1
  have hl : i < ps.length := by rw [h.len]; exact hi
  refine ⟨ps[i], List.getElem?_eq_getElem hl, at_of (j := i) rfl ?_, h.row i _ x (List.getElem?_eq_getElem hl) e⟩
  rw [List.getElem?_map, List.getElem?_eq_getElem hl]
  rfl
theorem Tups.item {α : Type} {enc : α → List V} {H : Hp} {l : Addr} {ps : List Addr} {xs : List α} (h : Tups enc H l ps xs) {i : Nat} {v : V} (e : (ps.map V.ref)[i]? = some v) : ∃ p x, ps[i]? = some p ∧ xs[i]? = some x ∧ v = .ref p ∧ H p = some (.tup (enc x)) := by
  obtain ⟨p, hp, rfl⟩ := refs_at e
  have hi := (List.getElem?_eq_some_iff.mp hp).1
  rw [h.len] at hi
  exact ⟨p, xs[i], hp, List.getElem?_eq_getElem hi, rfl, h.row i p _ hp (List.getElem?_eq_getElem hi)⟩
theorem Tups.push {α : Type} {enc : α → List V} {H H' : Hp} {l p : Addr} {ps : List Addr} {xs : List α} {x : α} (h : Tups enc H l ps xs) (e : Same H H') (np : H p = none) (hp : H' p = some (.tup (enc x))) : Tups enc (upd H' l (.lst (ps.map V.ref ++ [V.ref p]))) l (ps ++ [p]) (xs ++ [x]) := by
  have hpl : p ≠ l := fun z => by rw [z, h.lst] at np; cases np
  refine ⟨?_, ?_, fun i q y hq hy => ?_⟩
  · rw [upd_same, List.map_append]
    rfl
  · rw [List.length_append, List.length_append, h.len]
    rfl
  · by_cases hi : i < ps.length
    · rw [List.getElem?_append_left hi] at hq
      rw [List.getElem?_append_left (by rw [← h.len]; exact hi)] at hy
      have hq2 := h.row i q y hq hy
      rw [upd_ne (fun z => by rw [z, h.lst] at hq2; cases hq2)]
      exact e _ _ hq2
    · rw [List.getElem?_append_right (by omega)] at hq
      rw [List.getElem?_append_right (by have := h.len; omega)] at hy
      have h1 := (List.getElem?_eq_some_iff.mp hq).1
      rw [List.length_cons, List.length_nil] at h1
      have e0 : i - ps.length = 0 := by omega
      have e1 : i - xs.length = 0 := by have := h.len; omega
      rw [e0] at hq
      rw [e1] at hy
      have z1 : p = q := Option.some.inj hq
      have z2 : x = y := Option.some.inj hy
      rw [← z1, ← z2, upd_ne hpl]
      exact hp
theorem Tups.dp {α : Type} {enc : α → List V} {L : α → PyData} {K : PySem.W.Frag} {H : Hp} {l : Addr} {ps : List Addr} {xs : List α} (h : Tups enc H l ps xs) (he : ∀ x (p : Addr), H p = some (.tup (enc x)) → Dp K H (.ref p) (L x)) : Dp K H (.ref l) (PyData.list (xs.map L)) :=
  .lst (SqL.of h.lst) (dpAll_refs h.len fun i p x h1 h2 => he x p (h.row i p x h1 h2))
def enc2 (x : Int × Int) : List V := [.int x.1, .int x.2]
def enc3 (x : Int × Int × Int) : List V := [.int x.1, .int x.2.1, .int x.2.2]
def lay3 (x : Int × Int × Int) : PyData := .tuple [.int x.1, .int x.2.1, .int x.2.2]
theorem layD_3 : LayD lay3 1 (fun x => True ∧ True ∧ True) := layD_int.tup3 layD_int layD_int
theorem dp3 {K : PySem.W.Frag} {H : Hp} (x : Int × Int × Int) (p : Addr) (h : H p = some (.tup (enc3 x))) : Dp K H (.ref p) (lay3 x) :=
  .tup (SqT.of h) (.cons (.int _) (.cons (.int _) (.cons (.int _) .nil)))
theorem Tups.push2 {α : Type} {enc : α → List V} {H : Hp} {l p : Addr} {ps : List Addr} {xs : List α} {x : α} (h : Tups enc H l ps xs) (hp : H p = some (.tup (enc x))) : Tups enc (upd H l (.lst (ps.map V.ref ++ [V.ref p]))) l (ps ++ [p]) (xs ++ [x]) := by
  have hpl : p ≠ l := fun z => by rw [z, h.lst] at hp; cases hp
  refine ⟨?_, ?_, fun i q y hq hy => ?_⟩
  · rw [upd_same, List.map_append]
    rfl
  · rw [List.length_append, List.length_append, h.len]
    rfl
  · by_cases hi : i < ps.length
    · rw [List.getElem?_append_left hi] at hq
      rw [List.getElem?_append_left (by rw [← h.len]; exact hi)] at hy
      have hq2 := h.row i q y hq hy
      rw [upd_ne (fun z => by rw [z, h.lst] at hq2; cases hq2)]
      exact hq2
    · rw [List.getElem?_append_right (by omega)] at hq
      rw [List.getElem?_append_right (by have := h.len; omega)] at hy
      have h1 := (List.getElem?_eq_some_iff.mp hq).1
      rw [List.length_cons, List.length_nil] at h1
      have e0 : i - ps.length = 0 := by omega
      have e1 : i - xs.length = 0 := by have := h.len; omega
      rw [e0] at hq
      rw [e1] at hy
      have z1 : p = q := Option.some.inj hq
      have z2 : x = y := Option.some.inj hy
      rw [← z1, ← z2, upd_ne hpl]
      exact hp
theorem Tups.copy {α : Type} {enc : α → List V} {H H' : Hp} {l l2 : Addr} {ps : List Addr} {xs : List α} (h : Tups enc H l ps xs) (e : Same H H') (h2 : H' l2 = some (.lst (ps.map V.ref))) : Tups enc H' l2 ps xs :=
  ⟨h2, h.len, fun i p x a b => e _ _ (h.row i p x a b)⟩
theorem Tups.other {α : Type} {enc : α → List V} {H : Hp} {l A : Addr} {ps : List Addr} {xs : List α} {ys zs : List V} (h : Tups enc H l ps xs) (hA : H A = some (.lst ys)) (ne : l ≠ A) : Tups enc (upd H A (.lst zs)) l ps xs :=
  ⟨by rw [upd_ne ne]; exact h.lst, h.len, fun i p x a b => by
    have hp := h.row i p x a b
    rw [upd_ne (fun z => by rw [z, hA] at hp; cases hp)]
    exact hp⟩

/-- for i, x in enumerate(xs): each turn a new pair -/
theorem for_enum {K : PySem.W.Frag} {a : Addr} {xs : List V} {g : TG} {tb : TS} {D : Ends} {σ : L2.St} {H : Hp} (Pv : Nat → L2.St → Hp → Prop) (h0 : Pv 0 σ H) (hl : ∀ i σ H, i ≤ xs.length → Pv i σ H → SqL K H a xs)
    (hs : ∀ (i : Nat) (x : V) (σ : L2.St) (H : Hp) (T : Addr), xs[i]? = some x → Pv i σ H → H T = none → g (.ref T) σ (upd H T (.tup [.int (i : Int), x])) fun σ2 H2 => tb { D with nx := Pv (i + 1), ct := Pv (i + 1), bk := D.nx } σ2 H2) (hd : ∀ σ H, Pv xs.length σ H → D.nx σ H) :
    ∃ W : Nat → Nat → L2.St → Hp → Prop, (∃ m, W 0 m σ H) ∧ ∀ i m σ H, W i m σ H →
      ((Ite K a).stop i H ∧ D.nx σ H) ∨ ((Ite K a).go i H ∧ ∃ N : L2.St → Hp → Prop, (∀ σ' H', N σ' H' → ∃ m', m' < m ∧ W (i + 1) m' σ' H') ∧ ∀ x H', (Ite K a).yld i H x H' → g x σ H' fun σ2 H2 => tb { D with nx := N, ct := N, bk := D.nx } σ2 H2) := by
  refine ⟨fun i m σ H => m + i = xs.length ∧ Pv i σ H, ⟨xs.length, rfl, h0⟩, ?_⟩
  rintro i m σ H ⟨em, p⟩
  have q := hl i σ H (by omega) p
  by_cases hlt : i < xs.length
  · refine .inr ⟨⟨xs, xs[i], q, List.getElem?_eq_getElem hlt⟩, Pv (i + 1), fun σ' H' p' => ⟨m - 1, by omega, by omega, p'⟩, fun x H' y => ?_⟩
    obtain ⟨T, z, rfl, nT, rfl, hz⟩ := y
    exact hs i z σ H T (hz xs q) p nT
  · have e : i = xs.length := by omega
    subst e
    exact .inl ⟨⟨xs, q, Nat.le_refl _⟩, hd σ H p⟩
theorem call_int_b {X : Cx} : CallR X (.type "int") (fun xs H Q => ∃ b : Bool, xs = [.bl b] ∧ Q (.int (if b = true then 1 else 0)) H) := by
  intro pins s σ H xs us Q I r h
  obtain ⟨i, e, q⟩ := h
  exact call_int1 pins s σ H xs us Q I r (.inr ⟨i, e, q⟩)

/-! methods that raise, methods called with keywords (own rules over the library's run_fnN and methodCall_KW) -/
def tMx (C : Addr) (m : Str) (sp : Sp) (dvs : List V) (E : L2.St → XK) (to : TE) (t : TA) : TE := fun σ H Q => to σ H fun x H1 => ∃ (a dx : Addr) (fs : List (Str × V)), x = .ref a ∧ H1 a = some (.ins C dx fs) ∧ fs.lookup m = none ∧ t σ H1 fun vs H2 => sp (.ref a :: vs ++ dvs) H2 Q (E σ)
theorem passLat {X : Cx} {σ : L2.St} : PassesAt (L2.CX X.prog X.w) X σ E0 := fun pn Hh st ev st' inv got => passL pn σ Hh st ev st' inv got
theorem pass0at {X : Cx} {σ : L2.St} : PassesAt CX0 X σ E0 := fun _ _ _ _ _ _ h => h.elim
def tMk (C : Addr) (m : Str) (n k : Nat) (sp : Sp) (gV : List V → List V → List V) (E : L2.St → XK) (to : TE) (t tk : TA) : TE := fun σ H Q => to σ H fun x H1 => ∃ (a dx : Addr) (fs : List (Str × V)), x = .ref a ∧ H1 a = some (.ins C dx fs) ∧ fs.lookup m = none ∧
  t σ H1 fun vs H2 => tk σ H2 fun zs H3 => vs.length = n ∧ zs.length = k ∧ sp (gV (.ref a :: vs) zs) H3 Q (E σ)
section
variable {X : Cx} {CX : CXT} {k n : Nat} {f C : Addr} {fd : FuncData} {ps ks : List Str} {sp : Sp} {E : L2.St → XK} {m : Str} {pos apos : Pos} {e o : Expr} {es : List Expr} {kws : List Keyword} {to : TE} {t tk : TA} {g : List Value → List Value → List Value} {gV : List V → List V → List V} {pl : Sem Bool} {dvs : List V} {ds : List Value}
theorem run_kw {pn : List (Addr × Obj)} {sh : L2.St} {Hh : Hp} {st : Shared} {Q : VK} {us ws : List Value} {vs zs : List V} (prom : FnOk X.prog X.w X.K X.mg X.base CX k f fd ps sp) (room : Room k X.A) (bnd : KBn X.K fd ps n ks g gV) (way : PassesAt CX X sh (E sh))
    (inv : Inv X pn sh Hh st) (rel : Vals vs us) (relz : Vals zs ws) (len1 : vs.length = n) (len2 : zs.length = ks.length) (hyp : sp (gV vs zs) Hh Q (E sh)) : wpAny (model X.prog X.w) X.A (call (.ref f) us (ks.zip ws)) (EP X pn sh Q) X.xe st := by
  have both := bnd.rel rel relz
  have bind := bnd.to st us ws inv.kIn (rel.length.symm.trans len1) (relz.length.symm.trans len2)
  refine wpAny_call (codeAny_mono (prom.run X.A X.stack st Hh ⟨us, ks.zip ws⟩ (g us ws) (gV vs zs) Q (E sh) room inv.env0 bind both hyp) fun out st' got => ?_)
  cases out with
  | error ev => exact way pn Hh st ev st' inv got
  | ok fl =>
    cases fl with
    | ret u => exact inv.after got
    | next => exact (False.elim got)
    | brk => exact (False.elim got)
    | cont => exact (False.elim got)
theorem pe_mx (obj : PE X o to) (cls : Cls X.K C) (mt : Meth X.K C m f) (prom : FnOk X.prog X.w X.K X.mg X.base CX k f fd ps sp) (room : Room k X.A) (bnd : Binds X.K fd ps ds) (dfl : Vals dvs ds) (way : ∀ σ, PassesAt CX X σ (E σ)) (args : PA X (e :: es) t)
    (st1 : starEach (e :: es) X.env = (false, eval e X.env) :: starEach es X.env := by rfl) (st2 : (backTo pos (starEach es X.env)).any (·.1) = false := by rfl)
    (form : eval (.Call (.Attribute o m apos) (e :: es) [] pos) X.env = (do let ov ← eval o X.env; standAt apos.atName; let (fn, fst) ← holding [ov] (getMethod ov m pl); callWith pos fn fst (backTo pos (starEach (e :: es) X.env)) (backToKw pos (keywordEach [] X.env))) := by rfl) :
    PE X (.Call (.Attribute o m apos) (e :: es) [] pos) (tMx C m sp dvs E to t) := by
  refine ⟨fun pn sh st Hh Q inv hyp => ?_⟩
  refine PySem.W.methodCall_KW (pl := pl) (thn (obj.run pn sh st Hh _ inv hyp) fun ov s1 ⟨x, H1, I1, rel, a, dx, fs, ex, ins, noat, more⟩ => ?_) form
  subst ex
  obtain rfl : ov = Value.ref a := rel
  refine getmeth_ok I1 ins cls mt noat ?_
  refine PySem.W.callWith_K (first := [.ref a]) (h₀ := X.base) I1.ok.mod.kin mt.kp (thn (args.run pos pn s1 st H1 _ I1 more) fun us s2 ⟨vs, H2, I2, rels, fin⟩ => ⟨I2.kIn, ?_⟩) st1 st2
  exact run_fnSD (us := Value.ref a :: us) (vs := V.ref a :: vs) prom room bnd dfl (way st) I2 (.cons rfl rels) fin
/-- o.m(e, .., k = v, ..) -/
theorem pe_mk (obj : PE X o to) (cls : Cls X.K C) (mt : Meth X.K C m f) (prom : FnOk X.prog X.w X.K X.mg X.base CX k f fd ps sp) (room : Room k X.A) (bnd : KBn X.K fd ps (n + 1) ks g gV) (way : ∀ σ, PassesAt CX X σ (E σ)) (args : PA X (e :: es) t) (kargs : PK X kws tk)
    (ka : (backToKw pos (keywordEach kws X.env)).all (·.1.isSome) = true := by rfl) (kn : (backToKw pos (keywordEach kws X.env)).filterMap (·.1) = ks := by rfl)
    (st1 : starEach (e :: es) X.env = (false, eval e X.env) :: starEach es X.env := by rfl)
    (st2 : ((backTo pos (starEach (e :: es) X.env)).any (·.1) || (backToKw pos (keywordEach kws X.env)).any (·.1.isNone)) = false := by rfl)
    (form : eval (.Call (.Attribute o m apos) (e :: es) kws pos) X.env = (do let ov ← eval o X.env; standAt apos.atName; let (fn, fst) ← holding [ov] (getMethod ov m pl); callWith pos fn fst (backTo pos (starEach (e :: es) X.env)) (backToKw pos (keywordEach kws X.env))) := by rfl) :
    PE X (.Call (.Attribute o m apos) (e :: es) kws pos) (tMk C m n ks.length sp gV E to t tk) := by
  refine ⟨fun pn sh st Hh Q inv hyp => ?_⟩
  refine PySem.W.methodCall_KW (pl := pl) (thn (obj.run pn sh st Hh _ inv hyp) fun ov s1 ⟨x, H1, I1, rel, a, dx, fs, ex, ins, noat, more⟩ => ?_) form
  subst ex
  obtain rfl : ov = Value.ref a := rel
  refine getmeth_ok I1 ins cls mt noat ?_
  refine PySem.W.callWith_KW (first := [.ref a]) (h₀ := X.base) I1.ok.mod.kin mt.kp ka (thn (args.run pos pn s1 st H1 _ I1 more) fun us s2 ⟨vs, H2, I2, rels, mid⟩ => ?_) st2 st1
  refine thn (kargs.run pos pn s2 st H2 _ I2 mid) fun ws s3 ⟨zs, H3, I3, relz, l1, l2, fin⟩ => ⟨I3.kIn, ?_⟩
  rw [kn]
  exact run_kw (us := Value.ref a :: us) (vs := V.ref a :: vs) prom room bnd (way st) I3 (.cons rfl rels) relz (congrArg (· + 1) l1) l2 fin
end

/-! one try with any except clauses, with names or without (the library has one named clause, or several without names) -/
section
variable {X : Cx}
inductive Clause (X : Cx) : ExceptHandler → (WX → Ends → WX) → Prop
  | named {x n : Str} {c : Value} {i : Nat} {np pp : Pos} {ff : Stmt} {ss : List Stmt} {tt : Addr → Value → Option Addr → TS} (nm : Names X x c) (at_i : X.N[i]? = some n) (loc_n : X.env.kindOf n = some .local)
      (hsu : ∀ (a : Addr) (o : Obj) (cls : Value) (d : Option Addr) (pn : List (Addr × Obj)), Zc cls d o → (∃ vs, o.data = .fields vs) → PSs (X.suite a ((a, o) :: pn)) (ff :: ss) (tt a cls d)) :
      Clause X (.ExceptHandler (some (.Name x np)) (some n) (ff :: ss) pp) (fun Wn D => wAs X.K c i tt Wn D)
  | plain {x : Str} {c : Value} {np pp : Pos} {ff : Stmt} {ss : List Stmt} {tt : Addr → Value → Option Addr → TS} (nm : Names X x c)
      (hsu : ∀ (a : Addr) (o : Obj) (cls : Value) (d : Option Addr) (pn : List (Addr × Obj)), Zc cls d o → (∃ vs, o.data = .fields vs) → PSs (X.suite a ((a, o) :: pn)) (ff :: ss) (tt a cls d)) :
      Clause X (.ExceptHandler (some (.Name x np)) none (ff :: ss) pp) (fun Wn D cls d σ H => ∃ b, PySem.W.exmOne X.K cls c = some b ∧ (b = true → ∀ a, H a = none → tt a cls d D σ H) ∧ (b = false → Wn cls d σ H))
inductive Clauses (X : Cx) : List ExceptHandler → List (WX → Ends → WX) → Prop
  | nil : Clauses X [] []
  | cons {h : ExceptHandler} {w : WX → Ends → WX} {hs : List ExceptHandler} {ws : List (WX → Ends → WX)} : Clause X h w → Clauses X hs ws → Clauses X (h :: hs) (w :: ws)
def wishes (D : Ends) (Wout : WX) : List (WX → Ends → WX) → WX
  | [] => Wout
  | w :: ws => w (wishes D Wout ws) D
theorem ps_try_any {body : List Stmt} {h0 : ExceptHandler} {hds : List ExceptHandler} {ws : List (WX → Ends → WX)} {pos : Pos} {tb : WX → TS} {Wout : WX} (hst : X.stack = X.env :: X.outer) (hfr : X.env.frame = some X.env.locals) (nd : X.N.Nodup) (tk : Takes X Wout)
    (hbody : ∀ (W : WX) (pn : List (Addr × Obj)) (xe : Value → Shared → Prop), Takes (X.tr pn xe) W → PassesOwn (model X.prog X.w) X.A X.env xe → PSs (X.tr pn xe) body (tb W))
    (cl : Clauses X (h0 :: hds) ws) : PS X (.Try body (h0 :: hds) [] [] pos) (fun D σ H => tb (wishes D Wout ws) D σ H) := by
  refine ⟨fun pins sh st Hh D inv hyp => ?_⟩
  have okX := inv.ok
  have frs0 : X.A.frames = some (X.env :: X.outer) := okX.frames.trans (congrArg some hst)
  refine wpAny_Try_except ?_
  refine wpAny_mono ((hbody (wishes D Wout ws) (X.pn ++ pins) (fun ev q₁ => wpAny (model X.prog X.w) X.A (noteFrame ev X.env) (fun _ q₂ => wpAny (model X.prog X.w) X.A (setFlight ev none) (fun _ q₃ =>
    wpAny (model X.prog X.w) X.A (handleBy ev X.env (h0 :: hds)) (SP X pins D) X.xe q₃) X.xe q₂) X.xe q₁) (fun u z xx => ?_) PassesOwn.looking).run [] sh st Hh D (inv.toTry _) hyp) (fun fl z1 left => ?_) (fun _ _ same => same)
  · obtain ⟨a, B, zI, pins2, st2, Hh2, cls, d, rfl, JT, nb, up, sky, na, os, ag, wish⟩ := xx
    have J : Inv X pins st2 Hh2 zI := JT.ofTry okX
    have skyX : Sky B (X.env :: X.outer) a (Zc cls d) X.env.locals z.heap := hst ▸ sky
    show wpAny (model X.prog X.w) X.A (noteFrame (Value.ref a) X.env) _ _ _
    refine Sky.land Zc.steady frs0 hfr skyX fun hp flz upz => ?_
    have J3 : Inv X pins st2 Hh2 { z with heap := hp } := J.landed nb flz.1 (up.trans upz) os ag
    obtain ⟨oA, vsA, atA, zA, dA⟩ := flz.there
    have apart : a ∉ frs (X.env :: X.outer) := fun hm => by
      obtain ⟨_, o', e', hnf⟩ := flz.2.2.1.mem hm
      rw [atA] at e'
      cases e'
      exact hnf _ dA
    have n1 : a ≠ X.env.locals := fun w => apart (List.mem_filterMap.mpr ⟨X.env, List.mem_cons_self, hfr.trans (congrArg some w.symm)⟩)
    have n2 : a ∉ X.fs := fun hm => by
      obtain ⟨ee, he, q⟩ := List.mem_filterMap.mp hm
      exact apart (List.mem_filterMap.mpr ⟨ee, List.mem_cons_of_mem _ he, q⟩)
    have S3 := J3.suite atA dA na n1 n2
    have onward : ∀ {hs' : List ExceptHandler} {ws' : List (WX → Ends → WX)}, Clauses X hs' ws' → wishes D Wout ws' cls d st2 Hh2 → wpAny (model X.prog X.w) X.A (handleBy (.ref a) X.env hs') (SP X pins D) X.xe { z with heap := hp } := by
      intro hs' ws' all
      induction all with
      | nil =>
        intro out
        refine wpAny_handleBy_nil ?_
        obtain ⟨j1, j2, j3, oC, vC, T, oT, tC, atC, zC, dC, fC, rC⟩ := id flz
        unfold PySem.passOn
        refine wpAny_bind (wpAny_field atC dC fC ?_)
        rw [if_neg (show ¬ ((Value.ref T == Value.none) = true) by simp)]
        have fin : wpAny (model X.prog X.w) X.A (setFlight (.ref a) X.env.frame) (fun _ q4 => wpAny (model X.prog X.w) X.A (throw (.ref a) : Sem Flow) (SP X pins D) X.xe q4) X.xe { z with heap := hp } := by
          rw [hfr]
          refine HandSPX.setFlight_upZ flz fun hq fq uq => wpAny_throw (tk _ _ ?_)
          exact ⟨a, B, zI, pins, st2, Hh2, cls, d, rfl, J, nb, (up.trans upz).trans uq, .inr (.inr (hst.symm ▸ fq)), na, os, ag, out⟩
        first | (exact wpAny_bind (wpAny_pure (wpAny_bind fin))) | (exact wpAny_bind fin)
      | @cons h w more ws2 c1 _ ih =>
        intro wish2
        have looks : PySem.W.Looks (model X.prog X.w) hp (typeOf (.ref a)) cls := fun A Q E s k q => wpAny_typeOf_ref (k _ _ atA) (by rw [zA.1]; exact q)
        have test : ∀ {x' : Str} {c' : Value} {np : Pos} {Q E : Value → Shared → Prop}, Names X x' c' → Q c' { z with heap := hp } → wpAny (model X.prog X.w) (X.A.mark (some (.ref a))) (eval (.Name x' np) X.env) Q E { z with heap := hp } := fun {x' c' np Q E} nm q => by
          rcases nm with ⟨gl, nodb, known | ⟨unk, boot, nn⟩⟩
          · exact ld_glob (X := X.suite a ((a, oA) :: (X.pn ++ pins))) S3 gl known q nodb
          · exact ld_blt (X := X.suite a ((a, oA) :: (X.pn ++ pins))) S3 gl unk boot q nn nodb
        cases c1 with
        | @plain x' c' np pp ff ss tt nm hsu =>
          obtain ⟨b, isb, yes, no⟩ := wish2
          refine wpAny_handleBy_cons (codeAny_handlers_test ?_) (fun q => by cases q)
          refine test nm ((PySem.W.exm_one (M := model X.prog X.w) J3.kIn looks isb).here ?_)
          cases b with
          | false => exact ih (no rfl)
          | true =>
            refine (codeAny_handlers_suite ?_)
            refine HandSPX.lands_againZ flz fun hq flq upq => ?_
            have J4 : Inv X pins st2 Hh2 { z with heap := hq } := J.landed nb flq.1 ((up.trans upz).trans upq) os ag
            obtain ⟨oB, vsB, atB, zB, dB⟩ := flq.there
            have S4 := J4.suite atB dB na n1 n2
            refine wpAny_mono ((hsu a oB cls d (X.pn ++ pins) zB ⟨_, dB⟩).run [] _ _ Hh2 _ S4 (yes rfl a na)) (fun fl r6 got => ?_) (fun _ _ w => False.elim w)
            cases fl with
            | next =>
              obtain ⟨σ6, H6, S6, w⟩ := got
              exact ⟨_, _, S6.unsuite okX, w⟩
            | brk =>
              obtain ⟨σ6, H6, S6, w⟩ := got
              exact ⟨_, _, S6.unsuite okX, w⟩
            | cont =>
              obtain ⟨σ6, H6, S6, w⟩ := got
              exact ⟨_, _, S6.unsuite okX, w⟩
            | ret u =>
              obtain ⟨v6, σ6, H6, S6, r6', w⟩ := got
              exact ⟨_, _, _, S6.unsuite okX, r6', w⟩
        | @named x' n c' i np pp ff ss tt nm at_i loc_n hsu =>
          obtain ⟨b, isb, yes, no⟩ := wish2
          refine wpAny_handleBy_cons (codeAny_handlers_test ?_) (fun q => by cases q)
          refine test nm ((PySem.W.exm_one (M := model X.prog X.w) J3.kIn looks isb).here ?_)
          cases b with
          | false => exact ih (no rfl)
          | true =>
            refine (codeAny_handlers_suite_as ?_)
            refine HandSPX.lands_againZ flz fun hq flq upq => ?_
            have J4 : Inv X pins st2 Hh2 { z with heap := hq } := J.landed nb flq.1 ((up.trans upz).trans upq) os ag
            obtain ⟨oB, vsB, atB, zB, dB⟩ := flq.there
            have S4 := J4.suite atB dB na n1 n2
            refine store_ok (X := X.suite a ((a, oB) :: (X.pn ++ pins))) (v := .ref a) S4 nd at_i (.inl loc_n) rfl (fun r5 S5 => ?_) (.inr loc_n)
            refine wpAny_mono ((hsu a oB cls d (X.pn ++ pins) zB ⟨_, dB⟩).run [] r5 _ Hh2 _ S5 (yes rfl a na)) (fun fl r6 got => ?_) (fun _ _ w => False.elim w)
            have close : ∀ {σ6 : L2.St} {H6 : Hp} {Q : Shared → Prop}, Inv (X.suite a ((a, oB) :: (X.pn ++ pins))) [] σ6 H6 r6 → (∀ r7, Inv X pins (σ6.set i none) H6 r7 → Q r7) →
                wpAny (model X.prog X.w) X.A (do bindName X.env n .none; unbindBehindTheSuite X.env n pp) (fun _ r7 => Q r7) X.xe r6 := fun {σ6 H6 Q} S6 hq => gone_ok (S6.unsuite okX) nd at_i loc_n hq
            cases fl with
            | next =>
              obtain ⟨σ6, H6, S6, w⟩ := got
              exact close S6 fun r7 J7 => ⟨_, _, J7, w⟩
            | brk =>
              obtain ⟨σ6, H6, S6, w⟩ := got
              exact close S6 fun r7 J7 => ⟨_, _, J7, w⟩
            | cont =>
              obtain ⟨σ6, H6, S6, w⟩ := got
              exact close S6 fun r7 J7 => ⟨_, _, J7, w⟩
            | ret u =>
              obtain ⟨v6, σ6, H6, S6, r6', w⟩ := got
              exact close S6 fun r7 J7 => ⟨_, _, _, J7, r6', w⟩
    exact onward cl wish
  · cases fl with
    | next =>
      obtain ⟨σ', H', J', q⟩ := left
      exact wpAny_execs_nil ⟨σ', H', J'.ofTry okX, q⟩
    | brk =>
      obtain ⟨σ', H', J', q⟩ := left
      exact ⟨σ', H', J'.ofTry okX, q⟩
    | cont =>
      obtain ⟨σ', H', J', q⟩ := left
      exact ⟨σ', H', J'.ofTry okX, q⟩
    | ret u =>
      obtain ⟨v, σ', H', J', r, q⟩ := left
      exact ⟨v, σ', H', J'.ofTry okX, r, q⟩
end

/-! two named except clauses behind one try (the library has one named clause, or several without names) -/
section
variable {X : Cx} {x y n : Str} {c e : Value} {i : Nat} {body su1 su2 : List Stmt} {f1 f2 : Stmt} {p1 p2 p3 p4 pos : Pos} {tb : WX → TS} {t1 t2 : Addr → Value → Option Addr → TS} {Wout : WX}
theorem ps_try_as2 (hst : X.stack = X.env :: X.outer) (hfr : X.env.frame = some X.env.locals) (nd : X.N.Nodup) (at_i : X.N[i]? = some n) (loc_n : X.env.kindOf n = some .local) (nm1 : Names X x c) (nm2 : Names X y e) (tk : Takes X Wout)
    (hbody : ∀ (W : WX) (pn : List (Addr × Obj)) (xe : Value → Shared → Prop), Takes (X.tr pn xe) W → PassesOwn (model X.prog X.w) X.A X.env xe → PSs (X.tr pn xe) body (tb W))
    (hs1 : ∀ (a : Addr) (o : Obj) (cls : Value) (d : Option Addr) (pn : List (Addr × Obj)), Zc cls d o → (∃ vs, o.data = .fields vs) → PSs (X.suite a ((a, o) :: pn)) (f1 :: su1) (t1 a cls d))
    (hs2 : ∀ (a : Addr) (o : Obj) (cls : Value) (d : Option Addr) (pn : List (Addr × Obj)), Zc cls d o → (∃ vs, o.data = .fields vs) → PSs (X.suite a ((a, o) :: pn)) (f2 :: su2) (t2 a cls d)) :
    PS X (.Try body [.ExceptHandler (some (.Name x p1)) (some n) (f1 :: su1) p2, .ExceptHandler (some (.Name y p3)) (some n) (f2 :: su2) p4] [] [] pos) (fun D σ H => tb (wAs X.K c i t1 (wAs X.K e i t2 Wout D) D) D σ H) := by
  refine ⟨fun pins sh st Hh D inv hyp => ?_⟩
  have okX := inv.ok
  have frs0 : X.A.frames = some (X.env :: X.outer) := okX.frames.trans (congrArg some hst)
  refine wpAny_Try_except ?_
  refine wpAny_mono ((hbody (wAs X.K c i t1 (wAs X.K e i t2 Wout D) D) (X.pn ++ pins) (fun ev q₁ => wpAny (model X.prog X.w) X.A (noteFrame ev X.env) (fun _ q₂ => wpAny (model X.prog X.w) X.A (setFlight ev none) (fun _ q₃ =>
    wpAny (model X.prog X.w) X.A (handleBy ev X.env [.ExceptHandler (some (.Name x p1)) (some n) (f1 :: su1) p2, .ExceptHandler (some (.Name y p3)) (some n) (f2 :: su2) p4]) (SP X pins D) X.xe q₃) X.xe q₂) X.xe q₁) (fun u z xx => ?_) PassesOwn.looking).run [] sh st Hh D (inv.toTry _) hyp) (fun fl z1 left => ?_) (fun _ _ same => same)
  · obtain ⟨a, B, zI, pins2, st2, Hh2, cls, d, rfl, JT, nb, up, sky, na, os, ag, wish⟩ := xx
    have J : Inv X pins st2 Hh2 zI := JT.ofTry okX
    have skyX : Sky B (X.env :: X.outer) a (Zc cls d) X.env.locals z.heap := hst ▸ sky
    show wpAny (model X.prog X.w) X.A (noteFrame (Value.ref a) X.env) _ _ _
    refine Sky.land Zc.steady frs0 hfr skyX fun hp flz upz => ?_
    have J3 : Inv X pins st2 Hh2 { z with heap := hp } := J.landed nb flz.1 (up.trans upz) os ag
    obtain ⟨oA, vsA, atA, zA, dA⟩ := flz.there
    have apart : a ∉ frs (X.env :: X.outer) := fun hm => by
      obtain ⟨_, o', e', hnf⟩ := flz.2.2.1.mem hm
      rw [atA] at e'
      cases e'
      exact hnf _ dA
    have n1 : a ≠ X.env.locals := fun w => apart (List.mem_filterMap.mpr ⟨X.env, List.mem_cons_self, hfr.trans (congrArg some w.symm)⟩)
    have n2 : a ∉ X.fs := fun hm => by
      obtain ⟨ee, he, q⟩ := List.mem_filterMap.mp hm
      exact apart (List.mem_filterMap.mpr ⟨ee, List.mem_cons_of_mem _ he, q⟩)
    have S3 := J3.suite atA dA na n1 n2
    -- one clause
    have one : ∀ {x' : Str} {c' : Value} {np pp : Pos} {ff : Stmt} {ss : List Stmt} {tt : Addr → Value → Option Addr → TS} {Wn : WX} {more : List ExceptHandler}, Names X x' c' →
        (∀ (a : Addr) (o : Obj) (cls : Value) (d : Option Addr) (pn : List (Addr × Obj)), Zc cls d o → (∃ vs, o.data = .fields vs) → PSs (X.suite a ((a, o) :: pn)) (ff :: ss) (tt a cls d)) →
        wAs X.K c' i tt Wn D cls d st2 Hh2 → (Wn cls d st2 Hh2 → wpAny (model X.prog X.w) X.A (handleBy (.ref a) X.env more) (SP X pins D) X.xe { z with heap := hp }) →
        wpAny (model X.prog X.w) X.A (handleBy (.ref a) X.env (.ExceptHandler (some (.Name x' np)) (some n) (ff :: ss) pp :: more)) (SP X pins D) X.xe { z with heap := hp } := by
      intro x' c' np pp ff ss tt Wn more nm hsu ⟨b, isb, yes, no⟩ next
      refine wpAny_handleBy_cons (codeAny_handlers_test ?_) (fun q => by cases q)
      have looks : PySem.W.Looks (model X.prog X.w) hp (typeOf (.ref a)) cls := fun A Q E s k q => wpAny_typeOf_ref (k _ _ atA) (by rw [zA.1]; exact q)
      have test : ∀ {Q E : Value → Shared → Prop}, Q c' { z with heap := hp } → wpAny (model X.prog X.w) (X.A.mark (some (.ref a))) (eval (.Name x' np) X.env) Q E { z with heap := hp } := fun {Q E} q => by
        rcases nm with ⟨gl, nodb, known | ⟨unk, boot, nn⟩⟩
        · exact ld_glob (X := X.suite a ((a, oA) :: (X.pn ++ pins))) S3 gl known q nodb
        · exact ld_blt (X := X.suite a ((a, oA) :: (X.pn ++ pins))) S3 gl unk boot q nn nodb
      refine test ((PySem.W.exm_one (M := model X.prog X.w) J3.kIn looks isb).here ?_)
      cases b with
      | false => exact next (no rfl)
      | true =>
        refine (codeAny_handlers_suite_as ?_)
        refine HandSPX.lands_againZ flz fun hq flq upq => ?_
        have J4 : Inv X pins st2 Hh2 { z with heap := hq } := J.landed nb flq.1 ((up.trans upz).trans upq) os ag
        obtain ⟨oB, vsB, atB, zB, dB⟩ := flq.there
        have S4 := J4.suite atB dB na n1 n2
        refine store_ok (X := X.suite a ((a, oB) :: (X.pn ++ pins))) (v := .ref a) S4 nd at_i (.inl loc_n) rfl (fun r5 S5 => ?_) (.inr loc_n)
        refine wpAny_mono ((hsu a oB cls d (X.pn ++ pins) zB ⟨_, dB⟩).run [] r5 _ Hh2 _ S5 (yes rfl a na)) (fun fl r6 got => ?_) (fun _ _ w => False.elim w)
        have close : ∀ {σ6 : L2.St} {H6 : Hp} {Q : Shared → Prop}, Inv (X.suite a ((a, oB) :: (X.pn ++ pins))) [] σ6 H6 r6 → (∀ r7, Inv X pins (σ6.set i none) H6 r7 → Q r7) →
            wpAny (model X.prog X.w) X.A (do bindName X.env n .none; unbindBehindTheSuite X.env n pp) (fun _ r7 => Q r7) X.xe r6 := fun {σ6 H6 Q} S6 hq => gone_ok (S6.unsuite okX) nd at_i loc_n hq
        cases fl with
        | next =>
          obtain ⟨σ6, H6, S6, w⟩ := got
          exact close S6 fun r7 J7 => ⟨_, _, J7, w⟩
        | brk =>
          obtain ⟨σ6, H6, S6, w⟩ := got
          exact close S6 fun r7 J7 => ⟨_, _, J7, w⟩
        | cont =>
          obtain ⟨σ6, H6, S6, w⟩ := got
          exact close S6 fun r7 J7 => ⟨_, _, J7, w⟩
        | ret u =>
          obtain ⟨v6, σ6, H6, S6, r6', w⟩ := got
          exact close S6 fun r7 J7 => ⟨_, _, _, J7, r6', w⟩
    refine one nm1 hs1 wish fun wish2 => one nm2 hs2 wish2 fun out => ?_
    refine wpAny_handleBy_nil ?_
    obtain ⟨j1, j2, j3, oC, vC, T, oT, tC, atC, zC, dC, fC, rC⟩ := id flz
    unfold PySem.passOn
    refine wpAny_bind (wpAny_field atC dC fC ?_)
    rw [if_neg (show ¬ ((Value.ref T == Value.none) = true) by simp)]
    have fin : wpAny (model X.prog X.w) X.A (setFlight (.ref a) X.env.frame) (fun _ q4 => wpAny (model X.prog X.w) X.A (throw (.ref a) : Sem Flow) (SP X pins D) X.xe q4) X.xe { z with heap := hp } := by
      rw [hfr]
      refine HandSPX.setFlight_upZ flz fun hq fq uq => wpAny_throw (tk _ _ ?_)
      exact ⟨a, B, zI, pins, st2, Hh2, cls, d, rfl, J, nb, (up.trans upz).trans uq, .inr (.inr (hst.symm ▸ fq)), na, os, ag, out⟩
    first | (exact wpAny_bind (wpAny_pure (wpAny_bind fin))) | (exact wpAny_bind fin)
  · cases fl with
    | next =>
      obtain ⟨σ', H', J', q⟩ := left
      exact wpAny_execs_nil ⟨σ', H', J'.ofTry okX, q⟩
    | brk =>
      obtain ⟨σ', H', J', q⟩ := left
      exact ⟨σ', H', J'.ofTry okX, q⟩
    | cont =>
      obtain ⟨σ', H', J', q⟩ := left
      exact ⟨σ', H', J'.ofTry okX, q⟩
    | ret u =>
      obtain ⟨v, σ', H', J', r, q⟩ := left
      exact ⟨v, σ', H', J'.ofTry okX, r, q⟩
end

section
variable {X : Cx}
/-- isinstance(e, C), e the error that the suite holds, of the class D -/
def rIsE' (K : PySem.W.Frag) (D a : Addr) (cls : Value) (d : Option Addr) : List V → Hp → VK → Prop := fun xs H Q => cls = .ref D ∧ d = none ∧ rIsE K D a xs H Q
theorem call_isE' {a D : Addr} {cls : Value} {d : Option Addr} {oe : Obj} {pn : List (Addr × Obj)} (C : ExcC X.K D) (hz : Zc cls d oe) (hf : ∃ vs, oe.data = .fields vs) : CallR (X.suite a ((a, oe) :: pn)) (.builtin "isinstance") (rIsE' X.K D a cls d) := by
  intro pins s σ H xs us Q I r h
  obtain ⟨rfl, rfl, h⟩ := h
  exact call_isE C hz hf pins s σ H xs us Q I r h
end

section
variable {P : Program} {w : World} {K : PySem.W.Frag} {mg : Str → Option Value} {base : Heap}
/-- a field of an instance, set and read -/
theorem setF {K : PySem.W.Frag} {C x dx : Addr} {fs : List (Str × V)} {f : Str} {y : V} {H : Hp} {W : Hp → Prop} (hx : H x = some (.ins C dx fs)) (c : Cls K C) (na : NoAttr K C f) (hl : Nat.ble (fs.length + 1) 1000 = true)
    (h : W (upd H x (.ins C dx (putF f y fs)))) : ∃ (a C : Addr) (dx : Addr) (fs : List (Str × V)), V.ref x = V.ref a ∧ H a = some (.ins C dx fs) ∧ Cls K C ∧ NoAttr K C f ∧ fs.length < 1000 ∧ W (upd H a (.ins C dx (putF f y fs))) :=
  ⟨x, C, dx, fs, rfl, hx, c, na, Nat.le_of_ble_eq_true hl, h⟩
theorem getF {K : PySem.W.Frag} {C x dx : Addr} {fs : List (Str × V)} {f : Str} {v : V} {H : Hp} {σ : L2.St} {Q : VK} (hx : H x = some (.ins C dx fs)) (c : Cls K C) (na : NoAttr K C f) (hl : fs.lookup f = some v) (h : Q v H) :
    tFld K (tC (.ref x)) f σ H Q := ⟨x, C, dx, fs, v, rfl, hx, c, na, hl, h⟩

/-! ### xs.remove(x), x an object at any place of xs: it is found by identity, the objects ahead of it are other ones (no own ==) -/
section
open PySem.SeqAt PySem.MeetsSeq PySem.AutoSeq1 PySem.W
theorem obj_bound {M : Model} {A : Around} {E : Value → Shared → Prop} {s : Shared} {K : Frag} {x C : Addr} {ox : Obj} {od : Option Obj} {name : Str} {id : String} {args : List Value} {Q : Option Value → Shared → Prop}
    (hX : K.In s.heap) (J : InstAt s.heap x ox C od) (hs : findIn K (.ref C) name = some (some (.builtin id))) (hbd : ∀ v, bindSpecial (.builtin id) v = pure (.builtin id, [v]))
    (h : wpAny M A (call (.builtin id) (.ref x :: args)) (fun v => Q (some v)) E s) : wpAny M A (callSpecialIfBound? (.ref x) name args) Q E s := by
  simp only [callSpecialIfBound?, bindSpecialIfBound?]
  refine wpAny_holding (wpAny_bind (wpAny_bind (wpAny_bind (J.type.here ((looks_findIn hX hs).here ?_)))))
  simp only [hbd]
  refine wpAny_bind (wpAny_askSetting (wpAny_ite ?_))
  have fin : wpAny M A (call (.builtin id) ([.ref x] ++ args) >>= fun v => pure (some v)) Q E s := wpAny_bind (wpAny_mono h (fun v s' h' => wpAny_pure h') fun _ _ h' => h')
  split
  · exact wpAny_bind (wpAny_pure (wpAny_pure fin))
  · exact wpAny_tryCatch (wpAny_bind (wpAny_pure (wpAny_pure fin)))
theorem obj_check {M : Model} {A : Around} {E : Value → Shared → Prop} {s : Shared} {K : Frag} {x C : Addr} {ox : Obj} {od : Option Obj} {id owner n : String} {rest : List Value} {Q : Unit → Shared → Prop}
    (hX : K.In s.heap) (J : InstAt s.heap x ox C od) (hk : builtinKind id = some .slot) (hs : splitId id = some (owner, n)) (ha : argsOk id ⟨.ref x :: rest, []⟩)
    (hm : mroIn K C (.type owner) = some true) (hq : Q () s) : wpAny M A (checkBuiltinCall id ⟨.ref x :: rest, []⟩) Q E s := by
  have hL := looks_mroIn (M := M) hX hm
  simp only [checkBuiltinCall, hk, hs]
  refine wpAny_bind ?_
  unfold isInstance
  refine wpAny_bind (J.type.here ?_)
  refine (hL.here ?_)
  simp only [Bool.not_true, Bool.false_eq_true, if_false]
  cases hsig : Manifest.signature? id with
  | none => exact wpAny_pure hq
  | some sig =>
    simp only [argsOk, hsig] at ha
    have h2 : Bind.checkArgs id sig ⟨.ref x :: rest, []⟩ = pure () := ha
    show wpAny M A (Bind.checkArgs id sig ⟨.ref x :: rest, []⟩) Q E _
    rw [h2]; exact wpAny_pure hq
theorem obj_try {prog : Program} {w : World} {A : Around} {E : Value → Shared → Prop} {s : Shared} {K : Frag} {x y C : Addr} {ox oy : Obj} {od : Option Obj} {Q : Option Value → Shared → Prop}
    (hX : K.In s.heap) (J : InstAt s.heap x ox C od) (hy : s.heap.get? y = some oy) (hxy : x ≠ y) (hs : findIn K (.ref C) "__eq__" = some (some (.builtin "object.__eq__")))
    (hm : mroIn K C (.type "object") = some true) (hq : Q none s) : wpAny (model prog w) A (tryCompare (.ref x) "__eq__" (.ref y)) Q E s := by
  have hnt : ox.cls ≠ .type "tuple" := by rw [J.cls]; intro e; cases e
  simp only [tryCompare]
  refine wpAny_bind (obj_bound hX J hs F.cmp_object.eq.bind (wpAny_call (codeAny_call_builtin F.cmp_object.eq.plain F.cmpEntry_eq (obj_check hX J F.cmpKind_eq F.cmpSplit_eq (F.cmpArgs_eq _ _) hm ?_))))
  refine objEq_entry_other hxy J.at_ hy hnt ?_
  exact wpAny_pure hq
theorem obj_rich {prog : Program} {w : World} {A : Around} {E : Value → Shared → Prop} {s : Shared} {K : Frag} {x y C : Addr} {ox oy : Obj} {od od' : Option Obj} {Q : Value → Shared → Prop}
    (hu : A.units < cLine) (hX : K.In s.heap) (J : InstAt s.heap x ox C od) (J' : InstAt s.heap y oy C od') (hxy : x ≠ y) (hs : findIn K (.ref C) "__eq__" = some (some (.builtin "object.__eq__")))
    (hm : mroIn K C (.type "object") = some true) (hq : Q (.bool false) s) : wpAny (model prog w) A (richCompare .Eq (.ref x) (.ref y)) Q E s := by
  have hnt : ox.cls ≠ .type "tuple" := by rw [J.cls]; intro e; cases e
  unfold richCompare
  simp only [oneThing_ref]
  refine wpAny_holding (wpAny_bind (wpAny_cRoomFor hu ?_))
  refine wpAny_bind (J.type.here (wpAny_bind (J'.type.here ?_)))
  rw [if_neg (by simp)]
  refine wpAny_bind (wpAny_pure ?_)
  simp only [Bool.false_eq_true, if_false, Bool.not_false, if_true]
  refine wpAny_bind (obj_try hX J J'.at_ hxy hs hm ?_)
  dsimp only
  refine wpAny_bind (obj_try hX J' J.at_ hxy.symm hs hm ?_)
  dsimp only
  refine wpAny_bind (wpAny_rule ?_)
  refine wpAny_bind (wpAny_isSame_ref_other hxy J.at_ J'.at_ hnt ?_)
  exact wpAny_pure hq
theorem obj_eqAt {A : Around} {s : Shared} {K : Frag} {x y C : Addr} {ox oy : Obj} {od od' : Option Obj} (hu : A.units < cLine) (hX : K.In s.heap) (J : InstAt s.heap x ox C od) (J' : InstAt s.heap y oy C od')
    (hs : findIn K (.ref C) "__eq__" = some (some (.builtin "object.__eq__"))) (hm : mroIn K C (.type "object") = some true) : EqAt A s (.ref x) (.ref y) (x == y) := by
  by_cases hxy : x = y
  · subst hxy
    rw [beq_self_eq_true]
    exact EqAt.same (A := A) (s := s) (.ref x)
  · rw [show (x == y) = false from beq_false_of_ne hxy]
    intro prog w E Q hq
    exact GQ.eqBool_refG hxy (obj_rich hu hX J J' hxy hs hm ⟨false, rfl, hq⟩)
end
theorem erase_mapR (a : Addr) : ∀ (as : List Addr), (as.map V.ref).eraseIdx (as.idxOf a) = (as.erase a).map V.ref
  | [] => rfl
  | b :: r => by
    have ih := erase_mapR a r
    by_cases h : b = a
    · subst h
      rw [List.idxOf_cons_self, List.erase_cons_head]
      rfl
    · rw [List.idxOf_cons, show (b == a) = false from beq_false_of_ne h, cond_false, List.erase_cons_tail (by simpa using h), List.map_cons, List.map_cons, List.eraseIdx_cons_succ, ih]
theorem vals_refs : ∀ {as : List Addr} {its : List Value}, Vals (as.map V.ref) its → its = as.map Value.ref
  | [], _, .nil => rfl
  | _ :: _, _, .cons h t => by
    cases h
    rw [vals_refs t]
    rfl
theorem hu_in {k : Nat} {A : Around} (hr : Room k A) : A.in1.units < cLine := by
  have := hr.units
  show A.units + 1 < cLine
  omega
section
open PySem.SeqAt
variable {X : Cx}
/-- one object of the class at C out of several -/
def rRemO (C : Addr) : V → List V → Hp → VK → Prop := fun x xs H Q => ∃ (l a : Addr) (as : List Addr), x = .ref l ∧ xs = [.ref a] ∧ H l = some (.lst (as.map V.ref)) ∧ a ∈ as ∧ (∀ b, b ∈ as → ∃ dx fs, H b = some (.ins C dx fs)) ∧ Q .non (upd H l (.lst ((as.erase a).map V.ref)))
theorem mt_removeO {k : Nat} {C : Addr} (hr : Room k X.A) (hs : PySem.W.findIn X.K (.ref C) "__eq__" = some (some (.builtin "object.__eq__"))) (hm : PySem.W.mroIn X.K C (.type "object") = some true) : MtM X "list.remove" (rRemO C) := by
  intro pins s σ H x xs v us Q I rx rxs h
  obtain ⟨l, a, as, rfl, rfl, hH, ha, hobj, q⟩ := h
  cases rx
  obtain ⟨u, rfl, ru⟩ := rxs.one
  cases ru
  obtain ⟨z, its, n, r, hl, e⟩ := I.lstM hH
  have hi := vals_refs r
  rw [List.length_map] at hl z
  have hj : as.idxOf a < as.length := List.idxOf_lt_length_iff.mpr ha
  have hjl : as.idxOf a < its.toArray.size := by rw [List.size_toArray]; omega
  have look : ∀ b, b ∈ as → ∃ ob od, PySem.W.InstAt s.heap b ob C od := by
    intro b hb
    obtain ⟨dx, fs, hb2⟩ := hobj b hb
    obtain ⟨mA, J, _⟩ := ins_get I.hok hb2
    obtain ⟨od, J, _⟩ := J.look
    exact ⟨_, _, J⟩
  have item : ∀ m (hm : m < its.toArray.size), ∃ hm2 : m < as.length, its.toArray[m] = .ref as[m] := by
    intro m hm
    subst hi
    have h2 : m < as.length := by simpa using hm
    exact ⟨h2, by simp⟩
  refine call_meets PySem.F.slot_list_remove ⟨_, e, rfl⟩ PySem.F.entry_list_remove (PySem.F.args_list_remove_2 _ _)
    (list_removeAt l its.toArray n none #[] (.ref a) (fun y => y == .ref a) (as.idxOf a) hjl ?_ ?_ (by rw [List.size_toArray]; omega)) ⟨e, ?_, ?_⟩
  · obtain ⟨h2, e2⟩ := item _ hjl
    show (its.toArray[as.idxOf a] == Value.ref a) = true
    rw [e2, List.getElem_idxOf]
    exact beq_self_eq_true _
  · intro m hm2 hmj
    obtain ⟨h2, e2⟩ := item _ hm2
    show (its.toArray[m] == Value.ref a) = false
    rw [e2]
    refine beq_eq_false_iff_ne.mpr fun e3 => ?_
    injection e3 with e3
    have e4 := List.not_of_lt_findIdx (p := (· == a)) hmj
    rw [e3] at e4
    simp at e4
  · intro y hy
    obtain ⟨m, hm2, e2⟩ := Array.getElem_of_mem hy
    obtain ⟨h2, e3⟩ := item m hm2
    rw [← e2, e3]
    obtain ⟨_, _, J⟩ := look _ (List.getElem_mem h2)
    obtain ⟨_, _, J'⟩ := look _ ha
    have q2 := obj_eqAt (A := X.A.in1) (s := s) (hu_in hr) I.kIn J J' hs hm
    have e4 : (Value.ref as[m] == Value.ref a) = (as[m] == a) := by
      by_cases h : as[m] = a
      · rw [h, beq_self_eq_true, beq_self_eq_true]
      · rw [beq_false_of_ne h]
        exact beq_eq_false_iff_ne.mpr fun e5 => h (by injection e5)
    rw [← e4] at q2
    exact q2
  · have rr := r.eraseIdx (as.idxOf a)
    rw [erase_mapR] at rr
    refine ⟨.non, _, I.lset (its' := its.eraseIdx (as.idxOf a)) (t' := s.toks) hH e ?_ rr ?_, rfl, q⟩
    · show its.toArray.eraseIdxIfInBounds (as.idxOf a) = (its.eraseIdx (as.idxOf a)).toArray
      rw [List.eraseIdxIfInBounds_toArray]
    · rw [List.length_map]
      have := (List.erase_sublist (a := a) (l := as)).length_le
      omega
end

/-- an order as the program keeps it -/
structure Ord where
  number : Int
  house : Str
  side : Str
  price : Option Int
  shown : Int
  left : Int
  visible : Int
def optV : Option Int → V
  | none => .non
  | some i => .int i
/-- its place in the heap -/
def ordO (C dx : Addr) (o : Ord) : HO := .ins C dx [("number", .int o.number), ("house", .str o.house), ("side", .str o.side), ("price", optV o.price), ("shown", .int o.shown), ("left", .int o.left), ("visible", .int o.visible)]
def buyS (s : Str) : Bool := decide (V.str s = V.str "buy")
/-- whether the limit takes the price -/
def takes (side : Str) (limit : Option Int) (p : Int) : Bool := match limit with
  | none => true
  | some l => if buyS side then decide (p ≤ l) else decide (l ≤ p)
def sp_accepts (K : PySem.W.Frag) : Sp := fun vs H Q _ => ∃ (s : Str) (l : Option Int) (p : Int), vs = [.str s, optV l, .int p] ∧ Q (.bl (takes s l p)) H
set_option maxHeartbeats 0 in
theorem ok_accepts (T : Txt K mg) : FnOk P w K mg base CX0 1 T.f_accepts T.d_accepts ["side", "limit", "price"] (sp_accepts K) := by
  refine T.F_accepts.ok sc_accepts (fun vs H Q E h => ?_) (fun cdv A outer s H vs Q E hr h => ?_)
  · obtain ⟨s, l, p, rfl, _⟩ := h
    rfl
  · obtain ⟨s, l, p, rfl, q⟩ := h
    refine ⟨_, (pss_cons (ps_if (pt_cmpR op_isN (pv 1) pe_non (nomark _))
      (pss_one (ps_ret pe_bl))
      pss_nil)
    (pss_one (ps_ret (pe_ifExp (pt_cmpR op_eq (pv 0) pe_str (nomark _)) (pe_cmpR op_le (pv 2) (pv 1) (nomark _)) (pe_cmpR op_ge (pv 2) (pv 1) (nomark _)))))), ?_⟩
    cases l with
    | none =>
      walk_at "st"
      exact q
    | some l =>
      walk_at "st"
      refine iteB (fun h => ?_) (fun h => ?_)
      · walk_at "st"
        have e : takes s (some l) p = decide (p ≤ l) := by
          show (if buyS s = true then _ else _) = _
          rw [show buyS s = true from h, if_pos rfl]
        rw [e] at q
        exact q
      · walk_at "st"
        have e : takes s (some l) p = decide (l ≤ p) := by
          show (if buyS s = true then _ else _) = _
          rw [show buyS s = false from h, if_neg Bool.false_ne_true]
        rw [e] at q
        exact q
def sp_Order_init (K : PySem.W.Frag) (C : Addr) : Sp := fun vs H Q _ => ∃ (x dx : Addr) (n : Int) (ho si : Str) (pr : Option Int) (qu sh : Int), vs = [.ref x, .int n, .str ho, .str si, optV pr, .int qu, .int sh] ∧
  H x = some (.ins C dx []) ∧ Q .non (upd H x (ordO C dx ⟨n, ho, si, pr, sh, qu, 0⟩))
set_option maxHeartbeats 0 in
theorem ok_Order_init (T : Txt K mg) : FnOk P w K mg base CX0 1 T.f_Order_init T.d_Order_init ["self", "number", "house", "side", "price", "quantity", "shown"] (sp_Order_init K T.c_Order) := by
  refine T.F_Order_init.ok sc_Order_init (fun vs H Q E h => ?_) (fun cdv A outer s H vs Q E hr h => ?_)
  · obtain ⟨x, dx, n, ho, si, pr, qu, sh, rfl, _⟩ := h
    rfl
  · obtain ⟨x, dx, n, ho, si, pr, qu, sh, rfl, hx, q⟩ := h
    refine ⟨_, (pss_cons (ps_fld (pv 0) (pv 1) rfl)
    (pss_cons (ps_fld (pv 0) (pv 2) rfl)
    (pss_cons (ps_fld (pv 0) (pv 3) rfl)
    (pss_cons (ps_fld (pv 0) (pv 4) rfl)
    (pss_cons (ps_fld (pv 0) (pv 6) rfl)
    (pss_cons (ps_fld (pv 0) (pv 5) rfl)
    (pss_one (ps_fld (pv 0) pe_int rfl)))))))), ?_⟩
    refine ⟨_, rfl, _, rfl, setF hx T.cl_Order T.na_Order_number rfl ?_⟩
    refine ⟨_, rfl, _, rfl, setF upd_same T.cl_Order T.na_Order_house rfl ?_⟩
    refine ⟨_, rfl, _, rfl, setF upd_same T.cl_Order T.na_Order_side rfl ?_⟩
    refine ⟨_, rfl, _, rfl, setF upd_same T.cl_Order T.na_Order_price rfl ?_⟩
    refine ⟨_, rfl, _, rfl, setF upd_same T.cl_Order T.na_Order_shown rfl ?_⟩
    refine ⟨_, rfl, _, rfl, setF upd_same T.cl_Order T.na_Order_left rfl ?_⟩
    refine ⟨_, rfl, setF upd_same T.cl_Order T.na_Order_visible rfl ?_⟩
    simp only [upd_upd]
    exact q
def sp_Order_accepts_price (K : PySem.W.Frag) (C : Addr) : Sp := fun vs H Q _ => ∃ (x dx : Addr) (o : Ord) (p : Int), vs = [.ref x, .int p] ∧ H x = some (ordO C dx o) ∧ Q (.bl (takes o.side o.price p)) H
set_option maxHeartbeats 0 in
theorem ok_Order_accepts_price (T : Txt K mg) : FnOk P w K mg base CX0 2 T.f_Order_accepts_price T.d_Order_accepts_price ["self", "price"] (sp_Order_accepts_price K T.c_Order) := by
  refine T.F_Order_accepts_price.ok sc_Order_accepts_price (fun vs H Q E h => ?_) (fun cdv A outer s H vs Q E hr h => ?_)
  · obtain ⟨x, dx, o, p, rfl, _⟩ := h
    rfl
  · obtain ⟨x, dx, o, p, rfl, hx, q⟩ := h
    have G_accepts : FnOk P w K mg base CX0 1 T.f_accepts T.d_accepts ["side", "limit", "price"] (sp_accepts K) := ok_accepts T
    refine ⟨_, (pss_one (ps_ret (pe_call G_accepts hr (by rfl) T.m_accepts T.F_accepts.kp T.b_accepts .nil pass0 (pa_cons (pe_fld (pv 0) rfl) (pa_cons (pe_fld (pv 0) rfl) (pa_cons (pv 1) pa_nil)))))), ?_⟩
    have fact_Order_0 := T.cl_Order; have fact_Order_1 := T.na_Order_number; have fact_Order_2 := T.na_Order_house; have fact_Order_3 := T.na_Order_side; have fact_Order_4 := T.na_Order_price; have fact_Order_5 := T.na_Order_shown; have fact_Order_6 := T.na_Order_left; have fact_Order_7 := T.na_Order_visible
    walk_at "st"
    exact ⟨_, _, rfl, q⟩
def Ord.showNext (o : Ord) : Ord := { o with visible := if o.shown = 0 then o.left else if o.left < o.shown then o.left else o.shown }
def sp_Order_show_next_part (K : PySem.W.Frag) (C : Addr) : Sp := fun vs H Q _ => ∃ (x dx : Addr) (o : Ord), vs = [.ref x] ∧ H x = some (ordO C dx o) ∧ Q .non (upd H x (ordO C dx o.showNext))
set_option maxHeartbeats 0 in
theorem ok_Order_show_next_part (T : Txt K mg) : FnOk P w K mg base CX0 1 T.f_Order_show_next_part T.d_Order_show_next_part ["self"] (sp_Order_show_next_part K T.c_Order) := by
  refine T.F_Order_show_next_part.ok sc_Order_show_next_part (fun vs H Q E h => ?_) (fun cdv A outer s H vs Q E hr h => ?_)
  · obtain ⟨x, dx, o, rfl, _⟩ := h
    rfl
  · obtain ⟨x, dx, o, rfl, hx, q⟩ := h
    refine ⟨_, (pss_one (ps_fld (pv 0) (pe_ifExp (pt_cmpR op_eq (pe_fld (pv 0) rfl) pe_int (nomark _)) (pe_fld (pv 0) rfl) (pe_callB (call_min2 rfl) (by rfl) T.z_min (by decide +kernel) (pa_cons (pe_fld (pv 0) rfl) (pa_cons (pe_fld (pv 0) rfl) pa_nil)))) rfl)), ?_⟩
    have fact_Order_0 := T.cl_Order; have fact_Order_1 := T.na_Order_number; have fact_Order_2 := T.na_Order_house; have fact_Order_3 := T.na_Order_side; have fact_Order_4 := T.na_Order_price; have fact_Order_5 := T.na_Order_shown; have fact_Order_6 := T.na_Order_left; have fact_Order_7 := T.na_Order_visible
    walk_at "st"
    refine iteB (fun h => ?_) (fun h => ?_)
    · have e : o.showNext = { o with visible := o.left } := by
        unfold Ord.showNext
        rw [if_pos (V.int.inj (dec_t h))]
      rw [e] at q
      walk_at "st"
      exact q
    · have e : o.showNext = { o with visible := if o.left < o.shown then o.left else o.shown } := by
        unfold Ord.showNext
        rw [if_neg (fun z => dec_f h (congrArg V.int z))]
      rw [e] at q
      walk_at "st"
      exact q
def sp_Order_trade_visible (K : PySem.W.Frag) (C : Addr) : Sp := fun vs H Q _ => ∃ (x dx : Addr) (o : Ord) (n : Int), vs = [.ref x, .int n] ∧ H x = some (ordO C dx o) ∧ Q .non (upd H x (ordO C dx { o with left := o.left - n, visible := o.visible - n }))
set_option maxHeartbeats 0 in
theorem ok_Order_trade_visible (T : Txt K mg) : FnOk P w K mg base CX0 1 T.f_Order_trade_visible T.d_Order_trade_visible ["self", "quantity"] (sp_Order_trade_visible K T.c_Order) := by
  refine T.F_Order_trade_visible.ok sc_Order_trade_visible (fun vs H Q E h => ?_) (fun cdv A outer s H vs Q E hr h => ?_)
  · obtain ⟨x, dx, o, n, rfl, _⟩ := h
    rfl
  · obtain ⟨x, dx, o, n, rfl, hx, q⟩ := h
    refine ⟨_, (pss_cons (ps_fldaug (pv 0) (pv 1) in_sub)
    (pss_one (ps_fldaug (pv 0) (pv 1) in_sub))), ?_⟩
    have fact_Order_0 := T.cl_Order; have fact_Order_1 := T.na_Order_number; have fact_Order_2 := T.na_Order_house; have fact_Order_3 := T.na_Order_side; have fact_Order_4 := T.na_Order_price; have fact_Order_5 := T.na_Order_shown; have fact_Order_6 := T.na_Order_left; have fact_Order_7 := T.na_Order_visible
    walk_at "st"
    rw [upd_upd]
    exact q

/-! ### one side of a book -/
abbrev Ent := Addr × Addr × Ord
def refs (es : List Ent) : List V := es.map fun e => V.ref e.1
structure SideAt (CO CB : Addr) (H : Hp) (b db l : Addr) (es : List Ent) : Prop where
  ob : H b = some (.ins CB db [("_orders", .ref l)])
  li : H l = some (.lst (refs es))
  en : ∀ e, e ∈ es → H e.1 = some (ordO CO e.2.1 e.2.2)
  nd : (es.map (·.1)).Nodup
  sm : es.length ≤ 1000
theorem SideAt.bl {CO CB : Addr} {H : Hp} {b db l : Addr} {es : List Ent} (S : SideAt CO CB H b db l es) : b ≠ l := fun e => by
  have := S.ob
  rw [e, S.li] at this
  cases this
theorem SideAt.be {CO CB : Addr} {H : Hp} {b db l : Addr} {es : List Ent} (S : SideAt CO CB H b db l es) {e : Ent} (h : e ∈ es) : e.1 ≠ b := fun q => by
  have := S.en e h
  rw [q, S.ob] at this
  unfold ordO at this
  injection this with this
  injection this with _ _ this
  injection this with h1 _
  injection h1 with h1 _
  exact absurd h1 (by decide)
theorem SideAt.le {CO CB : Addr} {H : Hp} {b db l : Addr} {es : List Ent} (S : SideAt CO CB H b db l es) {e : Ent} (h : e ∈ es) : e.1 ≠ l := fun q => by
  have := S.en e h
  rw [q, S.li] at this
  cases this
def sp_BookSide_init (K : PySem.W.Frag) (CO CB : Addr) : Sp := fun vs H Q _ => ∃ (x dx : Addr), vs = [.ref x] ∧ H x = some (.ins CB dx []) ∧ ∀ l, H l = none → Q .non (upd (upd H l (.lst [])) x (.ins CB dx [("_orders", .ref l)]))
set_option maxHeartbeats 0 in
theorem ok_BookSide_init (T : Txt K mg) : FnOk P w K mg base CX0 1 T.f_BookSide_init T.d_BookSide_init ["self"] (sp_BookSide_init K T.c_Order T.c_BookSide) := by
  refine T.F_BookSide_init.ok sc_BookSide_init (fun vs H Q E h => ?_) (fun cdv A outer s H vs Q E hr h => ?_)
  · obtain ⟨x, dx, rfl, _⟩ := h
    rfl
  · obtain ⟨x, dx, rfl, hx, q⟩ := h
    refine ⟨_, (pss_one (ps_fld (pv 0) (pe_lst pa_nil) rfl)), ?_⟩
    have fact_BookSide_0 := T.cl_BookSide; have fact_BookSide_1 := T.na_BookSide__orders
    walk_at "st"
    intro l nl
    have hx2 := (upd_ne (o := HO.lst []) (ne_of_none hx nl)).trans hx
    walk_at "st"
    exact q l nl
def sp_BookSide_first (K : PySem.W.Frag) (CO CB : Addr) : Sp := fun vs H Q _ => ∃ (b db l : Addr) (es : List Ent), vs = [.ref b] ∧ SideAt CO CB H b db l es ∧ Q (match es with | [] => .non | e :: _ => .ref e.1) H
set_option maxHeartbeats 0 in
theorem ok_BookSide_first (T : Txt K mg) : FnOk P w K mg base CX0 1 T.f_BookSide_first T.d_BookSide_first ["self"] (sp_BookSide_first K T.c_Order T.c_BookSide) := by
  refine T.F_BookSide_first.ok sc_BookSide_first (fun vs H Q E h => ?_) (fun cdv A outer s H vs Q E hr h => ?_)
  · obtain ⟨b, db, l, es, rfl, _⟩ := h
    rfl
  · obtain ⟨b, db, l, es, rfl, S, q⟩ := h
    refine ⟨_, (pss_one (ps_ret (pe_ifExp (pt_truth (pe_fld (pv 0) rfl) (by intro _; rfl)) (pe_ix ix_list (pe_fld (pv 0) rfl) pe_int (fun _ _ => rfl)) pe_non))), ?_⟩
    have fact_BookSide_0 := T.cl_BookSide; have fact_BookSide_1 := T.na_BookSide__orders
    have hob := S.ob
    have hli := S.li
    walk_at "st"
    refine ⟨.inl ⟨refs es, SqL.of hli, rfl⟩, ?_⟩
    cases es with
    | nil => exact q
    | cons e r =>
      refine iteT ?_
      walk_at "st"
      refine ⟨atI_nat (j := 0) rfl, ?_⟩
      exact q
theorem refs_map (es : List Ent) : refs es = (es.map (·.1)).map V.ref := by
  unfold refs
  rw [List.map_map]
  rfl
theorem erase_mid {pre post : List Ent} {e : Ent} (nd : ((pre ++ e :: post).map (·.1)).Nodup) : ((pre ++ e :: post).map (·.1)).erase e.1 = (pre ++ post).map (·.1) := by
  rw [List.map_append, List.map_cons] at nd ⊢
  have h := (List.nodup_append.mp nd).2.2
  rw [List.erase_append_right _ (fun z => h _ z _ List.mem_cons_self rfl), List.erase_cons_head, List.map_append]
def sp_BookSide_leave (K : PySem.W.Frag) (CO CB : Addr) : Sp := fun vs H Q _ => ∃ (b db l : Addr) (pre : List Ent) (e : Ent) (es : List Ent), vs = [.ref b, .ref e.1] ∧ SideAt CO CB H b db l (pre ++ e :: es) ∧ Q .non (upd H l (.lst (refs (pre ++ es))))
set_option maxHeartbeats 0 in
theorem ok_BookSide_leave (T : Txt K mg) : FnOk P w K mg base CX0 1 T.f_BookSide_leave T.d_BookSide_leave ["self", "order"] (sp_BookSide_leave K T.c_Order T.c_BookSide) := by
  refine T.F_BookSide_leave.ok sc_BookSide_leave (fun vs H Q E h => ?_) (fun cdv A outer s H vs Q E hr h => ?_)
  · obtain ⟨b, db, l, pre, e, es, rfl, _⟩ := h
    rfl
  · obtain ⟨b, db, l, pre, e, es, rfl, S, q⟩ := h
    refine ⟨_, (pss_one (ps_expr (pe_bm PySem.F.plainAttrs_list PySem.F.slot_list_remove PySem.F.type_list_remove (mt_removeO hr T.eq_Order T.mo_Order) (pe_fld (pv 0) rfl) (pa_cons (pv 1) pa_nil)))), ?_⟩
    have fact_BookSide_0 := T.cl_BookSide; have fact_BookSide_1 := T.na_BookSide__orders
    have hob := S.ob
    have hli := S.li
    rw [refs_map] at hli
    have hmem : e.1 ∈ (pre ++ e :: es).map (·.1) := List.mem_map.mpr ⟨e, List.mem_append_right _ List.mem_cons_self, rfl⟩
    have hobj : ∀ b, b ∈ (pre ++ e :: es).map (·.1) → ∃ dx fs, H b = some (.ins T.c_Order dx fs) := fun b hb => by
      obtain ⟨y, hy, rfl⟩ := List.mem_map.mp hb
      exact ⟨_, _, S.en y hy⟩
    walk_at "st"
    refine ⟨_, rfl, rfl, hli, hmem, hobj, ?_⟩
    rw [erase_mid S.nd, ← refs_map]
    exact q
theorem ents_at {es : List Ent} {i : Nat} {x : V} (h : (refs es)[i]? = some x) : ∃ e, es[i]? = some e ∧ x = .ref e.1 := by
  unfold refs at h
  rw [List.getElem?_map] at h
  cases e : es[i]? with
  | none => rw [e] at h; cases h
  | some z => rw [e] at h; exact ⟨z, rfl, (Option.some.inj h).symm⟩
theorem find_hit {α : Type} {p : α → Bool} {es : List α} {i : Nat} {e : α} (h : es[i]? = some e) (h0 : (es.take i).find? p = none) (hp : p e = true) : es.find? p = some e := by
  rw [← List.take_append_drop (i + 1) es, List.find?_append, take_succ h, List.find?_append, h0]
  simp [hp]
theorem find_miss {α : Type} {p : α → Bool} {es : List α} {i : Nat} {e : α} (h : es[i]? = some e) (h0 : (es.take i).find? p = none) (hp : p e = false) : (es.take (i + 1)).find? p = none := by
  rw [take_succ h, List.find?_append, h0]
  simp [hp]
def sp_BookSide_with_number (K : PySem.W.Frag) (CO CB : Addr) : Sp := fun vs H Q _ => ∃ (b db l : Addr) (es : List Ent) (n : Int), vs = [.ref b, .int n] ∧ SideAt CO CB H b db l es ∧
  Q (match es.find? (fun e => decide (e.2.2.number = n)) with | none => .non | some e => .ref e.1) H
set_option maxHeartbeats 0 in
theorem ok_BookSide_with_number (T : Txt K mg) : FnOk P w K mg base CX0 1 T.f_BookSide_with_number T.d_BookSide_with_number ["self", "number"] (sp_BookSide_with_number K T.c_Order T.c_BookSide) := by
  refine T.F_BookSide_with_number.ok sc_BookSide_with_number (fun vs H Q E h => ?_) (fun cdv A outer s H vs Q E hr h => ?_)
  · obtain ⟨b, db, l, es, n, rfl, _⟩ := h
    rfl
  · obtain ⟨b, db, l, es, n, rfl, S, q⟩ := h
    refine ⟨_, (pss_cons (ps_for PassesOwn.never rfl (pi_list (pe_fld (pv 0) rfl)) (pg_name (i := 2) sc_BookSide_with_number.nd rfl (Or.inl rfl))
      (pss_one (ps_if (pt_cmpR op_eq (pe_fld (pv 2) rfl) (pv 1) (nomark _))
        (pss_one (ps_ret (pv 2)))
        pss_nil)))
    (pss_one (ps_ret pe_non))), ?_⟩
    have fact_BookSide_0 := T.cl_BookSide; have fact_BookSide_1 := T.na_BookSide__orders; have fact_Order_0 := T.cl_Order; have fact_Order_1 := T.na_Order_number; have fact_Order_2 := T.na_Order_house; have fact_Order_3 := T.na_Order_side; have fact_Order_4 := T.na_Order_price; have fact_Order_5 := T.na_Order_shown; have fact_Order_6 := T.na_Order_left; have fact_Order_7 := T.na_Order_visible
    have hob := S.ob
    have hli := S.li
    walk_at "st"
    refine for_list (K := K) (a := l) (xs := refs es) (fun i σ H' => H' = H ∧ ∃ v : Option V, σ = [some (.ref b), some (.int n), v] ∧ (es.take i).find? (fun e => decide (e.2.2.number = n)) = none) ⟨rfl, none, rfl, rfl⟩ (fun i σ H' _ ⟨e, _⟩ => by rw [e]; exact SqL.of hli) ?_ ?_
    · rintro i x σ H' hx ⟨rfl, v, rfl, hf⟩
      obtain ⟨e, he, rfl⟩ := ents_at hx
      have hen := S.en e (List.mem_of_getElem? he)
      walk_at "st"
      refine iteB (fun h => ?_) (fun h => ?_)
      · rw [find_hit he hf (decide_eq_true (V.int.inj (dec_t h)))] at q
        walk_at "st"
        exact q
      · exact ⟨rfl, _, rfl, find_miss he hf (decide_eq_false fun z => dec_f h (congrArg V.int z))⟩
    · rintro σ H' ⟨rfl, v, rfl, hf⟩
      rw [show (refs es).length = es.length from List.length_map .., List.take_of_length_le (Nat.le_refl _)] at hf
      rw [hf] at q
      exact q
def accE (p : Int) (e : Ent) : Bool := takes e.2.2.side e.2.2.price p
/-- behind all that take the price -/
def place (es : List Ent) (p : Int) : Nat := (es.takeWhile (accE p)).length
def Mono (es : List Ent) (p : Int) : Prop := ∀ (i j : Nat) (e e' : Ent), i ≤ j → es[i]? = some e → es[j]? = some e' → accE p e' = true → accE p e = true
theorem place_is {p : Int} : ∀ {es : List Ent} {k : Nat}, k ≤ es.length → (∀ i e, i < k → es[i]? = some e → accE p e = true) → (∀ e, es[k]? = some e → accE p e = false) → place es p = k
  | [], k, hk, _, _ => by
    simp at hk
    rw [hk]
    rfl
  | e :: r, 0, _, _, h2 => by
    unfold place
    rw [List.takeWhile_cons, if_neg (by rw [h2 e rfl]; exact Bool.false_ne_true)]
    rfl
  | e :: r, k + 1, hk, h1, h2 => by
    have ih := place_is (p := p) (es := r) (k := k) (by simpa using hk) (fun i e hi he => h1 (i + 1) e (by omega) he) (fun e he => h2 e he)
    unfold place at ih ⊢
    rw [List.takeWhile_cons, if_pos (h1 0 e (by omega) rfl), List.length_cons, ih]
theorem place_le (es : List Ent) (p : Int) : place es p ≤ es.length := by
  unfold place
  exact (List.takeWhile_prefix _).length_le
def sp_BookSideplace_behind (K : PySem.W.Frag) (CO CB : Addr) : Sp := fun vs H Q _ => ∃ (b db l x dx : Addr) (es : List Ent) (o : Ord) (p : Int), vs = [.ref b, .ref x] ∧ SideAt CO CB H b db l es ∧ H x = some (ordO CO dx o) ∧ o.price = some p ∧ Mono es p ∧
  Q (.int (place es p : Nat)) H
set_option maxHeartbeats 0 in
theorem ok_BookSideplace_behind (T : Txt K mg) : FnOk P w K mg base CX0 3 T.f_BookSideplace_behind T.d_BookSideplace_behind ["self", "order"] (sp_BookSideplace_behind K T.c_Order T.c_BookSide) := by
  refine T.F_BookSideplace_behind.ok sc_BookSideplace_behind (fun vs H Q E h => ?_) (fun cdv A outer s H vs Q E hr h => ?_)
  · obtain ⟨b, db, l, x, dx, es, o, p, rfl, _⟩ := h
    rfl
  · obtain ⟨b, db, l, x, dx, es, o, p, rfl, S, hx, hp, hm, q⟩ := h
    have G_Order_accepts_price : FnOk P w K mg base CX0 2 T.f_Order_accepts_price T.d_Order_accepts_price ["self", "price"] (sp_Order_accepts_price K T.c_Order) := ok_Order_accepts_price T
    refine ⟨_, (pss_cons (ps_set (i := 2) sc_BookSideplace_behind.nd rfl (Or.inl rfl) pe_int)
    (pss_cons (ps_set (i := 3) sc_BookSideplace_behind.nd rfl (Or.inl rfl) (pe_callB call_len_seq (by rfl) T.z_len PySem.boot_len (pa_cons (pe_fld (pv 0) rfl) pa_nil)))
    (pss_cons (ps_while PassesOwn.never (pt_cmpR op_lt (pv 2) (pv 3) (nomark _))
      (pss_cons (ps_set (i := 4) sc_BookSideplace_behind.nd rfl (Or.inl rfl) (pe_op op_fdiv (pe_op op_add (pv 2) (pv 3)) pe_int))
      (pss_one (ps_if (pt_val (pe_meth (pe_ix ix_list (pe_fld (pv 0) rfl) (pv 4) (fun _ _ => rfl)) T.cl_Order T.mt_Order_accepts_price G_Order_accepts_price hr T.b_Order_accepts_price .nil pass0 (pa_cons (pe_fld (pv 1) rfl) pa_nil)))
        (pss_one (ps_set (i := 2) sc_BookSideplace_behind.nd rfl (Or.inl rfl) (pe_op op_add (pv 4) pe_int)))
        (pss_one (ps_set (i := 3) sc_BookSideplace_behind.nd rfl (Or.inl rfl) (pv 4)))))))
    (pss_one (ps_ret (pv 2)))))), ?_⟩
    have fact_BookSide_0 := T.cl_BookSide; have fact_BookSide_1 := T.na_BookSide__orders; have fact_Order_0 := T.cl_Order; have fact_Order_1 := T.na_Order_number; have fact_Order_2 := T.na_Order_house; have fact_Order_3 := T.na_Order_side; have fact_Order_4 := T.na_Order_price; have fact_Order_5 := T.na_Order_shown; have fact_Order_6 := T.na_Order_left; have fact_Order_7 := T.na_Order_visible
    have hob := S.ob
    have hli := S.li
    have hsm := S.sm
    walk_at "st"
    have lenR : (refs es).length = es.length := List.length_map ..
    refine while_by (fun σ H' => H' = H ∧ ∃ (lo hi : Nat) (v : Option V), σ = [some (.ref b), some (.ref x), some (.int (lo : Int)), some (.int (hi : Int)), v] ∧ lo ≤ hi ∧ hi ≤ es.length ∧
        (∀ i e, i < lo → es[i]? = some e → accE p e = true) ∧ (∀ i e, hi ≤ i → es[i]? = some e → accE p e = false))
      (fun σ _ => match σ with | [_, _, some (.int lo), some (.int hi), _] => (hi - lo).toNat | _ => 0)
      ⟨rfl, 0, es.length, none, by rw [lenR]; rfl, Nat.zero_le _, Nat.le_refl _, fun i e h => absurd h (Nat.not_lt_zero _), fun i e h he => by rw [List.getElem?_eq_none h] at he; cases he⟩ ?_ ?_
    · rintro σ H' ⟨rfl, lo, hi, v, rfl, h1, h2, ha, hb⟩
      walk_at "st"
      refine iteD (fun h => ?_) (fun h => ?_)
      · have hmid : ((lo : Int) + hi) / 2 = (((lo + hi) / 2 : Nat) : Int) := by omega
        have hlt : (lo + hi) / 2 < es.length := by omega
        have he := List.getElem?_eq_getElem hlt
        have hen := S.en _ (List.mem_of_getElem? he)
        walk_at "st"
        rw [hmid]
        refine ⟨atI_nat (show (refs es)[(lo + hi) / 2]? = some (.ref (es[(lo + hi) / 2]).1) by unfold refs; rw [List.getElem?_map, he]; rfl), ?_⟩
        generalize hee : es[(lo + hi) / 2] = e0 at he hen
        generalize (lo + hi) / 2 = mid at *
        walk_at "st"
        refine ⟨e0.2.2, p, by rw [hp]; rfl, hen, ?_⟩
        walk_at "st"
        refine iteB (fun ht => ?_) (fun ht => ?_)
        · refine ⟨_, rfl, _, _, rfl, rfl, ⟨rfl, mid + 1, hi, some (.int (mid : Int)), ?_, by omega, h2, fun i e hi' he' => hm i mid e e0 (by omega) he' he ht, hb⟩, ?_⟩
          · show [some (V.ref b), some (V.ref x), some (V.int (((lo : Int) + hi) / 2 + 1)), some (V.int (hi : Int)), some (V.int (((lo : Int) + hi) / 2))] = _
            rw [hmid]
            rfl
          · show ((hi : Int) - (((lo : Int) + hi) / 2 + 1)).toNat < ((hi : Int) - (lo : Int)).toNat
            omega
        · refine ⟨_, rfl, ⟨rfl, lo, mid, some (.int (mid : Int)), ?_, by omega, by omega, ha, fun i e hi' he' => ?_⟩, ?_⟩
          · show [some (V.ref b), some (V.ref x), some (V.int (lo : Int)), some (V.int (((lo : Int) + hi) / 2)), some (V.int (((lo : Int) + hi) / 2))] = _
            rw [hmid]
          · cases ea : accE p e with
            | false => rfl
            | true =>
              have := hm mid i e0 e hi' he he' ea
              unfold accE at this
              rw [this] at ht
              cases ht
          · show ((((lo : Int) + hi) / 2) - (lo : Int)).toNat < ((hi : Int) - (lo : Int)).toNat
            omega
      · have e : lo = hi := by omega
        subst e
        have := place_is (p := p) h2 ha (fun e he => hb _ e (Nat.le_refl _) he)
        rw [this] at q
        walk_at "st"
        exact q
    · rintro σ H Q Q' h ⟨v1, e1, v2, e2, i, j, r1, r2, k, r3, q⟩
      exact ⟨v1, e1, v2, e2, i, j, r1, r2, k, r3, h _ _ q⟩
theorem SideAt.upd {CO CB : Addr} {H : Hp} {b db l x : Addr} {es : List Ent} {o : HO} (S : SideAt CO CB H b db l es) (hb : b ≠ x) (hl : l ≠ x) (hx : ∀ e, e ∈ es → e.1 ≠ x) : SideAt CO CB (upd H x o) b db l es :=
  ⟨(upd_ne hb).trans S.ob, (upd_ne hl).trans S.li, fun e he => (upd_ne (hx e he)).trans (S.en e he), S.nd, S.sm⟩
theorem SideAt.ord_ne {CO CB : Addr} {H : Hp} {b db l x dx : Addr} {es : List Ent} {o : Ord} (S : SideAt CO CB H b db l es) (hx : H x = some (ordO CO dx o)) : b ≠ x ∧ l ≠ x := by
  constructor
  · intro e
    have := S.ob
    rw [e, hx] at this
    unfold ordO at this
    injection this with this
    injection this with _ _ this
    injection this with h1 _
    injection h1 with h1 _
    exact absurd h1 (by decide)
  · intro e
    have := S.li
    rw [e, hx] at this
    cases this
/-- put in at a place -/
def insE (es : List Ent) (k : Nat) (e : Ent) : List Ent := es.take k ++ [e] ++ es.drop k
def sp_BookSide_enter (K : PySem.W.Frag) (CO CB : Addr) : Sp := fun vs H Q _ => ∃ (b db l x dx : Addr) (es : List Ent) (o : Ord) (p : Int), vs = [.ref b, .ref x] ∧ SideAt CO CB H b db l es ∧ H x = some (ordO CO dx o) ∧ (∀ e, e ∈ es → e.1 ≠ x) ∧ o.price = some p ∧ Mono es p ∧
  Q .non (upd (upd H x (ordO CO dx o.showNext)) l (.lst (refs (insE es (place es p) (x, dx, o.showNext)))))
set_option maxHeartbeats 0 in
theorem ok_BookSide_enter (T : Txt K mg) : FnOk P w K mg base CX0 4 T.f_BookSide_enter T.d_BookSide_enter ["self", "order"] (sp_BookSide_enter K T.c_Order T.c_BookSide) := by
  refine T.F_BookSide_enter.ok sc_BookSide_enter (fun vs H Q E h => ?_) (fun cdv A outer s H vs Q E hr h => ?_)
  · obtain ⟨b, db, l, x, dx, es, o, p, rfl, _⟩ := h
    rfl
  · obtain ⟨b, db, l, x, dx, es, o, p, rfl, S, hx, hne, hp, hm, q⟩ := h
    have G_Order_show_next_part : FnOk P w K mg base CX0 1 T.f_Order_show_next_part T.d_Order_show_next_part ["self"] (sp_Order_show_next_part K T.c_Order) := ok_Order_show_next_part T
    have G_BookSideplace_behind : FnOk P w K mg base CX0 3 T.f_BookSideplace_behind T.d_BookSideplace_behind ["self", "order"] (sp_BookSideplace_behind K T.c_Order T.c_BookSide) := ok_BookSideplace_behind T
    obtain ⟨nb, nl⟩ := S.ord_ne hx
    have S1 := S.upd (o := ordO T.c_Order dx o.showNext) nb nl hne
    have hx1 : (upd H x (ordO T.c_Order dx o.showNext)) x = some (ordO T.c_Order dx o.showNext) := upd_same
    refine ⟨_, (pss_cons (ps_expr (pe_meth0 (pv 1) T.cl_Order T.mt_Order_show_next_part G_Order_show_next_part (hr.mono (by decide)) T.b_Order_show_next_part .nil pass0))
    (pss_one (ps_expr (pe_bm PySem.F.plainAttrs_list PySem.F.slot_list_insert PySem.F.type_list_insert mt_insert (pe_fld (pv 0) rfl) (pa_cons (pe_meth (pv 0) T.cl_BookSide T.mt_BookSideplace_behind G_BookSideplace_behind hr T.b_BookSideplace_behind .nil pass0 (pa_cons (pv 1) pa_nil)) (pa_cons (pv 1) pa_nil)))))), ?_⟩
    have fact_BookSide_0 := T.cl_BookSide; have fact_BookSide_1 := T.na_BookSide__orders; have fact_Order_0 := T.cl_Order; have fact_Order_1 := T.na_Order_number; have fact_Order_2 := T.na_Order_house; have fact_Order_3 := T.na_Order_side; have fact_Order_4 := T.na_Order_price; have fact_Order_5 := T.na_Order_shown; have fact_Order_6 := T.na_Order_left; have fact_Order_7 := T.na_Order_visible
    have hob := S1.ob
    have hli := S1.li
    have hsm := S1.sm
    walk_at "st"
    refine ⟨o, rfl, hx, ?_⟩
    generalize upd H x (ordO T.c_Order dx o.showNext) = H1 at *
    walk_at "st"
    refine ⟨es, o.showNext, p, rfl, S1, hx1, hp, hm, ?_⟩
    have hpl := place_le es p
    have lenR : (refs es).length = es.length := List.length_map ..
    have hsz : (refs es).length < sizeLine := small1000 (by omega)
    refine ⟨_, rfl, l, refs es, ((place es p : Nat) : Int), .ref x, rfl, rfl, hli, hsz, by omega, by omega, ?_⟩
    have e : refs (insE es (place es p) (x, dx, o.showNext)) = (refs es).take ((place es p : Nat) : Int).toNat ++ [V.ref x] ++ (refs es).drop ((place es p : Nat) : Int).toNat := by
      unfold insE refs
      rw [Int.toNat_natCast, List.map_append, List.map_append, List.map_take, List.map_drop]
      rfl
    rw [e] at q
    exact q
theorem insE_mem {es : List Ent} {k : Nat} {e x : Ent} : x ∈ insE es k e ↔ x = e ∨ x ∈ es := by
  unfold insE
  rw [List.mem_append, List.mem_append, List.mem_singleton]
  constructor
  · rintro ((h | h) | h)
    · exact .inr (List.mem_of_mem_take h)
    · exact .inl h
    · exact .inr (List.mem_of_mem_drop h)
  · rintro (h | h)
    · exact .inl (.inr h)
    · rw [← List.take_append_drop k es] at h
      rcases List.mem_append.mp h with h | h
      · exact .inl (.inl h)
      · exact .inr h
theorem insE_perm (es : List Ent) (k : Nat) (e : Ent) : List.Perm (insE es k e) (e :: es) := by
  unfold insE
  have h : List.Perm (es.take k ++ [e] ++ es.drop k) (e :: (es.take k ++ es.drop k)) := by
    rw [List.append_assoc]
    exact List.perm_middle
  rw [List.take_append_drop] at h
  exact h
theorem SideAt.put {CO CB : Addr} {H : Hp} {b db l : Addr} {es es' : List Ent} (S : SideAt CO CB H b db l es) (he : ∀ e, e ∈ es' → H e.1 = some (ordO CO e.2.1 e.2.2)) (nd : (es'.map (·.1)).Nodup) (sm : es'.length ≤ 1000) :
    SideAt CO CB (L2.upd H l (.lst (refs es'))) b db l es' := by
  have hl : ∀ e, e ∈ es' → e.1 ≠ l := fun e h q => by
    have := he e h
    rw [q, S.li] at this
    cases this
  exact ⟨(upd_ne S.bl).trans S.ob, upd_same, fun e h => (upd_ne (hl e h)).trans (he e h), nd, sm⟩
theorem SideAt.insert {CO CB : Addr} {H : Hp} {b db l : Addr} {es : List Ent} {k : Nat} {e : Ent} (S : SideAt CO CB H b db l es) (hx : H e.1 = some (ordO CO e.2.1 e.2.2)) (hne : ∀ d, d ∈ es → d.1 ≠ e.1) (sm : es.length < 1000) :
    SideAt CO CB (L2.upd H l (.lst (refs (insE es k e)))) b db l (insE es k e) := by
  refine S.put (fun d hd => ?_) ?_ ?_
  · rcases insE_mem.mp hd with h | h
    · rw [h]
      exact hx
    · exact S.en d h
  · refine ((insE_perm es k e).map _).nodup_iff.mpr (List.nodup_cons.mpr ⟨fun hm => ?_, S.nd⟩)
    obtain ⟨d, hd, hq⟩ := List.mem_map.mp hm
    exact hne d hd hq
  · rw [(insE_perm es k e).length_eq]
    exact sm
/-- what a trade with the first leaves -/
def tradeF (e : Ent) (es : List Ent) (n p : Int) : List Ent :=
  let o := { e.2.2 with left := e.2.2.left - n, visible := e.2.2.visible - n }
  if o.visible = 0 then (if 0 < o.left then insE es (place es p) (e.1, e.2.1, o.showNext) else es) else (e.1, e.2.1, o) :: es
def sp_BookSide_trade_first (K : PySem.W.Frag) (CO CB : Addr) : Sp := fun vs H Q _ => ∃ (b db l : Addr) (e : Ent) (es : List Ent) (n p : Int), vs = [.ref b, .int n] ∧ SideAt CO CB H b db l (e :: es) ∧ e.2.2.price = some p ∧ Mono es p ∧
  ∀ H' o, SideAt CO CB H' b db l (tradeF e es n p) → H' e.1 = some (ordO CO e.2.1 o) → o.number = e.2.2.number → o.house = e.2.2.house → o.side = e.2.2.side → o.price = e.2.2.price → (∀ a, a ≠ l → a ≠ e.1 → H' a = H a) → Q .non H'
set_option maxHeartbeats 0 in
theorem ok_BookSide_trade_first (T : Txt K mg) : FnOk P w K mg base CX0 5 T.f_BookSide_trade_first T.d_BookSide_trade_first ["self", "quantity"] (sp_BookSide_trade_first K T.c_Order T.c_BookSide) := by
  refine T.F_BookSide_trade_first.ok sc_BookSide_trade_first (fun vs H Q E h => ?_) (fun cdv A outer s H vs Q E hr h => ?_)
  · obtain ⟨b, db, l, e, es, n, p, rfl, _⟩ := h
    rfl
  · obtain ⟨b, db, l, e, es, n, p, rfl, S, hp, hm, q⟩ := h
    have G_Order_trade_visible : FnOk P w K mg base CX0 1 T.f_Order_trade_visible T.d_Order_trade_visible ["self", "quantity"] (sp_Order_trade_visible K T.c_Order) := ok_Order_trade_visible T
    have G_BookSide_leave : FnOk P w K mg base CX0 1 T.f_BookSide_leave T.d_BookSide_leave ["self", "order"] (sp_BookSide_leave K T.c_Order T.c_BookSide) := ok_BookSide_leave T
    have G_BookSide_enter : FnOk P w K mg base CX0 4 T.f_BookSide_enter T.d_BookSide_enter ["self", "order"] (sp_BookSide_enter K T.c_Order T.c_BookSide) := ok_BookSide_enter T
    have hee := S.en e List.mem_cons_self
    have nd := List.nodup_cons.mp S.nd
    have hne : ∀ d, d ∈ es → d.1 ≠ e.1 := fun d hd hq => nd.1 (List.mem_map.mpr ⟨d, hd, hq⟩)
    obtain ⟨nb, nl⟩ := S.ord_ne hee
    refine ⟨_, (pss_cons (ps_set (i := 2) sc_BookSide_trade_first.nd rfl (Or.inl rfl) (pe_ix ix_list (pe_fld (pv 0) rfl) pe_int (fun _ _ => rfl)))
    (pss_cons (ps_expr (pe_meth (pv 2) T.cl_Order T.mt_Order_trade_visible G_Order_trade_visible (hr.mono (by decide)) T.b_Order_trade_visible .nil pass0 (pa_cons (pv 1) pa_nil)))
    (pss_one (ps_if (pt_cmpR op_eq (pe_fld (pv 2) rfl) pe_int (nomark _))
      (pss_cons (ps_expr (pe_meth (pv 0) T.cl_BookSide T.mt_BookSide_leave G_BookSide_leave (hr.mono (by decide)) T.b_BookSide_leave .nil pass0 (pa_cons (pv 2) pa_nil)))
      (pss_one (ps_if (pt_cmpR op_gt (pe_fld (pv 2) rfl) pe_int (nomark _))
        (pss_one (ps_expr (pe_meth (pv 0) T.cl_BookSide T.mt_BookSide_enter G_BookSide_enter hr T.b_BookSide_enter .nil pass0 (pa_cons (pv 2) pa_nil))))
        pss_nil)))
      pss_nil)))), ?_⟩
    have fact_BookSide_0 := T.cl_BookSide; have fact_BookSide_1 := T.na_BookSide__orders; have fact_Order_0 := T.cl_Order; have fact_Order_1 := T.na_Order_number; have fact_Order_2 := T.na_Order_house; have fact_Order_3 := T.na_Order_side; have fact_Order_4 := T.na_Order_price; have fact_Order_5 := T.na_Order_shown; have fact_Order_6 := T.na_Order_left; have fact_Order_7 := T.na_Order_visible
    have hob := S.ob
    have hli := S.li
    have hsm := S.sm
    have h0 : atI (refs (e :: es)) 0 = some (.ref e.1) := atI_nat (j := 0) rfl
    obtain ⟨o', ho'⟩ : ∃ o' : Ord, o' = { e.2.2 with left := e.2.2.left - n, visible := e.2.2.visible - n } := ⟨_, rfl⟩
    have hp' : o'.price = some p := by rw [ho']; exact hp
    have S1 : SideAt T.c_Order T.c_BookSide (upd H e.1 (ordO T.c_Order e.2.1 o')) b db l ((e.1, e.2.1, o') :: es) :=
      ⟨(upd_ne nb).trans S.ob, (upd_ne nl).trans S.li, fun d hd => by
        rcases List.mem_cons.mp hd with h | h
        · rw [h]
          exact upd_same
        · exact (upd_ne (hne d h)).trans (S.en d (List.mem_cons_of_mem _ h)), S.nd, S.sm⟩
    have fr1 : ∀ a, a ≠ e.1 → (upd H e.1 (ordO T.c_Order e.2.1 o')) a = H a := fun a h => upd_ne h
    have ht : tradeF e es n p = if o'.visible = 0 then (if 0 < o'.left then insE es (place es p) (e.1, e.2.1, o'.showNext) else es) else (e.1, e.2.1, o') :: es := by
      rw [ho']
      rfl
    walk_at "st"
    refine ⟨e.2.2, n, rfl, hee, ?_⟩
    rw [← ho']
    generalize upd H e.1 (ordO T.c_Order e.2.1 o') = H1 at S1 fr1
    have hob1 := S1.ob
    have hli1 := S1.li
    have hx1 := S1.en _ List.mem_cons_self
    have n1 : o'.number = e.2.2.number := by rw [ho']
    have n2 : o'.house = e.2.2.house := by rw [ho']
    have n3 : o'.side = e.2.2.side := by rw [ho']
    have n4 : o'.price = e.2.2.price := by rw [ho']
    have nd1 := List.nodup_cons.mp S1.nd
    have S2 : SideAt T.c_Order T.c_BookSide (upd H1 l (.lst (refs es))) b db l es := S1.put (fun d hd => S1.en d (List.mem_cons_of_mem _ hd)) nd1.2 (by simp at hsm; omega)
    have hx2 : (upd H1 l (.lst (refs es))) e.1 = some (ordO T.c_Order e.2.1 o') := (upd_ne (Ne.symm nl)).trans hx1
    walk_at "st"
    refine iteB (fun hv => ?_) (fun hv => ?_)
    · have hv0 : o'.visible = 0 := V.int.inj (dec_t hv)
      rw [if_pos hv0] at ht
      walk_at "st"
      refine ⟨[], (e.1, e.2.1, o'), es, rfl, S1, ?_⟩
      rw [List.nil_append]
      have fr2 : ∀ a, a ≠ l → a ≠ e.1 → (upd H1 l (.lst (refs es))) a = H a := fun a h1 h2 => (upd_ne h1).trans (fr1 a h2)
      generalize upd H1 l (.lst (refs es)) = H2 at S2 hx2 fr2
      have hob2 := S2.ob
      have hli2 := S2.li
      walk_at "st"
      refine iteD (fun hl => ?_) (fun hl => ?_)
      · rw [if_pos hl] at ht
        walk_at "st"
        refine ⟨es, o', p, rfl, S2, hx2, hne, hp', hm, ?_⟩
        have S3 := (S2.upd (o := ordO T.c_Order e.2.1 o'.showNext) nb nl hne).insert (k := place es p) (e := (e.1, e.2.1, o'.showNext)) upd_same hne (by simp at hsm; omega)
        rw [ht] at q
        refine q _ o'.showNext S3 ?_ n1 n2 n3 n4 fun a h1 h2 => ?_
        · exact (upd_ne (Ne.symm nl)).trans upd_same
        · exact (upd_ne h1).trans ((upd_ne h2).trans (fr2 a h1 h2))
      · rw [if_neg hl] at ht
        rw [ht] at q
        exact q H2 o' S2 hx2 n1 n2 n3 n4 fr2
    · have hv0 : ¬ o'.visible = 0 := fun z => dec_f hv (congrArg V.int z)
      rw [if_neg hv0] at ht
      rw [ht] at q
      exact q H1 o' S1 hx1 n1 n2 n3 n4 (fun a _ h => fr1 a h)
def rowV (o : Ord) : List V := [.int o.number, .str o.house, optV o.price, .int o.left, .int o.visible]
def sp_BookSide_rows (K : PySem.W.Frag) (CO CB : Addr) : Sp := fun vs H Q _ => ∃ (b db l : Addr) (es : List Ent), vs = [.ref b] ∧ SideAt CO CB H b db l es ∧
  ∀ D H' (ts : List (Addr × Ord)), Same H H' → H D = none → H' D = some (.lst (ts.map fun t => V.ref t.1)) → ts.map (·.2) = es.map (·.2.2) → (∀ t, t ∈ ts → H' t.1 = some (.tup (rowV t.2))) → Q (.ref D) H'
set_option maxHeartbeats 0 in
theorem ok_BookSide_rows (T : Txt K mg) : FnOk P w K mg base CX0 1 T.f_BookSide_rows T.d_BookSide_rows ["self"] (sp_BookSide_rows K T.c_Order T.c_BookSide) := by
  refine T.F_BookSide_rows.ok sc_BookSide_rows (fun vs H Q E h => ?_) (fun cdv A outer s H vs Q E hr h => ?_)
  · obtain ⟨b, db, l, es, rfl, _⟩ := h
    rfl
  · obtain ⟨b, db, l, es, rfl, S, q⟩ := h
    refine ⟨_, (pss_one (ps_ret (pe_lc (own := [("order", 1)]) (g := gName 1) (tt := tYes) rfl sc_BookSide_rows.nd (pi_list (pe_fld (pv 0) rfl)) (blkOk_by (own := [("order", 1)]) (N := N_BookSide_rows) (sc := defScope s_BookSide_rows) (by decide +kernel)) (fun _ _ _ _ _ => (pg_name (i := 1) sc_BookSide_rows.nd rfl (Or.inl rfl))) (fun _ _ _ _ _ => pts_nil) (fun _ _ _ _ _ => (pe_tup (pa_cons (show PE _ (Expr.Attribute _ "number" _) (tFld K _ "number") from pe_fld (pv 1) rfl) (pa_cons (show PE _ (Expr.Attribute _ "house" _) (tFld K _ "house") from pe_fld (pv 1) rfl) (pa_cons (show PE _ (Expr.Attribute _ "price" _) (tFld K _ "price") from pe_fld (pv 1) rfl) (pa_cons (show PE _ (Expr.Attribute _ "left" _) (tFld K _ "left") from pe_fld (pv 1) rfl) (pa_cons (show PE _ (Expr.Attribute _ "visible" _) (tFld K _ "visible") from pe_fld (pv 1) rfl) pa_nil)))))))))), ?_⟩
    have fact_BookSide_0 := T.cl_BookSide; have fact_BookSide_1 := T.na_BookSide__orders; have fact_Order_0 := T.cl_Order; have fact_Order_1 := T.na_Order_number; have fact_Order_2 := T.na_Order_house; have fact_Order_3 := T.na_Order_side; have fact_Order_4 := T.na_Order_price; have fact_Order_5 := T.na_Order_shown; have fact_Order_6 := T.na_Order_left; have fact_Order_7 := T.na_Order_visible
    have hob := S.ob
    have hli := S.li
    have hsm := S.sm
    have lenR : (refs es).length = es.length := List.length_map ..
    walk_at "st"
    intro D nD
    refine lc_list (K := K) (a := l) (xs := refs es) (fun i H' => ∃ ts : List (Addr × Ord), H' D = some (.lst (ts.map fun t => V.ref t.1)) ∧ (∀ t, t ∈ ts → H' t.1 = some (.tup (rowV t.2))) ∧ ts.map (·.2) = (es.take i).map (·.2.2) ∧ ts.length ≤ i ∧ Same H H')
      ⟨[], upd_same, (fun _ ht => by cases ht), rfl, Nat.le_refl _, same_upd nD⟩ (fun i H' _ ⟨_, _, _, _, _, e⟩ => e.seq (SqL.of hli)) ?_ ?_
    · rintro i x H' hx ⟨ts, hD, hts, hd, hlen, sa⟩
      obtain ⟨e, he, rfl⟩ := ents_at hx
      have hi := (List.getElem?_eq_some_iff.mp he).1
      have hen := sa _ _ (S.en e (List.mem_of_getElem? he))
      refine ⟨rfl, ?_⟩
      walk_at "st"
      intro p np
      have npD : D ≠ p := ne_of_none hD np
      refine ⟨_, (upd_ne npD).trans hD, ?_, ts ++ [(p, e.2.2)], ?_, fun t h => ?_, ?_, ?_, fun b' o' z => ?_⟩
      · rw [List.length_map]
        exact small1000 (by omega)
      · rw [upd_same, List.map_append]
        rfl
      · have hnD : t.1 ≠ D := fun e' => by
          rcases List.mem_append.mp h with h | h
          · have := hts t h
            rw [e', hD] at this
            cases this
          · rw [List.mem_singleton.mp h] at e'
            exact npD e'.symm
        rw [upd_ne hnD]
        rcases List.mem_append.mp h with h | h
        · rw [upd_ne (ne_of_none (hts t h) np)]
          exact hts t h
        · rw [List.mem_singleton.mp h, upd_same]
          rfl
      · rw [List.map_append, hd, take_succ he, List.map_append]
        rfl
      · rw [List.length_append]
        show ts.length + 1 ≤ i + 1
        omega
      · have hbD : b' ≠ D := fun e' => by rw [e'] at z; rw [z] at nD; cases nD
        rw [upd_ne hbD, upd_ne (ne_of_none (sa _ _ z) np)]
        exact sa _ _ z
    · rintro H' ⟨ts, hD, hts, hd, hlen, sa⟩
      rw [lenR, List.take_of_length_le (Nat.le_refl _)] at hd
      exact q D H' ts sa nD hD hd hts
/-- whether the taker could trade with it -/
def canT (t : Ord) (e : Ent) : Bool := decide (e.2.2.house ≠ t.house) && (match e.2.2.price with | some p => takes t.side t.price p | none => false)
def sp_BookSide_available (K : PySem.W.Frag) (CO CB : Addr) : Sp := fun vs H Q _ => ∃ (b db l x dx : Addr) (es : List Ent) (t : Ord), vs = [.ref b, .ref x] ∧ SideAt CO CB H b db l es ∧ H x = some (ordO CO dx t) ∧ (∀ e, e ∈ es → ∃ p, e.2.2.price = some p) ∧
  ∀ H', Same H H' → Q (.int ((es.filter (canT t)).map (fun e => e.2.2.left)).sum) H'
set_option maxHeartbeats 0 in
theorem ok_BookSide_available (T : Txt K mg) : FnOk P w K mg base CX0 3 T.f_BookSide_available T.d_BookSide_available ["self", "taker"] (sp_BookSide_available K T.c_Order T.c_BookSide) := by
  refine T.F_BookSide_available.ok sc_BookSide_available (fun vs H Q E h => ?_) (fun cdv A outer s H vs Q E hr h => ?_)
  · obtain ⟨b, db, l, x, dx, es, t, rfl, _⟩ := h
    rfl
  · obtain ⟨b, db, l, x, dx, es, t, rfl, S, hx, hp, q⟩ := h
    have G_Order_accepts_price : FnOk P w K mg base CX0 2 T.f_Order_accepts_price T.d_Order_accepts_price ["self", "price"] (sp_Order_accepts_price K T.c_Order) := ok_Order_accepts_price T
    refine ⟨_, (pss_cons (ps_setLc (i := 2) (own := [("order", 3)]) (g := gName 3) rfl sc_BookSide_available.nd rfl rfl (sw_true rfl rfl rfl (by decide +kernel)) (pi_list (pe_fld (pv 0) rfl)) (blkOk_by (own := [("order", 3)]) (N := N_BookSide_available) (sc := defScope s_BookSide_available) (by decide +kernel)) (fun _ _ _ _ _ => (pg_name (i := 3) sc_BookSide_available.nd rfl (Or.inl rfl))) (fun _ _ _ _ _ => pts_one (PW.pt (pw_and (pt_cmpR op_ne (show PE _ (Expr.Attribute _ "house" _) (tFld K _ "house") from pe_fld (pv 3) rfl) (show PE _ (Expr.Attribute _ "house" _) (tFld K _ "house") from pe_fld (pv 1) rfl) (nomark _)) (pw_and1 (pt_val (pe_meth (pv 1) T.cl_Order T.mt_Order_accepts_price G_Order_accepts_price hr T.b_Order_accepts_price .nil pass0 (pa_cons (show PE _ (Expr.Attribute _ "price" _) (tFld K _ "price") from pe_fld (pv 3) rfl) pa_nil))))))) (fun _ _ _ _ _ => (show PE _ (Expr.Attribute _ "left" _) (tFld K _ "left") from pe_fld (pv 3) rfl)))
    (pss_one (ps_ret (pe_callB (cr_sum rfl) (by rfl) T.z_sum (by decide +kernel) (pa_cons (pv 2) pa_nil))))), ?_⟩
    have fact_BookSide_0 := T.cl_BookSide; have fact_BookSide_1 := T.na_BookSide__orders; have fact_Order_0 := T.cl_Order; have fact_Order_1 := T.na_Order_number; have fact_Order_2 := T.na_Order_house; have fact_Order_3 := T.na_Order_side; have fact_Order_4 := T.na_Order_price; have fact_Order_5 := T.na_Order_shown; have fact_Order_6 := T.na_Order_left; have fact_Order_7 := T.na_Order_visible
    have hob := S.ob
    have hli := S.li
    have hsm := S.sm
    have lenR : (refs es).length = es.length := List.length_map ..
    walk_at "st"
    intro D nD
    refine lc_list (K := K) (a := l) (xs := refs es) (fun i H' => H' = upd H D (.lst ((((es.take i).filter (canT t)).map fun e => e.2.2.left).map V.int))) rfl (fun i H' _ e => by rw [e]; exact (same_upd nD).seq (SqL.of hli)) ?_ ?_
    · rintro i v H' hv rfl
      obtain ⟨e, he, rfl⟩ := ents_at hv
      have sD := same_upd (o := .lst ((((es.take i).filter (canT t)).map fun e => e.2.2.left).map V.int)) nD
      have hi := (List.getElem?_eq_some_iff.mp he).1
      have hen := sD _ _ (S.en e (List.mem_of_getElem? he))
      have hx1 := sD _ _ hx
      obtain ⟨p, hpe⟩ := hp e (List.mem_of_getElem? he)
      refine ⟨rfl, ?_⟩
      walk_at "st"
      have pos : canT t e = true → ((es.take (i + 1)).filter (canT t)) = ((es.take i).filter (canT t)) ++ [e] := fun h => by
        rw [take_succ he, List.filter_append, List.filter_cons_of_pos h, List.filter_nil]
      have neg : canT t e = false → ((es.take (i + 1)).filter (canT t)) = ((es.take i).filter (canT t)) := fun h => by
        rw [take_succ he, List.filter_append, List.filter_cons_of_neg (by rw [h]; exact Bool.false_ne_true), List.filter_nil, List.append_nil]
      refine iteB (fun h1 => ?_) (fun h1 => ?_)
      · have hh : e.2.2.house ≠ t.house := fun z => ndec_t h1 (congrArg V.str z)
        walk_at "st"
        refine ⟨t, p, by rw [hpe]; rfl, hx1, ?_⟩
        walk_at "st"
        refine iteB (fun h2 => ?_) (fun h2 => ?_)
        · have hc : canT t e = true := by
            unfold canT
            rw [hpe, decide_eq_true hh]
            exact h2
          rw [pos hc]
          have hll := List.length_filter_le (canT t) (es.take i)
          rw [List.length_take] at hll
          walk_at "st"
          rw [upd_upd, List.map_append, List.map_append]
          refine ⟨small1000 ?_, rfl⟩
          rw [List.length_map, List.length_map]
          omega
        · have hc : canT t e = false := by
            unfold canT
            rw [hpe, decide_eq_true hh]
            exact h2
          rw [neg hc]
      · have hh : e.2.2.house = t.house := V.str.inj (ndec_f h1)
        have hc : canT t e = false := by
          unfold canT
          rw [decide_eq_false (fun z => z hh)]
          rfl
        rw [neg hc]
        rfl
    · rintro H' rfl
      walk_at "st"
      rw [lenR, List.take_of_length_le (Nat.le_refl _)]
      exact q _ (same_upd nD)

/-! ### the book -/
def bookO (C dx : Addr) (last : Option Int) (next : Int) (sd st : Addr) : HO := .ins C dx [("last", optV last), ("_next_number", .int next), ("_sides", .ref sd), ("_stops", .ref st)]
def sidesO (b1 b2 : Addr) : HO := .dK [(Sum.inr "buy", .ref b1), (Sum.inr "sell", .ref b2)]
structure BookAt (CO CB CK : Addr) (H : Hp) (x dx sd st b1 d1 l1 b2 d2 l2 : Addr) (last : Option Int) (next : Int) (es1 es2 : List Ent) : Prop where
  ob : H x = some (bookO CK dx last next sd st)
  sd : H sd = some (sidesO b1 b2)
  st : H st = some (.lst [])
  s1 : SideAt CO CB H b1 d1 l1 es1
  s2 : SideAt CO CB H b2 d2 l2 es2
theorem SideAt.same {CO CB : Addr} {H H' : Hp} {b db l : Addr} {es : List Ent} (S : SideAt CO CB H b db l es) (e : Same H H') : SideAt CO CB H' b db l es :=
  ⟨e _ _ S.ob, e _ _ S.li, fun x hx => e _ _ (S.en x hx), S.nd, S.sm⟩
theorem side_new {CO CB : Addr} {H : Hp} {b d l : Addr} (nb : H b = none) (nd : H d = none) (hne : d ≠ b) (nl : upd (upd H d (.own b)) b (.ins CB d []) l = none) :
    SideAt CO CB (upd (upd (upd (upd H d (.own b)) b (.ins CB d [])) l (.lst [])) b (.ins CB d [("_orders", .ref l)])) b d l [] ∧ Same H (upd (upd (upd (upd H d (.own b)) b (.ins CB d [])) l (.lst [])) b (.ins CB d [("_orders", .ref l)])) := by
  have hlb : l ≠ b := fun z => by rw [z, upd_same] at nl; cases nl
  refine ⟨⟨upd_same, ?_, (fun e h => by cases h), List.nodup_nil, Nat.zero_le _⟩, fun c o e => ?_⟩
  · rw [upd_ne hlb, upd_same]
    rfl
  · have c1 : c ≠ b := ne_of_none e nb
    have c2 : c ≠ d := ne_of_none e nd
    have c3 : c ≠ l := fun z => by
      rw [← z, upd_ne c1, upd_ne c2, e] at nl
      cases nl
    rw [upd_ne c1, upd_ne c3, upd_ne c1, upd_ne c2]
    exact e
def sp_Book_init (K : PySem.W.Frag) (CO CB CK : Addr) : Sp := fun vs H Q _ => ∃ (x dx : Addr) (n : Int), vs = [.ref x, .int n] ∧ H x = some (.ins CK dx []) ∧ ∀ H' sd st b1 d1 l1 b2 d2 l2, BookAt CO CB CK H' x dx sd st b1 d1 l1 b2 d2 l2 none n [] [] → l1 ≠ l2 ∧ st ≠ l1 ∧ st ≠ l2 → H l1 = none ∧ H l2 = none → (∀ c o, c ≠ x → H c = some o → H' c = some o) → Q .non H'
set_option maxHeartbeats 0 in
theorem ok_Book_init (T : Txt K mg) : FnOk P w K mg base CX0 3 T.f_Book_init T.d_Book_init ["self", "first_number"] (sp_Book_init K T.c_Order T.c_BookSide T.c_Book) := by
  refine T.F_Book_init.ok sc_Book_init (fun vs H Q E h => ?_) (fun cdv A outer s H vs Q E hr h => ?_)
  · obtain ⟨x, dx, n, rfl, _⟩ := h
    rfl
  · obtain ⟨x, dx, n, rfl, hx, q⟩ := h
    have G_BookSide_init : FnOk P w K mg base CX0 1 T.f_BookSide_init T.d_BookSide_init ["self"] (sp_BookSide_init K T.c_Order T.c_BookSide) := ok_BookSide_init T
    refine ⟨_, (PSs.nox (pss_cons (ps_fld (pv 0) pe_non rfl)
    (pss_cons (ps_fld (pv 0) (pv 1) rfl)
    (pss_cons (ps_fld (pv 0) (pe_disp (pps_cons pe_str (pe_make0 T.mk_BookSide G_BookSide_init hr (by rfl) T.m_BookSide T.b_BookSide_init .nil pass0) (pps_cons pe_str (pe_make0 T.mk_BookSide G_BookSide_init hr (by rfl) T.m_BookSide T.b_BookSide_init .nil pass0) pps_nil)) (by rfl) (by rfl) (fun z => by cases z) (by decide)) rfl)
    (pss_one (ps_fld (pv 0) (pe_lst pa_nil) rfl)))))), ?_⟩
    have fact_BookSide_0 := T.cl_BookSide; have fact_BookSide_1 := T.na_BookSide__orders; have fact_Book_0 := T.cl_Book; have fact_Book_1 := T.na_Book_last; have fact_Book_2 := T.na_Book__next_number; have fact_Book_3 := T.na_Book__sides; have fact_Book_4 := T.na_Book__stops
    walk_at "st"
    rw [upd_upd, show putF "_next_number" (V.int n) (putF "last" V.non []) = ([("last", V.non), ("_next_number", .int n)] : List (Str × V)) from rfl]
    have hx1 : upd H x (.ins T.c_Book dx [("last", V.non), ("_next_number", .int n)]) x = some (.ins T.c_Book dx [("last", V.non), ("_next_number", .int n)]) := upd_same
    have fr1 : ∀ b o, b ≠ x → H b = some o → upd H x (.ins T.c_Book dx [("last", V.non), ("_next_number", .int n)]) b = some o := fun b o hb z => by rw [upd_ne hb]; exact z
    generalize upd H x (.ins T.c_Book dx [("last", V.non), ("_next_number", .int n)]) = H1 at *
    walk_at "st"
    intro D nD
    rw [tPairs]
    intro b1 d1 nb1 nd1 hne1
    walk_at "st"
    intro l1 nl1
    have nD1 : upd H1 D (.dK []) D = some (.dK []) := upd_same
    have sD : Same H1 (upd H1 D (.dK [])) := same_upd nD
    generalize upd H1 D (.dK []) = H2 at *
    have e0' : Same H2 (upd (upd H2 d1 (.own b1)) b1 (.ins T.c_BookSide d1 [])) := (same_upd nd1).trans (same_upd (by rw [upd_ne (Ne.symm hne1)]; exact nb1))
    obtain ⟨S1, e1⟩ := side_new (CO := T.c_Order) (CB := T.c_BookSide) nb1 nd1 hne1 nl1
    refine ⟨rfl, ?_⟩
    generalize upd (upd (upd (upd H2 d1 (.own b1)) b1 (.ins T.c_BookSide d1 [])) l1 (.lst [])) b1 (.ins T.c_BookSide d1 [("_orders", .ref l1)]) = H3 at *
    rw [tPairs]
    intro b2 d2 nb2 nd2 hne2
    walk_at "st"
    intro l2 nl2
    have e1' : Same H3 (upd (upd H3 d2 (.own b2)) b2 (.ins T.c_BookSide d2 [])) := (same_upd nd2).trans (same_upd (by rw [upd_ne (Ne.symm hne2)]; exact nb2))
    obtain ⟨S2, e2⟩ := side_new (CO := T.c_Order) (CB := T.c_BookSide) nb2 nd2 hne2 nl2
    refine ⟨rfl, ?_⟩
    generalize upd (upd (upd (upd H3 d2 (.own b2)) b2 (.ins T.c_BookSide d2 [])) l2 (.lst [])) b2 (.ins T.c_BookSide d2 [("_orders", .ref l2)]) = H4 at *
    have S1' := S1.same e2
    have hD4 := e2 _ _ (e1 _ _ nD1)
    rw [tPairs]
    refine ⟨hD4, [(Sum.inr "buy", .ref b1), (Sum.inr "sell", .ref b2)], rfl, (show 2 ≤ 15 by decide), ?_⟩
    rw [show mergeK [] ([(Sum.inr "buy", V.ref b1), (Sum.inr "sell", V.ref b2)] : List (Key × V)) = ([(Sum.inr "buy", V.ref b1), (Sum.inr "sell", V.ref b2)] : List (Key × V)) from rfl]
    have hxD : x ≠ D := ne_of_none hx1 nD
    have dif : ∀ {c : Addr} {o o' : HO}, H4 c = some o → o ≠ .dK [] → c ≠ D := fun e z w => by
      rw [w, hD4] at e
      exact z (Option.some.inj e).symm
    have hb1D : b1 ≠ D := fun w => by have := S1'.ob; rw [w, hD4] at this; cases this
    have hl1D : l1 ≠ D := fun w => by have := S1'.li; rw [w, hD4] at this; cases this
    have hb2D : b2 ≠ D := fun w => by have := S2.ob; rw [w, hD4] at this; cases this
    have hl2D : l2 ≠ D := fun w => by have := S2.li; rw [w, hD4] at this; cases this
    have S1a := S1'.upd (o := sidesO b1 b2) hb1D hl1D fun e h => by cases h
    have S2a := S2.upd (o := sidesO b1 b2) hb2D hl2D fun e h => by cases h
    have hx4 := e2 _ _ (e1 _ _ (sD _ _ hx1))
    have hx5 : upd H4 D (sidesO b1 b2) x = some (.ins T.c_Book dx [("last", V.non), ("_next_number", .int n)]) := (upd_ne hxD).trans hx4
    have hD5 : upd H4 D (sidesO b1 b2) D = some (sidesO b1 b2) := upd_same
    have fr5 : ∀ c o, c ≠ x → H c = some o → upd H4 D (sidesO b1 b2) c = some o := fun c o hc z => by
      have z1 := fr1 c o hc z
      rw [upd_ne (ne_of_none z1 nD)]
      exact e2 _ _ (e1 _ _ (sD _ _ z1))
    unfold sidesO at S1a S2a hx5 hD5 fr5
    generalize upd H4 D (.dK [(Sum.inr "buy", .ref b1), (Sum.inr "sell", .ref b2)]) = H5 at *
    walk_at "st"
    intro st nst
    have hxs : st ≠ x := fun z => by rw [z, upd_same] at nst; cases nst
    have nst5 : H5 st = none := by rw [← nst, upd_ne hxs]
    have nb1x : b1 ≠ x := fun w => by
      have := S1a.ob
      rw [w, hx5] at this
      injection (Option.some.inj this) with _ _ h3
      exact absurd (congrArg List.length h3) (show ¬ (2 = 1) by decide)
    have nl1x : l1 ≠ x := fun w => by have := S1a.li; rw [w, hx5] at this; cases this
    have nb2x : b2 ≠ x := fun w => by
      have := S2a.ob
      rw [w, hx5] at this
      injection (Option.some.inj this) with _ _ h3
      exact absurd (congrArg List.length h3) (show ¬ (2 = 1) by decide)
    have nl2x : l2 ≠ x := fun w => by have := S2a.li; rw [w, hx5] at this; cases this
    have hx6 : ∀ o, upd (upd H5 x o) st (.lst []) x = some o := fun o => by rw [upd_ne (Ne.symm hxs), upd_same]
    refine ⟨_, rfl, ?_⟩
    refine ⟨_, _, _, _, rfl, hx6 _, ‹_›, ‹_›, ?_, ?_⟩
    · show (3 : Nat) < 1000
      decide
    have g1 : ∀ {c : Addr} {o v w : HO}, c ≠ x → H5 c = some o → upd (upd (upd H5 x v) st (.lst [])) x w c = some o := fun hc hz => by
      rw [upd_ne hc, upd_ne (ne_of_none hz nst5), upd_ne hc]
      exact hz
    walk_at "st"
    have nst1 : st ≠ l1 := fun z => by rw [z, S1a.li] at nst5; cases nst5
    have nst2 : st ≠ l2 := fun z => by rw [z, S2a.li] at nst5; cases nst5
    have nll : l1 ≠ l2 := fun z => by
      have y := nl2
      have h1 := e1' _ _ S1.li
      rw [z] at h1
      rw [h1] at y
      cases y
    have nl10 : H l1 = none := by
      cases hh : H l1 with
      | none => rfl
      | some v =>
        have y := sD _ _ (fr1 _ _ nl1x hh)
        have z := nl1
        rw [e0' _ _ y] at z
        cases z
    have nl20 : H l2 = none := by
      cases hh : H l2 with
      | none => rfl
      | some v =>
        have y := e1 _ _ (sD _ _ (fr1 _ _ nl2x hh))
        have z := nl2
        rw [e1' _ _ y] at z
        cases z
    refine q _ D st b1 d1 l1 b2 d2 l2 ⟨?_, g1 (Ne.symm hxD) hD5, ?_, ⟨g1 nb1x S1a.ob, g1 nl1x S1a.li, (fun e h => by cases h), S1a.nd, S1a.sm⟩, ⟨g1 nb2x S2a.ob, g1 nl2x S2a.li, (fun e h => by cases h), S2a.nd, S2a.sm⟩⟩ ⟨nll, nst1, nst2⟩ ⟨nl10, nl20⟩ (fun c o hc z => g1 hc (fr5 c o hc z))
    · exact upd_same
    · rw [upd_ne hxs, upd_same]
theorem sides_buy {H : Hp} {sd b1 b2 : Addr} (h : H sd = some (sidesO b1 b2)) : DGet H sd (.str "buy") (some (.ref b1)) := DGet.k (k := Sum.inr "buy") h
theorem sides_sell {H : Hp} {sd b1 b2 : Addr} (h : H sd = some (sidesO b1 b2)) : DGet H sd (.str "sell") (some (.ref b2)) := DGet.k (k := Sum.inr "sell") h
/-- the order with the number, of the buyers first -/
def withNum (es1 es2 : List Ent) (n : Int) : Option Ent :=
  match es1.find? (fun e => decide (e.2.2.number = n)) with
  | some e => some e
  | none => es2.find? (fun e => decide (e.2.2.number = n))
def entV : Option Ent → V
  | none => .non
  | some e => .ref e.1
/-- a book's two sides -/
structure SidesAt (CO CB CK : Addr) (H : Hp) (x dx sd st b1 d1 l1 b2 d2 l2 : Addr) (last : Option Int) (next : Int) (es1 es2 : List Ent) : Prop where
  ob : H x = some (bookO CK dx last next sd st)
  sd : H sd = some (sidesO b1 b2)
  s1 : SideAt CO CB H b1 d1 l1 es1
  s2 : SideAt CO CB H b2 d2 l2 es2
def sp_Bookorder_with (K : PySem.W.Frag) (CO CB CK : Addr) : Sp := fun vs H Q _ => ∃ (x dx sd st b1 d1 l1 b2 d2 l2 : Addr) (last : Option Int) (next : Int) (es1 es2 : List Ent) (n : Int), vs = [.ref x, .int n] ∧ SidesAt CO CB CK H x dx sd st b1 d1 l1 b2 d2 l2 last next es1 es2 ∧
  Q (entV (withNum es1 es2 n)) H
set_option maxHeartbeats 0 in
theorem ok_Bookorder_with (T : Txt K mg) : FnOk P w K mg base CX0 2 T.f_Bookorder_with T.d_Bookorder_with ["self", "number"] (sp_Bookorder_with K T.c_Order T.c_BookSide T.c_Book) := by
  refine T.F_Bookorder_with.ok sc_Bookorder_with (fun vs H Q E h => ?_) (fun cdv A outer s H vs Q E hr h => ?_)
  · obtain ⟨x, dx, sd, st, b1, d1, l1, b2, d2, l2, last, next, es1, es2, n, rfl, _⟩ := h
    rfl
  · obtain ⟨x, dx, sd, st, b1, d1, l1, b2, d2, l2, last, next, es1, es2, n, rfl, B, q⟩ := h
    have G_BookSide_with_number : FnOk P w K mg base CX0 1 T.f_BookSide_with_number T.d_BookSide_with_number ["self", "number"] (sp_BookSide_with_number K T.c_Order T.c_BookSide) := ok_BookSide_with_number T
    refine ⟨_, (pss_cons (ps_set (i := 2) sc_Bookorder_with.nd rfl (Or.inl rfl) (pe_meth (pe_dget (hu_of hr) (pe_fld (pv 0) rfl) pe_str (fun _ _ => rfl)) T.cl_BookSide T.mt_BookSide_with_number G_BookSide_with_number hr T.b_BookSide_with_number .nil pass0 (pa_cons (pv 1) pa_nil)))
    (pss_one (ps_ret (pe_ifExp (pt_cmpR op_isN (pv 2) pe_non (nomark _)) (pe_meth (pe_dget (hu_of hr) (pe_fld (pv 0) rfl) pe_str (fun _ _ => rfl)) T.cl_BookSide T.mt_BookSide_with_number G_BookSide_with_number hr T.b_BookSide_with_number .nil pass0 (pa_cons (pv 1) pa_nil)) (pv 2))))), ?_⟩
    have fact_BookSide_0 := T.cl_BookSide; have fact_BookSide_1 := T.na_BookSide__orders; have fact_Book_0 := T.cl_Book; have fact_Book_1 := T.na_Book_last; have fact_Book_2 := T.na_Book__next_number; have fact_Book_3 := T.na_Book__sides; have fact_Book_4 := T.na_Book__stops; have fact_Order_0 := T.cl_Order; have fact_Order_1 := T.na_Order_number; have fact_Order_2 := T.na_Order_house; have fact_Order_3 := T.na_Order_side; have fact_Order_4 := T.na_Order_price; have fact_Order_5 := T.na_Order_shown; have fact_Order_6 := T.na_Order_left; have fact_Order_7 := T.na_Order_visible
    have hob := B.ob
    have hsd1 := sides_buy B.sd
    have hsd2 := sides_sell B.sd
    have S1 := B.s1
    have S2 := B.s2
    have hb1 := S1.ob
    have hb2 := S2.ob
    walk_at "st"
    refine ⟨es1, n, rfl, S1, ?_⟩
    unfold withNum at q
    cases hf : es1.find? (fun e => decide (e.2.2.number = n)) with
    | some e =>
      rw [hf] at q
      walk_at "st"
      exact q
    | none =>
      rw [hf] at q
      walk_at "st"
      refine ⟨es2, n, rfl, S2, ?_⟩
      cases hf2 : es2.find? (fun e => decide (e.2.2.number = n)) with
      | some e =>
        rw [hf2] at q
        exact q
      | none =>
        rw [hf2] at q
        exact q
/-- a book and its side of this name -/
structure BookSideAt (CO CB CK : Addr) (H : Hp) (x dx sd st : Addr) (last : Option Int) (next : Int) (s : Str) (b d l : Addr) (es : List Ent) : Prop where
  ob : H x = some (bookO CK dx last next sd st)
  sd : DGet H sd (.str s) (some (.ref b))
  sb : SideAt CO CB H b d l es
def sp_Book_orders (K : PySem.W.Frag) (CO CB CK : Addr) : Sp := fun vs H Q _ => ∃ (x dx sd st b d l : Addr) (last : Option Int) (next : Int) (es : List Ent) (s : Str), vs = [.ref x, .str s] ∧ BookSideAt CO CB CK H x dx sd st last next s b d l es ∧
  ∀ D H' (ts : List (Addr × Ord)), Same H H' → H D = none → H' D = some (.lst (ts.map fun t => V.ref t.1)) → ts.map (·.2) = es.map (·.2.2) → (∀ t, t ∈ ts → H' t.1 = some (.tup (rowV t.2))) → Q (.ref D) H'
set_option maxHeartbeats 0 in
theorem ok_Book_orders (T : Txt K mg) : FnOk P w K mg base CX0 2 T.f_Book_orders T.d_Book_orders ["self", "side"] (sp_Book_orders K T.c_Order T.c_BookSide T.c_Book) := by
  refine T.F_Book_orders.ok sc_Book_orders (fun vs H Q E h => ?_) (fun cdv A outer s H vs Q E hr h => ?_)
  · obtain ⟨x, dx, sd, st, b, d, l, last, next, es, s, rfl, _⟩ := h
    rfl
  · obtain ⟨x, dx, sd, st, b, d, l, last, next, es, s, rfl, B, q⟩ := h
    have G_BookSide_rows : FnOk P w K mg base CX0 1 T.f_BookSide_rows T.d_BookSide_rows ["self"] (sp_BookSide_rows K T.c_Order T.c_BookSide) := ok_BookSide_rows T
    refine ⟨_, (pss_one (ps_ret (pe_meth0 (pe_dget (hu_of hr) (pe_fld (pv 0) rfl) (pv 1) (fun _ _ => rfl)) T.cl_BookSide T.mt_BookSide_rows G_BookSide_rows hr T.b_BookSide_rows .nil pass0))), ?_⟩
    have fact_BookSide_0 := T.cl_BookSide; have fact_BookSide_1 := T.na_BookSide__orders; have fact_Book_0 := T.cl_Book; have fact_Book_1 := T.na_Book_last; have fact_Book_2 := T.na_Book__next_number; have fact_Book_3 := T.na_Book__sides; have fact_Book_4 := T.na_Book__stops; have fact_Order_0 := T.cl_Order; have fact_Order_1 := T.na_Order_number; have fact_Order_2 := T.na_Order_house; have fact_Order_3 := T.na_Order_side; have fact_Order_4 := T.na_Order_price; have fact_Order_5 := T.na_Order_shown; have fact_Order_6 := T.na_Order_left; have fact_Order_7 := T.na_Order_visible
    have hob := B.ob
    have hsd := B.sd
    have S := B.sb
    have hb := S.ob
    unfold bookO at hob
    walk_at "st"
    exact ⟨es, rfl, S, q⟩
def sp_Book_best (K : PySem.W.Frag) (CO CB CK : Addr) : Sp := fun vs H Q _ => ∃ (x dx sd st b d l : Addr) (last : Option Int) (next : Int) (es : List Ent) (s : Str), vs = [.ref x, .str s] ∧ BookSideAt CO CB CK H x dx sd st last next s b d l es ∧
  Q (match es with | [] => .non | e :: _ => optV e.2.2.price) H
def sp_Booktake_number (K : PySem.W.Frag) (CO CB CK : Addr) : Sp := fun vs H Q _ => ∃ (x dx sd st : Addr) (last : Option Int) (next : Int), vs = [.ref x] ∧ H x = some (bookO CK dx last next sd st) ∧ Q (.int next) (upd H x (bookO CK dx last (next + 1) sd st))
set_option maxHeartbeats 0 in
theorem ok_Booktake_number (T : Txt K mg) : FnOk P w K mg base CX0 1 T.f_Booktake_number T.d_Booktake_number ["self"] (sp_Booktake_number K T.c_Order T.c_BookSide T.c_Book) := by
  refine T.F_Booktake_number.ok sc_Booktake_number (fun vs H Q E h => ?_) (fun cdv A outer s H vs Q E hr h => ?_)
  · obtain ⟨x, dx, sd, st, last, next, rfl, _⟩ := h
    rfl
  · obtain ⟨x, dx, sd, st, last, next, rfl, hob, q⟩ := h
    
    refine ⟨_, (pss_cons (ps_set (i := 1) sc_Booktake_number.nd rfl (Or.inl rfl) (pe_fld (pv 0) rfl))
    (pss_cons (ps_fldaug (pv 0) pe_int in_add)
    (pss_one (ps_ret (pv 1))))), ?_⟩
    have fact_BookSide_0 := T.cl_BookSide; have fact_BookSide_1 := T.na_BookSide__orders; have fact_Book_0 := T.cl_Book; have fact_Book_1 := T.na_Book_last; have fact_Book_2 := T.na_Book__next_number; have fact_Book_3 := T.na_Book__sides; have fact_Book_4 := T.na_Book__stops; have fact_Order_0 := T.cl_Order; have fact_Order_1 := T.na_Order_number; have fact_Order_2 := T.na_Order_house; have fact_Order_3 := T.na_Order_side; have fact_Order_4 := T.na_Order_price; have fact_Order_5 := T.na_Order_shown; have fact_Order_6 := T.na_Order_left; have fact_Order_7 := T.na_Order_visible
    unfold bookO at hob q
    walk_at "st"
    exact q

/-! ### the order of a side, and what an order does to the other side -/
theorem takes_trans {s : Str} {a p p' : Int} (h1 : takes s (some a) p = true) (h2 : takes s (some p) p' = true) : takes s (some a) p' = true := by
  unfold takes at *
  dsimp only at *
  by_cases b : buyS s = true
  · rw [if_pos b] at *
    have := of_decide_eq_true h1
    have := of_decide_eq_true h2
    exact decide_eq_true (by omega)
  · rw [if_neg b] at *
    have := of_decide_eq_true h1
    have := of_decide_eq_true h2
    exact decide_eq_true (by omega)
theorem takes_step {s : Str} {d p p' : Int} (h1 : takes s (some d) p = false) (h2 : takes s (some d) p' = true) : takes s (some p) p' = true := by
  unfold takes at *
  dsimp only at *
  by_cases b : buyS s = true
  · rw [if_pos b] at *
    have := of_decide_eq_false h1
    have := of_decide_eq_true h2
    exact decide_eq_true (by omega)
  · rw [if_neg b] at *
    have := of_decide_eq_false h1
    have := of_decide_eq_true h2
    exact decide_eq_true (by omega)
theorem takes_self (s : Str) (p : Int) : takes s (some p) p = true := by
  unfold takes
  dsimp only
  split <;> exact decide_eq_true (by omega)
theorem mono_iff {es : List Ent} {p : Int} : Mono es p ↔ es.Pairwise fun a b => accE p b = true → accE p a = true := by
  rw [List.pairwise_iff_getElem]
  constructor
  · intro h i j hi hj hij
    exact h i j _ _ (by omega) (List.getElem?_eq_getElem hi) (List.getElem?_eq_getElem hj)
  · intro h i j e e' hij hi hj hp
    obtain ⟨hi1, hi2⟩ := List.getElem?_eq_some_iff.mp hi
    obtain ⟨hj1, hj2⟩ := List.getElem?_eq_some_iff.mp hj
    by_cases z : i = j
    · subst z
      rw [hi] at hj
      cases hj
      exact hp
    · have := h i j hi1 hj1 (by omega)
      rw [hi2, hj2] at this
      exact this hp
theorem place_split {p : Int} : ∀ {es : List Ent}, Mono es p → (∀ x, x ∈ es.take (place es p) → accE p x = true) ∧ ∀ x, x ∈ es.drop (place es p) → accE p x = false
  | [], _ => ⟨fun x h => (by rw [List.take_nil] at h; cases h), fun x h => (by rw [List.drop_nil] at h; cases h)⟩
  | e :: r, hm => by
    have hpw := List.pairwise_cons.mp (mono_iff.mp hm)
    have ih := place_split (mono_iff.mpr hpw.2)
    by_cases a : accE p e = true
    · have e1 : place (e :: r) p = place r p + 1 := by
        unfold place
        rw [List.takeWhile_cons, if_pos a, List.length_cons]
      rw [e1, List.take_succ_cons, List.drop_succ_cons]
      refine ⟨fun x h => ?_, ih.2⟩
      rcases List.mem_cons.mp h with h | h
      · rw [h]
        exact a
      · exact ih.1 x h
    · have e1 : place (e :: r) p = 0 := by
        unfold place
        rw [List.takeWhile_cons, if_neg a]
        rfl
      rw [e1, List.take_zero, List.drop_zero]
      refine ⟨fun x h => (by cases h), fun x h => ?_⟩
      cases c : accE p x with
      | false => rfl
      | true =>
        exfalso
        rcases List.mem_cons.mp h with h | h
        · rw [h] at c
          exact a c
        · exact a (hpw.1 x h c)
/-- one side in its order: sides and prices stand, each shows a part -/
structure Rank (s : Str) (es : List Ent) : Prop where
  side : ∀ e, e ∈ es → e.2.2.side = s
  price : ∀ e, e ∈ es → ∃ p, e.2.2.price = some p
  vis : ∀ e, e ∈ es → 1 ≤ e.2.2.visible ∧ e.2.2.visible ≤ e.2.2.left ∧ 0 ≤ e.2.2.shown
  mono : ∀ p, Mono es p
theorem Rank.nil (s : Str) : Rank s [] := ⟨fun _ h => (by cases h), fun _ h => (by cases h), fun _ h => (by cases h), fun p => mono_iff.mpr List.Pairwise.nil⟩
theorem Rank.tail {s : Str} {e : Ent} {es : List Ent} (h : Rank s (e :: es)) : Rank s es :=
  ⟨fun x hx => h.side x (List.mem_cons_of_mem _ hx), fun x hx => h.price x (List.mem_cons_of_mem _ hx), fun x hx => h.vis x (List.mem_cons_of_mem _ hx), fun p => mono_iff.mpr (List.pairwise_cons.mp (mono_iff.mp (h.mono p))).2⟩
theorem accE_of {p q : Int} {e : Ent} (h : e.2.2.price = some q) : accE p e = takes e.2.2.side (some q) p := by
  unfold accE
  rw [h]
theorem Rank.insert {s : Str} {e : Ent} {es : List Ent} {p : Int} (h : Rank s es) (hs : e.2.2.side = s) (hp : e.2.2.price = some p) (hv : 1 ≤ e.2.2.visible ∧ e.2.2.visible ≤ e.2.2.left ∧ 0 ≤ e.2.2.shown) : Rank s (insE es (place es p) e) := by
  have mem : ∀ {x}, x ∈ insE es (place es p) e → x = e ∨ x ∈ es := fun hx => insE_mem.mp hx
  obtain ⟨hb, ha⟩ := place_split (h.mono p)
  refine ⟨fun x hx => ?_, fun x hx => ?_, fun x hx => ?_, fun p' => mono_iff.mpr ?_⟩
  · rcases mem hx with z | z
    · rw [z]; exact hs
    · exact h.side x z
  · rcases mem hx with z | z
    · rw [z]; exact ⟨p, hp⟩
    · exact h.price x z
  · rcases mem hx with z | z
    · rw [z]; exact hv
    · exact h.vis x z
  · have hpw := mono_iff.mp (h.mono p')
    have hpw2 : (es.take (place es p) ++ es.drop (place es p)).Pairwise fun a b => accE p' b = true → accE p' a = true := by
      rw [List.take_append_drop]
      exact hpw
    rw [List.pairwise_append] at hpw2
    have before : ∀ x, x ∈ es.take (place es p) → accE p' e = true → accE p' x = true := fun x hx hz => by
      have hm := List.mem_of_mem_take hx
      obtain ⟨q, hq⟩ := h.price x hm
      have h1 := hb x hx
      rw [accE_of hq, h.side x hm] at h1 ⊢
      rw [accE_of hp, hs] at hz
      exact takes_trans h1 hz
    have after : ∀ x, x ∈ es.drop (place es p) → accE p' x = true → accE p' e = true := fun x hx hz => by
      have hm := List.mem_of_mem_drop hx
      obtain ⟨q, hq⟩ := h.price x hm
      have h1 := ha x hx
      rw [accE_of hq, h.side x hm] at h1 hz
      rw [accE_of hp, hs]
      exact takes_step h1 hz
    unfold insE
    rw [List.append_assoc, List.pairwise_append]
    refine ⟨hpw2.1, List.pairwise_cons.mpr ⟨fun x hx => after x hx, hpw2.2.1⟩, fun x hx y hy => ?_⟩
    rcases List.mem_cons.mp hy with z | z
    · rw [z]
      exact before x hx
    · exact hpw2.2.2 x hx y z
theorem showNext_vis {o : Ord} (h1 : 1 ≤ o.left) (h2 : 0 ≤ o.shown) : 1 ≤ o.showNext.visible ∧ o.showNext.visible ≤ o.showNext.left ∧ 0 ≤ o.showNext.shown := by
  unfold Ord.showNext
  dsimp only
  split
  · omega
  · split <;> omega
theorem Rank.trade {s : Str} {e : Ent} {es : List Ent} {n p : Int} (h : Rank s (e :: es)) (hp : e.2.2.price = some p) (hn : 1 ≤ n ∧ n ≤ e.2.2.visible) : Rank s (tradeF e es n p) := by
  have hv := h.vis e List.mem_cons_self
  have hs := h.side e List.mem_cons_self
  unfold tradeF
  dsimp only
  split
  · next z =>
    split
    · next z2 =>
      refine h.tail.insert (e := (e.1, e.2.1, Ord.showNext { e.2.2 with left := e.2.2.left - n, visible := e.2.2.visible - n })) ?_ ?_ ?_
      · exact hs
      · exact hp
      · exact showNext_vis (o := { e.2.2 with left := e.2.2.left - n, visible := e.2.2.visible - n }) (by dsimp only; omega) hv.2.2
    · exact h.tail
  · next z =>
    have ht := h.tail
    refine ⟨fun x hx => ?_, fun x hx => ?_, fun x hx => ?_, fun p' => mono_iff.mpr ?_⟩
    · rcases List.mem_cons.mp hx with c | c
      · rw [c]; exact hs
      · exact ht.side x c
    · rcases List.mem_cons.mp hx with c | c
      · rw [c]; exact ⟨p, hp⟩
      · exact ht.price x c
    · rcases List.mem_cons.mp hx with c | c
      · rw [c]; dsimp only; omega
      · exact ht.vis x c
    · have hpw := List.pairwise_cons.mp (mono_iff.mp (h.mono p'))
      refine List.pairwise_cons.mpr ⟨fun x hx => ?_, hpw.2⟩
      exact hpw.1 x hx
/-- how far an order has come -/
structure Mt where
  es : List Ent
  left : Int
  last : Option Int
  fills : List (Int × Str × Int × Int)
  gone : List Int
def prcE (e : Ent) : Int := e.2.2.price.getD 0
def goesM (t : Ord) (m : Mt) : Option Ent := match m.es with
  | [] => none
  | e :: _ => if 0 < m.left ∧ takes t.side t.price (prcE e) = true then some e else none
def qtyM (m : Mt) (e : Ent) : Int := if e.2.2.visible < m.left then e.2.2.visible else m.left
def stepM (t : Ord) (m : Mt) (e : Ent) : Mt := if e.2.2.house = t.house then { m with es := m.es.tail, gone := m.gone ++ [e.2.2.number] } else ⟨tradeF e m.es.tail (qtyM m e) (prcE e), m.left - qtyM m e, some (prcE e), m.fills ++ [(e.2.2.number, e.2.2.house, prcE e, qtyM m e)], m.gone⟩
def runM (t : Ord) : Nat → Mt → Mt
  | 0, m => m
  | k + 1, m => match goesM t m with
    | none => m
    | some e => runM t k (stepM t m e)
def sizeM (m : Mt) : Nat := m.left.toNat + m.es.length
theorem tradeF_len (e : Ent) (es : List Ent) (n p : Int) : (tradeF e es n p).length ≤ es.length + 1 := by
  unfold tradeF
  dsimp only
  split
  · split
    · rw [(insE_perm _ _ _).length_eq, List.length_cons]
      exact Nat.le_refl _
    · exact Nat.le_succ _
  · exact Nat.le_refl _
theorem goesM_some {t : Ord} {m : Mt} {e : Ent} (h : goesM t m = some e) : m.es = e :: m.es.tail ∧ 0 < m.left ∧ takes t.side t.price (prcE e) = true := by
  unfold goesM at h
  split at h
  · cases h
  · next e' r hes =>
    split at h
    · next z =>
      cases h
      rw [hes]
      exact ⟨rfl, z.1, z.2⟩
    · cases h
theorem stepM_less {t : Ord} {m : Mt} {e : Ent} {s : Str} (hr : Rank s m.es) (h : goesM t m = some e) : sizeM (stepM t m e) < sizeM m ∧ 0 ≤ (stepM t m e).left ∧ Rank s (stepM t m e).es := by
  obtain ⟨h1, h2, h3⟩ := goesM_some h
  rw [h1] at hr
  have hv := hr.vis e List.mem_cons_self
  obtain ⟨p, hp⟩ := hr.price e List.mem_cons_self
  have hpp : prcE e = p := by unfold prcE; rw [hp]; rfl
  have hl : m.es.length = m.es.tail.length + 1 := by rw [h1]; rfl
  unfold stepM sizeM
  split
  · dsimp only
    exact ⟨by omega, by omega, hr.tail⟩
  · dsimp only
    have hq : 1 ≤ qtyM m e ∧ qtyM m e ≤ e.2.2.visible ∧ qtyM m e ≤ m.left := by
      unfold qtyM
      split <;> omega
    have := tradeF_len e m.es.tail (qtyM m e) (prcE e)
    exact ⟨by omega, by omega, hr.trade (by rw [hpp]; exact hp) ⟨hq.1, hq.2.1⟩⟩
theorem runM_stop {t : Ord} {m : Mt} (h : goesM t m = none) : ∀ k, runM t k m = m
  | 0 => rfl
  | k + 1 => by
    show (match goesM t m with | none => m | some e => runM t k (stepM t m e)) = m
    rw [h]
theorem runM_go {t : Ord} {m : Mt} {e : Ent} (h : goesM t m = some e) (k : Nat) : runM t (k + 1) m = runM t k (stepM t m e) := by
  show (match goesM t m with | none => m | some e => runM t k (stepM t m e)) = _
  rw [h]
theorem runM_fuel {s : Str} {t : Ord} : ∀ (k : Nat) {m : Mt}, Rank s m.es → sizeM m ≤ k → ∀ j, sizeM m ≤ j → runM t k m = runM t j m := by
  intro k
  induction k with
  | zero =>
    intro m hr hk j hj
    cases h : goesM t m with
    | none => rw [runM_stop h, runM_stop h]
    | some e =>
      have := stepM_less hr h
      omega
  | succ k ih =>
    intro m hr hk j hj
    cases h : goesM t m with
    | none => rw [runM_stop h, runM_stop h]
    | some e =>
      have hs := stepM_less hr h
      obtain ⟨j', rfl⟩ : ∃ j', j = j' + 1 := ⟨j - 1, by omega⟩
      rw [runM_go h, runM_go h]
      exact ih hs.2.2 (by omega) j' (by omega)
theorem runM_next {s : Str} {t : Ord} {m : Mt} {e : Ent} (hr : Rank s m.es) (h : goesM t m = some e) : runM t (sizeM m) m = runM t (sizeM (stepM t m e)) (stepM t m e) := by
  have hs := stepM_less hr h
  obtain ⟨j, ej⟩ : ∃ j, sizeM m = j + 1 := ⟨sizeM m - 1, by omega⟩
  rw [ej, runM_go h]
  exact runM_fuel j hs.2.2 (by omega) _ (Nat.le_refl _)
def firstV : List Ent → V
  | [] => .non
  | e :: _ => .ref e.1

/-- all but one object stay -/
def KeepX (x : Addr) (H H' : Hp) : Prop := ∀ z o, z ≠ x → H z = some o → H' z = some o
theorem KeepX.then {x : Addr} {H H1 H2 : Hp} (h : KeepX x H H1) (e : Same H1 H2) : KeepX x H H2 := fun z o nz hz => e z o (h z o nz hz)
theorem KeepX.set {x : Addr} {H H1 : Hp} {o : HO} (h : KeepX x H H1) : KeepX x H (upd H1 x o) := fun z o nz hz => by
  rw [upd_ne nz]
  exact h z o nz hz
theorem keepX_of {x : Addr} {H H' : Hp} (e : Same H H') : KeepX x H H' := fun z o _ hz => e z o hz
theorem KeepX.lst {x : Addr} {H H' : Hp} (k : KeepX x H H') {c d : Addr} {l : List (Str × V)} (hx : H x = some (.ins c d l)) {a : Addr} {xs : List V} (h : H a = some (.lst xs)) : H' a = some (.lst xs) := k a _ (fun z => by rw [z, hx] at h; cases h) h

theorem smallM {n : Nat} (h : n ≤ 2000000) : n < sizeLine := Nat.lt_of_le_of_lt h (by decide)
def otherS (s : Str) : Str := if buyS s = true then "sell" else "buy"
def sp_other_side (K : PySem.W.Frag) : Sp := fun vs H Q _ => ∃ s : Str, vs = [.str s] ∧ Q (.str (otherS s)) H
set_option maxHeartbeats 0 in
theorem ok_other_side (T : Txt K mg) : FnOk P w K mg base CX0 1 T.f_other_side T.d_other_side ["side"] (sp_other_side K) := by
  refine T.F_other_side.ok sc_other_side (fun vs H Q E h => ?_) (fun cdv A outer s H vs Q E hr h => ?_)
  · obtain ⟨s, rfl, _⟩ := h
    rfl
  · obtain ⟨s, rfl, q⟩ := h
    refine ⟨_, (pss_one (ps_ret (pe_ifExp (pt_cmpR op_eq (pv 0) pe_str (nomark _)) pe_str pe_str))), ?_⟩
    unfold otherS at q
    walk_at "st"
    refine iteB (fun h => ?_) (fun h => ?_)
    · rw [if_pos (show buyS s = true from h)] at q
      exact q
    · rw [if_neg (by rw [show buyS s = false from h]; exact Bool.false_ne_true)] at q
      exact q
def repO (C dx : Addr) (n : Int) (ho si : Str) (fl rm : Addr) (rest : Int) : HO := .ins C dx [("number", .int n), ("house", .str ho), ("side", .str si), ("fills", .ref fl), ("removed", .ref rm), ("resting", .int rest)]
def sp_Report_init (K : PySem.W.Frag) (C : Addr) : Sp := fun vs H Q _ => ∃ (x dx : Addr) (n : Int) (ho si : Str), vs = [.ref x, .int n, .str ho, .str si] ∧ H x = some (.ins C dx []) ∧
  ∀ fl rm H', KeepX x H H' → H' x = some (repO C dx n ho si fl rm 0) → H' fl = some (.lst []) → H' rm = some (.lst []) → H fl = none → H rm = none → fl ≠ rm → Q .non H'
set_option maxHeartbeats 0 in
theorem ok_Report_init (T : Txt K mg) : FnOk P w K mg base CX0 1 T.f_Report_init T.d_Report_init ["self", "number", "house", "side"] (sp_Report_init K T.c_Report) := by
  refine T.F_Report_init.ok sc_Report_init (fun vs H Q E h => ?_) (fun cdv A outer s H vs Q E hr h => ?_)
  · obtain ⟨x, dx, n, ho, si, rfl, _⟩ := h
    rfl
  · obtain ⟨x, dx, n, ho, si, rfl, hx, q⟩ := h
    
    refine ⟨_, (pss_cons (ps_fld (pv 0) (pv 1) rfl)
    (pss_cons (ps_fld (pv 0) (pv 2) rfl)
    (pss_cons (ps_fld (pv 0) (pv 3) rfl)
    (pss_cons (ps_fld (pv 0) (pe_lst pa_nil) rfl)
    (pss_cons (ps_fld (pv 0) (pe_lst pa_nil) rfl)
    (pss_one (ps_fld (pv 0) pe_int rfl))))))), ?_⟩
    have fact_Report_0 := T.cl_Report; have fact_Report_1 := T.na_Report_number; have fact_Report_2 := T.na_Report_house; have fact_Report_3 := T.na_Report_side; have fact_Report_4 := T.na_Report_fills; have fact_Report_5 := T.na_Report_removed; have fact_Report_6 := T.na_Report_resting
    refine ⟨_, rfl, _, rfl, setF hx T.cl_Report T.na_Report_number rfl ?_⟩
    refine ⟨_, rfl, _, rfl, setF upd_same T.cl_Report T.na_Report_house rfl ?_⟩
    refine ⟨_, rfl, _, rfl, setF upd_same T.cl_Report T.na_Report_side rfl ?_⟩
    simp only [upd_upd]
    have k1 : KeepX x H (upd H x (.ins T.c_Report dx (putF "side" (.str si) (putF "house" (.str ho) (putF "number" (.int n) []))))) := (keepX_of (Same.refl H)).set
    have hx1 : upd H x (.ins T.c_Report dx (putF "side" (.str si) (putF "house" (.str ho) (putF "number" (.int n) [])))) x = some (.ins T.c_Report dx [("number", .int n), ("house", .str ho), ("side", .str si)]) := upd_same
    have fr1 : ∀ z, z ≠ x → upd H x (.ins T.c_Report dx (putF "side" (.str si) (putF "house" (.str ho) (putF "number" (.int n) [])))) z = H z := fun z hz => upd_ne hz
    generalize upd H x _ = H1 at *
    walk_at "st"
    intro fl nfl
    have nfx : fl ≠ x := fun z => by rw [z, hx1] at nfl; cases nfl
    have hx2 : upd H1 fl (.lst []) x = some (.ins T.c_Report dx [("number", .int n), ("house", .str ho), ("side", .str si)]) := (upd_ne nfx.symm).trans hx1
    refine ⟨_, rfl, setF hx2 T.cl_Report T.na_Report_fills rfl ?_⟩
    have nfl0 : H fl = none := by rw [← fr1 fl nfx]; exact nfl
    have k2 : KeepX x H (upd (upd H1 fl (.lst [])) x (.ins T.c_Report dx (putF "fills" (.ref fl) [("number", .int n), ("house", .str ho), ("side", .str si)]))) := (k1.then (same_upd nfl)).set
    have hx3 : upd (upd H1 fl (.lst [])) x (.ins T.c_Report dx (putF "fills" (.ref fl) [("number", .int n), ("house", .str ho), ("side", .str si)])) x = some (.ins T.c_Report dx [("number", .int n), ("house", .str ho), ("side", .str si), ("fills", .ref fl)]) := upd_same
    have hfl3 : upd (upd H1 fl (.lst [])) x (.ins T.c_Report dx (putF "fills" (.ref fl) [("number", .int n), ("house", .str ho), ("side", .str si)])) fl = some (.lst []) := (upd_ne nfx).trans upd_same
    have fr3 : ∀ z, z ≠ x → z ≠ fl → upd (upd H1 fl (.lst [])) x (.ins T.c_Report dx (putF "fills" (.ref fl) [("number", .int n), ("house", .str ho), ("side", .str si)])) z = H z := fun z hz hf => by rw [upd_ne hz, upd_ne hf, fr1 z hz]
    generalize upd (upd H1 fl _) x _ = H3 at *
    walk_at "st"
    intro rm nrm
    have nrx : rm ≠ x := fun z => by rw [z, hx3] at nrm; cases nrm
    have nrf : rm ≠ fl := fun z => by rw [z, hfl3] at nrm; cases nrm
    have hx4 : upd H3 rm (.lst []) x = some (.ins T.c_Report dx [("number", .int n), ("house", .str ho), ("side", .str si), ("fills", .ref fl)]) := (upd_ne nrx.symm).trans hx3
    refine ⟨_, rfl, setF hx4 T.cl_Report T.na_Report_removed rfl ?_⟩
    refine ⟨_, rfl, setF upd_same T.cl_Report T.na_Report_resting rfl ?_⟩
    rw [upd_upd]
    have nrm0 : H rm = none := by rw [← fr3 rm nrx nrf]; exact nrm
    refine q fl rm _ ((k2.then (same_upd nrm)).set) upd_same ?_ ?_ nfl0 nrm0 nrf.symm
    · rw [upd_ne nfx, upd_ne nrf.symm]
      exact hfl3
    · rw [upd_ne nrx]
      exact upd_same
def encFill (x : Int × Str × Int × Int) : List V := [.int x.1, .str x.2.1, .int x.2.2.1, .int x.2.2.2]
/-- what stays but for the places that a match may touch -/
def FrM (A : List Addr) (la o x fl rm : Addr) (H H' : Hp) : Prop := ∀ z v, z ∉ A → z ≠ la → z ≠ o → z ≠ x → z ≠ fl → z ≠ rm → H z = some v → H' z = some v
structure EnterIn (CO CB CK : Addr) (H : Hp) (x dx sd st b d l b2 d2 l2 o dxo : Addr) (last : Option Int) (next : Int) (es es2 : List Ent) (t : Ord) : Prop where
  ob : H x = some (bookO CK dx last next sd st)
  sdo : DGet H sd (.str (otherS t.side)) (some (.ref b))
  sds : DGet H sd (.str t.side) (some (.ref b2))
  s1 : SideAt CO CB H b d l es
  s2 : SideAt CO CB H b2 d2 l2 es2
  r1 : Rank (otherS t.side) es
  r2 : Rank t.side es2
  ho : H o = some (ordO CO dxo t)
  n1 : ∀ e, e ∈ es → e.1 ≠ o
  n2 : ∀ e, e ∈ es2 → e.1 ≠ o
  l0 : 1 ≤ t.left
  sh : 0 ≤ t.shown
  dj : ∀ e, e ∈ es → ∀ y, y ∈ es2 → e.1 ≠ y.1
  nll : l ≠ l2
  sdv : ∃ c1 c2, H sd = some (sidesO c1 c2)
theorem dget_keep {H H' : Hp} {a : Addr} {s : Str} {o : Option V} (h : DGet H a (.str s) o) (k : ∀ v, H a = some v → H' a = some v) : DGet H' a (.str s) o := by
  rcases h with ⟨kvs, y, h | ⟨z, h⟩, e1, e2⟩ | ⟨kvs, y, c, _, e1, _⟩
  · exact .inl ⟨kvs, y, .inl (k _ h), e1, e2⟩
  · exact .inl ⟨kvs, y, .inr ⟨z, k _ h⟩, e1, e2⟩
  · cases e1
theorem EnterIn.same {CO CB CK : Addr} {H H' : Hp} {x dx sd st b d l b2 d2 l2 o dxo : Addr} {last : Option Int} {next : Int} {es es2 : List Ent} {t : Ord} (E : EnterIn CO CB CK H x dx sd st b d l b2 d2 l2 o dxo last next es es2 t) (e : Same H H') : EnterIn CO CB CK H' x dx sd st b d l b2 d2 l2 o dxo last next es es2 t :=
  ⟨e _ _ E.ob, dget_keep E.sdo fun v => e _ v, dget_keep E.sds fun v => e _ v, E.s1.same e, E.s2.same e, E.r1, E.r2, e _ _ E.ho, E.n1, E.n2, E.l0, E.sh, E.dj, E.nll, E.sdv.elim fun c1 h => h.elim fun c2 h => ⟨c1, c2, e _ _ h⟩⟩
theorem Tups.frame {α : Type} {enc : α → List V} {H H' : Hp} {l : Addr} {ps : List Addr} {xs : List α} (h : Tups enc H l ps xs) (k1 : H' l = H l) (k2 : ∀ a ys, H a = some (.tup ys) → H' a = some (.tup ys)) : Tups enc H' l ps xs :=
  ⟨k1.trans h.lst, h.len, fun i p x a b => k2 _ _ (h.row i p x a b)⟩
theorem tradeF_mem {e y : Ent} {es : List Ent} {n p : Int} (h : y ∈ tradeF e es n p) : y.1 = e.1 ∨ y ∈ es := by
  unfold tradeF at h
  dsimp only at h
  split at h
  · split at h
    · rcases insE_mem.mp h with z | z
      · exact .inl (by rw [z])
      · exact .inr z
    · exact .inr h
  · rcases List.mem_cons.mp h with z | z
    · exact .inl (by rw [z])
    · exact .inr z
def muM (o l : Addr) (H : Hp) : Nat := match H o, H l with
  | some (.ins _ _ [_, _, _, _, _, (_, .int lf), _]), some (.lst xs) => lf.toNat + xs.length
  | _, _ => 0
theorem muM_eq {o l C dxo : Addr} {H : Hp} {t : Ord} {m : Mt} (h1 : H o = some (ordO C dxo { t with left := m.left })) (h2 : H l = some (.lst (refs m.es))) : muM o l H = sizeM m := by
  unfold muM
  rw [h1, h2]
  unfold ordO refs sizeM
  show m.left.toNat + (List.map _ m.es).length = _
  rw [List.length_map]
def availM (t : Ord) (es : List Ent) : Int := ((es.filter (canT t)).map (fun e => e.2.2.left)).sum
def restsM (kind : Str) (m : Mt) : Bool := decide (V.str kind = V.str "rest") && decide (m.left > 0)
def sp_Bookenter (K : PySem.W.Frag) (CO CB CK CR : Addr) : Sp := fun vs H Q _ => ∃ (_ : Unit) (x dx sd st b d l b2 d2 l2 o dxo : Addr) (last : Option Int) (next : Int) (es es2 : List Ent) (t : Ord) (kind : Str), vs = [.ref x, .ref o, .str kind] ∧ EnterIn CO CB CK H x dx sd st b d l b2 d2 l2 o dxo last next es es2 t ∧ (V.str kind = V.str "rest" → ∃ p, t.price = some p) ∧ es.length + es2.length ≤ 900 ∧ t.left ≤ 1000000 ∧
  (V.str kind = V.str "all" → availM t es < t.left → ∀ r dr fl rm H', Same H H' → H r = none → H fl = none → H rm = none → H' r = some (repO CR dr t.number t.house t.side fl rm 0) → H' fl = some (.lst []) → H' rm = some (.lst []) → Q (.ref r) H') ∧
  (¬ (V.str kind = V.str "all" ∧ availM t es < t.left) → ∀ (r dr fl rm : Addr) (fs : List Addr) (m : Mt) (H' : Hp), m = runM t (sizeM ⟨es, t.left, last, [], []⟩) ⟨es, t.left, last, [], []⟩ → H r = none → H fl = none → H rm = none → H' r = some (repO CR dr t.number t.house t.side fl rm (if restsM kind m = true then m.left else 0)) → Tups encFill H' fl fs m.fills → H' rm = some (.lst (m.gone.map V.int)) → H' x = some (bookO CK dx m.last next sd st) →
    SideAt CO CB H' b d l m.es → SideAt CO CB H' b2 d2 l2 (if restsM kind m = true then insE es2 (place es2 (t.price.getD 0)) (o, dxo, Ord.showNext { t with left := m.left }) else es2) → (∀ z v, z ∉ es.map (·.1) → z ≠ l → z ≠ l2 → z ≠ o → z ≠ x → H z = some v → H' z = some v) → Q (.ref r) H')
set_option maxHeartbeats 0 in
theorem ok_Bookenter (T : Txt K mg) : FnOk P w K mg base CX0 6 T.f_Bookenter T.d_Bookenter ["self", "order", "kind"] (sp_Bookenter K T.c_Order T.c_BookSide T.c_Book T.c_Report) := by
  refine T.F_Bookenter.ok sc_Bookenter (fun vs H Q E h => ?_) (fun cdv A outer s H vs Q E hr h => ?_)
  · obtain ⟨_, x, dx, sd, st, b, d, l, b2, d2, l2, o, dxo, last, next, es, es2, t, kind, rfl, _⟩ := h
    rfl
  · obtain ⟨_, x, dx, sd, st, b, d, l, b2, d2, l2, o, dxo, last, next, es, es2, t, kind, rfl, E, hkp, hsz, hszl, qall, qrun⟩ := h
    have G_Report_init : FnOk P w K mg base CX0 1 T.f_Report_init T.d_Report_init ["self", "number", "house", "side"] (sp_Report_init K T.c_Report) := ok_Report_init T
    have G_BookSide_first : FnOk P w K mg base CX0 1 T.f_BookSide_first T.d_BookSide_first ["self"] (sp_BookSide_first K T.c_Order T.c_BookSide) := ok_BookSide_first T
    have G_other_side : FnOk P w K mg base CX0 1 T.f_other_side T.d_other_side ["side"] (sp_other_side K) := ok_other_side T
    have G_Order_accepts_price : FnOk P w K mg base CX0 2 T.f_Order_accepts_price T.d_Order_accepts_price ["self", "price"] (sp_Order_accepts_price K T.c_Order) := ok_Order_accepts_price T
    have G_BookSide_enter : FnOk P w K mg base CX0 4 T.f_BookSide_enter T.d_BookSide_enter ["self", "order"] (sp_BookSide_enter K T.c_Order T.c_BookSide) := ok_BookSide_enter T
    have G_BookSide_available : FnOk P w K mg base CX0 3 T.f_BookSide_available T.d_BookSide_available ["self", "taker"] (sp_BookSide_available K T.c_Order T.c_BookSide) := ok_BookSide_available T
    have G_BookSide_leave : FnOk P w K mg base CX0 1 T.f_BookSide_leave T.d_BookSide_leave ["self", "order"] (sp_BookSide_leave K T.c_Order T.c_BookSide) := ok_BookSide_leave T
    have G_BookSide_trade_first : FnOk P w K mg base CX0 5 T.f_BookSide_trade_first T.d_BookSide_trade_first ["self", "quantity"] (sp_BookSide_trade_first K T.c_Order T.c_BookSide) := ok_BookSide_trade_first T
    refine ⟨_, (pss_cons (ps_set (i := 3) sc_Bookenter.nd rfl (Or.inl rfl) (pe_make T.mk_Report G_Report_init (hr.mono (by decide)) (by rfl) T.m_Report T.b_Report_init .nil pass0 (pa_cons (pe_fld (pv 1) rfl) (pa_cons (pe_fld (pv 1) rfl) (pa_cons (pe_fld (pv 1) rfl) pa_nil)))))
    (pss_cons (ps_set (i := 4) sc_Bookenter.nd rfl (Or.inl rfl) (pe_dget (hu_of hr) (pe_fld (pv 0) rfl) (pe_call G_other_side (hr.mono (by decide)) (by rfl) T.m_other_side T.F_other_side.kp T.b_other_side .nil pass0 (pa_cons (pe_fld (pv 1) rfl) pa_nil)) (fun _ _ => rfl)))
    (C8.pss_cut (ps_if (PW.pt (pw_and (pt_cmpR op_eq (pv 2) pe_str (nomark _)) (pw_and1 (pt_cmpR op_lt (pe_meth (pv 4) T.cl_BookSide T.mt_BookSide_available G_BookSide_available (hr.mono (by decide)) T.b_BookSide_available .nil pass0 (pa_cons (pv 1) pa_nil)) (pe_fld (pv 1) rfl) (nomark _)))))
      (pss_one (ps_ret (pv 3)))
      pss_nil)
    (pss_cons (ps_set (i := 5) sc_Bookenter.nd rfl (Or.inl rfl) (pe_meth0 (pv 4) T.cl_BookSide T.mt_BookSide_first G_BookSide_first (hr.mono (by decide)) T.b_BookSide_first .nil pass0))
    (C8.pss_cut (ps_while PassesOwn.never (PW.pt (pw_and (pt_cmpR op_gt (pe_fld (pv 1) rfl) pe_int (nomark _)) (pw_and (pt_cmpR op_notN (pv 5) pe_non (nomark _)) (pw_and1 (pt_val (pe_meth (pv 1) T.cl_Order T.mt_Order_accepts_price G_Order_accepts_price (hr.mono (by decide)) T.b_Order_accepts_price .nil pass0 (pa_cons (pe_fld (pv 5) rfl) pa_nil)))))))
      (pss_cons (ps_if (pt_cmpR op_eq (pe_fld (pv 5) rfl) (pe_fld (pv 1) rfl) (nomark _))
        (pss_cons (ps_expr (pe_meth (pv 4) T.cl_BookSide T.mt_BookSide_leave G_BookSide_leave (hr.mono (by decide)) T.b_BookSide_leave .nil pass0 (pa_cons (pv 5) pa_nil)))
        (pss_one (ps_expr (pe_bm PySem.F.plainAttrs_list PySem.F.slot_list_append PySem.F.type_list_append mt_append (pe_fld (pv 3) rfl) (pa_cons (pe_fld (pv 5) rfl) pa_nil)))))
        (pss_cons (ps_set (i := 6) sc_Bookenter.nd rfl (Or.inl rfl) (pe_callB (call_min2 rfl) (by rfl) T.z_min (by decide +kernel) (pa_cons (pe_fld (pv 1) rfl) (pa_cons (pe_fld (pv 5) rfl) pa_nil))))
        (pss_cons (ps_fldaug (pv 1) (pv 6) in_sub)
        (pss_cons (ps_expr (pe_meth (pv 4) T.cl_BookSide T.mt_BookSide_trade_first G_BookSide_trade_first hr T.b_BookSide_trade_first .nil pass0 (pa_cons (pv 6) pa_nil)))
        (pss_cons (ps_expr (pe_bm PySem.F.plainAttrs_list PySem.F.slot_list_append PySem.F.type_list_append mt_append (pe_fld (pv 3) rfl) (pa_cons (pe_tup (pa_cons (pe_fld (pv 5) rfl) (pa_cons (pe_fld (pv 5) rfl) (pa_cons (pe_fld (pv 5) rfl) (pa_cons (pv 6) pa_nil))))) pa_nil)))
        (pss_one (ps_fld (pv 0) (pe_fld (pv 5) rfl) rfl)))))))
      (pss_one (ps_set (i := 5) sc_Bookenter.nd rfl (Or.inl rfl) (pe_meth0 (pv 4) T.cl_BookSide T.mt_BookSide_first G_BookSide_first (hr.mono (by decide)) T.b_BookSide_first .nil pass0)))))
    (pss_cons (ps_if (PW.pt (pw_and (pt_cmpR op_eq (pv 2) pe_str (nomark _)) (pw_and1 (pt_cmpR op_gt (pe_fld (pv 1) rfl) pe_int (nomark _)))))
      (pss_cons (ps_expr (pe_meth (pe_dget (hu_of hr) (pe_fld (pv 0) rfl) (pe_fld (pv 1) rfl) (fun _ _ => rfl)) T.cl_BookSide T.mt_BookSide_enter G_BookSide_enter (hr.mono (by decide)) T.b_BookSide_enter .nil pass0 (pa_cons (pv 1) pa_nil)))
      (pss_one (ps_fld (pv 3) (pe_fld (pv 1) rfl) rfl)))
      pss_nil)
    (pss_one (ps_ret (pv 3))))))))), ?_⟩
    have fact_BookSide_0 := T.cl_BookSide; have fact_BookSide_1 := T.na_BookSide__orders; have fact_Book_0 := T.cl_Book; have fact_Book_1 := T.na_Book_last; have fact_Book_2 := T.na_Book__next_number; have fact_Book_3 := T.na_Book__sides; have fact_Book_4 := T.na_Book__stops; have fact_Order_0 := T.cl_Order; have fact_Order_1 := T.na_Order_number; have fact_Order_2 := T.na_Order_house; have fact_Order_3 := T.na_Order_side; have fact_Order_4 := T.na_Order_price; have fact_Order_5 := T.na_Order_shown; have fact_Order_6 := T.na_Order_left; have fact_Order_7 := T.na_Order_visible; have fact_Report_0 := T.cl_Report; have fact_Report_1 := T.na_Report_number; have fact_Report_2 := T.na_Report_house; have fact_Report_3 := T.na_Report_side; have fact_Report_4 := T.na_Report_fills; have fact_Report_5 := T.na_Report_removed; have fact_Report_6 := T.na_Report_resting
    have hob := E.ob
    unfold bookO at hob
    have ho := E.ho
    unfold ordO at ho
    have hsd := E.sdo
    have hb := E.s1.ob
    walk_at "st"
    intro r dr nr ndr hne
    have nr' : upd H dr (.own r) r = none := by
      first
        | (rw [upd_ne hne]; exact nr)
        | (rw [upd_ne (Ne.symm hne)]; exact nr)
    have sx : Same H (upd (upd H dr (.own r)) r (.ins T.c_Report dr [])) := (same_upd ndr).trans (same_upd nr')
    refine ⟨r, dr, t.number, t.house, t.side, rfl, upd_same, fun fl rm H1 kx hr hfl hrm nfl nrm hfr => ?_⟩
    have fresh0 : ∀ {z : Addr}, upd (upd H dr (.own r)) r (.ins T.c_Report dr []) z = none → H z = none := fun {z} hz => by
      cases hh : H z with
      | none => rfl
      | some v =>
        have := sx z v hh
        rw [hz] at this
        cases this
    have nfl0 := fresh0 nfl
    have nrm0 := fresh0 nrm
    have e1 : Same H H1 := fun z v hz => kx z v (ne_of_none hz nr) (sx z v hz)
    have E1 := E.same e1
    have hob1 := E1.ob
    unfold bookO at hob1
    have ho1 := E1.ho
    unfold ordO at ho1
    have hsd1 := E1.sdo
    have hb1 := E1.s1.ob
    refine ⟨rfl, ?_⟩
    walk_at "st"
    refine ⟨fun σ' H' => σ' = [some (.ref x), some (.ref o), some (.str kind), some (.ref r), some (.ref b), none, none] ∧ Same H1 H' ∧ ¬ (V.str kind = V.str "all" ∧ availM t es < t.left), ?_, ?_⟩
    · walk_at "st"
      dsimp only
      refine iteB (fun h => ?_) (fun h => ⟨rfl, Same.refl H1, fun z => of_decide_eq_false h z.1⟩)
      walk_at "st"
      refine ⟨es, t, rfl, E1.s1, E1.ho, E1.r1.price, fun H2 e2 => ?_⟩
      have ho2 := e2 _ _ ho1
      have hr2 := e2 _ _ hr
      unfold repO at hr2
      walk_at "st"
      refine iteB (fun h2 => ?_) (fun h2 => ⟨rfl, e2, fun z => of_decide_eq_false h2 z.2⟩)
      walk_at "st"
      exact qall (of_decide_eq_true h) (of_decide_eq_true h2) r dr fl rm H2 (e1.trans e2) nr nfl0 nrm0 (e2 _ _ hr) (e2 _ _ hfl) (e2 _ _ hrm)
    · rintro σ H2 ⟨rfl, e2, hna⟩
      have E2 := E1.same e2
      have e02 := e1.trans e2
      have S2 := E2.s1
      have hb2 := S2.ob
      walk_at "st"
      refine ⟨es, rfl, S2, ?_⟩
      refine ⟨fun σ H' => ∃ (_ : Unit) (v6 : Option V) (m : Mt) (fs : List Addr), m = runM t (sizeM ⟨es, t.left, last, [], []⟩) ⟨es, t.left, last, [], []⟩ ∧ σ = [some (.ref x), some (.ref o), some (.str kind), some (.ref r), some (.ref b), some (firstV m.es), v6] ∧
          0 ≤ m.left ∧ Rank (otherS t.side) m.es ∧ (∀ e, e ∈ m.es → e.1 ∈ es.map (·.1)) ∧ sizeM m + m.fills.length + m.gone.length ≤ 2000000 ∧
          H' r = some (repO T.c_Report dr t.number t.house t.side fl rm 0) ∧ H' o = some (ordO T.c_Order dxo { t with left := m.left }) ∧ Tups encFill H' fl fs m.fills ∧ H' rm = some (.lst (m.gone.map V.int)) ∧ H' x = some (bookO T.c_Book dx m.last next sd st) ∧ SideAt T.c_Order T.c_BookSide H' b d l m.es ∧ (∀ f, f ∈ fs → True) ∧
          ∀ z v, z ∉ es.map (·.1) → z ≠ l → z ≠ o → z ≠ x → H z = some v → H' z = some v, ?_, ?_⟩
      · refine while_by (fun σ H' => ∃ (_ : Unit) (v6 : Option V) (m : Mt) (fs : List Addr), runM t (sizeM m) m = runM t (sizeM ⟨es, t.left, last, [], []⟩) ⟨es, t.left, last, [], []⟩ ∧ σ = [some (.ref x), some (.ref o), some (.str kind), some (.ref r), some (.ref b), some (firstV m.es), v6] ∧
          0 ≤ m.left ∧ Rank (otherS t.side) m.es ∧ (∀ e, e ∈ m.es → e.1 ∈ es.map (·.1)) ∧ sizeM m + m.fills.length + m.gone.length ≤ 2000000 ∧
          H' r = some (repO T.c_Report dr t.number t.house t.side fl rm 0) ∧ H' o = some (ordO T.c_Order dxo { t with left := m.left }) ∧ Tups encFill H' fl fs m.fills ∧ H' rm = some (.lst (m.gone.map V.int)) ∧ H' x = some (bookO T.c_Book dx m.last next sd st) ∧ SideAt T.c_Order T.c_BookSide H' b d l m.es ∧ (∀ f, f ∈ fs → True) ∧
          ∀ z v, z ∉ es.map (·.1) → z ≠ l → z ≠ o → z ≠ x → H z = some v → H' z = some v)
          (fun _ H' => muM o l H')
          ⟨(), none, ⟨es, t.left, last, [], []⟩, [], rfl, rfl, ?_, E.r1, fun e he => List.mem_map.mpr ⟨e, he, rfl⟩, ?_, e2 _ _ hr, E2.ho, .nil (e2 _ _ hfl), e2 _ _ hrm, E2.ob, S2, fun _ _ => trivial, fun z v _ _ _ _ hz => e02 z v hz⟩ ?_ ?_
        · have := E.l0
          show 0 ≤ t.left
          omega
        · show t.left.toNat + es.length + 0 + 0 ≤ 2000000
          omega
        · rintro σ H3 ⟨_, v6, m, fs, hrun, rfl, hl0, hrank, hmem, hsz3, hr3, ho3, hf3, hg3, hx3, S3, hfn, hfr3⟩
          have ho3' : H3 o = some (.ins T.c_Order dxo [("number", .int t.number), ("house", .str t.house), ("side", .str t.side), ("price", optV t.price), ("shown", .int t.shown), ("left", .int m.left), ("visible", .int t.visible)]) := ho3
          have stop : goesM t m = none → m = runM t (sizeM ⟨es, t.left, last, [], []⟩) ⟨es, t.left, last, [], []⟩ := fun z => by rw [← hrun, runM_stop z]
          cases hes : m.es with
          | nil =>
            have hg : goesM t m = none := by
              unfold goesM
              rw [hes]
            have hE := stop hg
            rw [show firstV [] = V.non from rfl]
            have hst : ([some (.ref x), some (.ref o), some (.str kind), some (.ref r), some (.ref b), some V.non, v6] : L2.St) = [some (.ref x), some (.ref o), some (.str kind), some (.ref r), some (.ref b), some (firstV m.es), v6] := by rw [hes]; rfl
            walk_at "st"
            dsimp only
            refine iteB (fun h => ?_) (fun h => ⟨(), v6, m, fs, hE, hst, hl0, hrank, hmem, hsz3, hr3, ho3, hf3, hg3, hx3, S3, hfn, hfr3⟩)
            walk_at "st"
            exact ⟨(), v6, m, fs, hE, hst, hl0, hrank, hmem, hsz3, hr3, ho3, hf3, hg3, hx3, S3, hfn, hfr3⟩
          | cons e rest =>
            have hst : ([some (.ref x), some (.ref o), some (.str kind), some (.ref r), some (.ref b), some (V.ref e.1), v6] : L2.St) = [some (.ref x), some (.ref o), some (.str kind), some (.ref r), some (.ref b), some (firstV m.es), v6] := by rw [hes]; rfl
            have exi : goesM t m = none → ∃ (_ : Unit) (v6' : Option V) (m' : Mt) (fs' : List Addr), m' = runM t (sizeM ⟨es, t.left, last, [], []⟩) ⟨es, t.left, last, [], []⟩ ∧ ([some (.ref x), some (.ref o), some (.str kind), some (.ref r), some (.ref b), some (V.ref e.1), v6] : L2.St) = [some (.ref x), some (.ref o), some (.str kind), some (.ref r), some (.ref b), some (firstV m'.es), v6'] ∧
          0 ≤ m'.left ∧ Rank (otherS t.side) m'.es ∧ (∀ e, e ∈ m'.es → e.1 ∈ es.map (·.1)) ∧ sizeM m' + m'.fills.length + m'.gone.length ≤ 2000000 ∧
          H3 r = some (repO T.c_Report dr t.number t.house t.side fl rm 0) ∧ H3 o = some (ordO T.c_Order dxo { t with left := m'.left }) ∧ Tups encFill H3 fl fs' m'.fills ∧ H3 rm = some (.lst (m'.gone.map V.int)) ∧ H3 x = some (bookO T.c_Book dx m'.last next sd st) ∧ SideAt T.c_Order T.c_BookSide H3 b d l m'.es ∧ (∀ f, f ∈ fs' → True) ∧
          ∀ z v, z ∉ es.map (·.1) → z ≠ l → z ≠ o → z ≠ x → H z = some v → H3 z = some v := fun z => ⟨(), v6, m, fs, stop z, hst, hl0, hrank, hmem, hsz3, hr3, ho3, hf3, hg3, hx3, S3, hfn, hfr3⟩
            rw [show firstV (e :: rest) = V.ref e.1 from rfl]
            have S4 := S3
            rw [hes] at S4
            have hr4 := hrank
            rw [hes] at hr4
            obtain ⟨p, hp⟩ := hr4.price e List.mem_cons_self
            have hv := hr4.vis e List.mem_cons_self
            have hpp : prcE e = p := by unfold prcE; rw [hp]; rfl
            have hee := S4.en e List.mem_cons_self
            unfold ordO at hee
            rw [hp, show optV (some p) = V.int p from rfl] at hee
            walk_at "st"
            dsimp only
            refine iteB (fun h => ?_) (fun h => exi (by
              have := of_decide_eq_false h
              unfold goesM
              rw [hes]
              exact if_neg fun z => this z.1))
            have hlp := of_decide_eq_true h
            walk_at "st"
            refine ⟨{ t with left := m.left }, p, rfl, ho3, ?_⟩
            walk_at "st"
            refine iteB (fun h2 => ?_) (fun h2 => exi (by
              unfold goesM
              rw [hes]
              refine if_neg fun z => ?_
              have z2 := z.2
              rw [hpp] at z2
              rw [show takes t.side t.price p = false from h2] at z2
              cases z2))
            have hg : goesM t m = some e := by
              unfold goesM
              rw [hes]
              exact if_pos ⟨hlp, by rw [hpp]; exact h2⟩
            have hnx := runM_next hrank hg
            have hsl := stepM_less hrank hg
            have hli3 := S4.li
            have hb3 := S4.ob
            have ndl := List.nodup_cons.mp S4.nd
            have oldl : H l ≠ none := fun z => by rw [E.s1.li] at z; cases z
            have nrl : r ≠ l := fun z => by rw [z, hli3] at hr3; cases hr3
            have nol : o ≠ l := fun z => by rw [z, hli3] at ho3; cases ho3
            have nxl : x ≠ l := fun z => by rw [z, hli3] at hx3; cases hx3
            have nfll : fl ≠ l := fun z => oldl (by rw [← z]; exact nfl0)
            have nrml : rm ≠ l := fun z => oldl (by rw [← z]; exact nrm0)
            have nrmr : rm ≠ r := fun z => by rw [z, hr3] at hg3; cases hg3
            have nrmo : rm ≠ o := fun z => by rw [z, ho3] at hg3; cases hg3
            have nrmx : rm ≠ x := fun z => by rw [z, hx3] at hg3; cases hg3
            have nel : e.1 ≠ l := S4.le List.mem_cons_self
            walk_at "st"
            dsimp only
            refine iteB (fun hh => ?_) (fun hh => ?_)
            · have hh := V.str.inj (of_decide_eq_true hh)
              have hm' : stepM t m e = ⟨rest, m.left, m.last, m.fills, m.gone ++ [e.2.2.number]⟩ := by
                unfold stepM
                rw [if_pos hh, hes]
                rfl
              rw [hm'] at hnx hsl
              have S5 : SideAt T.c_Order T.c_BookSide (upd H3 l (.lst (refs rest))) b d l rest := S4.put (fun y hy => S4.en y (List.mem_cons_of_mem _ hy)) ndl.2 (by have := S4.sm; rw [List.length_cons] at this; omega)
              have hr5 : upd H3 l (.lst (refs rest)) r = _ := (upd_ne nrl).trans hr3
              unfold repO at hr5
              have hg5 : upd H3 l (.lst (refs rest)) rm = _ := (upd_ne nrml).trans hg3
              have he5 : upd H3 l (.lst (refs rest)) e.1 = _ := (upd_ne nel).trans hee
              walk_at "st"
              refine ⟨[], e, rest, rfl, S4, ?_⟩
              rw [List.nil_append]
              walk_at "st"
              have nbr : b ≠ rm := fun z => by rw [z, hg3] at hb3; cases hb3
              have her : ∀ y, y ∈ rest → y.1 ≠ rm := fun y hy z => by
                have := S4.en y (List.mem_cons_of_mem _ hy)
                rw [z, hg3] at this
                unfold ordO at this
                cases this
              have S6 := S5.upd (o := .lst (m.gone.map V.int ++ [V.int e.2.2.number])) nbr nrml.symm her
              have hb6 := S6.ob
              have hgs : (m.gone.map V.int).length < sizeLine := smallM (by rw [List.length_map]; omega)
              walk_at "st"
              refine ⟨rest, rfl, S6, ?_⟩
              refine ⟨⟨(), v6, ⟨rest, m.left, m.last, m.fills, m.gone ++ [e.2.2.number]⟩, fs, by rw [← hnx]; exact hrun, rfl, hl0, hsl.2.2, fun y hy => hmem y (by rw [hes]; exact List.mem_cons_of_mem _ hy), ?_, (upd_ne nrmr.symm).trans ((upd_ne nrl).trans hr3), (upd_ne nrmo.symm).trans ((upd_ne nol).trans ho3), (hf3.other hli3 nfll).other hg5 hfr, ?_, (upd_ne nrmx.symm).trans ((upd_ne nxl).trans hx3), S6, hfn, fun z v h1 h2 h3 h4 hz => ?_⟩, ?_⟩
              · have h1 := hsl.1
                show sizeM _ + m.fills.length + (m.gone ++ [e.2.2.number]).length ≤ 2000000
                rw [List.length_append]
                show _ + _ + (_ + 1) ≤ 2000000
                omega
              · rw [upd_same, List.map_append]
                rfl
              · rw [upd_ne (fun y => by rw [y, nrm0] at hz; cases hz), upd_ne h2]
                exact hfr3 z v h1 h2 h3 h4 hz
              · show muM o l _ < muM o l H3
                rw [muM_eq (m := m) ho3 (by rw [hes]; exact hli3), muM_eq (m := ⟨rest, m.left, m.last, m.fills, m.gone ++ [e.2.2.number]⟩) ((upd_ne nrmo.symm).trans ((upd_ne nol).trans ho3)) S6.li]
                exact hsl.1
            · have hh : ¬ e.2.2.house = t.house := fun z => of_decide_eq_false hh (congrArg V.str z)
              obtain ⟨qt, eqt⟩ : ∃ z, qtyM m e = z := ⟨_, rfl⟩
              have hqt : (if e.2.2.visible < m.left then e.2.2.visible else m.left) = qt := eqt
              have hm' : stepM t m e = ⟨tradeF e rest qt p, m.left - qt, some p, m.fills ++ [(e.2.2.number, e.2.2.house, p, qt)], m.gone⟩ := by
                unfold stepM
                rw [if_neg hh, hes, eqt, hpp]
                rfl
              rw [hm'] at hnx hsl
              have nro : r ≠ o := fun z => by
                rw [z, ho3] at hr3
                unfold ordO repO at hr3
                injection hr3 with hr3
                injection hr3 with _ _ h3
                exact absurd (congrArg List.length h3) (show ¬ 7 = 6 by decide)
              have nxo : x ≠ o := fun z => by
                rw [z, ho3] at hx3
                unfold ordO bookO at hx3
                injection hx3 with hx3
                injection hx3 with _ _ h3
                exact absurd (congrArg List.length h3) (show ¬ 7 = 4 by decide)
              have neo : ∀ y, y ∈ e :: rest → y.1 ≠ o := fun y hy => by
                obtain ⟨y2, hy2, hy3⟩ := List.mem_map.mp (hmem y (by rw [hes]; exact hy))
                rw [← hy3]
                exact E.n1 y2 hy2
              obtain ⟨nbo, nlo⟩ := S4.ord_ne ho3
              have hbA : upd H3 o (.ins T.c_Order dxo (putF "left" (.int (m.left - (if e.2.2.visible < m.left then e.2.2.visible else m.left))) [("number", .int t.number), ("house", .str t.house), ("side", .str t.side), ("price", optV t.price), ("shown", .int t.shown), ("left", .int m.left), ("visible", .int t.visible)])) b = _ := (upd_ne nbo).trans hb3
              have eO : HO.ins T.c_Order dxo (putF "left" (.int (m.left - qt)) [("number", .int t.number), ("house", .str t.house), ("side", .str t.side), ("price", optV t.price), ("shown", .int t.shown), ("left", .int m.left), ("visible", .int t.visible)]) = ordO T.c_Order dxo { t with left := m.left - qt } := rfl
              have SA := S4.upd (o := ordO T.c_Order dxo { t with left := m.left - qt }) nbo nlo neo
              walk_at "st"
              dsimp only
              rw [hqt, eO]
              have neos := neo e List.mem_cons_self
              refine ⟨e, rest, qt, p, rfl, SA, hp, (hr4.tail).mono p, fun HB ob SB heB hn1 hn2 hn3 hn4 hfB => ?_⟩
              have ner : r ≠ e.1 := fun z => by
                rw [z, hee] at hr3
                unfold repO at hr3
                injection hr3 with hr3
                injection hr3 with _ _ h3
                exact absurd (congrArg List.length h3) (show ¬ 7 = 6 by decide)
              have nex : x ≠ e.1 := fun z => by
                rw [z, hee] at hx3
                unfold bookO at hx3
                injection hx3 with hx3
                injection hx3 with _ _ h3
                exact absurd (congrArg List.length h3) (show ¬ 7 = 4 by decide)
              have hfl3 := hf3.lst
              have nefl : fl ≠ e.1 := fun z => by rw [z, hee] at hfl3; cases hfl3
              have nerm : rm ≠ e.1 := fun z => by rw [z, hee] at hg3; cases hg3
              have nflo : fl ≠ o := fun z => by rw [z, ho3] at hfl3; cases hfl3
              have nflx : fl ≠ x := fun z => by rw [z, hx3] at hfl3; cases hfl3
              have nflr : fl ≠ r := fun z => by rw [z, hr3] at hfl3; cases hfl3
              have nxr : x ≠ r := fun z => by
                rw [z, hr3] at hx3
                unfold repO bookO at hx3
                injection hx3 with hx3
                injection hx3 with _ _ h3
                exact absurd (congrArg List.length h3) (show ¬ 6 = 4 by decide)
              have hrB : HB r = _ := (hfB r nrl ner).trans ((upd_ne nro).trans hr3)
              have hxB : HB x = _ := (hfB x nxl nex).trans ((upd_ne nxo).trans hx3)
              have hoB : HB o = _ := (hfB o nol neos.symm).trans upd_same
              have hgB : HB rm = _ := (hfB rm nrml nerm).trans ((upd_ne nrmo).trans hg3)
              have hfB3 : Tups encFill HB fl fs m.fills := hf3.frame ((hfB fl nfll nefl).trans (upd_ne nflo)) fun a ys ha => (hfB a (fun z => by rw [z, hli3] at ha; cases ha) (fun z => by rw [z, hee] at ha; cases ha)).trans ((upd_ne (fun z => by rw [z, ho3] at ha; cases ha)).trans ha)
              have heB2 : HB e.1 = some (.ins T.c_Order e.2.1 [("number", .int e.2.2.number), ("house", .str e.2.2.house), ("side", .str ob.side), ("price", .int p), ("shown", .int ob.shown), ("left", .int ob.left), ("visible", .int ob.visible)]) := by
                have z := heB
                unfold ordO at z
                rw [hn1, hn2, hn4, hp] at z
                exact z
              have hrB2 := hrB
              unfold repO at hrB2
              have hxB2 := hxB
              unfold bookO at hxB2
              have hflB := hfB3.lst
              walk_at "st"
              intro TT nTT
              have sTT := same_upd (o := .tup [.int e.2.2.number, .str e.2.2.house, .int p, .int qt]) nTT
              have hTT : upd HB TT (.tup [.int e.2.2.number, .str e.2.2.house, .int p, .int qt]) TT = some (.tup (encFill (e.2.2.number, e.2.2.house, p, qt))) := upd_same
              have hfC := hfB3.push sTT nTT hTT
              have hrC := sTT _ _ hrB2
              have hxC := sTT _ _ hxB2
              have hflC := sTT _ _ hflB
              have heC := sTT _ _ heB2
              have SC := SB.same sTT
              have hsfl : (fs.map V.ref).length < sizeLine := smallM (by rw [List.length_map, hf3.len]; omega)
              generalize upd HB TT _ = HC at *
              have hxD : upd HC fl (.lst (fs.map V.ref ++ [.ref TT])) x = _ := (upd_ne nflx.symm).trans hxC
              have heD : upd HC fl (.lst (fs.map V.ref ++ [.ref TT])) e.1 = _ := (upd_ne nefl.symm).trans heC
              have nbfl : b ≠ fl := fun z => by have := SC.ob; rw [z, hflC] at this; cases this
              have enf : ∀ y, y ∈ tradeF e rest qt p → y.1 ≠ fl := fun y hy z => by
                have := SC.en y hy
                rw [z, hflC] at this
                unfold ordO at this
                cases this
              have enx : ∀ y, y ∈ tradeF e rest qt p → y.1 ≠ x := fun y hy z => by
                have := SC.en y hy
                rw [z, hxC] at this
                unfold ordO at this
                injection this with this
                injection this with _ _ h3
                exact absurd (congrArg List.length h3) (show ¬ 4 = 7 by decide)
              have nbx : b ≠ x := fun z => by
                have := SC.ob
                rw [z, hxC] at this
                injection this with this
                injection this with _ _ h3
                exact absurd (congrArg List.length h3) (show ¬ 4 = 1 by decide)
              have SD := SC.upd (o := .lst (fs.map V.ref ++ [.ref TT])) nbfl nfll.symm enf
              have SE := SD.upd (o := bookO T.c_Book dx (some p) next sd st) nbx nxl.symm enx
              have hbE := SE.ob
              have eB : HO.ins T.c_Book dx (putF "last" (.int p) [("last", optV m.last), ("_next_number", .int next), ("_sides", .ref sd), ("_stops", .ref st)]) = bookO T.c_Book dx (some p) next sd st := rfl
              have hbE2 : upd (upd HC fl (.lst (fs.map V.ref ++ [.ref TT]))) x (HO.ins T.c_Book dx (putF "last" (.int p) [("last", optV m.last), ("_next_number", .int next), ("_sides", .ref sd), ("_stops", .ref st)])) b = _ := hbE
              walk_at "st"
              rw [eB]
              refine ⟨tradeF e rest qt p, rfl, SE, ?_⟩
              have hoE : upd (upd HC fl (.lst (fs.map V.ref ++ [.ref TT]))) x (bookO T.c_Book dx (some p) next sd st) o = some (ordO T.c_Order dxo { t with left := m.left - qt }) := (upd_ne nxo.symm).trans ((upd_ne nflo.symm).trans (sTT _ _ hoB))
              refine ⟨⟨(), some (.int qt), ⟨tradeF e rest qt p, m.left - qt, some p, m.fills ++ [(e.2.2.number, e.2.2.house, p, qt)], m.gone⟩, fs ++ [TT], by rw [← hnx]; exact hrun, rfl, hsl.2.1, hsl.2.2, fun y hy => ?_, ?_, (upd_ne nxr.symm).trans ((upd_ne nflr.symm).trans (sTT _ _ hrB)), hoE, hfC.frame (upd_ne nflx) (fun a ys ha => (upd_ne (fun z => by rw [z, hxD] at ha; cases ha)).trans ha), (upd_ne nrmx).trans ((upd_ne hfr.symm).trans (sTT _ _ hgB)), upd_same, SE, fun _ _ => trivial, fun z v h1 h2 h3 h4 hz => ?_⟩, ?_⟩
              · rcases tradeF_mem hy with z | z
                · rw [z]
                  exact hmem e (by rw [hes]; exact List.mem_cons_self)
                · exact hmem y (by rw [hes]; exact List.mem_cons_of_mem _ z)
              · have h1 := hsl.1
                show sizeM _ + (m.fills ++ [_]).length + m.gone.length ≤ 2000000
                rw [List.length_append]
                show _ + (_ + 1) + _ ≤ 2000000
                omega
              · rw [upd_ne h4, upd_ne (fun y => by rw [y, nfl0] at hz; cases hz)]
                refine sTT _ _ ((hfB z h2 fun y => h1 (by rw [y]; exact hmem e (by rw [hes]; exact List.mem_cons_self))).trans ((upd_ne h3).trans (hfr3 z v h1 h2 h3 h4 hz)))
              · show muM o l _ < muM o l H3
                rw [muM_eq (m := m) ho3 (by rw [hes]; exact hli3), muM_eq (m := ⟨tradeF e rest qt p, m.left - qt, some p, m.fills ++ [(e.2.2.number, e.2.2.house, p, qt)], m.gone⟩) hoE SE.li]
                exact hsl.1
        · rintro σ H Q Q' h ⟨v, e1, a, C, dx, fs, v2, e2, e3, e4, e5, e6, i, j, e7, e8, k, e9, q⟩
          refine ⟨v, e1, a, C, dx, fs, v2, e2, e3, e4, e5, e6, i, j, e7, e8, k, e9, ?_⟩
          cases k with
          | false => exact h _ _ q
          | true =>
            obtain ⟨v3, f1, f2, k2, f3, q⟩ := q
            refine ⟨v3, f1, f2, k2, f3, ?_⟩
            cases k2 with
            | false => exact h _ _ q
            | true =>
              obtain ⟨v4, g1, a4, dx4, fs4, g2, g3, g4, v5, g5, a5, C5, dx5, fs5, v6, g6, g7, g8, g9, g10, x6, dx6, o6, p6, g11, g12, c, g13, q⟩ := q
              exact ⟨v4, g1, a4, dx4, fs4, g2, g3, g4, v5, g5, a5, C5, dx5, fs5, v6, g6, g7, g8, g9, g10, x6, dx6, o6, p6, g11, g12, c, g13, h _ _ q⟩
      · rintro σ H3 ⟨_, v6, m, fs, hrun, rfl, hl0, hrank, hmem, hsz3, hr3, ho3, hf3, hg3, hx3, S3, hfn, hfr3⟩
        have ho3' : H3 o = some (.ins T.c_Order dxo [("number", .int t.number), ("house", .str t.house), ("side", .str t.side), ("price", optV t.price), ("shown", .int t.shown), ("left", .int m.left), ("visible", .int t.visible)]) := ho3
        have hr3' := hr3
        unfold repO at hr3'
        walk_at "st"
        dsimp only
        have notE : ∀ {z : Addr} {v : HO}, H z = some v → (∀ y : Ent, v ≠ ordO T.c_Order y.2.1 y.2.2) → z ∉ es.map (·.1) := fun {z v} hz hv hm => by
          obtain ⟨y, hy, e⟩ := List.mem_map.mp hm
          have := E.s1.en y hy
          rw [e, hz] at this
          exact hv y (Option.some.inj this)
        have sep : ∀ {z : Addr} {v : HO}, H z = some v → (∀ y : Ent, v ≠ ordO T.c_Order y.2.1 y.2.2) → v ≠ bookO T.c_Book dx last next sd st → z ≠ l → H3 z = some v := fun {z v} hz hv hb hl => hfr3 z v (notE hz hv) hl (fun e => by rw [e, E.ho] at hz; exact hv (o, dxo, t) (Option.some.inj hz).symm) (fun e => by rw [e, E.ob] at hz; exact hb (Option.some.inj hz).symm) hz
        have S2 : SideAt T.c_Order T.c_BookSide H3 b2 d2 l2 es2 := by
          refine ⟨sep E.s2.ob (fun y z => ?_) (fun z => ?_) (fun z => ?_), sep E.s2.li (fun y z => ?_) (fun z => ?_) E.nll.symm, fun y hy => hfr3 y.1 _ (fun hm => ?_) (fun z => ?_) (E.n2 y hy) (fun z => ?_) (E.s2.en y hy), E.s2.nd, E.s2.sm⟩
          · unfold ordO at z
            injection z with _ _ h3
            exact absurd (congrArg List.length h3) (show ¬ 1 = 7 by decide)
          · unfold bookO at z
            injection z with _ _ h3
            exact absurd (congrArg List.length h3) (show ¬ 1 = 4 by decide)
          · have h1 := E.s2.ob
            rw [z, E.s1.li] at h1
            cases h1
          · unfold ordO at z
            cases z
          · unfold bookO at z
            cases z
          · obtain ⟨y2, hy2, e⟩ := List.mem_map.mp hm
            exact E.dj y2 hy2 y hy e
          · have h1 := E.s2.en y hy
            rw [z, E.s1.li] at h1
            unfold ordO at h1
            cases h1
          · have h1 := E.s2.en y hy
            rw [z, E.ob] at h1
            unfold ordO bookO at h1
            injection h1 with h1
            injection h1 with _ _ h3
            exact absurd (congrArg List.length h3) (show ¬ 4 = 7 by decide)
        have hds : DGet H3 sd (.str t.side) (some (.ref b2)) := by
          obtain ⟨c1, c2, hsd⟩ := E.sdv
          have h1 := sep hsd (fun y z => by unfold ordO sidesO at z; cases z) (fun z => by unfold bookO sidesO at z; cases z) (fun z => by rw [z, E.s1.li] at hsd; unfold sidesO at hsd; cases hsd)
          exact dget_keep E.sds fun v hv => by rw [hsd] at hv; cases hv; exact h1
        have hb2o := S2.ob
        have qn : restsM kind m = false → Q (.ref r) H3 := fun hz => by
          refine qrun hna r dr fl rm fs m H3 hrun nr nfl0 nrm0 (by rw [hz]; exact hr3) hf3 hg3 hx3 S3 ?_ (fun z v h1 h2 _ h4 h5 h6 => hfr3 z v h1 h2 h4 h5 h6)
          rw [hz]
          exact S2
        refine iteB (fun h => ?_) (fun h => ?_)
        · walk_at "st"
          refine iteB (fun h2 => ?_) (fun h2 => ?_)
          · have hrm : restsM kind m = true := by
              unfold restsM
              rw [show decide (V.str kind = V.str "rest") = true from h, show decide (m.left > 0) = true from h2]
              rfl
            obtain ⟨p, hp⟩ := hkp (of_decide_eq_true h)
            walk_at "st"
            refine ⟨es2, { t with left := m.left }, p, rfl, S2, ho3, E.n2, hp, E.r2.mono p, ?_⟩
            obtain ⟨o', eo'⟩ : ∃ o' : Ord, Ord.showNext { t with left := m.left } = o' := ⟨_, rfl⟩
            have hol : o'.left = m.left := by rw [← eo']; rfl
            rw [eo']
            obtain ⟨nb2o, nl2o⟩ := S2.ord_ne ho3
            obtain ⟨nbo, nlo⟩ := S3.ord_ne ho3
            have alr : ∀ {z : Addr} {v : HO}, H z = some v → z ≠ r := fun hz => ne_of_none hz nr
            have nrl2 : r ≠ l2 := (alr E.s2.li).symm
            have nro : r ≠ o := (alr E.ho).symm
            have hl2 := S2.li
            have hoF : upd (upd H3 o (ordO T.c_Order dxo o')) l2 (.lst (refs (insE es2 (place es2 p) (o, dxo, o')))) o = some (.ins T.c_Order dxo [("number", .int o'.number), ("house", .str o'.house), ("side", .str o'.side), ("price", optV o'.price), ("shown", .int o'.shown), ("left", .int o'.left), ("visible", .int o'.visible)]) := (upd_ne nl2o.symm).trans upd_same
            rw [hol] at hoF
            have hrF : upd (upd H3 o (ordO T.c_Order dxo o')) l2 (.lst (refs (insE es2 (place es2 p) (o, dxo, o')))) r = _ := (upd_ne nrl2).trans ((upd_ne nro).trans hr3')
            have neo : ∀ y, y ∈ m.es → y.1 ≠ o := fun y hy => by
              obtain ⟨y2, hy2, hy3⟩ := List.mem_map.mp (hmem y hy)
              rw [← hy3]
              exact E.n1 y2 hy2
            have nel2 : ∀ y, y ∈ m.es → y.1 ≠ l2 := fun y hy z => by
              have := S3.en y hy
              rw [z, hl2] at this
              unfold ordO at this
              cases this
            have ner : ∀ y, y ∈ m.es → y.1 ≠ r := fun y hy => by
              obtain ⟨y2, hy2, hy3⟩ := List.mem_map.mp (hmem y hy)
              rw [← hy3]
              exact alr (E.s1.en y2 hy2)
            have nbl2 : b ≠ l2 := fun z => by
              have := S3.ob
              rw [z, hl2] at this
              cases this
            have nxl2 : x ≠ l2 := fun z => by rw [z, hl2] at hx3; unfold bookO at hx3; cases hx3
            have nxo : x ≠ o := fun z => by
              rw [z, ho3] at hx3
              unfold ordO bookO at hx3
              injection hx3 with hx3
              injection hx3 with _ _ h3
              exact absurd (congrArg List.length h3) (show ¬ 7 = 4 by decide)
            have alf : ∀ {z : Addr} {v : HO}, H z = some v → z ≠ fl := fun hz => ne_of_none hz nfl0
            have alm : ∀ {z : Addr} {v : HO}, H z = some v → z ≠ rm := fun hz => ne_of_none hz nrm0
            have nflr : fl ≠ r := fun z => by have := hf3.lst; rw [z, hr3] at this; unfold repO at this; cases this
            have nrmr : rm ≠ r := fun z => by rw [z, hr3] at hg3; unfold repO at hg3; cases hg3
            have SO := (S2.upd (o := ordO T.c_Order dxo o') nb2o nl2o E.n2).insert (k := place es2 p) (e := (o, dxo, o')) upd_same E.n2 (by omega)
            walk_at "st"
            have eR : HO.ins T.c_Report dr (putF "resting" (.int m.left) [("number", .int t.number), ("house", .str t.house), ("side", .str t.side), ("fills", .ref fl), ("removed", .ref rm), ("resting", .int 0)]) = repO T.c_Report dr t.number t.house t.side fl rm m.left := rfl
            rw [eR]
            have g1 : ∀ {z : Addr} {w : HO}, z ≠ r → z ≠ l2 → z ≠ o → upd (upd (upd H3 o (ordO T.c_Order dxo o')) l2 (.lst (refs (insE es2 (place es2 p) (o, dxo, o'))))) r w z = H3 z := fun h1 h2 h3 => (upd_ne h1).trans ((upd_ne h2).trans (upd_ne h3))
            refine qrun hna r dr fl rm fs m _ hrun nr nfl0 nrm0 (by rw [hrm, if_pos rfl]; exact upd_same) (hf3.frame (g1 nflr (alf E.s2.li).symm (alf E.ho).symm) fun z ys hz => (g1 (fun y => by rw [y, hr3] at hz; unfold repO at hz; cases hz) (fun y => by rw [y, hl2] at hz; cases hz) (fun y => by rw [y, ho3] at hz; unfold ordO at hz; cases hz)).trans hz) ((g1 nrmr (alm E.s2.li).symm (alm E.ho).symm).trans hg3) ((g1 (alr E.ob) nxl2 nxo).trans hx3) (((S3.upd nbo nlo neo).upd nbl2 E.nll nel2).upd (alr E.s1.ob) (alr E.s1.li) ner) ?_ fun z v h1 h2 h3 h4 h5 h6 => (g1 (alr h6) h3 h4).trans (hfr3 z v h1 h2 h4 h5 h6)
            rw [hrm, if_pos rfl, eo', show t.price.getD 0 = p by rw [hp]; rfl]
            refine SO.upd (alr E.s2.ob) (alr E.s2.li) fun y hy => ?_
            rcases insE_mem.mp hy with z | z
            · rw [z]
              exact nro.symm
            · exact alr (E.s2.en y z)
          · walk_at "st"
            exact qn (by unfold restsM; rw [show decide (m.left > 0) = false from h2, Bool.and_false])
        · walk_at "st"
          exact qn (by unfold restsM; rw [show decide (V.str kind = V.str "rest") = false from h]; rfl)

theorem buyS_buy : buyS "buy" = true := by decide +kernel
theorem buyS_sell : buyS "sell" = false := by decide +kernel
/-! ### what an order does to a book -/
structure SubR where
  oth : List Ent
  own : List Ent
  last : Option Int
  fills : List (Int × Str × Int × Int)
  gone : List Int
  rest : Int
def startM (t : Ord) (last : Option Int) (oth : List Ent) : Mt := ⟨oth, t.left, last, [], []⟩
def endM (t : Ord) (last : Option Int) (oth : List Ent) : Mt := runM t (sizeM (startM t last oth)) (startM t last oth)
def heldM (kd : Str) (t : Ord) (oth : List Ent) : Bool := decide (V.str kd = V.str "all") && decide (availM t oth < t.left)
def subF (kd : Str) (t : Ord) (o dxo : Addr) (last : Option Int) (oth own : List Ent) : SubR :=
  if heldM kd t oth = true then ⟨oth, own, last, [], [], 0⟩
  else ⟨(endM t last oth).es, if restsM kd (endM t last oth) = true then insE own (place own (t.price.getD 0)) (o, dxo, Ord.showNext { t with left := (endM t last oth).left }) else own,
    (endM t last oth).last, (endM t last oth).fills, (endM t last oth).gone, if restsM kd (endM t last oth) = true then (endM t last oth).left else 0⟩
theorem tradeF_addr {e y : Ent} {es : List Ent} {n p : Int} (h : y ∈ tradeF e es n p) : y.1 = e.1 ∨ ∃ z, z ∈ es ∧ z.1 = y.1 := by
  rcases tradeF_mem h with z | z
  · exact .inl z
  · exact .inr ⟨y, z, rfl⟩
theorem runM_keeps {s : Str} {t : Ord} : ∀ (k : Nat) {m : Mt}, Rank s m.es → 0 ≤ m.left → Rank s (runM t k m).es ∧ 0 ≤ (runM t k m).left ∧ (runM t k m).left ≤ m.left ∧ ∀ y, y ∈ (runM t k m).es → ∃ e, e ∈ m.es ∧ e.1 = y.1
  | 0, m, hr, h0 => ⟨hr, h0, Int.le_refl _, fun y hy => ⟨y, hy, rfl⟩⟩
  | k + 1, m, hr, h0 => by
    cases h : goesM t m with
    | none =>
      rw [runM_stop h]
      exact ⟨hr, h0, Int.le_refl _, fun y hy => ⟨y, hy, rfl⟩⟩
    | some e =>
      rw [runM_go h]
      have hs := stepM_less hr h
      obtain ⟨h1, h2, h3⟩ := goesM_some h
      have ih := runM_keeps (s := s) (t := t) k (m := stepM t m e) hs.2.2 hs.2.1
      have hl : (stepM t m e).left ≤ m.left := by
        unfold stepM
        split
        · exact Int.le_refl _
        · show m.left - qtyM m e ≤ m.left
          rw [h1] at hr
          have hv := hr.vis e List.mem_cons_self
          unfold qtyM
          split <;> omega
      refine ⟨ih.1, ih.2.1, Int.le_trans ih.2.2.1 hl, fun y hy => ?_⟩
      obtain ⟨z, hz, ez⟩ := ih.2.2.2 y hy
      have hz2 : ∃ e', e' ∈ m.es ∧ e'.1 = z.1 := by
        rw [h1]
        unfold stepM at hz
        split at hz
        · exact ⟨z, List.mem_cons_of_mem _ hz, rfl⟩
        · rcases tradeF_mem hz with q | q
          · exact ⟨e, List.mem_cons_self, q.symm⟩
          · exact ⟨z, List.mem_cons_of_mem _ q, rfl⟩
      obtain ⟨e', he', ee⟩ := hz2
      exact ⟨e', he', ee.trans ez⟩
theorem sub_rank {kd : Str} {t : Ord} {o dxo : Addr} {last : Option Int} {oth own : List Ent} (h1 : Rank (otherS t.side) oth) (h2 : Rank t.side own) (hl : 1 ≤ t.left) (hs : 0 ≤ t.shown) (hkp : V.str kd = V.str "rest" → ∃ p, t.price = some p) :
    Rank (otherS t.side) (subF kd t o dxo last oth own).oth ∧ Rank t.side (subF kd t o dxo last oth own).own ∧ (∀ y, y ∈ (subF kd t o dxo last oth own).oth → ∃ e, e ∈ oth ∧ e.1 = y.1) ∧ ∀ y, y ∈ (subF kd t o dxo last oth own).own → y.1 = o ∨ y ∈ own := by
  unfold subF
  split
  · exact ⟨h1, h2, fun y hy => ⟨y, hy, rfl⟩, fun y hy => .inr hy⟩
  · have k := runM_keeps (t := t) (sizeM (startM t last oth)) (m := startM t last oth) h1 (by show 0 ≤ t.left; omega)
    refine ⟨k.1, ?_, k.2.2.2, ?_⟩
    · split
      · next hr =>
        unfold restsM at hr
        rw [Bool.and_eq_true] at hr
        obtain ⟨p, hp⟩ := hkp (of_decide_eq_true hr.1)
        have hl2 := of_decide_eq_true hr.2
        rw [show t.price.getD 0 = p by rw [hp]; rfl]
        refine h2.insert (p := p) rfl hp ?_
        exact showNext_vis (o := { t with left := (endM t last oth).left }) (by show 1 ≤ (endM t last oth).left; omega) hs
      · exact h2
    · intro y hy
      split at hy
      · rcases insE_mem.mp hy with z | z
        · exact .inl (by rw [z])
        · exact .inr z
      · exact .inr hy
def othE (si : Str) (es1 es2 : List Ent) : List Ent := if buyS si = true then es2 else es1
def ownE (si : Str) (es1 es2 : List Ent) : List Ent := if buyS si = true then es1 else es2

/-! ### stop orders that wait -/
structure Stp where
  number : Int
  house : Str
  side : Str
  trigger : Int
  price : Option Int
  quantity : Int
def stopO (C dx : Addr) (s : Stp) : HO := .ins C dx [("number", .int s.number), ("house", .str s.house), ("side", .str s.side), ("trigger", .int s.trigger), ("price", optV s.price), ("quantity", .int s.quantity)]
abbrev EntS := Addr × Addr × Stp
def refsS (ss : List EntS) : List V := ss.map fun e => V.ref e.1
def entVS : Option EntS → V
  | none => .non
  | some e => .ref e.1
structure StopsAt (CS : Addr) (H : Hp) (st : Addr) (ss : List EntS) : Prop where
  li : H st = some (.lst (refsS ss))
  en : ∀ e, e ∈ ss → H e.1 = some (stopO CS e.2.1 e.2.2)
  nd : (ss.map (·.1)).Nodup
  sm : ss.length ≤ 900
theorem StopsAt.same {CS : Addr} {H H' : Hp} {st : Addr} {ss : List EntS} (S : StopsAt CS H st ss) (e : Same H H') : StopsAt CS H' st ss := ⟨e _ _ S.li, fun y hy => e _ _ (S.en y hy), S.nd, S.sm⟩
def sp_Stop_init (K : PySem.W.Frag) (C : Addr) : Sp := fun vs H Q _ => ∃ (x dx : Addr) (n : Int) (ho si : Str) (tr : Int) (pr : Option Int) (qu : Int), vs = [.ref x, .int n, .str ho, .str si, .int tr, optV pr, .int qu] ∧
  H x = some (.ins C dx []) ∧ Q .non (upd H x (stopO C dx ⟨n, ho, si, tr, pr, qu⟩))
set_option maxHeartbeats 0 in
theorem ok_Stop_init (T : Txt K mg) : FnOk P w K mg base CX0 1 T.f_Stop_init T.d_Stop_init ["self", "number", "house", "side", "trigger", "price", "quantity"] (sp_Stop_init K T.c_Stop) := by
  refine T.F_Stop_init.ok sc_Stop_init (fun vs H Q E h => ?_) (fun cdv A outer s H vs Q E hr h => ?_)
  · obtain ⟨x, dx, n, ho, si, tr, pr, qu, rfl, _⟩ := h
    rfl
  · obtain ⟨x, dx, n, ho, si, tr, pr, qu, rfl, hx, q⟩ := h
    refine ⟨_, (pss_cons (ps_fld (pv 0) (pv 1) rfl)
    (pss_cons (ps_fld (pv 0) (pv 2) rfl)
    (pss_cons (ps_fld (pv 0) (pv 3) rfl)
    (pss_cons (ps_fld (pv 0) (pv 4) rfl)
    (pss_cons (ps_fld (pv 0) (pv 5) rfl)
    (pss_one (ps_fld (pv 0) (pv 6) rfl))))))), ?_⟩
    refine ⟨_, rfl, _, rfl, setF hx T.cl_Stop T.na_Stop_number rfl ?_⟩
    refine ⟨_, rfl, _, rfl, setF upd_same T.cl_Stop T.na_Stop_house rfl ?_⟩
    refine ⟨_, rfl, _, rfl, setF upd_same T.cl_Stop T.na_Stop_side rfl ?_⟩
    refine ⟨_, rfl, _, rfl, setF upd_same T.cl_Stop T.na_Stop_trigger rfl ?_⟩
    refine ⟨_, rfl, _, rfl, setF upd_same T.cl_Stop T.na_Stop_price rfl ?_⟩
    refine ⟨_, rfl, _, rfl, setF upd_same T.cl_Stop T.na_Stop_quantity rfl ?_⟩
    simp only [upd_upd]
    exact q
def reachedS (s : Stp) : Option Int → Bool
  | none => false
  | some p => if buyS s.side = true then decide (s.trigger ≤ p) else decide (p ≤ s.trigger)
def sp_Stop_is_reached (K : PySem.W.Frag) (C : Addr) : Sp := fun vs H Q _ => ∃ (x dx : Addr) (s : Stp) (p : Option Int), vs = [.ref x, optV p] ∧ H x = some (stopO C dx s) ∧ Q (.bl (reachedS s p)) H
set_option maxHeartbeats 0 in
theorem ok_Stop_is_reached (T : Txt K mg) : FnOk P w K mg base CX0 1 T.f_Stop_is_reached T.d_Stop_is_reached ["self", "last"] (sp_Stop_is_reached K T.c_Stop) := by
  refine T.F_Stop_is_reached.ok sc_Stop_is_reached (fun vs H Q E h => ?_) (fun cdv A outer s H vs Q E hr h => ?_)
  · obtain ⟨x, dx, s, p, rfl, _⟩ := h
    rfl
  · obtain ⟨x, dx, s, p, rfl, hx, q⟩ := h
    refine ⟨_, (pss_cons (ps_if (pt_cmpR op_isN (pv 1) pe_non (nomark _))
      (pss_one (ps_ret pe_bl))
      pss_nil)
    (pss_one (ps_ret (pe_ifExp (pt_cmpR op_eq (pe_fld (pv 0) rfl) pe_str (nomark _)) (pe_cmpR op_ge (pv 1) (pe_fld (pv 0) rfl) (nomark _)) (pe_cmpR op_le (pv 1) (pe_fld (pv 0) rfl) (nomark _)))))), ?_⟩
    have fact_Stop_0 := T.cl_Stop; have fact_Stop_1 := T.na_Stop_number; have fact_Stop_2 := T.na_Stop_house; have fact_Stop_3 := T.na_Stop_side; have fact_Stop_4 := T.na_Stop_trigger; have fact_Stop_5 := T.na_Stop_price; have fact_Stop_6 := T.na_Stop_quantity
    unfold stopO at hx
    cases p with
    | none =>
      walk_at "st"
      exact q
    | some p =>
      have e : reachedS s (some p) = if buyS s.side = true then decide (s.trigger ≤ p) else decide (p ≤ s.trigger) := rfl
      rw [e] at q
      walk_at "st"
      refine iteB (fun h => ?_) (fun h => ?_)
      · rw [if_pos (show buyS s.side = true from h)] at q
        walk_at "st"
        exact q
      · rw [if_neg (by rw [show buyS s.side = false from h]; exact Bool.false_ne_true)] at q
        walk_at "st"
        exact q
def rowS (s : Stp) : List V := [.int s.number, .str s.house, .str s.side, .int s.trigger, optV s.price, .int s.quantity]
def sp_Stop_row (K : PySem.W.Frag) (C : Addr) : Sp := fun vs H Q _ => ∃ (x dx : Addr) (s : Stp), vs = [.ref x] ∧ H x = some (stopO C dx s) ∧ ∀ p, H p = none → Q (.ref p) (upd H p (.tup (rowS s)))
set_option maxHeartbeats 0 in
theorem ok_Stop_row (T : Txt K mg) : FnOk P w K mg base CX0 1 T.f_Stop_row T.d_Stop_row ["self"] (sp_Stop_row K T.c_Stop) := by
  refine T.F_Stop_row.ok sc_Stop_row (fun vs H Q E h => ?_) (fun cdv A outer s H vs Q E hr h => ?_)
  · obtain ⟨x, dx, s, rfl, _⟩ := h
    rfl
  · obtain ⟨x, dx, s, rfl, hx, q⟩ := h
    refine ⟨_, (pss_one (ps_ret (pe_tup (pa_cons (pe_fld (pv 0) rfl) (pa_cons (pe_fld (pv 0) rfl) (pa_cons (pe_fld (pv 0) rfl) (pa_cons (pe_fld (pv 0) rfl) (pa_cons (pe_fld (pv 0) rfl) (pa_cons (pe_fld (pv 0) rfl) pa_nil))))))))), ?_⟩
    have fact_Stop_0 := T.cl_Stop; have fact_Stop_1 := T.na_Stop_number; have fact_Stop_2 := T.na_Stop_house; have fact_Stop_3 := T.na_Stop_side; have fact_Stop_4 := T.na_Stop_trigger; have fact_Stop_5 := T.na_Stop_price; have fact_Stop_6 := T.na_Stop_quantity
    unfold stopO at hx
    walk_at "st"
    exact ⟨len_le rfl, q⟩
theorem refsS_at {ss : List EntS} {i : Nat} {x : V} (h : (refsS ss)[i]? = some x) : ∃ e, ss[i]? = some e ∧ x = .ref e.1 := by
  unfold refsS at h
  rw [List.getElem?_map] at h
  cases e : ss[i]? with
  | none => rw [e] at h; cases h
  | some z => rw [e] at h; exact ⟨z, rfl, (Option.some.inj h).symm⟩
def sp_Bookstop_with (K : PySem.W.Frag) (CS CK : Addr) : Sp := fun vs H Q _ => ∃ (x dx sd st : Addr) (last : Option Int) (next : Int) (ss : List EntS) (n : Int), vs = [.ref x, .int n] ∧ H x = some (bookO CK dx last next sd st) ∧ StopsAt CS H st ss ∧
  Q (entVS (ss.find? fun e => decide (e.2.2.number = n))) H
set_option maxHeartbeats 0 in
theorem ok_Bookstop_with (T : Txt K mg) : FnOk P w K mg base CX0 1 T.f_Bookstop_with T.d_Bookstop_with ["self", "number"] (sp_Bookstop_with K T.c_Stop T.c_Book) := by
  refine T.F_Bookstop_with.ok sc_Bookstop_with (fun vs H Q E h => ?_) (fun cdv A outer s H vs Q E hr h => ?_)
  · obtain ⟨x, dx, sd, st, last, next, ss, n, rfl, _⟩ := h
    rfl
  · obtain ⟨x, dx, sd, st, last, next, ss, n, rfl, hob, S, q⟩ := h
    
    refine ⟨_, (pss_cons (ps_for PassesOwn.never rfl (pi_list (pe_fld (pv 0) rfl)) (pg_name (i := 2) sc_Bookstop_with.nd rfl (Or.inl rfl))
      (pss_one (ps_if (pt_cmpR op_eq (pe_fld (pv 2) rfl) (pv 1) (nomark _))
        (pss_one (ps_ret (pv 2)))
        pss_nil)))
    (pss_one (ps_ret pe_non))), ?_⟩
    have fact_Book_0 := T.cl_Book; have fact_Book_1 := T.na_Book_last; have fact_Book_2 := T.na_Book__next_number; have fact_Book_3 := T.na_Book__sides; have fact_Book_4 := T.na_Book__stops; have fact_Stop_0 := T.cl_Stop; have fact_Stop_1 := T.na_Stop_number; have fact_Stop_2 := T.na_Stop_house; have fact_Stop_3 := T.na_Stop_side; have fact_Stop_4 := T.na_Stop_trigger; have fact_Stop_5 := T.na_Stop_price; have fact_Stop_6 := T.na_Stop_quantity
    unfold bookO at hob
    have hst := S.li
    walk_at "st"
    refine for_list (K := K) (a := st) (xs := refsS ss) (fun i σ H' => H' = H ∧ (ss.take i).find? (fun e => decide (e.2.2.number = n)) = none ∧ ∃ v : Option V, σ = [some (.ref x), some (.int n), v]) ⟨rfl, rfl, none, rfl⟩ (fun i σ H' _ ⟨e, _⟩ => by rw [e]; exact SqL.of hst) ?_ ?_
    · rintro i y σ H' hy ⟨rfl, h0, v, rfl⟩
      obtain ⟨e, he, rfl⟩ := refsS_at hy
      have hen := S.en e (List.mem_of_getElem? he)
      unfold stopO at hen
      walk_at "st"
      refine iteB (fun h => ?_) (fun h => ?_)
      · have hn : e.2.2.number = n := V.int.inj (dec_t h)
        rw [find_hit (p := fun e : EntS => decide (e.2.2.number = n)) he h0 (decide_eq_true hn)] at q
        walk_at "st"
        exact q
      · have hn : ¬ e.2.2.number = n := fun z => dec_f h (by rw [z])
        exact ⟨rfl, find_miss (p := fun e : EntS => decide (e.2.2.number = n)) he h0 (decide_eq_false hn), _, rfl⟩
    · rintro σ H' ⟨rfl, h0, v, rfl⟩
      rw [List.take_of_length_le (by unfold refsS; rw [List.length_map]; exact Nat.le_refl _)] at h0
      rw [h0] at q
      walk_at "st"
      exact q
def firstS (last : Option Int) (ss : List EntS) : Option EntS := ss.find? fun e => reachedS e.2.2 last
def sp_Bookfirst_reached (K : PySem.W.Frag) (CS CK : Addr) : Sp := fun vs H Q _ => ∃ (x dx sd st : Addr) (last : Option Int) (next : Int) (ss : List EntS), vs = [.ref x] ∧ H x = some (bookO CK dx last next sd st) ∧ StopsAt CS H st ss ∧ Q (entVS (firstS last ss)) H
set_option maxHeartbeats 0 in
theorem ok_Bookfirst_reached (T : Txt K mg) : FnOk P w K mg base CX0 2 T.f_Bookfirst_reached T.d_Bookfirst_reached ["self"] (sp_Bookfirst_reached K T.c_Stop T.c_Book) := by
  refine T.F_Bookfirst_reached.ok sc_Bookfirst_reached (fun vs H Q E h => ?_) (fun cdv A outer s H vs Q E hr h => ?_)
  · obtain ⟨x, dx, sd, st, last, next, ss, rfl, _⟩ := h
    rfl
  · obtain ⟨x, dx, sd, st, last, next, ss, rfl, hob, S, q⟩ := h
    have G_Stop_is_reached : FnOk P w K mg base CX0 1 T.f_Stop_is_reached T.d_Stop_is_reached ["self", "last"] (sp_Stop_is_reached K T.c_Stop) := ok_Stop_is_reached T
    refine ⟨_, (pss_cons (ps_for PassesOwn.never rfl (pi_list (pe_fld (pv 0) rfl)) (pg_name (i := 1) sc_Bookfirst_reached.nd rfl (Or.inl rfl))
      (pss_one (ps_if (pt_val (pe_meth (pv 1) T.cl_Stop T.mt_Stop_is_reached G_Stop_is_reached hr T.b_Stop_is_reached .nil pass0 (pa_cons (pe_fld (pv 0) rfl) pa_nil)))
        (pss_one (ps_ret (pv 1)))
        pss_nil)))
    (pss_one (ps_ret pe_non))), ?_⟩
    have fact_Book_0 := T.cl_Book; have fact_Book_1 := T.na_Book_last; have fact_Book_2 := T.na_Book__next_number; have fact_Book_3 := T.na_Book__sides; have fact_Book_4 := T.na_Book__stops; have fact_Stop_0 := T.cl_Stop; have fact_Stop_1 := T.na_Stop_number; have fact_Stop_2 := T.na_Stop_house; have fact_Stop_3 := T.na_Stop_side; have fact_Stop_4 := T.na_Stop_trigger; have fact_Stop_5 := T.na_Stop_price; have fact_Stop_6 := T.na_Stop_quantity
    unfold bookO at hob
    have hst := S.li
    walk_at "st"
    refine for_list (K := K) (a := st) (xs := refsS ss) (fun i σ H' => H' = H ∧ firstS last (ss.take i) = none ∧ ∃ v : Option V, σ = [some (.ref x), v]) ⟨rfl, rfl, none, rfl⟩ (fun i σ H' _ ⟨e, _⟩ => by rw [e]; exact SqL.of hst) ?_ ?_
    · rintro i y σ H' hy ⟨rfl, h0, v, rfl⟩
      obtain ⟨e, he, rfl⟩ := refsS_at hy
      have hen := S.en e (List.mem_of_getElem? he)
      have hen2 := hen
      unfold stopO at hen2
      walk_at "st"
      refine ⟨e.2.2, last, rfl, hen, ?_⟩
      walk_at "st"
      refine iteB (fun h => ?_) (fun h => ?_)
      · unfold firstS at q h0
        rw [find_hit (p := fun e : EntS => reachedS e.2.2 last) he h0 h] at q
        walk_at "st"
        exact q
      · exact ⟨rfl, find_miss (p := fun e : EntS => reachedS e.2.2 last) he h0 h, _, rfl⟩
    · rintro σ H' ⟨rfl, h0, v, rfl⟩
      rw [List.take_of_length_le (by unfold refsS; rw [List.length_map]; exact Nat.le_refl _)] at h0
      rw [h0] at q
      walk_at "st"
      exact q
def sp_Book_stops (K : PySem.W.Frag) (CS CK : Addr) : Sp := fun vs H Q _ => ∃ (x dx sd st : Addr) (last : Option Int) (next : Int) (ss : List EntS), vs = [.ref x] ∧ H x = some (bookO CK dx last next sd st) ∧ StopsAt CS H st ss ∧
  ∀ D ps H', Same H H' → H D = none → Tups rowS H' D ps (ss.map fun e => e.2.2) → Q (.ref D) H'
set_option maxHeartbeats 0 in
theorem ok_Book_stops (T : Txt K mg) : FnOk P w K mg base CX0 2 T.f_Book_stops T.d_Book_stops ["self"] (sp_Book_stops K T.c_Stop T.c_Book) := by
  refine T.F_Book_stops.ok sc_Book_stops (fun vs H Q E h => ?_) (fun cdv A outer s H vs Q E hr h => ?_)
  · obtain ⟨x, dx, sd, st, last, next, ss, rfl, _⟩ := h
    rfl
  · obtain ⟨x, dx, sd, st, last, next, ss, rfl, hob, S, q⟩ := h
    have G_Stop_row : FnOk P w K mg base CX0 1 T.f_Stop_row T.d_Stop_row ["self"] (sp_Stop_row K T.c_Stop) := ok_Stop_row T
    refine ⟨_, (pss_one (ps_ret (pe_lc (own := [("stop", 1)]) (g := gName 1) (tt := tYes) rfl sc_Book_stops.nd (pi_list (pe_fld (pv 0) rfl)) (blkOk_by (own := [("stop", 1)]) (N := N_Book_stops) (sc := defScope s_Book_stops) (by decide +kernel)) (fun _ _ _ _ _ => (pg_name (i := 1) sc_Book_stops.nd rfl (Or.inl rfl))) (fun _ _ _ _ _ => pts_nil) (fun _ _ _ _ _ => (pe_meth0 (pv 1) T.cl_Stop T.mt_Stop_row G_Stop_row hr T.b_Stop_row .nil pass0))))), ?_⟩
    have fact_Book_0 := T.cl_Book; have fact_Book_1 := T.na_Book_last; have fact_Book_2 := T.na_Book__next_number; have fact_Book_3 := T.na_Book__sides; have fact_Book_4 := T.na_Book__stops; have fact_Stop_0 := T.cl_Stop; have fact_Stop_1 := T.na_Stop_number; have fact_Stop_2 := T.na_Stop_house; have fact_Stop_3 := T.na_Stop_side; have fact_Stop_4 := T.na_Stop_trigger; have fact_Stop_5 := T.na_Stop_price; have fact_Stop_6 := T.na_Stop_quantity
    unfold bookO at hob
    have hst := S.li
    have hsm := S.sm
    have lenR : (refsS ss).length = ss.length := List.length_map ..
    walk_at "st"
    intro D nD
    refine lc_list (K := K) (a := st) (xs := refsS ss) (fun i H' => ∃ ps : List Addr, Tups rowS H' D ps ((ss.take i).map fun e => e.2.2) ∧ Same H H')
      ⟨[], Tups.nil upd_same, same_upd nD⟩ (fun i H' _ ⟨_, _, e⟩ => e.seq (SqL.of hst)) ?_ ?_
    · rintro i y H' hy ⟨ps, hT, sa⟩
      obtain ⟨e, he, rfl⟩ := refsS_at hy
      have hi := (List.getElem?_eq_some_iff.mp he).1
      have hen := sa _ _ (S.en e (List.mem_of_getElem? he))
      have hen2 := hen
      unfold stopO at hen2
      refine ⟨rfl, ?_⟩
      walk_at "st"
      refine ⟨e.2.2, rfl, hen, fun p np => ?_⟩
      have sp := same_upd (o := .tup (rowS e.2.2)) np
      have hp : upd H' p (.tup (rowS e.2.2)) p = some (.tup (rowS e.2.2)) := upd_same
      generalize upd H' p _ = H2 at *
      refine ⟨_, sp _ _ hT.lst, small1000 (by have := hT.len; rw [List.length_map, List.length_take] at this; rw [List.length_map]; omega), ps ++ [p], ?_, fun b' o' z => ?_⟩
      · rw [take_succ he, List.map_append]
        exact hT.push sp np hp
      · rw [upd_ne (fun e' => by rw [e', nD] at z; cases z)]
        exact sp _ _ (sa _ _ z)
    · rintro H' ⟨ps, hT, sa⟩
      rw [lenR, List.take_of_length_le (Nat.le_refl _)] at hT
      exact q D ps H' sa nD hT

/-! ### a book with stop orders that wait -/
structure BA where
  x : Addr
  dx : Addr
  sd : Addr
  st : Addr
  b1 : Addr
  d1 : Addr
  l1 : Addr
  b2 : Addr
  d2 : Addr
  l2 : Addr
structure BC where
  CO : Addr
  CB : Addr
  CK : Addr
  CS : Addr
  CR : Addr
structure BS where
  last : Option Int
  next : Int
  es1 : List Ent
  es2 : List Ent
  ss : List EntS
structure BookW (C : BC) (H : Hp) (a : BA) (s : BS) : Prop where
  ob : H a.x = some (bookO C.CK a.dx s.last s.next a.sd a.st)
  sd : H a.sd = some (sidesO a.b1 a.b2)
  sp : StopsAt C.CS H a.st s.ss
  s1 : SideAt C.CO C.CB H a.b1 a.d1 a.l1 s.es1
  s2 : SideAt C.CO C.CB H a.b2 a.d2 a.l2 s.es2
  r1 : Rank "buy" s.es1
  r2 : Rank "sell" s.es2
  dj : ∀ e, e ∈ s.es1 → ∀ y, y ∈ s.es2 → e.1 ≠ y.1
  nll : a.l1 ≠ a.l2
  n1 : a.st ≠ a.l1
  n2 : a.st ≠ a.l2
  gs : ∀ e, e ∈ s.ss → (e.2.2.side = "buy" ∨ e.2.2.side = "sell") ∧ 1 ≤ e.2.2.quantity ∧ e.2.2.quantity ≤ 1000000
  sz : s.es1.length + s.es2.length + s.ss.length ≤ 900
/-- what a book's commands may write -/
def foot (a : BA) (s : BS) : List Addr := [a.x, a.l1, a.l2, a.st] ++ (s.es1.map (·.1) ++ s.es2.map (·.1))
theorem foot_iff {a : BA} {s : BS} {z : Addr} : z ∈ foot a s ↔ z = a.x ∨ z = a.l1 ∨ z = a.l2 ∨ z = a.st ∨ z ∈ s.es1.map (·.1) ∨ z ∈ s.es2.map (·.1) := by
  unfold foot
  rw [List.mem_append, List.mem_append]
  simp only [List.mem_cons, List.not_mem_nil, or_false, or_assoc]
/-- the kinds of object that a command may write -/
def Mov (v : HO) : Prop := (∃ xs, v = .lst xs) ∨ ∃ C dx fs, v = .ins C dx fs ∧ (fs.length = 7 ∨ fs.length = 4)
theorem BookW.kind {C : BC} {H : Hp} {a : BA} {s : BS} (B : BookW C H a s) {z : Addr} (h : z ∈ foot a s) : ∃ v, H z = some v ∧ Mov v := by
  rcases foot_iff.mp h with rfl | rfl | rfl | rfl | h | h
  · exact ⟨_, B.ob, .inr ⟨_, _, _, rfl, .inr rfl⟩⟩
  · exact ⟨_, B.s1.li, .inl ⟨_, rfl⟩⟩
  · exact ⟨_, B.s2.li, .inl ⟨_, rfl⟩⟩
  · exact ⟨_, B.sp.li, .inl ⟨_, rfl⟩⟩
  · obtain ⟨e, he, rfl⟩ := List.mem_map.mp h
    exact ⟨_, B.s1.en e he, .inr ⟨_, _, _, rfl, .inl rfl⟩⟩
  · obtain ⟨e, he, rfl⟩ := List.mem_map.mp h
    exact ⟨_, B.s2.en e he, .inr ⟨_, _, _, rfl, .inl rfl⟩⟩
theorem BookW.out {C : BC} {H : Hp} {a : BA} {s : BS} (B : BookW C H a s) {z : Addr} {v : HO} (h : H z = some v) (hv : ¬ Mov v) : z ∉ foot a s := fun hz => by
  obtain ⟨w, hw, m⟩ := B.kind hz
  rw [h] at hw
  cases hw
  exact hv m
theorem BookW.fresh {C : BC} {H : Hp} {a : BA} {s : BS} (B : BookW C H a s) {z : Addr} (h : H z = none) : z ∉ foot a s := fun hz => by
  obtain ⟨w, hw, m⟩ := B.kind hz
  rw [h] at hw
  cases hw
theorem nomov_tup (xs : List V) : ¬ Mov (.tup xs) := fun h => by
  rcases h with ⟨_, h⟩ | ⟨_, _, _, h, _⟩ <;> cases h
theorem nomov_rep {C dx : Addr} {n : Int} {ho si : Str} {fl rm : Addr} {rest : Int} : ¬ Mov (repO C dx n ho si fl rm rest) := fun h => by
  rcases h with ⟨_, h⟩ | ⟨_, _, _, h, e⟩
  · unfold repO at h
    cases h
  · unfold repO at h
    cases h
    simp only [List.length_cons, List.length_nil] at e
    omega
theorem nomov_stop {C dx : Addr} {s : Stp} : ¬ Mov (stopO C dx s) := fun h => by
  rcases h with ⟨_, h⟩ | ⟨_, _, _, h, e⟩
  · unfold stopO at h
    cases h
  · unfold stopO at h
    cases h
    simp only [List.length_cons, List.length_nil] at e
    omega
theorem nomov_sides {b1 b2 : Addr} : ¬ Mov (sidesO b1 b2) := fun h => by
  unfold sidesO at h
  rcases h with ⟨_, h⟩ | ⟨_, _, _, h, e⟩ <;> cases h
theorem nomov_side {C dx l : Addr} : ¬ Mov (.ins C dx [("_orders", .ref l)]) := fun h => by
  rcases h with ⟨_, h⟩ | ⟨_, _, _, h, e⟩
  · cases h
  · cases h
    simp only [List.length_cons, List.length_nil] at e
    omega
/-- one command, or a part of one: what else stands is kept, what is new in its reach was nothing before -/
structure StepW (a : BA) (s s' : BS) (H H' : Hp) : Prop where
  fr : ∀ z v, z ∉ foot a s → H z = some v → H' z = some v
  nw : ∀ z, z ∈ foot a s' → z ∈ foot a s ∨ H z = none
theorem StepW.refl {a : BA} {s : BS} {H : Hp} : StepW a s s H H := ⟨fun _ _ _ h => h, fun _ h => .inl h⟩
theorem StepW.trans {a : BA} {s s1 s2 : BS} {H H1 H2 : Hp} (p : StepW a s s1 H H1) (q : StepW a s1 s2 H1 H2) : StepW a s s2 H H2 := by
  refine ⟨fun z v hz h => q.fr z v (fun m => ?_) (p.fr z v hz h), fun z hz => ?_⟩
  · rcases p.nw z m with k | k
    · exact hz k
    · rw [h] at k; cases k
  · rcases q.nw z hz with k | k
    · exact p.nw z k
    · by_cases hm : z ∈ foot a s
      · exact .inl hm
      · refine .inr ?_
        cases e : H z with
        | none => rfl
        | some v => rw [p.fr z v hm e] at k; cases k
theorem StepW.pre {a : BA} {s s' : BS} {H H1 H' : Hp} (e : Same H H1) (p : StepW a s s' H1 H') : StepW a s s' H H' := by
  refine ⟨fun z v hz h => p.fr z v hz (e _ _ h), fun z hz => ?_⟩
  rcases p.nw z hz with k | k
  · exact .inl k
  · refine .inr ?_
    cases h : H z with
    | none => rfl
    | some v => rw [e _ _ h] at k; cases k
theorem StepW.post {a : BA} {s s' : BS} {H H1 H' : Hp} (p : StepW a s s' H H1) (e : Same H1 H') : StepW a s s' H H' := ⟨fun z v hz h => e _ _ (p.fr z v hz h), p.nw⟩
theorem StepW.out {a : BA} {s s' : BS} {H H' : Hp} (p : StepW a s s' H H') {z : Addr} {v : HO} (h : H z = some v) (hz : z ∉ foot a s) : z ∉ foot a s' := fun m => by
  rcases p.nw z m with k | k
  · exact hz k
  · rw [h] at k; cases k
theorem BookW.same {C : BC} {H H' : Hp} {a : BA} {s : BS} (B : BookW C H a s) (e : Same H H') : BookW C H' a s :=
  ⟨e _ _ B.ob, e _ _ B.sd, B.sp.same e, B.s1.same e, B.s2.same e, B.r1, B.r2, B.dj, B.nll, B.n1, B.n2, B.gs, B.sz⟩
structure RepT where
  number : Int
  house : Str
  side : Str
  fills : List (Int × Str × Int × Int)
  gone : List Int
  rest : Int
/-- a report, out of the reach F of a book -/
def RepAt (CR : Addr) (H : Hp) (F : List Addr) (r : Addr) (t : RepT) : Prop := ∃ (dr fl rm : Addr) (fs : List Addr), H r = some (repO CR dr t.number t.house t.side fl rm t.rest) ∧ Tups encFill H fl fs t.fills ∧ H rm = some (.lst (t.gone.map V.int)) ∧ fl ∉ F ∧ rm ∉ F
theorem RepAt.same {CR : Addr} {H H' : Hp} {F : List Addr} {r : Addr} {t : RepT} (R : RepAt CR H F r t) (e : Same H H') : RepAt CR H' F r t := by
  obtain ⟨dr, fl, rm, fs, h1, h2, h3, h4, h5⟩ := R
  exact ⟨dr, fl, rm, fs, e _ _ h1, h2.same e, e _ _ h3, h4, h5⟩
theorem RepAt.step {C : BC} {H H' : Hp} {a : BA} {s s' : BS} {r : Addr} {t : RepT} (R : RepAt C.CR H (foot a s) r t) (B : BookW C H a s) (p : StepW a s s' H H') : RepAt C.CR H' (foot a s') r t := by
  obtain ⟨dr, fl, rm, fs, h1, h2, h3, h4, h5⟩ := R
  refine ⟨dr, fl, rm, fs, p.fr _ _ (B.out h1 nomov_rep) h1, ⟨p.fr _ _ h4 h2.lst, h2.len, fun i q x hq hx => ?_⟩, p.fr _ _ h5 h3, p.out h2.lst h4, p.out h3 h5⟩
  have := h2.row i q x hq hx
  exact p.fr _ _ (B.out this (nomov_tup _)) this
theorem RepAt.mono {CR : Addr} {H : Hp} {F F' : List Addr} {r : Addr} {t : RepT} (R : RepAt CR H F r t) (h : ∀ z, z ∈ F' → z ∈ F ∨ ∃ v, H z = some v ∧ ∀ xs, v ≠ .lst xs) : RepAt CR H F' r t := by
  obtain ⟨dr, fl, rm, fs, h1, h2, h3, h4, h5⟩ := R
  refine ⟨dr, fl, rm, fs, h1, h2, h3, fun m => ?_, fun m => ?_⟩
  · rcases h _ m with k | ⟨v, k, n⟩
    · exact h4 k
    · rw [h2.lst] at k; cases k; exact n _ rfl
  · rcases h _ m with k | ⟨v, k, n⟩
    · exact h5 k
    · rw [h3] at k; cases k; exact n _ rfl
theorem RepAt.stepD {C : BC} {H H' : Hp} {a : BA} {s s' : BS} {D r : Addr} {t : RepT} (R : RepAt C.CR H (D :: foot a s) r t) (B : BookW C H a s) (p : StepW a s s' H H') : RepAt C.CR H' (D :: foot a s') r t := by
  obtain ⟨dr, fl, rm, fs, h1, h2, h3, h4, h5⟩ := R
  have g4 := List.not_mem_of_not_mem_cons h4
  have g5 := List.not_mem_of_not_mem_cons h5
  refine ⟨dr, fl, rm, fs, p.fr _ _ (B.out h1 nomov_rep) h1, ⟨p.fr _ _ g4 h2.lst, h2.len, fun i q x hq hx => ?_⟩, p.fr _ _ g5 h3, fun m => ?_, fun m => ?_⟩
  · have := h2.row i q x hq hx
    exact p.fr _ _ (B.out this (nomov_tup _)) this
  · rcases List.mem_cons.mp m with k | k
    · exact h4 (k ▸ List.mem_cons_self)
    · exact p.out h2.lst g4 k
  · rcases List.mem_cons.mp m with k | k
    · exact h5 (k ▸ List.mem_cons_self)
    · exact p.out h3 g5 k
/-- a list of ours outside of the report is written -/
theorem RepAt.write {CR : Addr} {H : Hp} {F : List Addr} {D r : Addr} {t : RepT} {xs ys : List V} (R : RepAt CR H F r t) (hD : H D = some (.lst xs)) (m : D ∈ F) : RepAt CR (upd H D (.lst ys)) F r t := by
  obtain ⟨dr, fl, rm, fs, h1, h2, h3, h4, h5⟩ := R
  have ne : ∀ {z v}, H z = some v → (∀ xs, v ≠ .lst xs) → z ≠ D := fun {z v} h hv e => by
    rw [e, hD] at h
    cases h
    exact hv _ rfl
  refine ⟨dr, fl, rm, fs, (upd_ne (ne h1 fun xs h => by unfold repO at h; cases h)).trans h1, ⟨(upd_ne fun e => h4 (by rw [e]; exact m)).trans h2.lst, h2.len, fun i q x hq hx => ?_⟩, (upd_ne fun e => h5 (by rw [e]; exact m)).trans h3, h4, h5⟩
  have := h2.row i q x hq hx
  exact (upd_ne (ne this fun xs h => by cases h)).trans this
theorem BookW.write {C : BC} {H : Hp} {a : BA} {s : BS} {D : Addr} {xs ys : List V} (B : BookW C H a s) (hD : H D = some (.lst xs)) (m : D ∉ foot a s) : BookW C (upd H D (.lst ys)) a s := by
  have ne : ∀ {z v}, H z = some v → (∀ xs, v ≠ .lst xs) → z ≠ D := fun {z v} h hv e => by
    rw [e, hD] at h
    cases h
    exact hv _ rfl
  have nf : ∀ {z}, z ∈ foot a s → z ≠ D := fun {z} hz e => m (e ▸ hz)
  have ns : a.st ≠ D := nf (foot_iff.mpr (.inr (.inr (.inr (.inl rfl)))))
  have n1 : a.l1 ≠ D := nf (foot_iff.mpr (.inr (.inl rfl)))
  have n2 : a.l2 ≠ D := nf (foot_iff.mpr (.inr (.inr (.inl rfl))))
  refine ⟨(upd_ne (nf (foot_iff.mpr (.inl rfl)))).trans B.ob, (upd_ne (ne B.sd fun xs h => by unfold sidesO at h; cases h)).trans B.sd, ⟨(upd_ne ns).trans B.sp.li, fun e he => (upd_ne (ne (B.sp.en e he) fun xs h => by unfold stopO at h; cases h)).trans (B.sp.en e he), B.sp.nd, B.sp.sm⟩,
    B.s1.upd (ne B.s1.ob fun xs h => by cases h) n1 (fun e he => ne (B.s1.en e he) fun xs h => by unfold ordO at h; cases h), B.s2.upd (ne B.s2.ob fun xs h => by cases h) n2 (fun e he => ne (B.s2.en e he) fun xs h => by unfold ordO at h; cases h), B.r1, B.r2, B.dj, B.nll, B.n1, B.n2, B.gs, B.sz⟩
/-- an order enters: the book behind it and its report -/
def enterB (s : BS) (o dxo : Addr) (t : Ord) (kd : Str) : BS × RepT :=
  (⟨(subF kd t o dxo s.last (othE t.side s.es1 s.es2) (ownE t.side s.es1 s.es2)).last, s.next,
    if buyS t.side = true then (subF kd t o dxo s.last (othE t.side s.es1 s.es2) (ownE t.side s.es1 s.es2)).own else (subF kd t o dxo s.last (othE t.side s.es1 s.es2) (ownE t.side s.es1 s.es2)).oth,
    if buyS t.side = true then (subF kd t o dxo s.last (othE t.side s.es1 s.es2) (ownE t.side s.es1 s.es2)).oth else (subF kd t o dxo s.last (othE t.side s.es1 s.es2) (ownE t.side s.es1 s.es2)).own, s.ss⟩,
   ⟨t.number, t.house, t.side, (subF kd t o dxo s.last (othE t.side s.es1 s.es2) (ownE t.side s.es1 s.es2)).fills, (subF kd t o dxo s.last (othE t.side s.es1 s.es2) (ownE t.side s.es1 s.es2)).gone, (subF kd t o dxo s.last (othE t.side s.es1 s.es2) (ownE t.side s.es1 s.es2)).rest⟩)
theorem runM_len {s : Str} {t : Ord} : ∀ (k : Nat) {m : Mt}, Rank s m.es → (runM t k m).es.length ≤ m.es.length
  | 0, m, _ => Nat.le_refl _
  | k + 1, m, hr => by
    cases h : goesM t m with
    | none => rw [runM_stop h]; exact Nat.le_refl _
    | some e =>
      rw [runM_go h]
      have hs := stepM_less hr h
      have ih := runM_len (s := s) (t := t) k (m := stepM t m e) hs.2.2
      obtain ⟨h1, _, _⟩ := goesM_some h
      have hl : m.es.length = m.es.tail.length + 1 := by rw [h1]; rfl
      have : (stepM t m e).es.length ≤ m.es.length := by
        unfold stepM
        split
        · show m.es.tail.length ≤ _
          omega
        · have := tradeF_len e m.es.tail (qtyM m e) (prcE e)
          show (tradeF e m.es.tail (qtyM m e) (prcE e)).length ≤ _
          omega
      omega
theorem sub_len {kd : Str} {t : Ord} {o dxo : Addr} {last : Option Int} {oth own : List Ent} (hr : Rank (otherS t.side) oth) : (subF kd t o dxo last oth own).oth.length + (subF kd t o dxo last oth own).own.length ≤ oth.length + own.length + 1 := by
  unfold subF
  split
  · show oth.length + own.length ≤ _
    omega
  · have h1 : (endM t last oth).es.length ≤ oth.length := runM_len (s := otherS t.side) _ (m := startM t last oth) hr
    dsimp only
    split
    · rw [(insE_perm _ _ _).length_eq, List.length_cons]
      omega
    · omega

def EnterQW (C : BC) (H : Hp) (a : BA) (s : BS) (o dxo : Addr) (t : Ord) (kd : Str) (Q : VK) : Prop := ∀ (r : Addr) (H' : Hp), H r = none → (∀ F : List Addr, (∀ z, z ∈ F → z ∈ foot a (enterB s o dxo t kd).1 ∨ ∃ v, H z = some v) → RepAt C.CR H' F r (enterB s o dxo t kd).2) → BookW C H' a (enterB s o dxo t kd).1 →
  (∀ z v, z ∉ foot a s → z ≠ o → H z = some v → H' z = some v) → (∀ z, z ∈ foot a (enterB s o dxo t kd).1 → z ∈ foot a s ∨ z = o) → Q (.ref r) H'
theorem enter_w {C : BC} {H : Hp} {a : BA} {s : BS} {o dxo : Addr} {t : Ord} {kd : Str} {Q} {E} (B : BookW C H a s) (hs : t.side = "buy" ∨ t.side = "sell") (ho : H o = some (ordO C.CO dxo t)) (no : o ∉ foot a s)
    (g6 : 1 ≤ t.left) (g6b : t.left ≤ 1000000) (g7 : 0 ≤ t.shown) (hkp : V.str kd = V.str "rest" → ∃ p, t.price = some p) (hsz : s.es1.length + s.es2.length + s.ss.length ≤ 899)
    (q : EnterQW C H a s o dxo t kd Q) : sp_Bookenter K C.CO C.CB C.CK C.CR [.ref a.x, .ref o, .str kd] H Q E := by
  have n1 : ∀ e, e ∈ s.es1 → e.1 ≠ o := fun e he z => no (foot_iff.mpr (.inr (.inr (.inr (.inr (.inl (List.mem_map.mpr ⟨e, he, z⟩)))))))
  have n2 : ∀ e, e ∈ s.es2 → e.1 ≠ o := fun e he z => no (foot_iff.mpr (.inr (.inr (.inr (.inr (.inr (List.mem_map.mpr ⟨e, he, z⟩)))))))
  have key : ∀ (r dr fl rm : Addr) (fs : List Addr) (H' : Hp), H r = none → H fl = none → H rm = none → H' r = some (repO C.CR dr t.number t.house t.side fl rm (enterB s o dxo t kd).2.rest) → Tups encFill H' fl fs (enterB s o dxo t kd).2.fills → H' rm = some (.lst ((enterB s o dxo t kd).2.gone.map V.int)) →
      H' a.x = some (bookO C.CK a.dx (enterB s o dxo t kd).1.last s.next a.sd a.st) → SideAt C.CO C.CB H' a.b1 a.d1 a.l1 (enterB s o dxo t kd).1.es1 → SideAt C.CO C.CB H' a.b2 a.d2 a.l2 (enterB s o dxo t kd).1.es2 → Rank "buy" (enterB s o dxo t kd).1.es1 → Rank "sell" (enterB s o dxo t kd).1.es2 →
      (∀ z v, z ∉ foot a s → z ≠ o → H z = some v → H' z = some v) → H' a.st = H a.st →
      (∀ y, y ∈ (enterB s o dxo t kd).1.es1 → y.1 = o ∨ y.1 ∈ s.es1.map (·.1)) → (∀ y, y ∈ (enterB s o dxo t kd).1.es2 → y.1 = o ∨ y.1 ∈ s.es2.map (·.1)) → (o ∉ (enterB s o dxo t kd).1.es1.map (·.1) ∨ o ∉ (enterB s o dxo t kd).1.es2.map (·.1)) →
      (enterB s o dxo t kd).1.es1.length + (enterB s o dxo t kd).1.es2.length ≤ s.es1.length + s.es2.length + 1 → Q (.ref r) H' := by
    intro r dr fl rm fs H' nr nfl nrm hr hf hg hx h1 h2 k1 k2 fr hst m1 m2 mo hl
    have sdo : a.sd ≠ o := fun z => by have h1 := B.sd; rw [z, ho] at h1; unfold ordO sidesO at h1; cases h1
    have nw : ∀ z, z ∈ foot a (enterB s o dxo t kd).1 → z ∈ foot a s ∨ z = o := fun z hz => by
      rcases foot_iff.mp hz with e | e | e | e | e | e
      · exact .inl (foot_iff.mpr (.inl e))
      · exact .inl (foot_iff.mpr (.inr (.inl e)))
      · exact .inl (foot_iff.mpr (.inr (.inr (.inl e))))
      · exact .inl (foot_iff.mpr (.inr (.inr (.inr (.inl e)))))
      · obtain ⟨y, hy, rfl⟩ := List.mem_map.mp e
        rcases m1 y hy with k | k
        · exact .inr k
        · exact .inl (foot_iff.mpr (.inr (.inr (.inr (.inr (.inl k))))))
      · obtain ⟨y, hy, rfl⟩ := List.mem_map.mp e
        rcases m2 y hy with k | k
        · exact .inr k
        · exact .inl (foot_iff.mpr (.inr (.inr (.inr (.inr (.inr k))))))
    have frs : ∀ {z v}, H z = some v → ¬ Mov v → H' z = some v := fun {z v} hz hv => fr z v (B.out hz hv) (fun e => by
      rw [e, ho] at hz
      cases hz
      exact hv (.inr ⟨_, _, _, rfl, .inl rfl⟩)) hz
    have nf : ∀ {z}, H z = none → z ∉ foot a (enterB s o dxo t kd).1 := fun {z} hz m => by
      rcases nw z m with k | k
      · exact B.fresh hz k
      · rw [k, ho] at hz; cases hz
    refine q r H' nr (fun F hF => ⟨dr, fl, rm, fs, hr, hf, hg, fun m => ?_, fun m => ?_⟩) ?_ fr nw
    · rcases hF _ m with k | ⟨v, k⟩
      · exact nf nfl k
      · rw [nfl] at k; cases k
    · rcases hF _ m with k | ⟨v, k⟩
      · exact nf nrm k
      · rw [nrm] at k; cases k
    refine ⟨hx, frs B.sd nomov_sides, ⟨hst.trans B.sp.li, fun e he => frs (B.sp.en e he) nomov_stop, B.sp.nd, B.sp.sm⟩, h1, h2, k1, k2, ?_, B.nll, B.n1, B.n2, B.gs, ?_⟩
    · intro e he y hy z
      rcases m1 e he with c | c
      · rcases m2 y hy with d | d
        · rcases mo with g | g
          · exact g (List.mem_map.mpr ⟨e, he, c⟩)
          · exact g (List.mem_map.mpr ⟨y, hy, d⟩)
        · obtain ⟨y2, hy2, ey⟩ := List.mem_map.mp d
          exact n2 y2 hy2 (ey.trans (z.symm.trans c))
      · obtain ⟨e2, he2, ee⟩ := List.mem_map.mp c
        rcases m2 y hy with d | d
        · exact n1 e2 he2 (ee.trans (z.trans d))
        · obtain ⟨y2, hy2, ey⟩ := List.mem_map.mp d
          exact B.dj e2 he2 y2 hy2 (ee.trans (z.trans ey.symm))
    · show (enterB s o dxo t kd).1.es1.length + (enterB s o dxo t kd).1.es2.length + s.ss.length ≤ 900
      omega
  have footN : ∀ {z}, z ∉ foot a s → z ≠ a.x ∧ z ≠ a.l1 ∧ z ≠ a.l2 ∧ z ≠ a.st ∧ z ∉ s.es1.map (·.1) ∧ z ∉ s.es2.map (·.1) := fun {z} hz => by
    refine ⟨fun e => hz (foot_iff.mpr (.inl e)), fun e => hz (foot_iff.mpr (.inr (.inl e))), fun e => hz (foot_iff.mpr (.inr (.inr (.inl e)))), fun e => hz (foot_iff.mpr (.inr (.inr (.inr (.inl e))))), fun e => hz (foot_iff.mpr (.inr (.inr (.inr (.inr (.inl e)))))), fun e => hz (foot_iff.mpr (.inr (.inr (.inr (.inr (.inr e))))))⟩
  have sto : a.st ≠ o := fun z => no (foot_iff.mpr (.inr (.inr (.inr (.inl z.symm)))))
  have stx : a.st ≠ a.x := fun z => by have h1 := B.sp.li; rw [z, B.ob] at h1; unfold bookO at h1; cases h1
  have stE : a.st ∉ s.es1.map (·.1) ∧ a.st ∉ s.es2.map (·.1) := by
    refine ⟨fun h => ?_, fun h => ?_⟩
    · obtain ⟨e, he, z⟩ := List.mem_map.mp h
      have h1 := B.s1.en e he
      rw [z, B.sp.li] at h1
      unfold ordO at h1
      cases h1
    · obtain ⟨e, he, z⟩ := List.mem_map.mp h
      have h1 := B.s2.en e he
      rw [z, B.sp.li] at h1
      unfold ordO at h1
      cases h1
  rcases hs with hs | hs
  · have hoth : othE t.side s.es1 s.es2 = s.es2 := by rw [hs]; exact if_pos buyS_buy
    have hown : ownE t.side s.es1 s.es2 = s.es1 := by rw [hs]; exact if_pos buyS_buy
    have hb : buyS t.side = true := by rw [hs]; exact buyS_buy
    have hos : otherS t.side = "sell" := by rw [hs]; exact if_pos buyS_buy
    have hrk := sub_rank (kd := kd) (t := t) (o := o) (dxo := dxo) (last := s.last) (oth := s.es2) (own := s.es1) (by rw [hos]; exact B.r2) (by rw [hs]; exact B.r1) g6 g7 hkp
    have hln := sub_len (kd := kd) (t := t) (o := o) (dxo := dxo) (last := s.last) (oth := s.es2) (own := s.es1) (by rw [hos]; exact B.r2)
    unfold enterB at key
    simp only [hoth, hown, if_pos hb] at key
    obtain ⟨k1, k2, k3, k4⟩ := hrk
    rw [hos] at k1
    rw [hs] at k2
    have m1 : ∀ y, y ∈ (subF kd t o dxo s.last s.es2 s.es1).own → y.1 = o ∨ y.1 ∈ s.es1.map (·.1) := fun y hy => (k4 y hy).imp id fun h => List.mem_map.mpr ⟨y, h, rfl⟩
    have m2 : ∀ y, y ∈ (subF kd t o dxo s.last s.es2 s.es1).oth → y.1 = o ∨ y.1 ∈ s.es2.map (·.1) := fun y hy => by
      obtain ⟨e, he, ee⟩ := k3 y hy
      exact .inr (List.mem_map.mpr ⟨e, he, ee⟩)
    have mo : o ∉ (subF kd t o dxo s.last s.es2 s.es1).oth.map (·.1) := fun h => by
      obtain ⟨y, hy, z⟩ := List.mem_map.mp h
      obtain ⟨e, he, ee⟩ := k3 y hy
      exact n2 e he (ee.trans z)
    refine ⟨(), a.x, a.dx, a.sd, a.st, a.b2, a.d2, a.l2, a.b1, a.d1, a.l1, o, dxo, s.last, s.next, s.es2, s.es1, t, kd, rfl, ?_, hkp, by omega, g6b, ?_, ?_⟩
    · refine ⟨B.ob, ?_, ?_, B.s2, B.s1, ?_, ?_, ho, n2, n1, g6, g7, fun e he y hy z => B.dj y hy e he z.symm, B.nll.symm, ⟨_, _, B.sd⟩⟩
      · rw [hos]; exact sides_sell B.sd
      · rw [hs]; exact sides_buy B.sd
      · rw [hos]; exact B.r2
      · rw [hs]; exact B.r1
    · intro hk ha r dr fl rm H3 e3 nr nfl nrm hr hfl hrm
      have hheld : heldM kd t s.es2 = true := by
        unfold heldM
        rw [decide_eq_true hk, decide_eq_true ha]
        rfl
      have hR : subF kd t o dxo s.last s.es2 s.es1 = ⟨s.es2, s.es1, s.last, [], [], 0⟩ := if_pos hheld
      rw [hR] at key hln k1 k2 m1 m2 mo
      exact key r dr fl rm [] H3 nr nfl nrm hr ⟨hfl, rfl, fun i p x h => by cases h⟩ hrm (e3 _ _ B.ob) (B.s1.same e3) (B.s2.same e3) k2 k1 (fun z v _ _ h => e3 _ _ h) ((e3 _ _ B.sp.li).trans B.sp.li.symm) m1 m2 (.inr mo) (by dsimp only at hln ⊢; omega)
    · intro hk r dr fl rm fs m H3 hm nr nfl nrm hr hfl hrm hx3 hs1 hs2 hfr
      have hheld : ¬ heldM kd t s.es2 = true := fun z => by
        unfold heldM at z
        rw [Bool.and_eq_true] at z
        exact hk ⟨of_decide_eq_true z.1, of_decide_eq_true z.2⟩
      have hR : subF kd t o dxo s.last s.es2 s.es1 = ⟨m.es, if restsM kd m = true then insE s.es1 (place s.es1 (t.price.getD 0)) (o, dxo, Ord.showNext { t with left := m.left }) else s.es1, m.last, m.fills, m.gone, if restsM kd m = true then m.left else 0⟩ := by
        rw [hm]
        exact if_neg hheld
      rw [hR] at key hln k1 k2 m1 m2 mo
      exact key r dr fl rm fs H3 nr nfl nrm hr hfl hrm hx3 hs2 hs1 k2 k1 (fun z v hz h7 h => by
        obtain ⟨f1, f2, f3, f4, f5, f6⟩ := footN hz
        exact hfr z v f6 f3 f2 h7 f1 h) ((hfr _ _ stE.2 B.n2 B.n1 sto stx B.sp.li).trans B.sp.li.symm) m1 m2 (.inr mo) (by dsimp only at hln ⊢; omega)
  · have hb : ¬ buyS t.side = true := by rw [hs, buyS_sell]; exact Bool.false_ne_true
    have hoth : othE t.side s.es1 s.es2 = s.es1 := if_neg hb
    have hown : ownE t.side s.es1 s.es2 = s.es2 := if_neg hb
    have hos : otherS t.side = "buy" := if_neg hb
    have hrk := sub_rank (kd := kd) (t := t) (o := o) (dxo := dxo) (last := s.last) (oth := s.es1) (own := s.es2) (by rw [hos]; exact B.r1) (by rw [hs]; exact B.r2) g6 g7 hkp
    have hln := sub_len (kd := kd) (t := t) (o := o) (dxo := dxo) (last := s.last) (oth := s.es1) (own := s.es2) (by rw [hos]; exact B.r1)
    unfold enterB at key
    simp only [hoth, hown, if_neg hb] at key
    obtain ⟨k1, k2, k3, k4⟩ := hrk
    rw [hos] at k1
    rw [hs] at k2
    have m2 : ∀ y, y ∈ (subF kd t o dxo s.last s.es1 s.es2).own → y.1 = o ∨ y.1 ∈ s.es2.map (·.1) := fun y hy => (k4 y hy).imp id fun h => List.mem_map.mpr ⟨y, h, rfl⟩
    have m1 : ∀ y, y ∈ (subF kd t o dxo s.last s.es1 s.es2).oth → y.1 = o ∨ y.1 ∈ s.es1.map (·.1) := fun y hy => by
      obtain ⟨e, he, ee⟩ := k3 y hy
      exact .inr (List.mem_map.mpr ⟨e, he, ee⟩)
    have mo : o ∉ (subF kd t o dxo s.last s.es1 s.es2).oth.map (·.1) := fun h => by
      obtain ⟨y, hy, z⟩ := List.mem_map.mp h
      obtain ⟨e, he, ee⟩ := k3 y hy
      exact n1 e he (ee.trans z)
    refine ⟨(), a.x, a.dx, a.sd, a.st, a.b1, a.d1, a.l1, a.b2, a.d2, a.l2, o, dxo, s.last, s.next, s.es1, s.es2, t, kd, rfl, ?_, hkp, by omega, g6b, ?_, ?_⟩
    · refine ⟨B.ob, ?_, ?_, B.s1, B.s2, ?_, ?_, ho, n1, n2, g6, g7, B.dj, B.nll, ⟨_, _, B.sd⟩⟩
      · rw [hos]; exact sides_buy B.sd
      · rw [hs]; exact sides_sell B.sd
      · rw [hos]; exact B.r1
      · rw [hs]; exact B.r2
    · intro hk ha r dr fl rm H3 e3 nr nfl nrm hr hfl hrm
      have hheld : heldM kd t s.es1 = true := by
        unfold heldM
        rw [decide_eq_true hk, decide_eq_true ha]
        rfl
      have hR : subF kd t o dxo s.last s.es1 s.es2 = ⟨s.es1, s.es2, s.last, [], [], 0⟩ := if_pos hheld
      rw [hR] at key hln k1 k2 m1 m2 mo
      exact key r dr fl rm [] H3 nr nfl nrm hr ⟨hfl, rfl, fun i p x h => by cases h⟩ hrm (e3 _ _ B.ob) (B.s1.same e3) (B.s2.same e3) k1 k2 (fun z v _ _ h => e3 _ _ h) ((e3 _ _ B.sp.li).trans B.sp.li.symm) m1 m2 (.inl mo) (by dsimp only at hln ⊢; omega)
    · intro hk r dr fl rm fs m H3 hm nr nfl nrm hr hfl hrm hx3 hs1 hs2 hfr
      have hheld : ¬ heldM kd t s.es1 = true := fun z => by
        unfold heldM at z
        rw [Bool.and_eq_true] at z
        exact hk ⟨of_decide_eq_true z.1, of_decide_eq_true z.2⟩
      have hR : subF kd t o dxo s.last s.es1 s.es2 = ⟨m.es, if restsM kd m = true then insE s.es2 (place s.es2 (t.price.getD 0)) (o, dxo, Ord.showNext { t with left := m.left }) else s.es2, m.last, m.fills, m.gone, if restsM kd m = true then m.left else 0⟩ := by
        rw [hm]
        exact if_neg hheld
      rw [hR] at key hln k1 k2 m1 m2 mo
      exact key r dr fl rm fs H3 nr nfl nrm hr hfl hrm hx3 hs1 hs2 k1 k2 (fun z v hz h7 h => by
        obtain ⟨f1, f2, f3, f4, f5, f6⟩ := footN hz
        exact hfr z v f5 f2 f3 h7 f1 h) ((hfr _ _ stE.1 B.n1 B.n2 sto stx B.sp.li).trans B.sp.li.symm) m1 m2 (.inl mo) (by dsimp only at hln ⊢; omega)

/-! ### the stop orders that are reached enter, one at a time -/
def ordS (e : Stp) : Ord := ⟨e.number, e.house, e.side, e.price, 0, e.quantity, 0⟩
def kdS (e : Stp) : Str := match e.price with
  | none => "now"
  | some _ => "rest"
def dropS (a : Addr) (ss : List EntS) : List EntS := ss.filter fun y => decide (y.1 ≠ a)
def offS (s : BS) (a : Addr) : BS := { s with ss := dropS a s.ss }
inductive TrigS : BS → BS → List RepT → Prop
  | nil (s : BS) : TrigS s s []
  | snoc {s s1 : BS} {reps : List RepT} {e : EntS} (o dxo : Addr) : TrigS s s1 reps → firstS s1.last s1.ss = some e → TrigS s (enterB (offS s1 e.1) o dxo (ordS e.2.2) (kdS e.2.2)).1 (reps ++ [(enterB (offS s1 e.1) o dxo (ordS e.2.2) (kdS e.2.2)).2])
theorem refsS_map (ss : List EntS) : refsS ss = (ss.map (·.1)).map V.ref := by
  unfold refsS
  rw [List.map_map]
  rfl
theorem eraseS {a : Addr} {ss : List EntS} (nd : (ss.map (·.1)).Nodup) : (ss.map (·.1)).erase a = (dropS a ss).map (·.1) := by
  rw [nd.erase_eq_filter, List.filter_map]
  unfold dropS
  congr 1
  refine List.filter_congr fun y _ => ?_
  show (y.1 != a) = decide (y.1 ≠ a)
  by_cases h : y.1 = a <;> simp [h]
theorem BookW.put {C : BC} {H : Hp} {a : BA} {s : BS} (B : BookW C H a s) {ss : List EntS} (en : ∀ e, e ∈ ss → H e.1 = some (stopO C.CS e.2.1 e.2.2)) (nd : (ss.map (·.1)).Nodup)
    (gs : ∀ e, e ∈ ss → (e.2.2.side = "buy" ∨ e.2.2.side = "sell") ∧ 1 ≤ e.2.2.quantity ∧ e.2.2.quantity ≤ 1000000) (sz : s.es1.length + s.es2.length + ss.length ≤ 900) : BookW C (upd H a.st (.lst (refsS ss))) a { s with ss := ss } := by
  have hl := B.sp.li
  have ne : ∀ {z v}, H z = some v → (∀ xs, v ≠ .lst xs) → z ≠ a.st := fun {z v} h hv e => by
    rw [e, hl] at h
    cases h
    exact hv _ rfl
  have hx : a.x ≠ a.st := ne B.ob fun xs h => by unfold bookO at h; cases h
  have hs : a.sd ≠ a.st := ne B.sd fun xs h => by unfold sidesO at h; cases h
  have hb1 : a.b1 ≠ a.st := ne B.s1.ob fun xs h => by cases h
  have hb2 : a.b2 ≠ a.st := ne B.s2.ob fun xs h => by cases h
  refine ⟨(upd_ne hx).trans B.ob, (upd_ne hs).trans B.sd, ⟨upd_same, fun e he => (upd_ne (ne (en e he) fun xs h => by unfold stopO at h; cases h)).trans (en e he), nd, by dsimp only at sz ⊢; omega⟩, B.s1.upd hb1 B.n1.symm (fun e he => ne (B.s1.en e he) fun xs h => by unfold ordO at h; cases h),
    B.s2.upd hb2 B.n2.symm (fun e he => ne (B.s2.en e he) fun xs h => by unfold ordO at h; cases h), B.r1, B.r2, B.dj, B.nll, B.n1, B.n2, gs, sz⟩
theorem StepW.put {a : BA} {s : BS} {H : Hp} {ss : List EntS} {v : HO} : StepW a s { s with ss := ss } H (upd H a.st v) :=
  ⟨fun z w hz h => (upd_ne fun e => hz (foot_iff.mpr (.inr (.inr (.inr (.inl e)))))).trans h, fun z hz => .inl hz⟩
theorem dropS_mem {a : Addr} {ss : List EntS} {y : EntS} (h : y ∈ dropS a ss) : y ∈ ss := (List.mem_filter.mp h).1
theorem dropS_len {e : EntS} {ss : List EntS} (h : e ∈ ss) : (dropS e.1 ss).length + 1 ≤ ss.length := by
  have h1 := List.length_filter_lt_length_iff_exists (p := fun y : EntS => decide (y.1 ≠ e.1)) (l := ss) |>.mpr ⟨e, h, by simp⟩
  exact h1
theorem dropS_eq {e : EntS} {ss : List EntS} (nd : (ss.map (·.1)).Nodup) (h : e ∈ ss) : (dropS e.1 ss).length + 1 = ss.length := by
  have h1 := eraseS (a := e.1) nd
  have h2 := congrArg List.length h1
  rw [List.length_erase_of_mem (List.mem_map.mpr ⟨e, h, rfl⟩), List.length_map, List.length_map] at h2
  have h3 := List.length_pos_of_mem h
  omega
theorem BookW.off {C : BC} {H : Hp} {a : BA} {s : BS} (B : BookW C H a s) {e : EntS} (h : e ∈ s.ss) : BookW C (upd H a.st (.lst (refsS (dropS e.1 s.ss)))) a (offS s e.1) :=
  B.put (fun y hy => B.sp.en y (dropS_mem hy)) ((List.filter_sublist.map _).nodup B.sp.nd) (fun y hy => B.gs y (dropS_mem hy)) (by have := dropS_len h; have := B.sz; omega)
/-- a list of reports -/
def RepsAt (CR : Addr) (H : Hp) (F : List Addr) (D : Addr) (reps : List RepT) : Prop := ∃ rs : List Addr, H D = some (.lst (rs.map V.ref)) ∧ D ∉ F ∧ rs.length = reps.length ∧ ∀ (i : Nat) (r : Addr) (t : RepT), rs[i]? = some r → reps[i]? = some t → RepAt CR H (D :: F) r t
theorem RepsAt.step {C : BC} {H H' : Hp} {a : BA} {s s' : BS} {D : Addr} {reps : List RepT} (R : RepsAt C.CR H (foot a s) D reps) (B : BookW C H a s) (p : StepW a s s' H H') : RepsAt C.CR H' (foot a s') D reps := by
  obtain ⟨rs, h1, h2, h3, h4⟩ := R
  exact ⟨rs, p.fr _ _ h2 h1, p.out h1 h2, h3, fun i r t hr ht => (h4 i r t hr ht).stepD B p⟩
theorem reps_snoc {CR : Addr} {H : Hp} {F : List Addr} {r : Addr} {reps : List RepT} {rs : List Addr} {t : RepT} (h3 : rs.length = reps.length) (h4 : ∀ (i : Nat) (r : Addr) (t : RepT), rs[i]? = some r → reps[i]? = some t → RepAt CR H F r t) (hr : RepAt CR H F r t) :
    (rs ++ [r]).length = (reps ++ [t]).length ∧ ∀ (i : Nat) (q : Addr) (y : RepT), (rs ++ [r])[i]? = some q → (reps ++ [t])[i]? = some y → RepAt CR H F q y := by
  refine ⟨?_, fun i q y hq hy => ?_⟩
  · rw [List.length_append, List.length_append, h3]
    rfl
  · by_cases hi : i < rs.length
    · rw [List.getElem?_append_left hi] at hq
      rw [List.getElem?_append_left (by omega)] at hy
      exact h4 i q y hq hy
    · rw [List.getElem?_append_right (by omega)] at hq
      rw [List.getElem?_append_right (by omega)] at hy
      have h5 := (List.getElem?_eq_some_iff.mp hq).1
      rw [List.length_singleton] at h5
      have e0 : i - rs.length = 0 := by omega
      have e1 : i - reps.length = 0 := by omega
      rw [e0] at hq
      rw [e1] at hy
      cases hq
      cases hy
      exact hr
def lenL (H : Hp) (l : Addr) : Nat := match H l with
  | some (.lst xs) => xs.length
  | _ => 0
theorem lenL_eq {H : Hp} {l : Addr} {xs : List V} (h : H l = some (.lst xs)) : lenL H l = xs.length := by
  unfold lenL
  rw [h]
theorem firstS_mem {last : Option Int} {ss : List EntS} {e : EntS} (h : firstS last ss = some e) : e ∈ ss ∧ reachedS e.2.2 last = true := ⟨List.mem_of_find?_eq_some h, List.find?_some (p := fun e : EntS => reachedS e.2.2 last) h⟩
def sp_Booktrigger_stops (K : PySem.W.Frag) (CO CB CK CS CR : Addr) : Sp := fun vs H Q _ => ∃ (a : BA) (s : BS), vs = [.ref a.x] ∧ BookW ⟨CO, CB, CK, CS, CR⟩ H a s ∧
  ∀ s' reps D H', TrigS s s' reps → firstS s'.last s'.ss = none → BookW ⟨CO, CB, CK, CS, CR⟩ H' a s' → StepW a s s' H H' → H D = none → RepsAt CR H' (foot a s') D reps → Q (.ref D) H'
set_option maxHeartbeats 0 in
theorem ok_Booktrigger_stops (T : Txt K mg) : FnOk P w K mg base CX0 7 T.f_Booktrigger_stops T.d_Booktrigger_stops ["self"] (sp_Booktrigger_stops K T.c_Order T.c_BookSide T.c_Book T.c_Stop T.c_Report) := by
  refine T.F_Booktrigger_stops.ok sc_Booktrigger_stops (fun vs H Q E h => ?_) (fun cdv A outer s H vs Q E hr h => ?_)
  · obtain ⟨a, s, rfl, _⟩ := h
    rfl
  · obtain ⟨a, s, rfl, B, q⟩ := h
    have G_Bookfirst_reached : FnOk P w K mg base CX0 2 T.f_Bookfirst_reached T.d_Bookfirst_reached ["self"] (sp_Bookfirst_reached K T.c_Stop T.c_Book) := ok_Bookfirst_reached T
    have G_Order_init : FnOk P w K mg base CX0 1 T.f_Order_init T.d_Order_init ["self", "number", "house", "side", "price", "quantity", "shown"] (sp_Order_init K T.c_Order) := ok_Order_init T
    have G_Bookenter : FnOk P w K mg base CX0 6 T.f_Bookenter T.d_Bookenter ["self", "order", "kind"] (sp_Bookenter K T.c_Order T.c_BookSide T.c_Book T.c_Report) := ok_Bookenter T
    refine ⟨_, (pss_cons (ps_set (i := 1) sc_Booktrigger_stops.nd rfl (Or.inl rfl) (pe_lst pa_nil))
    (pss_cons (ps_set (i := 2) sc_Booktrigger_stops.nd rfl (Or.inl rfl) (pe_meth0 (pv 0) T.cl_Book T.mt_Bookfirst_reached G_Bookfirst_reached (hr.mono (by decide)) T.b_Bookfirst_reached .nil pass0))
    (pss_cons (ps_while PassesOwn.never (pt_cmpR op_notN (pv 2) pe_non (nomark _))
      (pss_cons (ps_expr (pe_bm PySem.F.plainAttrs_list PySem.F.slot_list_remove PySem.F.type_list_remove (mt_removeO hr T.eq_Stop T.mo_Stop) (pe_fld (pv 0) rfl) (pa_cons (pv 2) pa_nil)))
      (pss_cons (ps_set (i := 3) sc_Booktrigger_stops.nd rfl (Or.inl rfl) (pe_ifExp (pt_cmpR op_isN (pe_fld (pv 2) rfl) pe_non (nomark _)) pe_str pe_str))
      (pss_cons (ps_set (i := 4) sc_Booktrigger_stops.nd rfl (Or.inl rfl) (pe_make T.mk_Order G_Order_init (hr.mono (by decide)) (by rfl) T.m_Order T.b_Order_init .nil pass0 (pa_cons (pe_fld (pv 2) rfl) (pa_cons (pe_fld (pv 2) rfl) (pa_cons (pe_fld (pv 2) rfl) (pa_cons (pe_fld (pv 2) rfl) (pa_cons (pe_fld (pv 2) rfl) (pa_cons pe_int pa_nil))))))))
      (pss_cons (ps_expr (pe_bm PySem.F.plainAttrs_list PySem.F.slot_list_append PySem.F.type_list_append mt_append (pv 1) (pa_cons (pe_meth (pv 0) T.cl_Book T.mt_Bookenter G_Bookenter hr T.b_Bookenter .nil pass0 (pa_cons (pv 4) (pa_cons (pv 3) pa_nil))) pa_nil)))
      (pss_one (ps_set (i := 2) sc_Booktrigger_stops.nd rfl (Or.inl rfl) (pe_meth0 (pv 0) T.cl_Book T.mt_Bookfirst_reached G_Bookfirst_reached (hr.mono (by decide)) T.b_Bookfirst_reached .nil pass0))))))))
    (pss_one (ps_ret (pv 1)))))), ?_⟩
    have fact_BookSide_0 := T.cl_BookSide; have fact_BookSide_1 := T.na_BookSide__orders; have fact_Book_0 := T.cl_Book; have fact_Book_1 := T.na_Book_last; have fact_Book_2 := T.na_Book__next_number; have fact_Book_3 := T.na_Book__sides; have fact_Book_4 := T.na_Book__stops; have fact_Order_0 := T.cl_Order; have fact_Order_1 := T.na_Order_number; have fact_Order_2 := T.na_Order_house; have fact_Order_3 := T.na_Order_side; have fact_Order_4 := T.na_Order_price; have fact_Order_5 := T.na_Order_shown; have fact_Order_6 := T.na_Order_left; have fact_Order_7 := T.na_Order_visible; have fact_Report_0 := T.cl_Report; have fact_Report_1 := T.na_Report_number; have fact_Report_2 := T.na_Report_house; have fact_Report_3 := T.na_Report_side; have fact_Report_4 := T.na_Report_fills; have fact_Report_5 := T.na_Report_removed; have fact_Report_6 := T.na_Report_resting; have fact_Stop_0 := T.cl_Stop; have fact_Stop_1 := T.na_Stop_number; have fact_Stop_2 := T.na_Stop_house; have fact_Stop_3 := T.na_Stop_side; have fact_Stop_4 := T.na_Stop_trigger; have fact_Stop_5 := T.na_Stop_price; have fact_Stop_6 := T.na_Stop_quantity
    have hob := B.ob
    unfold bookO at hob
    walk_at "st"
    intro D nD
    have sD := same_upd (o := .lst []) nD
    have hD : upd H D (.lst []) D = some (.lst []) := upd_same
    have fD := B.fresh nD
    have B1 := B.same sD
    have st1 : StepW a s s H (upd H D (.lst [])) := StepW.refl.post sD
    generalize upd H D _ = H1 at *
    have hob1 := B1.ob
    unfold bookO at hob1
    walk_at "st"
    refine ⟨s.last, s.next, s.ss, rfl, B1.ob, B1.sp, ?_⟩
    refine while_by (fun σ H' => ∃ (_ : Unit) (v3 v4 : Option V) (s' : BS) (reps : List RepT) (rs : List Addr), σ = [some (.ref a.x), some (.ref D), some (entVS (firstS s'.last s'.ss)), v3, v4] ∧ TrigS s s' reps ∧ BookW ⟨T.c_Order, T.c_BookSide, T.c_Book, T.c_Stop, T.c_Report⟩ H' a s' ∧ StepW a s s' H H' ∧
        H' D = some (.lst (rs.map V.ref)) ∧ D ∉ foot a s' ∧ rs.length = reps.length ∧ (∀ (i : Nat) (r : Addr) (t : RepT), rs[i]? = some r → reps[i]? = some t → RepAt T.c_Report H' (D :: foot a s') r t) ∧ rs.length + s'.ss.length = s.ss.length)
      (fun _ H' => lenL H' a.st) ⟨(), none, none, s, [], [], rfl, .nil s, B1, st1, hD, fD, rfl, (fun i r t h => by rw [List.getElem?_nil] at h; cases h), by rw [List.length_nil]; omega⟩ ?_ ?_
    · rintro σ H2 ⟨_, v3, v4, s', reps, rs, rfl, hT, B2, S2, hD2, fD2, hlr, hreps, hsum⟩
      cases hf : firstS s'.last s'.ss with
      | none =>
        walk_at "st"
        exact q s' reps D H2 hT hf B2 S2 nD ⟨rs, hD2, fD2, hlr, hreps⟩
      | some e =>
        obtain ⟨hmem, hreach⟩ := firstS_mem hf
        have hen := B2.sp.en e hmem
        have hen2 := hen
        unfold stopO at hen2
        have hob2 := B2.ob
        unfold bookO at hob2
        have hst2 := B2.sp.li
        walk_at "st"
        refine ⟨s'.ss.map (·.1), rfl, rfl, by rw [← refsS_map]; exact hst2, List.mem_map.mpr ⟨e, hmem, rfl⟩, fun b hb => ?_, ?_⟩
        · obtain ⟨y, hy, rfl⟩ := List.mem_map.mp hb
          exact ⟨_, _, B2.sp.en y hy⟩
        rw [eraseS B2.sp.nd, ← refsS_map]
        have B3 := B2.off hmem
        have S3 : StepW a s (offS s' e.1) H (upd H2 a.st (.lst (refsS (dropS e.1 s'.ss)))) := S2.trans StepW.put
        have nest : e.1 ≠ a.st := fun z => by rw [z, hst2] at hen; unfold stopO at hen; cases hen
        have hen3 : upd H2 a.st (.lst (refsS (dropS e.1 s'.ss))) e.1 = some (stopO T.c_Stop e.2.1 e.2.2) := (upd_ne nest).trans hen
        have hD3 : upd H2 a.st (.lst (refsS (dropS e.1 s'.ss))) D = some (.lst (rs.map V.ref)) := (upd_ne fun z => fD2 (foot_iff.mpr (.inr (.inr (.inr (.inl z)))))).trans hD2
        have hr3 : ∀ (i : Nat) (r : Addr) (t : RepT), rs[i]? = some r → reps[i]? = some t → RepAt T.c_Report (upd H2 a.st (.lst (refsS (dropS e.1 s'.ss)))) (D :: foot a (offS s' e.1)) r t := fun i r t h1 h2 => (hreps i r t h1 h2).stepD B2 StepW.put
        have fD3 : D ∉ foot a (offS s' e.1) := fD2
        have hlen : (dropS e.1 s'.ss).length + 1 ≤ s'.ss.length := dropS_len hmem
        have hgs := B2.gs e hmem
        generalize hH3 : upd H2 a.st _ = H3 at B3 S3 hen3 hD3 hr3
        have hen4 := hen3
        unfold stopO at hen4
        have hob3 := B3.ob
        unfold bookO at hob3
        have hkk : ∀ {kv : Str}, kv = kdS e.2.2 → V.str kv = V.str "rest" → ∃ p, e.2.2.price = some p := fun {kv} hk h => by
          rw [hk] at h
          unfold kdS at h
          split at h
          · exact absurd h (by decide +kernel)
          · next p hp => exact ⟨p, hp⟩
        obtain ⟨pr, hp⟩ : ∃ pr, e.2.2.price = pr := ⟨_, rfl⟩
        cases pr
        all_goals
          simp only [hp, optV] at hen4
          first
            | (have hkd : ("now" : Str) = kdS e.2.2 := by unfold kdS; rw [hp])
            | (have hkd : ("rest" : Str) = kdS e.2.2 := by unfold kdS; rw [hp])
          walk_at "st"
          intro o dxo no ndo hne
          have no' : upd H3 dxo (.own o) o = none := by
            first
              | (rw [upd_ne hne]; exact no)
              | (rw [upd_ne (Ne.symm hne)]; exact no)
          refine ⟨o, dxo, e.2.2.number, e.2.2.house, e.2.2.side, e.2.2.price, e.2.2.quantity, 0, by rw [hp]; rfl, upd_same, ?_⟩
          rw [upd_upd]
          refine ⟨rfl, ?_⟩
          have so2 : ∀ v, Same H3 (upd (upd H3 dxo (.own o)) o v) := fun v => (same_upd ndo).trans (same_upd no')
          generalize hH4 : upd (upd H3 dxo _) o _ = H4
          have s4 : Same H3 H4 := hH4 ▸ so2 _
          have hoo : H4 o = some (ordO T.c_Order dxo (ordS e.2.2)) := (congrFun hH4 o).symm.trans upd_same
          have B4 := B3.same s4
          have hD4 := s4 _ _ hD3
          have hob4 := s4 _ _ hob3
          walk_at "st"
          rw [hkd]
          have hsz := B2.sz
          delta tNil
          refine enter_w (K := K) (E := E0) (C := ⟨T.c_Order, T.c_BookSide, T.c_Book, T.c_Stop, T.c_Report⟩) (a := a) (s := offS s' e.1) (dxo := dxo) (t := ordS e.2.2) (kd := kdS e.2.2) B4 hgs.1 hoo (B3.fresh no) hgs.2.1 hgs.2.2 (Int.le_refl 0) (hkk rfl) (by show s'.es1.length + s'.es2.length + (dropS e.1 s'.ss).length ≤ 899; omega) ?_
          intro r H5 nr hR B5 fr5 nw5
          have noD : D ≠ o := fun z => by rw [z, no] at hD3; cases hD3
          have hD5 := fr5 _ _ fD3 noD hD4
          have p45 : StepW a (offS s' e.1) (enterB (offS s' e.1) o dxo (ordS e.2.2) (kdS e.2.2)).1 H3 H5 := by
            refine ⟨fun z v hz h => fr5 z v hz (fun q => by rw [q, no] at h; cases h) (s4 _ _ h), fun z hz => ?_⟩
            rcases nw5 z hz with k | k
            · exact .inl k
            · exact .inr (by rw [k]; exact no)
          have fD5 := p45.out hD3 fD3
          have hlen5 : (rs.map V.ref).length < sizeLine := small1000 (by rw [List.length_map]; have := B.sp.sm; omega)
          have hrep5 : ∀ (i : Nat) (q : Addr) (y : RepT), rs[i]? = some q → reps[i]? = some y → RepAt T.c_Report H5 (D :: foot a (enterB (offS s' e.1) o dxo (ordS e.2.2) (kdS e.2.2)).1) q y := fun i q y h1 h2 => (hr3 i q y h1 h2).stepD (C := ⟨T.c_Order, T.c_BookSide, T.c_Book, T.c_Stop, T.c_Report⟩) B3 p45
          have hnew := hR (D :: foot a (enterB (offS s' e.1) o dxo (ordS e.2.2) (kdS e.2.2)).1) fun z hz => by
            rcases List.mem_cons.mp hz with k | k
            · exact .inr ⟨_, k ▸ hD4⟩
            · exact .inl k
          have B6 := B5.write (ys := rs.map V.ref ++ [.ref r]) hD5 fD5
          have hob6 := B6.ob
          have hob7 := hob6
          unfold bookO at hob7
          obtain ⟨hl6, hrep6⟩ := reps_snoc hlr hrep5 hnew
          have hrep7 : ∀ (i : Nat) (q : Addr) (y : RepT), (rs ++ [r])[i]? = some q → (reps ++ [(enterB (offS s' e.1) o dxo (ordS e.2.2) (kdS e.2.2)).2])[i]? = some y → RepAt T.c_Report (upd H5 D (.lst (rs.map V.ref ++ [.ref r]))) (D :: foot a (enterB (offS s' e.1) o dxo (ordS e.2.2) (kdS e.2.2)).1) q y := fun i q y h1 h2 => (hrep6 i q y h1 h2).write hD5 List.mem_cons_self
          have p46 : StepW a (offS s' e.1) (enterB (offS s' e.1) o dxo (ordS e.2.2) (kdS e.2.2)).1 H3 H5 := p45
          have S5 := S3.trans p45
          have S6 : StepW a s (enterB (offS s' e.1) o dxo (ordS e.2.2) (kdS e.2.2)).1 H (upd H5 D (.lst (rs.map V.ref ++ [.ref r]))) :=
            ⟨fun z v hz h => (upd_ne (fun q => by rw [q, nD] at h; cases h)).trans (S5.fr z v hz h), S5.nw⟩
          have hst6 : lenL (upd H5 D (.lst (rs.map V.ref ++ [.ref r]))) a.st < lenL H2 a.st := by
            rw [lenL_eq B6.sp.li, lenL_eq hst2]
            unfold refsS
            rw [List.length_map, List.length_map]
            exact hlen
          walk_at "st"
          refine ⟨_, _, _, rfl, hob6, B6.sp, ?_⟩
          refine ⟨⟨(), _, _, _, _, rs ++ [r], rfl, .snoc o dxo hT hf, B6, S6, ?_, fD5, hl6, hrep7, ?_⟩, hst6⟩
          · rw [upd_same, List.map_append]
            rfl
          · rw [List.length_append, List.length_singleton]
            show rs.length + 1 + (dropS e.1 s'.ss).length = s.ss.length
            have hd : (dropS e.1 s'.ss).length + 1 = s'.ss.length := dropS_eq B2.sp.nd hmem
            omega
    · rintro σ H Q Q' h ⟨v, e1, k, b, e2, q⟩
      exact ⟨v, e1, k, b, e2, h _ _ q⟩

/-- an order that may be handed in -/
structure GoodOrd (ho si : Str) (pr : Option Int) (qu : Int) (kd : Str) (sh : Int) : Prop where
  h1 : ¬ V.str ho = V.str ""
  h2 : V.str si = V.str "buy" ∨ V.str si = V.str "sell"
  h3 : V.str kd = V.str "rest" ∨ V.str kd = V.str "now" ∨ V.str kd = V.str "all"
  h4 : ∀ p, pr = some p → 1 ≤ p ∧ p ≤ 1000000
  h5 : pr = none → ¬ V.str kd = V.str "rest"
  h6 : 1 ≤ qu ∧ qu ≤ 1000000
  h7 : 0 ≤ sh ∧ sh ≤ qu
  h8 : 0 < sh → V.str kd = V.str "rest"
def sp_is_integral (K : PySem.W.Frag) : Sp := fun vs H Q _ => ∃ x : Int, vs = [.int x] ∧ Q (.bl true) H
set_option maxHeartbeats 0 in
theorem ok_is_integral (T : Txt K mg) : FnOk P w K mg base CX0 1 T.f_is_integral T.d_is_integral ["value"] (sp_is_integral K) := by
  refine T.F_is_integral.ok sc_is_integral (fun vs H Q E h => ?_) (fun cdv A outer s H vs Q E hr h => ?_)
  · obtain ⟨x, rfl, _⟩ := h
    rfl
  · obtain ⟨x, rfl, q⟩ := h
    refine ⟨_, (pss_one (ps_ret (pe_and (pe_callB call_isi (by rfl) T.z_isinstance (by decide +kernel) (pa_cons (pv 0) (pa_cons (pe_bltn (v := .ty "int") (u := .type "int") (by rfl) T.z_int (by decide +kernel) rfl) pa_nil))) (pe_one (pe_not (pe_callB call_isi (by rfl) T.z_isinstance (by decide +kernel) (pa_cons (pv 0) (pa_cons (pe_bltn (v := .ty "bool") (u := .type "bool") (by rfl) T.z_bool (by decide +kernel) rfl) pa_nil)))))))), ?_⟩
    refine ⟨_, rfl, ?_⟩
    refine ⟨_, _, _, _, true, rfl, .ty _, .base (.int _), kit_ty (by decide +kernel), ?_⟩
    refine ⟨true, rfl, iteT ?_⟩
    refine ⟨_, rfl, ?_⟩
    refine ⟨_, _, _, _, false, rfl, .ty _, .base (.int _), kit_ty (by decide +kernel), ?_⟩
    refine ⟨false, rfl, ?_⟩
    exact q
def sp_is_within (K : PySem.W.Frag) : Sp := fun vs H Q _ => ∃ a b x : Int, vs = [.int a, .int b, .int x] ∧ Q (.bl (decide (a ≤ x ∧ x ≤ b))) H
set_option maxHeartbeats 0 in
theorem ok_is_within (T : Txt K mg) : FnOk P w K mg base CX0 2 T.f_is_within T.d_is_within ["least", "most", "value"] (sp_is_within K) := by
  refine T.F_is_within.ok sc_is_within (fun vs H Q E h => ?_) (fun cdv A outer s H vs Q E hr h => ?_)
  · obtain ⟨a, b, x, rfl, _⟩ := h
    rfl
  · obtain ⟨a, b, x, rfl, q⟩ := h
    have G_is_integral : FnOk P w K mg base CX0 1 T.f_is_integral T.d_is_integral ["value"] (sp_is_integral K) := ok_is_integral T
    refine ⟨_, (pss_one (ps_ret (pe_and (pe_call G_is_integral hr (by rfl) T.m_is_integral T.F_is_integral.kp T.b_is_integral .nil pass0 (pa_cons (pv 2) pa_nil)) (pe_one (pe_chain op_le op_le (pv 0) (pv 2) (pv 1)))))), ?_⟩
    walk_at "st"
    refine iteB (fun h => ?_) (fun h => ?_)
    · walk_at "st"
      rw [show (decide (a ≤ x ∧ x ≤ b)) = decide (x ≤ b) from decide_eq_decide.mpr ⟨fun z => z.2, fun z => ⟨dec_t h, z⟩⟩] at q
      exact q
    · rw [decide_eq_false (fun z => dec_f h z.1)] at q
      exact q

def sp_check_house (K : PySem.W.Frag) (C : Addr) : Sp := fun vs H Q E => ∃ s : Str, vs = [.str s] ∧ (¬ V.str s = V.str "" → Q .non H) ∧ (V.str s = V.str "" → E (.ref C) none H)
set_option maxHeartbeats 0 in
theorem ok_check_house (T : Txt K mg) : FnOk P w K mg base (L2.CX P w) 1 T.f_check_house T.d_check_house ["house"] (sp_check_house K T.c_InvalidOrder) := by
  refine T.F_check_house.okX sc_check_house (fun vs H Q E h => ?_) (fun cdv A outer s H vs Q E hr h => ?_)
  · obtain ⟨s, rfl, _⟩ := h
    rfl
  · obtain ⟨s, rfl, q, qe⟩ := h
    refine ⟨_, (pss_one (ps_if (pt_cmpR op_eq (pv 0) pe_str (nomark _))
      (pss_one (ps_raise rfl (takes_of rfl rfl rfl rfl) (pmk_own PySem.F.excBase_ValueError T.x_InvalidOrder T.m_InvalidOrder T.k_InvalidOrder (raises_own T.b_InvalidOrder T.t_InvalidOrder) (by rfl))))
      pss_nil)), ?_⟩
    walk_at "st"
    refine iteB (fun h => ?_) (fun h => ?_)
    · walk_at "st"
      exact qe (of_decide_eq_true h)
    · exact q (of_decide_eq_false h)
def sp_check_side (K : PySem.W.Frag) (C : Addr) : Sp := fun vs H Q E => ∃ s : Str, vs = [.str s] ∧ ((V.str s = V.str "buy" ∨ V.str s = V.str "sell") → Q .non H) ∧ (¬ (V.str s = V.str "buy" ∨ V.str s = V.str "sell") → E (.ref C) none H)
set_option maxHeartbeats 0 in
theorem ok_check_side (T : Txt K mg) : FnOk P w K mg base (L2.CX P w) 1 T.f_check_side T.d_check_side ["side"] (sp_check_side K T.c_InvalidOrder) := by
  refine T.F_check_side.okX sc_check_side (fun vs H Q E h => ?_) (fun cdv A outer s H vs Q E hr h => ?_)
  · obtain ⟨s, rfl, _⟩ := h
    rfl
  · obtain ⟨s, rfl, q, qe⟩ := h
    
    refine ⟨_, (pss_one (ps_if (pt_cmpR op_notIn_seq (pv 0) (pe_glob (v := .ref T.c_SIDES) rfl T.m_SIDES rfl) rfl)
      (pss_one (ps_raise rfl (takes_of rfl rfl rfl rfl) (pmk_own PySem.F.excBase_ValueError T.x_InvalidOrder T.m_InvalidOrder T.k_InvalidOrder (raises_own T.b_InvalidOrder T.t_InvalidOrder) (by rfl))))
      pss_nil)), ?_⟩
    have hq := T.q_SIDES H
    have hin : inV (V.str s) [.str "buy", .str "sell"] = true ↔ (V.str s = V.str "buy" ∨ V.str s = V.str "sell") := by
      unfold inV
      rw [List.any_cons, List.any_cons, List.any_nil, Bool.or_false, Bool.or_eq_true]
      have e : ∀ a b : Str, eqV (.str a) (.str b) = true ↔ V.str b = V.str a := fun a b => by
        show (a == b) = true ↔ _
        rw [beq_iff_eq]
        exact ⟨fun h => by rw [h], fun h => (V.str.inj h).symm⟩
      rw [e, e]
    walk_at "st"
    rw [if_pos (show true = true from rfl)]
    by_cases h : V.str s = V.str "buy" ∨ V.str s = V.str "sell"
    · rw [hin.mpr h]
      exact q h
    · rw [show inV (V.str s) [.str "buy", .str "sell"] = false from Bool.eq_false_iff.mpr fun e => h (hin.mp e)]
      exact qe h
def sp_check_number (K : PySem.W.Frag) (C : Addr) : Sp := fun vs H Q E => ∃ n a b : Int, vs = [.int n, .int a, .int b] ∧ (a ≤ n ∧ n ≤ b → Q .non H) ∧ (¬ (a ≤ n ∧ n ≤ b) → E (.ref C) none H)
set_option maxHeartbeats 0 in
theorem ok_check_number (T : Txt K mg) : FnOk P w K mg base (L2.CX P w) 3 T.f_check_number T.d_check_number ["number", "least", "most"] (sp_check_number K T.c_InvalidOrder) := by
  refine T.F_check_number.okX sc_check_number (fun vs H Q E h => ?_) (fun cdv A outer s H vs Q E hr h => ?_)
  · obtain ⟨n, a, b, rfl, _⟩ := h
    rfl
  · obtain ⟨n, a, b, rfl, q, qe⟩ := h
    have G_is_within : FnOk P w K mg base CX0 2 T.f_is_within T.d_is_within ["least", "most", "value"] (sp_is_within K) := ok_is_within T
    refine ⟨_, (pss_one (ps_if (pt_not (pt_val (pe_call G_is_within hr (by rfl) T.m_is_within T.F_is_within.kp T.b_is_within .nil pass0 (pa_cons (pv 1) (pa_cons (pv 2) (pa_cons (pv 0) pa_nil))))))
      (pss_one (ps_raise rfl (takes_of rfl rfl rfl rfl) (pmk_own PySem.F.excBase_ValueError T.x_InvalidOrder T.m_InvalidOrder T.k_InvalidOrder (raises_own T.b_InvalidOrder T.t_InvalidOrder) (by rfl))))
      pss_nil)), ?_⟩
    walk_at "st"
    by_cases h : a ≤ n ∧ n ≤ b
    · rw [decide_eq_true h]
      exact q h
    · rw [decide_eq_false h]
      exact qe h
def sp_check_price (K : PySem.W.Frag) (C : Addr) : Sp := fun vs H Q E => ∃ n : Int, vs = [.int n] ∧ (1 ≤ n ∧ n ≤ 1000000 → Q .non H) ∧ (¬ (1 ≤ n ∧ n ≤ 1000000) → E (.ref C) none H)
set_option maxHeartbeats 0 in
theorem ok_check_price (T : Txt K mg) : FnOk P w K mg base (L2.CX P w) 4 T.f_check_price T.d_check_price ["price"] (sp_check_price K T.c_InvalidOrder) := by
  refine T.F_check_price.okX sc_check_price (fun vs H Q E h => ?_) (fun cdv A outer s H vs Q E hr h => ?_)
  · obtain ⟨n, rfl, _⟩ := h
    rfl
  · obtain ⟨n, rfl, q, qe⟩ := h
    have G_check_number : FnOk P w K mg base (L2.CX P w) 3 T.f_check_number T.d_check_number ["number", "least", "most"] (sp_check_number K T.c_InvalidOrder) := ok_check_number T
    refine ⟨_, (pss_one (ps_expr (pe_callS G_check_number hr (by rfl) T.m_check_number T.F_check_number.kp T.b_check_number (fun σ => passAt (takes_of rfl rfl rfl rfl) σ) (pa_cons (pv 0) (pa_cons pe_int (pa_cons (pe_glob (v := .int 1000000) rfl T.m_MOST ⟨_, rfl⟩) pa_nil)))))), ?_⟩
    walk_at "st"
    exact fun h => qe h
def sp_check_quantity (K : PySem.W.Frag) (C : Addr) : Sp := fun vs H Q E => ∃ n : Int, vs = [.int n] ∧ (1 ≤ n ∧ n ≤ 1000000 → Q .non H) ∧ (¬ (1 ≤ n ∧ n ≤ 1000000) → E (.ref C) none H)
set_option maxHeartbeats 0 in
theorem ok_check_quantity (T : Txt K mg) : FnOk P w K mg base (L2.CX P w) 4 T.f_check_quantity T.d_check_quantity ["quantity"] (sp_check_quantity K T.c_InvalidOrder) := by
  refine T.F_check_quantity.okX sc_check_quantity (fun vs H Q E h => ?_) (fun cdv A outer s H vs Q E hr h => ?_)
  · obtain ⟨n, rfl, _⟩ := h
    rfl
  · obtain ⟨n, rfl, q, qe⟩ := h
    have G_check_number : FnOk P w K mg base (L2.CX P w) 3 T.f_check_number T.d_check_number ["number", "least", "most"] (sp_check_number K T.c_InvalidOrder) := ok_check_number T
    refine ⟨_, (pss_one (ps_expr (pe_callS G_check_number hr (by rfl) T.m_check_number T.F_check_number.kp T.b_check_number (fun σ => passAt (takes_of rfl rfl rfl rfl) σ) (pa_cons (pv 0) (pa_cons pe_int (pa_cons (pe_glob (v := .int 1000000) rfl T.m_MOST ⟨_, rfl⟩) pa_nil)))))), ?_⟩
    walk_at "st"
    exact fun h => qe h
def sp_check_order (K : PySem.W.Frag) (C : Addr) : Sp := fun vs H Q E => ∃ (ho si : Str) (pr : Option Int) (qu : Int) (kd : Str) (sh : Int), vs = [.str ho, .str si, optV pr, .int qu, .str kd, .int sh] ∧ (GoodOrd ho si pr qu kd sh → Q .non H) ∧ (¬ GoodOrd ho si pr qu kd sh → E (.ref C) none H)
set_option maxHeartbeats 0 in
theorem ok_check_order (T : Txt K mg) : FnOk P w K mg base (L2.CX P w) 5 T.f_check_order T.d_check_order ["house", "side", "price", "quantity", "kind", "shown"] (sp_check_order K T.c_InvalidOrder) := by
  refine T.F_check_order.okX sc_check_order (fun vs H Q E h => ?_) (fun cdv A outer s H vs Q E hr h => ?_)
  · obtain ⟨ho, si, pr, qu, kd, sh, rfl, _⟩ := h
    rfl
  · obtain ⟨ho, si, pr, qu, kd, sh, rfl, q, qe⟩ := h
    have G_check_house : FnOk P w K mg base (L2.CX P w) 1 T.f_check_house T.d_check_house ["house"] (sp_check_house K T.c_InvalidOrder) := ok_check_house T
    have G_check_side : FnOk P w K mg base (L2.CX P w) 1 T.f_check_side T.d_check_side ["side"] (sp_check_side K T.c_InvalidOrder) := ok_check_side T
    have G_check_quantity : FnOk P w K mg base (L2.CX P w) 4 T.f_check_quantity T.d_check_quantity ["quantity"] (sp_check_quantity K T.c_InvalidOrder) := ok_check_quantity T
    have G_check_number : FnOk P w K mg base (L2.CX P w) 3 T.f_check_number T.d_check_number ["number", "least", "most"] (sp_check_number K T.c_InvalidOrder) := ok_check_number T
    have G_check_price : FnOk P w K mg base (L2.CX P w) 4 T.f_check_price T.d_check_price ["price"] (sp_check_price K T.c_InvalidOrder) := ok_check_price T
    refine ⟨_, (pss_cons (ps_expr (pe_callS G_check_house (hr.mono (by decide)) (by rfl) T.m_check_house T.F_check_house.kp T.b_check_house (fun σ => passAt (takes_of rfl rfl rfl rfl) σ) (pa_cons (pv 0) pa_nil)))
    (pss_cons (ps_expr (pe_callS G_check_side (hr.mono (by decide)) (by rfl) T.m_check_side T.F_check_side.kp T.b_check_side (fun σ => passAt (takes_of rfl rfl rfl rfl) σ) (pa_cons (pv 1) pa_nil)))
    (pss_cons (ps_if (pt_cmpR op_notIn_seq (pv 4) (pe_glob (v := .ref T.c_KINDS) rfl T.m_KINDS rfl) rfl)
      (pss_one (ps_raise rfl (takes_of rfl rfl rfl rfl) (pmk_own PySem.F.excBase_ValueError T.x_InvalidOrder T.m_InvalidOrder T.k_InvalidOrder (raises_own T.b_InvalidOrder T.t_InvalidOrder) (by rfl))))
      pss_nil)
    (pss_cons (ps_if (pt_cmpR op_notN (pv 2) pe_non (nomark _))
      (pss_one (ps_expr (pe_callS G_check_price hr (by rfl) T.m_check_price T.F_check_price.kp T.b_check_price (fun σ => passAt (takes_of rfl rfl rfl rfl) σ) (pa_cons (pv 2) pa_nil))))
      (pss_one (ps_if (pt_cmpR op_eq (pv 4) pe_str (nomark _))
        (pss_one (ps_raise rfl (takes_of rfl rfl rfl rfl) (pmk_own PySem.F.excBase_ValueError T.x_InvalidOrder T.m_InvalidOrder T.k_InvalidOrder (raises_own T.b_InvalidOrder T.t_InvalidOrder) (by rfl))))
        pss_nil)))
    (pss_cons (ps_expr (pe_callS G_check_quantity hr (by rfl) T.m_check_quantity T.F_check_quantity.kp T.b_check_quantity (fun σ => passAt (takes_of rfl rfl rfl rfl) σ) (pa_cons (pv 3) pa_nil)))
    (pss_cons (ps_expr (pe_callS G_check_number (hr.mono (by decide)) (by rfl) T.m_check_number T.F_check_number.kp T.b_check_number (fun σ => passAt (takes_of rfl rfl rfl rfl) σ) (pa_cons (pv 5) (pa_cons pe_int (pa_cons (pv 3) pa_nil)))))
    (pss_one (ps_if (PW.pt (pw_and (pt_cmpR op_gt (pv 5) pe_int (nomark _)) (pw_and1 (pt_cmpR op_ne (pv 4) pe_str (nomark _)))))
      (pss_one (ps_raise rfl (takes_of rfl rfl rfl rfl) (pmk_own PySem.F.excBase_ValueError T.x_InvalidOrder T.m_InvalidOrder T.k_InvalidOrder (raises_own T.b_InvalidOrder T.t_InvalidOrder) (by rfl))))
      pss_nil)))))))), ?_⟩
    have hq := T.q_KINDS H
    have hin : inV (V.str kd) [.str "rest", .str "now", .str "all"] = true ↔ (V.str kd = V.str "rest" ∨ V.str kd = V.str "now" ∨ V.str kd = V.str "all") := by
      unfold inV
      rw [List.any_cons, List.any_cons, List.any_cons, List.any_nil, Bool.or_false, Bool.or_eq_true, Bool.or_eq_true]
      have e : ∀ a b : Str, eqV (.str a) (.str b) = true ↔ V.str b = V.str a := fun a b => by
        show (a == b) = true ↔ _
        rw [beq_iff_eq]
        exact ⟨fun h => by rw [h], fun h => (V.str.inj h).symm⟩
      rw [e, e, e]
    walk_at "st"
    refine ⟨fun h1 => ?_, fun h1 => qe fun g => g.h1 h1⟩
    walk_at "st"
    refine ⟨fun h2 => ?_, fun h2 => qe fun g => h2 g.h2⟩
    walk_at "st"
    rw [if_pos (show true = true from rfl)]
    by_cases h3 : V.str kd = V.str "rest" ∨ V.str kd = V.str "now" ∨ V.str kd = V.str "all"
    · rw [hin.mpr h3]
      cases pr with
      | none =>
        walk_at "st"
        refine iteD (fun h5 => qe fun g => g.h5 rfl h5) (fun h5 => ?_)
        walk_at "st"
        refine ⟨fun h6 => ?_, fun h6 => qe fun g => h6 g.h6⟩
        walk_at "st"
        refine ⟨fun h7 => ?_, fun h7 => qe fun g => h7 g.h7⟩
        walk_at "st"
        refine iteD (fun h8 => ?_) (fun h8 => ?_)
        · walk_at "st"
          refine iteDN (fun h9 => qe fun g => h9 (g.h8 h8)) (fun h9 => ?_)
          exact q ⟨h1, h2, h3, (fun p e => by cases e), fun _ => h5, h6, h7, fun _ => h9⟩
        · exact q ⟨h1, h2, h3, (fun p e => by cases e), fun _ => h5, h6, h7, fun z => absurd z h8⟩
      | some p =>
        walk_at "st"
        refine ⟨fun h4 => ?_, fun h4 => qe fun g => h4 (g.h4 p rfl)⟩
        walk_at "st"
        refine ⟨fun h6 => ?_, fun h6 => qe fun g => h6 g.h6⟩
        walk_at "st"
        refine ⟨fun h7 => ?_, fun h7 => qe fun g => h7 g.h7⟩
        walk_at "st"
        refine iteD (fun h8 => ?_) (fun h8 => ?_)
        · walk_at "st"
          refine iteDN (fun h9 => qe fun g => h9 (g.h8 h8)) (fun h9 => ?_)
          exact q ⟨h1, h2, h3, (fun y e => by obtain rfl := Option.some.inj e; exact h4), (fun e => by cases e), h6, h7, fun _ => h9⟩
        · exact q ⟨h1, h2, h3, (fun y e => by obtain rfl := Option.some.inj e; exact h4), (fun e => by cases e), h6, h7, fun z => absurd z h8⟩
    · rw [show inV (V.str kd) [.str "rest", .str "now", .str "all"] = false from Bool.eq_false_iff.mpr fun e => h3 (hin.mp e)]
      exact qe fun g => h3 g.h3

/-! ### an order is taken back -/
def sp_Bookorder_of (K : PySem.W.Frag) (CU CN CO CB CK : Addr) : Sp := fun vs H Q E => ∃ (x dx sd st b1 d1 l1 b2 d2 l2 : Addr) (last : Option Int) (next : Int) (es1 es2 : List Ent) (n : Int) (ho : Str), vs = [.ref x, .int n, .str ho] ∧ SidesAt CO CB CK H x dx sd st b1 d1 l1 b2 d2 l2 last next es1 es2 ∧
  (∀ e : Ent, withNum es1 es2 n = some e → e.2.2.house = ho → Q (.ref e.1) H) ∧ (withNum es1 es2 n = none → E (.ref CU) none H) ∧ (∀ e : Ent, withNum es1 es2 n = some e → e.2.2.house ≠ ho → E (.ref CN) none H)
theorem with_mem {es1 es2 : List Ent} {n : Int} {e : Ent} (h : withNum es1 es2 n = some e) : e.2.2.number = n ∧ (e ∈ es1 ∨ e ∈ es2) := by
  unfold withNum at h
  cases hf : es1.find? (fun e => decide (e.2.2.number = n)) with
  | some z =>
    rw [hf] at h
    have h2 : z = e := Option.some.inj h
    subst h2
    have hq := List.find?_some (p := fun e : Ent => decide (e.2.2.number = n)) hf
    exact ⟨of_decide_eq_true hq, .inl (List.mem_of_find?_eq_some hf)⟩
  | none =>
    rw [hf] at h
    have h2 : es2.find? (fun e => decide (e.2.2.number = n)) = some e := h
    have hq := List.find?_some (p := fun e : Ent => decide (e.2.2.number = n)) h2
    exact ⟨of_decide_eq_true hq, .inr (List.mem_of_find?_eq_some h2)⟩
set_option maxHeartbeats 0 in
theorem ok_Bookorder_of (T : Txt K mg) : FnOk P w K mg base (L2.CX P w) 3 T.f_Bookorder_of T.d_Bookorder_of ["self", "number", "house"] (sp_Bookorder_of K T.c_UnknownOrder T.c_NotOwner T.c_Order T.c_BookSide T.c_Book) := by
  refine T.F_Bookorder_of.okX sc_Bookorder_of (fun vs H Q E h => ?_) (fun cdv A outer s H vs Q E hr h => ?_)
  · obtain ⟨x, dx, sd, st, b1, d1, l1, b2, d2, l2, last, next, es1, es2, n, ho, rfl, _⟩ := h
    rfl
  · obtain ⟨x, dx, sd, st, b1, d1, l1, b2, d2, l2, last, next, es1, es2, n, ho, rfl, B, q, qu, qn⟩ := h
    have G_Bookorder_with : FnOk P w K mg base CX0 2 T.f_Bookorder_with T.d_Bookorder_with ["self", "number"] (sp_Bookorder_with K T.c_Order T.c_BookSide T.c_Book) := ok_Bookorder_with T
    refine ⟨_, (pss_cons (ps_set (i := 3) sc_Bookorder_of.nd rfl (Or.inl rfl) (pe_meth (pv 0) T.cl_Book T.mt_Bookorder_with G_Bookorder_with hr T.b_Bookorder_with .nil pass0 (pa_cons (pv 1) pa_nil)))
    (pss_cons (ps_if (pt_cmpR op_isN (pv 3) pe_non (nomark _))
      (pss_one (ps_raise rfl (takes_of rfl rfl rfl rfl) (pmk_own PySem.F.excBase_ValueError T.x_UnknownOrder T.m_UnknownOrder T.k_UnknownOrder (raises_own T.b_UnknownOrder T.t_UnknownOrder) (by rfl))))
      pss_nil)
    (pss_cons (ps_if (pt_cmpR op_ne (pe_fld (pv 3) rfl) (pv 2) (nomark _))
      (pss_one (ps_raise rfl (takes_of rfl rfl rfl rfl) (pmk_own PySem.F.excBase_ValueError T.x_NotOwner T.m_NotOwner T.k_NotOwner (raises_own T.b_NotOwner T.t_NotOwner) (by rfl))))
      pss_nil)
    (pss_one (ps_ret (pv 3)))))), ?_⟩
    have fact_BookSide_0 := T.cl_BookSide; have fact_BookSide_1 := T.na_BookSide__orders; have fact_Book_0 := T.cl_Book; have fact_Book_1 := T.na_Book_last; have fact_Book_2 := T.na_Book__next_number; have fact_Book_3 := T.na_Book__sides; have fact_Book_4 := T.na_Book__stops; have fact_Order_0 := T.cl_Order; have fact_Order_1 := T.na_Order_number; have fact_Order_2 := T.na_Order_house; have fact_Order_3 := T.na_Order_side; have fact_Order_4 := T.na_Order_price; have fact_Order_5 := T.na_Order_shown; have fact_Order_6 := T.na_Order_left; have fact_Order_7 := T.na_Order_visible
    have hob := B.ob
    unfold bookO at hob
    walk_at "st"
    refine ⟨last, next, es1, es2, n, rfl, B, ?_⟩
    cases hw : withNum es1 es2 n with
    | none =>
      walk_at "st"
      exact qu hw
    | some e =>
      have hen : H e.1 = some (ordO T.c_Order e.2.1 e.2.2) := (with_mem hw).2.elim (fun z => B.s1.en e z) fun z => B.s2.en e z
      unfold ordO at hen
      walk_at "st"
      refine iteB (fun h => ?_) (fun h => ?_)
      · walk_at "st"
        exact qn e hw fun z => dec_f (by simpa using h) (congrArg V.str z)
      · walk_at "st"
        exact q e hw (V.str.inj (dec_t (by simpa using h)))
/-- without the order at a -/
def dropE (a : Addr) (es : List Ent) : List Ent := es.filter fun y => decide (y.1 ≠ a)
theorem drop_mem {a : Addr} {es : List Ent} {y : Ent} (h : y ∈ dropE a es) : y ∈ es ∧ y.1 ≠ a := ⟨(List.mem_filter.mp h).1, of_decide_eq_true (List.mem_filter.mp h).2⟩
theorem drop_none {a : Addr} {es : List Ent} (h : ∀ y, y ∈ es → y.1 ≠ a) : dropE a es = es := List.filter_eq_self.mpr fun y hy => decide_eq_true (h y hy)
theorem drop_mid {pre post : List Ent} {e : Ent} (nd : ((pre ++ e :: post).map (·.1)).Nodup) : dropE e.1 (pre ++ e :: post) = pre ++ post := by
  rw [List.map_append, List.map_cons] at nd
  obtain ⟨_, n2, n3⟩ := List.nodup_append.mp nd
  have h1 : dropE e.1 pre = pre := drop_none fun y hy z => n3 _ (List.mem_map.mpr ⟨y, hy, rfl⟩) _ List.mem_cons_self z
  have h2 : dropE e.1 post = post := drop_none fun y hy z => (List.nodup_cons.mp n2).1 (List.mem_map.mpr ⟨y, hy, z⟩)
  unfold dropE at h1 h2 ⊢
  rw [List.filter_append, List.filter_cons, if_neg (by simp), h1, h2]
theorem Rank.sub {s : Str} {es es' : List Ent} (h : Rank s es) (hs : es'.Sublist es) : Rank s es' :=
  ⟨fun x hx => h.side x (hs.subset hx), fun x hx => h.price x (hs.subset hx), fun x hx => h.vis x (hs.subset hx), fun p => mono_iff.mpr ((mono_iff.mp (h.mono p)).sublist hs)⟩
theorem SideAt.drop {CO CB : Addr} {H : Hp} {b db l : Addr} {es : List Ent} (S : SideAt CO CB H b db l es) (a : Addr) : SideAt CO CB (L2.upd H l (.lst (refs (dropE a es)))) b db l (dropE a es) :=
  S.put (fun d hd => S.en d (drop_mem hd).1) ((List.filter_sublist.map _).nodup S.nd) (Nat.le_trans (List.length_filter_le _ _) S.sm)

/-! ### the commands of a book with waiting stops -/
def nxtS (s : BS) : BS := { s with next := s.next + 1 }
theorem BookW.setX {C : BC} {H : Hp} {a : BA} {s : BS} (B : BookW C H a s) (last : Option Int) (next : Int) : BookW C (upd H a.x (bookO C.CK a.dx last next a.sd a.st)) a { s with last := last, next := next } := by
  have hb := B.ob
  have ne : ∀ {z v}, H z = some v → (∀ C dx fs, v = .ins C dx fs → fs.length ≠ 4) → z ≠ a.x := fun {z v} h hv e => by
    rw [e, hb] at h
    cases h
    exact hv _ _ _ rfl rfl
  have nl : ∀ {z xs}, H z = some (.lst xs) → z ≠ a.x := fun h => ne h fun C dx fs e => by cases e
  have no : ∀ {z dx} {t : Ord}, H z = some (ordO C.CO dx t) → z ≠ a.x := fun h => ne h fun C dx fs e => by unfold ordO at e; cases e; exact (show (7 : Nat) ≠ 4 by decide)
  have nb : ∀ {z dx l}, H z = some (.ins C.CB dx [("_orders", .ref l)]) → z ≠ a.x := fun h => ne h fun C dx fs e => by cases e; exact (show (1 : Nat) ≠ 4 by decide)
  refine ⟨upd_same, (upd_ne (ne B.sd fun C dx fs e => by unfold sidesO at e; cases e)).trans B.sd, ⟨(upd_ne (nl B.sp.li)).trans B.sp.li, fun e he => (upd_ne (ne (B.sp.en e he) fun C dx fs e => by unfold stopO at e; cases e; exact (show (6 : Nat) ≠ 4 by decide))).trans (B.sp.en e he), B.sp.nd, B.sp.sm⟩,
    B.s1.upd (nb B.s1.ob) (nl B.s1.li) (fun e he => no (B.s1.en e he)), B.s2.upd (nb B.s2.ob) (nl B.s2.li) (fun e he => no (B.s2.en e he)), B.r1, B.r2, B.dj, B.nll, B.n1, B.n2, B.gs, B.sz⟩
theorem StepW.setX {a : BA} {s : BS} {H : Hp} {last : Option Int} {next : Int} {v : HO} : StepW a s { s with last := last, next := next } H (upd H a.x v) :=
  ⟨fun z w hz h => (upd_ne fun e => hz (foot_iff.mpr (.inl e))).trans h, fun z hz => .inl hz⟩
theorem RepAt.more {CR : Addr} {H : Hp} {F : List Addr} {p r : Addr} {t : RepT} (R : RepAt CR H F r t) (hp : H p = none) : RepAt CR H (p :: F) r t := by
  obtain ⟨dr, fl, rm, fs, h1, h2, h3, h4, h5⟩ := R
  refine ⟨dr, fl, rm, fs, h1, h2, h3, fun m => ?_, fun m => ?_⟩
  · rcases List.mem_cons.mp m with k | k
    · rw [← k, h2.lst] at hp; cases hp
    · exact h4 k
  · rcases List.mem_cons.mp m with k | k
    · rw [← k, h3] at hp; cases hp
    · exact h5 k
theorem RepAt.less {CR : Addr} {H : Hp} {F : List Addr} {p r : Addr} {t : RepT} (R : RepAt CR H (p :: F) r t) : RepAt CR H F r t := R.mono fun z hz => .inl (List.mem_cons_of_mem _ hz)
/-- the first report ahead of the others, in a new list -/
theorem reps_cons {CR : Addr} {H : Hp} {F : List Addr} {p r : Addr} {rs : List Addr} {reps : List RepT} {t : RepT} (hp : H p = none) (hpF : p ∉ F) (hr : RepAt CR H F r t) (hl : rs.length = reps.length) (hs : ∀ (i : Nat) (q : Addr) (y : RepT), rs[i]? = some q → reps[i]? = some y → RepAt CR H F q y) :
    RepsAt CR (upd H p (.lst ([.ref r] ++ rs.map V.ref))) F p (t :: reps) := by
  refine ⟨r :: rs, upd_same, hpF, by rw [List.length_cons, List.length_cons, hl], fun i q y hq hy => ?_⟩
  cases i with
  | zero =>
    rw [List.getElem?_cons_zero] at hq hy
    cases hq
    cases hy
    exact (hr.more hp).same (same_upd hp)
  | succ i =>
    rw [List.getElem?_cons_succ] at hq hy
    exact ((hs i q y hq hy).more hp).same (same_upd hp)
theorem trigS_len {s s' : BS} {reps : List RepT} (h : TrigS s s' reps) : reps.length + s'.ss.length ≤ s.ss.length := by
  induction h with
  | nil => exact Nat.le_of_eq (Nat.zero_add _)
  | snoc o dxo h hf ih =>
    have h1 := dropS_len (firstS_mem hf).1
    rw [List.length_append, List.length_singleton]
    show _ + 1 + (dropS _ _).length ≤ _
    omega
def newO (s : BS) (ho si : Str) (pr : Option Int) (qu sh : Int) : Ord := ⟨s.next, ho, si, pr, sh, qu, 0⟩
def sp_Book_submit (K : PySem.W.Frag) (CI CO CB CK CS CR : Addr) : Sp := fun vs H Q E => ∃ (a : BA) (s : BS) (ho si : Str) (pr : Option Int) (qu : Int) (kd : Str) (sh : Int), vs = [.ref a.x, .str ho, .str si, optV pr, .int qu, .str kd, .int sh] ∧ BookW ⟨CO, CB, CK, CS, CR⟩ H a s ∧ s.es1.length + s.es2.length + s.ss.length ≤ 899 ∧
  (GoodOrd ho si pr qu kd sh → ∀ s' reps p o dxo H', TrigS (enterB (nxtS s) o dxo (newO s ho si pr qu sh) kd).1 s' reps → firstS s'.last s'.ss = none → BookW ⟨CO, CB, CK, CS, CR⟩ H' a s' → StepW a s s' H H' → RepsAt CR H' (foot a s') p ((enterB (nxtS s) o dxo (newO s ho si pr qu sh) kd).2 :: reps) → Q (.ref p) H') ∧
  (¬ GoodOrd ho si pr qu kd sh → E (.ref CI) none H)
set_option maxHeartbeats 0 in
theorem ok_Book_submit (T : Txt K mg) : FnOk P w K mg base (L2.CX P w) 8 T.f_Book_submit T.d_Book_submit ["self", "house", "side", "price", "quantity", "kind", "shown"] (sp_Book_submit K T.c_InvalidOrder T.c_Order T.c_BookSide T.c_Book T.c_Stop T.c_Report) := by
  refine T.F_Book_submit.ok sc_Book_submit (fun vs H Q E h => ?_) (fun cdv A outer s H vs Q E hr h => ?_)
  · obtain ⟨a, s, ho, si, pr, qu, kd, sh, rfl, _⟩ := h
    rfl
  · obtain ⟨a, s, ho, si, pr, qu, kd, sh, rfl, B, hsz, q, qe⟩ := h
    have G_check_order : FnOk P w K mg base (L2.CX P w) 5 T.f_check_order T.d_check_order ["house", "side", "price", "quantity", "kind", "shown"] (sp_check_order K T.c_InvalidOrder) := ok_check_order T
    have G_Order_init : FnOk P w K mg base CX0 1 T.f_Order_init T.d_Order_init ["self", "number", "house", "side", "price", "quantity", "shown"] (sp_Order_init K T.c_Order) := ok_Order_init T
    have G_Bookenter : FnOk P w K mg base CX0 6 T.f_Bookenter T.d_Bookenter ["self", "order", "kind"] (sp_Bookenter K T.c_Order T.c_BookSide T.c_Book T.c_Report) := ok_Bookenter T
    have G_Booktake_number : FnOk P w K mg base CX0 1 T.f_Booktake_number T.d_Booktake_number ["self"] (sp_Booktake_number K T.c_Order T.c_BookSide T.c_Book) := ok_Booktake_number T
    have G_Booktrigger_stops : FnOk P w K mg base CX0 7 T.f_Booktrigger_stops T.d_Booktrigger_stops ["self"] (sp_Booktrigger_stops K T.c_Order T.c_BookSide T.c_Book T.c_Stop T.c_Report) := ok_Booktrigger_stops T
    refine ⟨_, (pss_cons (ps_expr (pe_callS G_check_order (hr.mono (by decide)) (by rfl) T.m_check_order T.F_check_order.kp T.b_check_order (fun σ => passAt (takes_of rfl rfl rfl rfl) σ) (pa_cons (pv 1) (pa_cons (pv 2) (pa_cons (pv 3) (pa_cons (pv 4) (pa_cons (pv 5) (pa_cons (pv 6) pa_nil))))))))
    (pss_cons (ps_set (i := 7) sc_Book_submit.nd rfl (Or.inl rfl) (pe_make T.mk_Order G_Order_init (hr.mono (by decide)) (by rfl) T.m_Order T.b_Order_init .nil pass0 (pa_cons (pe_meth0 (pv 0) T.cl_Book T.mt_Booktake_number G_Booktake_number (hr.mono (by decide)) T.b_Booktake_number .nil pass0) (pa_cons (pv 1) (pa_cons (pv 2) (pa_cons (pv 3) (pa_cons (pv 4) (pa_cons (pv 6) pa_nil))))))))
    (pss_cons (ps_set (i := 8) sc_Book_submit.nd rfl (Or.inl rfl) (pe_meth (pv 0) T.cl_Book T.mt_Bookenter G_Bookenter (hr.mono (by decide)) T.b_Bookenter .nil pass0 (pa_cons (pv 7) (pa_cons (pv 5) pa_nil))))
    (pss_one (ps_ret (pe_op op_cat (pe_lst (pa_cons (pv 8) pa_nil)) (pe_meth0 (pv 0) T.cl_Book T.mt_Booktrigger_stops G_Booktrigger_stops hr T.b_Booktrigger_stops .nil pass0))))))), ?_⟩
    have fact_BookSide_0 := T.cl_BookSide; have fact_BookSide_1 := T.na_BookSide__orders; have fact_Book_0 := T.cl_Book; have fact_Book_1 := T.na_Book_last; have fact_Book_2 := T.na_Book__next_number; have fact_Book_3 := T.na_Book__sides; have fact_Book_4 := T.na_Book__stops; have fact_Order_0 := T.cl_Order; have fact_Order_1 := T.na_Order_number; have fact_Order_2 := T.na_Order_house; have fact_Order_3 := T.na_Order_side; have fact_Order_4 := T.na_Order_price; have fact_Order_5 := T.na_Order_shown; have fact_Order_6 := T.na_Order_left; have fact_Order_7 := T.na_Order_visible; have fact_Report_0 := T.cl_Report; have fact_Report_1 := T.na_Report_number; have fact_Report_2 := T.na_Report_house; have fact_Report_3 := T.na_Report_side; have fact_Report_4 := T.na_Report_fills; have fact_Report_5 := T.na_Report_removed; have fact_Report_6 := T.na_Report_resting
    have hob := B.ob
    have hob2 := hob
    unfold bookO at hob2
    walk_at "st"
    refine ⟨pr, qu, kd, sh, rfl, fun G => ?_, fun h => qe h⟩
    walk_at "st"
    refine ⟨s.last, s.next, rfl, hob, ?_⟩
    have B1 := B.setX s.last (s.next + 1)
    have S1 : StepW a s (nxtS s) H (upd H a.x (bookO T.c_Book a.dx s.last (s.next + 1) a.sd a.st)) := StepW.setX
    generalize upd H a.x _ = H1 at *
    have B1 : BookW ⟨T.c_Order, T.c_BookSide, T.c_Book, T.c_Stop, T.c_Report⟩ H1 a (nxtS s) := B1
    have hob3 := B1.ob
    walk_at "st"
    intro o dxo no ndo hne
    have no' : upd H1 dxo (.own o) o = none := by
      first
        | (rw [upd_ne hne]; exact no)
        | (rw [upd_ne (Ne.symm hne)]; exact no)
    refine ⟨o, dxo, s.next, ho, si, pr, qu, sh, rfl, upd_same, ?_⟩
    rw [upd_upd]
    refine ⟨rfl, ?_⟩
    have so2 : ∀ v, Same H1 (upd (upd H1 dxo (.own o)) o v) := fun v => (same_upd ndo).trans (same_upd no')
    generalize hH2 : upd (upd H1 dxo _) o _ = H2
    have s2 : Same H1 H2 := hH2 ▸ so2 _
    have hoo : H2 o = some (ordO T.c_Order dxo (newO s ho si pr qu sh)) := (congrFun hH2 o).symm.trans upd_same
    have B2 := B1.same s2
    have hob4 := s2 _ _ hob3
    unfold bookO at hob4
    have hkp : V.str kd = V.str "rest" → ∃ p, pr = some p := fun z => by
      cases pr with
      | none => exact absurd z (G.h5 rfl)
      | some p => exact ⟨p, rfl⟩
    walk_at "st"
    delta tNil
    refine enter_w (K := K) (E := E0) (C := ⟨T.c_Order, T.c_BookSide, T.c_Book, T.c_Stop, T.c_Report⟩) (a := a) (s := nxtS s) (dxo := dxo) (t := newO s ho si pr qu sh) (kd := kd) B2 (G.h2.imp V.str.inj V.str.inj) hoo (B1.fresh no) G.h6.1 G.h6.2 G.h7.1 hkp hsz ?_
    intro r H3 nr hR B3 fr3 nw3
    have p23 : StepW a (nxtS s) (enterB (nxtS s) o dxo (newO s ho si pr qu sh) kd).1 H1 H3 := by
      refine ⟨fun z v hz h => fr3 z v hz (fun q => by rw [q, no] at h; cases h) (s2 _ _ h), fun z hz => ?_⟩
      rcases nw3 z hz with k | k
      · exact .inl k
      · exact .inr (by rw [k]; exact no)
    have hR3 := hR (foot a (enterB (nxtS s) o dxo (newO s ho si pr qu sh) kd).1) fun z hz => .inl hz
    have hob5 := B3.ob
    unfold bookO at hob5
    walk_at "st"
    intro p1 np1
    generalize hH4 : upd H3 p1 _ = H4
    have s4 : Same H3 H4 := hH4 ▸ same_upd np1
    have hp1 := (congrFun hH4 p1).symm.trans upd_same
    have B4 := B3.same s4
    have fp1 := B3.fresh np1
    have hob6 := B4.ob
    unfold bookO at hob6
    walk_at "st"
    refine ⟨a, _, rfl, B4, fun s' reps D H5 hT hf B5 S5 nD hReps => ?_⟩
    obtain ⟨rs, hD5, fD5, hlr, hreps⟩ := hReps
    have hp5 := S5.fr _ _ fp1 hp1
    have hlen : rs.length ≤ 900 := by
      have h1 := trigS_len hT
      have h2 := B4.sp.sm
      omega
    refine ⟨p1, D, [.ref r], rs.map V.ref, rfl, rfl, hp5, hD5, Nat.le_of_lt (small1000 (by show 1 + _ ≤ 1000; rw [List.length_map]; omega)), fun p np => ?_⟩
    · have S05 := ((S1.trans p23).post s4).trans S5
      refine q G s' reps p o dxo _ hT hf (B5.same (same_upd np)) (S05.post (same_upd np)) ?_
      exact reps_cons np (B5.fresh np) ((hR3.same s4).step (C := ⟨T.c_Order, T.c_BookSide, T.c_Book, T.c_Stop, T.c_Report⟩) B4 S5) hlr fun i q y h1 h2 => (hreps i q y h1 h2).less
/-- what makes a stop order -/
structure GoodStp (ho si : Str) (tr : Int) (pr : Option Int) (qu : Int) : Prop where
  h1 : ¬ V.str ho = V.str ""
  h2 : V.str si = V.str "buy" ∨ V.str si = V.str "sell"
  h3 : 1 ≤ tr ∧ tr ≤ 1000000
  h4 : ∀ p, pr = some p → 1 ≤ p ∧ p ≤ 1000000
  h6 : 1 ≤ qu ∧ qu ≤ 1000000
def sp_check_stop (K : PySem.W.Frag) (C : Addr) : Sp := fun vs H Q E => ∃ (ho si : Str) (tr : Int) (pr : Option Int) (qu : Int), vs = [.str ho, .str si, .int tr, optV pr, .int qu] ∧ (GoodStp ho si tr pr qu → Q .non H) ∧ (¬ GoodStp ho si tr pr qu → E (.ref C) none H)
set_option maxHeartbeats 0 in
theorem ok_check_stop (T : Txt K mg) : FnOk P w K mg base (L2.CX P w) 5 T.f_check_stop T.d_check_stop ["house", "side", "trigger", "price", "quantity"] (sp_check_stop K T.c_InvalidOrder) := by
  refine T.F_check_stop.okX sc_check_stop (fun vs H Q E h => ?_) (fun cdv A outer s H vs Q E hr h => ?_)
  · obtain ⟨ho, si, tr, pr, qu, rfl, _⟩ := h
    rfl
  · obtain ⟨ho, si, tr, pr, qu, rfl, q, qe⟩ := h
    have G_check_house : FnOk P w K mg base (L2.CX P w) 1 T.f_check_house T.d_check_house ["house"] (sp_check_house K T.c_InvalidOrder) := ok_check_house T
    have G_check_side : FnOk P w K mg base (L2.CX P w) 1 T.f_check_side T.d_check_side ["side"] (sp_check_side K T.c_InvalidOrder) := ok_check_side T
    have G_check_price : FnOk P w K mg base (L2.CX P w) 4 T.f_check_price T.d_check_price ["price"] (sp_check_price K T.c_InvalidOrder) := ok_check_price T
    have G_check_quantity : FnOk P w K mg base (L2.CX P w) 4 T.f_check_quantity T.d_check_quantity ["quantity"] (sp_check_quantity K T.c_InvalidOrder) := ok_check_quantity T
    refine ⟨_, (pss_cons (ps_expr (pe_callS G_check_house (hr.mono (by decide)) (by rfl) T.m_check_house T.F_check_house.kp T.b_check_house (fun σ => passAt (takes_of rfl rfl rfl rfl) σ) (pa_cons (pv 0) pa_nil)))
    (pss_cons (ps_expr (pe_callS G_check_side (hr.mono (by decide)) (by rfl) T.m_check_side T.F_check_side.kp T.b_check_side (fun σ => passAt (takes_of rfl rfl rfl rfl) σ) (pa_cons (pv 1) pa_nil)))
    (pss_cons (ps_expr (pe_callS G_check_price hr (by rfl) T.m_check_price T.F_check_price.kp T.b_check_price (fun σ => passAt (takes_of rfl rfl rfl rfl) σ) (pa_cons (pv 2) pa_nil)))
    (pss_cons (ps_if (pt_cmpR op_notN (pv 3) pe_non (nomark _))
      (pss_one (ps_expr (pe_callS G_check_price hr (by rfl) T.m_check_price T.F_check_price.kp T.b_check_price (fun σ => passAt (takes_of rfl rfl rfl rfl) σ) (pa_cons (pv 3) pa_nil))))
      pss_nil)
    (pss_one (ps_expr (pe_callS G_check_quantity hr (by rfl) T.m_check_quantity T.F_check_quantity.kp T.b_check_quantity (fun σ => passAt (takes_of rfl rfl rfl rfl) σ) (pa_cons (pv 4) pa_nil)))))))), ?_⟩
    walk_at "st"
    refine ⟨fun h1 => ?_, fun h1 => qe fun G => G.h1 h1⟩
    walk_at "st"
    refine ⟨fun h2 => ?_, fun h2 => qe fun G => h2 G.h2⟩
    walk_at "st"
    refine ⟨fun h3 => ?_, fun h3 => qe fun G => h3 G.h3⟩
    cases pr with
    | none =>
      walk_at "st"
      refine ⟨fun h6 => ?_, fun h6 => qe fun G => h6 G.h6⟩
      exact q ⟨h1, h2, h3, (fun p hp => by cases hp), h6⟩
    | some p =>
      walk_at "st"
      refine ⟨fun h4 => ?_, fun h4 => qe fun G => h4 (G.h4 p rfl)⟩
      walk_at "st"
      refine ⟨fun h6 => ?_, fun h6 => qe fun G => h6 G.h6⟩
      exact q ⟨h1, h2, h3, (fun p' hp => by cases hp; exact h4), h6⟩
def newS (s : BS) (q dq : Addr) (ho si : Str) (tr : Int) (pr : Option Int) (qu : Int) : BS := { nxtS s with ss := s.ss ++ [(q, dq, ⟨s.next, ho, si, tr, pr, qu⟩)] }
def sp_Book_submit_stop (K : PySem.W.Frag) (CI CO CB CK CS CR : Addr) : Sp := fun vs H Q E => ∃ (a : BA) (s : BS) (ho si : Str) (tr : Int) (pr : Option Int) (qu : Int), vs = [.ref a.x, .str ho, .str si, .int tr, optV pr, .int qu] ∧ BookW ⟨CO, CB, CK, CS, CR⟩ H a s ∧ s.es1.length + s.es2.length + s.ss.length ≤ 899 ∧
  (GoodStp ho si tr pr qu → ∀ s' reps p y dy H', ((newS s y dy ho si tr pr qu).ss.map (·.1)).Nodup → TrigS (newS s y dy ho si tr pr qu) s' reps → firstS s'.last s'.ss = none → BookW ⟨CO, CB, CK, CS, CR⟩ H' a s' → StepW a s s' H H' → RepsAt CR H' (foot a s') p (⟨s.next, ho, si, [], [], 0⟩ :: reps) → Q (.ref p) H') ∧
  (¬ GoodStp ho si tr pr qu → E (.ref CI) none H)
set_option maxHeartbeats 0 in
theorem ok_Book_submit_stop (T : Txt K mg) : FnOk P w K mg base (L2.CX P w) 8 T.f_Book_submit_stop T.d_Book_submit_stop ["self", "house", "side", "trigger", "price", "quantity"] (sp_Book_submit_stop K T.c_InvalidOrder T.c_Order T.c_BookSide T.c_Book T.c_Stop T.c_Report) := by
  refine T.F_Book_submit_stop.okX sc_Book_submit_stop (fun vs H Q E h => ?_) (fun cdv A outer s H vs Q E hr h => ?_)
  · obtain ⟨a, s, ho, si, tr, pr, qu, rfl, _⟩ := h
    rfl
  · obtain ⟨a, s, ho, si, tr, pr, qu, rfl, B, hsz, q, qe⟩ := h
    have G_check_stop : FnOk P w K mg base (L2.CX P w) 5 T.f_check_stop T.d_check_stop ["house", "side", "trigger", "price", "quantity"] (sp_check_stop K T.c_InvalidOrder) := ok_check_stop T
    have G_Stop_init : FnOk P w K mg base CX0 1 T.f_Stop_init T.d_Stop_init ["self", "number", "house", "side", "trigger", "price", "quantity"] (sp_Stop_init K T.c_Stop) := ok_Stop_init T
    have G_Booktake_number : FnOk P w K mg base CX0 1 T.f_Booktake_number T.d_Booktake_number ["self"] (sp_Booktake_number K T.c_Order T.c_BookSide T.c_Book) := ok_Booktake_number T
    have G_Booktrigger_stops : FnOk P w K mg base CX0 7 T.f_Booktrigger_stops T.d_Booktrigger_stops ["self"] (sp_Booktrigger_stops K T.c_Order T.c_BookSide T.c_Book T.c_Stop T.c_Report) := ok_Booktrigger_stops T
    have G_Report_init : FnOk P w K mg base CX0 1 T.f_Report_init T.d_Report_init ["self", "number", "house", "side"] (sp_Report_init K T.c_Report) := ok_Report_init T
    refine ⟨_, (pss_cons (ps_expr (pe_callS G_check_stop (hr.mono (by decide)) (by rfl) T.m_check_stop T.F_check_stop.kp T.b_check_stop (fun σ => passAt (takes_of rfl rfl rfl rfl) σ) (pa_cons (pv 1) (pa_cons (pv 2) (pa_cons (pv 3) (pa_cons (pv 4) (pa_cons (pv 5) pa_nil)))))))
    (pss_cons (ps_set (i := 6) sc_Book_submit_stop.nd rfl (Or.inl rfl) (pe_make T.mk_Stop G_Stop_init (hr.mono (by decide)) (by rfl) T.m_Stop T.b_Stop_init .nil pass0 (pa_cons (pe_meth0 (pv 0) T.cl_Book T.mt_Booktake_number G_Booktake_number (hr.mono (by decide)) T.b_Booktake_number .nil pass0) (pa_cons (pv 1) (pa_cons (pv 2) (pa_cons (pv 3) (pa_cons (pv 4) (pa_cons (pv 5) pa_nil))))))))
    (pss_cons (ps_expr (pe_bm PySem.F.plainAttrs_list PySem.F.slot_list_append PySem.F.type_list_append mt_append (pe_fld (pv 0) rfl) (pa_cons (pv 6) pa_nil)))
    (pss_one (ps_ret (pe_op op_cat (pe_lst (pa_cons (pe_make T.mk_Report G_Report_init (hr.mono (by decide)) (by rfl) T.m_Report T.b_Report_init .nil pass0 (pa_cons (pe_fld (pv 6) rfl) (pa_cons (pv 1) (pa_cons (pv 2) pa_nil)))) pa_nil)) (pe_meth0 (pv 0) T.cl_Book T.mt_Booktrigger_stops G_Booktrigger_stops hr T.b_Booktrigger_stops .nil pass0))))))), ?_⟩
    have fact_BookSide_0 := T.cl_BookSide; have fact_BookSide_1 := T.na_BookSide__orders; have fact_Book_0 := T.cl_Book; have fact_Book_1 := T.na_Book_last; have fact_Book_2 := T.na_Book__next_number; have fact_Book_3 := T.na_Book__sides; have fact_Book_4 := T.na_Book__stops; have fact_Order_0 := T.cl_Order; have fact_Order_1 := T.na_Order_number; have fact_Order_2 := T.na_Order_house; have fact_Order_3 := T.na_Order_side; have fact_Order_4 := T.na_Order_price; have fact_Order_5 := T.na_Order_shown; have fact_Order_6 := T.na_Order_left; have fact_Order_7 := T.na_Order_visible; have fact_Report_0 := T.cl_Report; have fact_Report_1 := T.na_Report_number; have fact_Report_2 := T.na_Report_house; have fact_Report_3 := T.na_Report_side; have fact_Report_4 := T.na_Report_fills; have fact_Report_5 := T.na_Report_removed; have fact_Report_6 := T.na_Report_resting; have fact_Stop_0 := T.cl_Stop; have fact_Stop_1 := T.na_Stop_number; have fact_Stop_2 := T.na_Stop_house; have fact_Stop_3 := T.na_Stop_side; have fact_Stop_4 := T.na_Stop_trigger; have fact_Stop_5 := T.na_Stop_price; have fact_Stop_6 := T.na_Stop_quantity
    have hob := B.ob
    have hob2 := hob
    unfold bookO at hob2
    walk_at "st"
    refine ⟨pr, qu, rfl, fun G => ?_, fun h => qe h⟩
    walk_at "st"
    refine ⟨s.last, s.next, rfl, hob, ?_⟩
    have B1 := B.setX s.last (s.next + 1)
    have S1 : StepW a s (nxtS s) H (upd H a.x (bookO T.c_Book a.dx s.last (s.next + 1) a.sd a.st)) := StepW.setX
    generalize upd H a.x _ = H1 at *
    have B1 : BookW ⟨T.c_Order, T.c_BookSide, T.c_Book, T.c_Stop, T.c_Report⟩ H1 a (nxtS s) := B1
    have hob3 := B1.ob
    walk_at "st"
    intro y dy no ndo hne
    have no' : upd H1 dy (.own y) y = none := by
      first
        | (rw [upd_ne hne]; exact no)
        | (rw [upd_ne (Ne.symm hne)]; exact no)
    refine ⟨y, dy, s.next, ho, si, tr, pr, qu, rfl, upd_same, ?_⟩
    rw [upd_upd]
    refine ⟨rfl, ?_⟩
    have so2 : ∀ v, Same H1 (upd (upd H1 dy (.own y)) y v) := fun v => (same_upd ndo).trans (same_upd no')
    generalize hH2 : upd (upd H1 dy _) y _ = H2
    have s2 : Same H1 H2 := hH2 ▸ so2 _
    have hyy : H2 y = some (stopO T.c_Stop dy ⟨s.next, ho, si, tr, pr, qu⟩) := (congrFun hH2 y).symm.trans upd_same
    have B2 := B1.same s2
    have hob4 := B2.ob
    unfold bookO at hob4
    have hst2 := B2.sp.li
    have hy2 := hyy
    unfold stopO at hy2
    have hsm : (refsS (nxtS s).ss).length < sizeLine := by
      unfold refsS
      rw [List.length_map]
      exact small1000 (by show s.ss.length ≤ 1000; omega)
    have nys : y ≠ a.st := fun z => by rw [z, hst2] at hyy; unfold stopO at hyy; cases hyy
    have hy3 : upd H2 a.st (.lst (refsS (nxtS s).ss ++ [.ref y])) y = _ := (upd_ne nys).trans hy2
    have B3 : BookW ⟨T.c_Order, T.c_BookSide, T.c_Book, T.c_Stop, T.c_Report⟩ (upd H2 a.st (.lst (refsS (newS s y dy ho si tr pr qu).ss))) a (newS s y dy ho si tr pr qu) := by
      refine B2.put (fun e he => ?_) ?_ (fun e he => ?_) ?_
      · rcases List.mem_append.mp he with h | h
        · exact B2.sp.en e h
        · rw [List.mem_singleton.mp h]
          exact hyy
      · show ((s.ss ++ [((y, dy, ⟨s.next, ho, si, tr, pr, qu⟩) : EntS)]).map (·.1)).Nodup
        rw [List.map_append]
        refine List.nodup_append.mpr ⟨B.sp.nd, List.nodup_cons.mpr ⟨List.not_mem_nil, List.nodup_nil⟩, fun u hu v hv e => ?_⟩
        rw [List.mem_singleton.mp hv] at e
        obtain ⟨z, hz, rfl⟩ := List.mem_map.mp hu
        have := B1.sp.en z hz
        rw [e, no] at this
        cases this
      · rcases List.mem_append.mp he with h | h
        · exact B.gs e h
        · rw [List.mem_singleton.mp h]
          exact ⟨G.h2.imp V.str.inj V.str.inj, G.h6⟩
      · show s.es1.length + s.es2.length + (s.ss ++ [_]).length ≤ 900
        rw [List.length_append, List.length_singleton]
        omega
    have S3 : StepW a (nxtS s) (newS s y dy ho si tr pr qu) H2 (upd H2 a.st (.lst (refsS (newS s y dy ho si tr pr qu).ss))) := StepW.put
    have eL : refsS (nxtS s).ss ++ [V.ref y] = refsS (newS s y dy ho si tr pr qu).ss := by
      show refsS s.ss ++ [V.ref y] = refsS (s.ss ++ [_])
      unfold refsS
      rw [List.map_append]
      rfl
    walk_at "st"
    rw [eL]
    generalize hH3 : upd H2 a.st (.lst (refsS (newS s y dy ho si tr pr qu).ss)) = H3 at *
    have hob5 := B3.ob
    unfold bookO at hob5
    intro r dr nr ndr hne
    have nr' : upd H3 dr (.own r) r = none := by
      first
        | (rw [upd_ne hne]; exact nr)
        | (rw [upd_ne (Ne.symm hne)]; exact nr)
    have sx : Same H3 (upd (upd H3 dr (.own r)) r (.ins T.c_Report dr [])) := (same_upd ndr).trans (same_upd nr')
    refine ⟨r, dr, s.next, ho, si, rfl, upd_same, fun fl rm H4 kx hr hfl hrm nfl nrm hfr => ?_⟩
    have e1 : Same H3 H4 := fun z v hz => kx z v (ne_of_none hz nr) (sx z v hz)
    have fresh0 : ∀ {z : Addr}, upd (upd H3 dr (.own r)) r (.ins T.c_Report dr []) z = none → H3 z = none := fun {z} hz => by
      cases hh : H3 z with
      | none => rfl
      | some v =>
        have := sx z v hh
        rw [hz] at this
        cases this
    refine ⟨rfl, ?_⟩
    have B4 := B3.same e1
    have hR4 : RepAt T.c_Report H4 (foot a (newS s y dy ho si tr pr qu)) r ⟨s.next, ho, si, [], [], 0⟩ := ⟨dr, fl, rm, [], hr, Tups.nil hfl, hrm, B3.fresh (fresh0 nfl), B3.fresh (fresh0 nrm)⟩
    have hob6 := B4.ob
    unfold bookO at hob6
    have p14 : StepW a (nxtS s) (newS s y dy ho si tr pr qu) H1 H4 := (S3.pre s2).post e1
    walk_at "st"
    intro p1 np1
    generalize hH5 : upd H4 p1 _ = H5
    have s5 : Same H4 H5 := hH5 ▸ same_upd np1
    have hp1 := (congrFun hH5 p1).symm.trans upd_same
    have B5 := B4.same s5
    have fp1 := B4.fresh np1
    have hob7 := B5.ob
    unfold bookO at hob7
    walk_at "st"
    refine ⟨a, _, rfl, B5, fun s' reps D H6 hT hf B6 S6 nD hReps => ?_⟩
    obtain ⟨rs, hD6, fD6, hlr, hreps⟩ := hReps
    have hp6 := S6.fr _ _ fp1 hp1
    have hlen : rs.length ≤ 900 := by
      have h1 := trigS_len hT
      have h2 := B5.sp.sm
      omega
    refine ⟨p1, D, [.ref r], rs.map V.ref, rfl, rfl, hp6, hD6, Nat.le_of_lt (small1000 (by show 1 + _ ≤ 1000; rw [List.length_map]; omega)), fun p np => ?_⟩
    have S06 := ((S1.trans p14).post s5).trans S6
    refine q G s' reps p y dy _ B3.sp.nd hT hf (B6.same (same_upd np)) (S06.post (same_upd np)) ?_
    exact reps_cons np (B6.fresh np) ((hR4.same s5).step (C := ⟨T.c_Order, T.c_BookSide, T.c_Book, T.c_Stop, T.c_Report⟩) B5 S6) hlr fun i q y h1 h2 => (hreps i q y h1 h2).less

/-! ### orders and stop orders are taken back, orders are amended -/
def offO (s : BS) (z : Addr) : BS := { s with es1 := dropE z s.es1, es2 := dropE z s.es2 }
theorem BookW.sides {C : BC} {H : Hp} {a : BA} {s : BS} (B : BookW C H a s) : SidesAt C.CO C.CB C.CK H a.x a.dx a.sd a.st a.b1 a.d1 a.l1 a.b2 a.d2 a.l2 s.last s.next s.es1 s.es2 := ⟨B.ob, B.sd, B.s1, B.s2⟩
theorem drop_len (z : Addr) (es : List Ent) : (dropE z es).length ≤ es.length := List.length_filter_le _ _
theorem drop_less {e : Ent} {es : List Ent} (h : e ∈ es) : (dropE e.1 es).length + 1 ≤ es.length :=
  List.length_filter_lt_length_iff_exists (p := fun y : Ent => decide (y.1 ≠ e.1)) (l := es) |>.mpr ⟨e, h, by simp⟩
theorem BookW.drop1 {C : BC} {H : Hp} {a : BA} {s : BS} (B : BookW C H a s) {e : Ent} (he : e ∈ s.es1) : BookW C (upd H a.l1 (.lst (refs (dropE e.1 s.es1)))) a (offO s e.1) := by
  have h2 : dropE e.1 s.es2 = s.es2 := drop_none fun y hy z => B.dj e he y hy z.symm
  have hl := B.s1.li
  have ne : ∀ {z v}, H z = some v → (∀ xs, v ≠ .lst xs) → z ≠ a.l1 := fun {z v} h hv q => by
    rw [q, hl] at h
    cases h
    exact hv _ rfl
  have sz := B.sz
  have l1 := drop_len e.1 s.es1
  refine ⟨(upd_ne (ne B.ob fun xs h => by unfold bookO at h; cases h)).trans B.ob, (upd_ne (ne B.sd fun xs h => by unfold sidesO at h; cases h)).trans B.sd, ⟨(upd_ne B.n1).trans B.sp.li, fun y hy => (upd_ne (ne (B.sp.en y hy) fun xs h => by unfold stopO at h; cases h)).trans (B.sp.en y hy), B.sp.nd, B.sp.sm⟩,
    B.s1.drop e.1, ?_, B.r1.sub List.filter_sublist, ?_, ?_, B.nll, B.n1, B.n2, B.gs, ?_⟩
  · show SideAt C.CO C.CB _ a.b2 a.d2 a.l2 (dropE e.1 s.es2)
    rw [h2]
    exact B.s2.upd (ne B.s2.ob fun xs h => by cases h) B.nll.symm fun y hy => ne (B.s2.en y hy) fun xs h => by unfold ordO at h; cases h
  · show Rank "sell" (dropE e.1 s.es2)
    rw [h2]
    exact B.r2
  · show ∀ y, y ∈ dropE e.1 s.es1 → ∀ z, z ∈ dropE e.1 s.es2 → y.1 ≠ z.1
    exact fun y hy z hz => B.dj y (drop_mem hy).1 z (drop_mem hz).1
  · show (dropE e.1 s.es1).length + (dropE e.1 s.es2).length + s.ss.length ≤ 900
    rw [h2]
    omega
theorem BookW.drop2 {C : BC} {H : Hp} {a : BA} {s : BS} (B : BookW C H a s) {e : Ent} (he : e ∈ s.es2) : BookW C (upd H a.l2 (.lst (refs (dropE e.1 s.es2)))) a (offO s e.1) := by
  have h2 : dropE e.1 s.es1 = s.es1 := drop_none fun y hy z => B.dj y hy e he z
  have hl := B.s2.li
  have ne : ∀ {z v}, H z = some v → (∀ xs, v ≠ .lst xs) → z ≠ a.l2 := fun {z v} h hv q => by
    rw [q, hl] at h
    cases h
    exact hv _ rfl
  have sz := B.sz
  have l1 := drop_len e.1 s.es2
  refine ⟨(upd_ne (ne B.ob fun xs h => by unfold bookO at h; cases h)).trans B.ob, (upd_ne (ne B.sd fun xs h => by unfold sidesO at h; cases h)).trans B.sd, ⟨(upd_ne B.n2).trans B.sp.li, fun y hy => (upd_ne (ne (B.sp.en y hy) fun xs h => by unfold stopO at h; cases h)).trans (B.sp.en y hy), B.sp.nd, B.sp.sm⟩,
    ?_, B.s2.drop e.1, ?_, B.r2.sub List.filter_sublist, ?_, B.nll, B.n1, B.n2, B.gs, ?_⟩
  · show SideAt C.CO C.CB _ a.b1 a.d1 a.l1 (dropE e.1 s.es1)
    rw [h2]
    exact B.s1.upd (ne B.s1.ob fun xs h => by cases h) B.nll fun y hy => ne (B.s1.en y hy) fun xs h => by unfold ordO at h; cases h
  · show Rank "buy" (dropE e.1 s.es1)
    rw [h2]
    exact B.r1
  · show ∀ y, y ∈ dropE e.1 s.es1 → ∀ z, z ∈ dropE e.1 s.es2 → y.1 ≠ z.1
    exact fun y hy z hz => B.dj y (drop_mem hy).1 z (drop_mem hz).1
  · show (dropE e.1 s.es1).length + (dropE e.1 s.es2).length + s.ss.length ≤ 900
    rw [h2]
    omega
theorem StepW.off {a : BA} {s : BS} {H : Hp} {z l : Addr} {v : HO} (hl : l = a.l1 ∨ l = a.l2) : StepW a s (offO s z) H (upd H l v) := by
  refine ⟨fun y w hy h => (upd_ne fun e => hy ?_).trans h, fun y hy => .inl ?_⟩
  · rw [e]
    rcases hl with k | k
    · rw [k]; exact foot_iff.mpr (.inr (.inl rfl))
    · rw [k]; exact foot_iff.mpr (.inr (.inr (.inl rfl)))
  · rcases foot_iff.mp hy with k | k | k | k | k | k
    · exact foot_iff.mpr (.inl k)
    · exact foot_iff.mpr (.inr (.inl k))
    · exact foot_iff.mpr (.inr (.inr (.inl k)))
    · exact foot_iff.mpr (.inr (.inr (.inr (.inl k))))
    · exact foot_iff.mpr (.inr (.inr (.inr (.inr (.inl ((List.filter_sublist.map _).subset k))))))
    · exact foot_iff.mpr (.inr (.inr (.inr (.inr (.inr ((List.filter_sublist.map _).subset k))))))
/-- the order's side, its list, and the book without it -/
theorem BookW.sideOf {C : BC} {H : Hp} {a : BA} {s : BS} (B : BookW C H a s) {e : Ent} (hm : e ∈ s.es1 ∨ e ∈ s.es2) : ∃ (_ : Unit) (b db l : Addr) (pre post : List Ent), DGet H a.sd (.str e.2.2.side) (some (.ref b)) ∧ SideAt C.CO C.CB H b db l (pre ++ e :: post) ∧ BookW C (upd H l (.lst (refs (pre ++ post)))) a (offO s e.1) ∧ (l = a.l1 ∨ l = a.l2) ∧ e.1 ≠ l := by
  rcases hm with hm | hm
  · have hs := B.r1.side e hm
    have hsd := sides_buy B.sd
    rw [← hs] at hsd
    obtain ⟨pre, post, hpp⟩ := List.append_of_mem hm
    have S := B.s1
    have B2 := B.drop1 hm
    have hd : dropE e.1 s.es1 = pre ++ post := by rw [hpp]; exact drop_mid (by rw [← hpp]; exact S.nd)
    rw [hpp] at S
    rw [show refs (dropE e.1 s.es1) = refs (pre ++ post) by rw [hd]] at B2
    exact ⟨(), _, _, _, pre, post, hsd, S, B2, .inl rfl, B.s1.le hm⟩
  · have hs := B.r2.side e hm
    have hsd := sides_sell B.sd
    rw [← hs] at hsd
    obtain ⟨pre, post, hpp⟩ := List.append_of_mem hm
    have S := B.s2
    have B2 := B.drop2 hm
    have hd : dropE e.1 s.es2 = pre ++ post := by rw [hpp]; exact drop_mid (by rw [← hpp]; exact S.nd)
    rw [hpp] at S
    rw [show refs (dropE e.1 s.es2) = refs (pre ++ post) by rw [hd]] at B2
    exact ⟨(), _, _, _, pre, post, hsd, S, B2, .inr rfl, B.s2.le hm⟩
def stopN (ss : List EntS) (n : Int) : Option EntS := ss.find? fun e => decide (e.2.2.number = n)
theorem stopN_mem {ss : List EntS} {n : Int} {e : EntS} (h : stopN ss n = some e) : e ∈ ss ∧ e.2.2.number = n := ⟨List.mem_of_find?_eq_some h, of_decide_eq_true (List.find?_some (p := fun e : EntS => decide (e.2.2.number = n)) h)⟩
def sp_Book_cancel (K : PySem.W.Frag) (CU CN CO CB CK CS CR : Addr) : Sp := fun vs H Q E => ∃ (a : BA) (s : BS) (n : Int) (ho : Str), vs = [.ref a.x, .int n, .str ho] ∧ BookW ⟨CO, CB, CK, CS, CR⟩ H a s ∧
  (∀ (e : EntS) (H' : Hp), stopN s.ss n = some e → e.2.2.house = ho → BookW ⟨CO, CB, CK, CS, CR⟩ H' a (offS s e.1) → StepW a s (offS s e.1) H H' → Q (.int e.2.2.quantity) H') ∧
  (∀ e : EntS, stopN s.ss n = some e → e.2.2.house ≠ ho → E (.ref CN) none H) ∧
  (∀ (e : Ent) (H' : Hp), stopN s.ss n = none → withNum s.es1 s.es2 n = some e → e.2.2.house = ho → BookW ⟨CO, CB, CK, CS, CR⟩ H' a (offO s e.1) → StepW a s (offO s e.1) H H' → Q (.int e.2.2.left) H') ∧
  (stopN s.ss n = none → withNum s.es1 s.es2 n = none → E (.ref CU) none H) ∧ (∀ e : Ent, stopN s.ss n = none → withNum s.es1 s.es2 n = some e → e.2.2.house ≠ ho → E (.ref CN) none H)
set_option maxHeartbeats 0 in
theorem ok_Book_cancel (T : Txt K mg) : FnOk P w K mg base (L2.CX P w) 4 T.f_Book_cancel T.d_Book_cancel ["self", "number", "house"] (sp_Book_cancel K T.c_UnknownOrder T.c_NotOwner T.c_Order T.c_BookSide T.c_Book T.c_Stop T.c_Report) := by
  refine T.F_Book_cancel.okX sc_Book_cancel (fun vs H Q E h => ?_) (fun cdv A outer s H vs Q E hr h => ?_)
  · obtain ⟨a, s, n, ho, rfl, _⟩ := h
    rfl
  · obtain ⟨a, s, n, ho, rfl, B, qs, qsn, qo, qou, qon⟩ := h
    have G_Bookstop_with : FnOk P w K mg base CX0 1 T.f_Bookstop_with T.d_Bookstop_with ["self", "number"] (sp_Bookstop_with K T.c_Stop T.c_Book) := ok_Bookstop_with T
    have G_Bookorder_of : FnOk P w K mg base (L2.CX P w) 3 T.f_Bookorder_of T.d_Bookorder_of ["self", "number", "house"] (sp_Bookorder_of K T.c_UnknownOrder T.c_NotOwner T.c_Order T.c_BookSide T.c_Book) := ok_Bookorder_of T
    have G_BookSide_leave : FnOk P w K mg base CX0 1 T.f_BookSide_leave T.d_BookSide_leave ["self", "order"] (sp_BookSide_leave K T.c_Order T.c_BookSide) := ok_BookSide_leave T
    refine ⟨_, (pss_cons (ps_set (i := 3) sc_Book_cancel.nd rfl (Or.inl rfl) (pe_meth (pv 0) T.cl_Book T.mt_Bookstop_with G_Bookstop_with (hr.mono (by decide)) T.b_Bookstop_with .nil pass0 (pa_cons (pv 1) pa_nil)))
    (pss_cons (ps_if (pt_cmpR op_isN (pv 3) pe_non (nomark _))
      (pss_cons (ps_set (i := 4) sc_Book_cancel.nd rfl (Or.inl rfl) (pe_mx (pv 0) T.cl_Book T.mt_Bookorder_of G_Bookorder_of hr T.b_Bookorder_of .nil (fun σ => passAt (takes_of rfl rfl rfl rfl) σ) (pa_cons (pv 1) (pa_cons (pv 2) pa_nil))))
      (pss_cons (ps_expr (pe_meth (pe_dget (hu_of hr) (pe_fld (pv 0) rfl) (pe_fld (pv 4) rfl) (fun _ _ => rfl)) T.cl_BookSide T.mt_BookSide_leave G_BookSide_leave (hr.mono (by decide)) T.b_BookSide_leave .nil pass0 (pa_cons (pv 4) pa_nil)))
      (pss_one (ps_ret (pe_fld (pv 4) rfl)))))
      pss_nil)
    (pss_cons (ps_if (pt_cmpR op_ne (pe_fld (pv 3) rfl) (pv 2) (nomark _))
      (pss_one (ps_raise rfl (takes_of rfl rfl rfl rfl) (pmk_own PySem.F.excBase_ValueError T.x_NotOwner T.m_NotOwner T.k_NotOwner (raises_own T.b_NotOwner T.t_NotOwner) (by rfl))))
      pss_nil)
    (pss_cons (ps_expr (pe_bm PySem.F.plainAttrs_list PySem.F.slot_list_remove PySem.F.type_list_remove (mt_removeO hr T.eq_Stop T.mo_Stop) (pe_fld (pv 0) rfl) (pa_cons (pv 3) pa_nil)))
    (pss_one (ps_ret (pe_fld (pv 3) rfl))))))), ?_⟩
    have fact_BookSide_0 := T.cl_BookSide; have fact_BookSide_1 := T.na_BookSide__orders; have fact_Book_0 := T.cl_Book; have fact_Book_1 := T.na_Book_last; have fact_Book_2 := T.na_Book__next_number; have fact_Book_3 := T.na_Book__sides; have fact_Book_4 := T.na_Book__stops; have fact_Order_0 := T.cl_Order; have fact_Order_1 := T.na_Order_number; have fact_Order_2 := T.na_Order_house; have fact_Order_3 := T.na_Order_side; have fact_Order_4 := T.na_Order_price; have fact_Order_5 := T.na_Order_shown; have fact_Order_6 := T.na_Order_left; have fact_Order_7 := T.na_Order_visible; have fact_Stop_0 := T.cl_Stop; have fact_Stop_1 := T.na_Stop_number; have fact_Stop_2 := T.na_Stop_house; have fact_Stop_3 := T.na_Stop_side; have fact_Stop_4 := T.na_Stop_trigger; have fact_Stop_5 := T.na_Stop_price; have fact_Stop_6 := T.na_Stop_quantity
    have hob := B.ob
    have hob2 := hob
    unfold bookO at hob2
    have hst := B.sp.li
    walk_at "st"
    refine ⟨s.last, s.next, s.ss, n, rfl, hob, B.sp, ?_⟩
    cases hs : stopN s.ss n with
    | none =>
      rw [show (s.ss.find? fun e => decide (e.2.2.number = n)) = none from hs]
      walk_at "st"
      refine ⟨s.last, s.next, s.es1, s.es2, n, ho, rfl, B.sides, fun e hw hho => ?_, qou hs, fun e hw hne => qon e hs hw hne⟩
      have hm := (with_mem hw).2
      have hen : H e.1 = some (ordO T.c_Order e.2.1 e.2.2) := hm.elim (fun z => B.s1.en e z) fun z => B.s2.en e z
      have hen2 := hen
      unfold ordO at hen2
      obtain ⟨_, b, db, l, pre, post, hsd, S, B2, hl, hel⟩ := B.sideOf hm
      have hb := S.ob
      walk_at "st"
      refine ⟨pre, e, post, rfl, S, ?_⟩
      have hen3 := (upd_ne (o := HO.lst (refs (pre ++ post))) hel).trans hen2
      walk_at "st"
      exact qo e _ hs hw hho B2 (StepW.off hl)
    | some e =>
      obtain ⟨hmem, hnum⟩ := stopN_mem hs
      rw [show (s.ss.find? fun e => decide (e.2.2.number = n)) = some e from hs]
      have hen := B.sp.en e hmem
      have hen2 := hen
      unfold stopO at hen2
      walk_at "st"
      refine iteB (fun h => ?_) (fun h => ?_)
      · walk_at "st"
        exact qsn e hs fun z => dec_f (by simpa using h) (congrArg V.str z)
      · have hho : e.2.2.house = ho := V.str.inj (dec_t (by simpa using h))
        walk_at "st"
        refine ⟨s.ss.map (·.1), rfl, rfl, by rw [← refsS_map]; exact hst, List.mem_map.mpr ⟨e, hmem, rfl⟩, fun b hb => ?_, ?_⟩
        · obtain ⟨y, hy, rfl⟩ := List.mem_map.mp hb
          exact ⟨_, _, B.sp.en y hy⟩
        rw [eraseS B.sp.nd, ← refsS_map]
        have nest : e.1 ≠ a.st := fun z => by rw [z, hst] at hen; unfold stopO at hen; cases hen
        have hen3 := (upd_ne (o := HO.lst (refsS (dropS e.1 s.ss))) nest).trans hen2
        walk_at "st"
        exact qs e _ hs hho (B.off hmem) StepW.put

/-! ### what the trigger loop keeps -/
structure PureR (s : BS) : Prop where
  r1 : Rank "buy" s.es1
  r2 : Rank "sell" s.es2
  gs : ∀ e, e ∈ s.ss → (e.2.2.side = "buy" ∨ e.2.2.side = "sell") ∧ 1 ≤ e.2.2.quantity ∧ e.2.2.quantity ≤ 1000000
theorem BookW.pure {C : BC} {H : Hp} {a : BA} {s : BS} (B : BookW C H a s) : PureR s := ⟨B.r1, B.r2, B.gs⟩
def sizeS (s : BS) : Nat := s.es1.length + s.es2.length + s.ss.length
theorem enter_pure {s : BS} {o dxo : Addr} {t : Ord} {kd : Str} (P : PureR s) (hs : t.side = "buy" ∨ t.side = "sell") (hl : 1 ≤ t.left) (h0 : 0 ≤ t.shown) (hkp : V.str kd = V.str "rest" → ∃ p, t.price = some p) :
    PureR (enterB s o dxo t kd).1 ∧ sizeS (enterB s o dxo t kd).1 ≤ sizeS s + 1 := by
  rcases hs with hs | hs
  · have hoth : othE t.side s.es1 s.es2 = s.es2 := by rw [hs]; exact if_pos buyS_buy
    have hown : ownE t.side s.es1 s.es2 = s.es1 := by rw [hs]; exact if_pos buyS_buy
    have hb : buyS t.side = true := by rw [hs]; exact buyS_buy
    have hos : otherS t.side = "sell" := by rw [hs]; exact if_pos buyS_buy
    have hrk := sub_rank (kd := kd) (t := t) (o := o) (dxo := dxo) (last := s.last) (oth := s.es2) (own := s.es1) (by rw [hos]; exact P.r2) (by rw [hs]; exact P.r1) hl h0 hkp
    have hln := sub_len (kd := kd) (t := t) (o := o) (dxo := dxo) (last := s.last) (oth := s.es2) (own := s.es1) (by rw [hos]; exact P.r2)
    obtain ⟨k1, k2, _, _⟩ := hrk
    rw [hos] at k1
    rw [hs] at k2
    unfold enterB sizeS
    simp only [hoth, hown, if_pos hb]
    exact ⟨⟨k2, k1, P.gs⟩, by omega⟩
  · have hb : ¬ buyS t.side = true := by rw [hs, buyS_sell]; exact Bool.false_ne_true
    have hoth : othE t.side s.es1 s.es2 = s.es1 := if_neg hb
    have hown : ownE t.side s.es1 s.es2 = s.es2 := if_neg hb
    have hos : otherS t.side = "buy" := if_neg hb
    have hrk := sub_rank (kd := kd) (t := t) (o := o) (dxo := dxo) (last := s.last) (oth := s.es1) (own := s.es2) (by rw [hos]; exact P.r1) (by rw [hs]; exact P.r2) hl h0 hkp
    have hln := sub_len (kd := kd) (t := t) (o := o) (dxo := dxo) (last := s.last) (oth := s.es1) (own := s.es2) (by rw [hos]; exact P.r1)
    obtain ⟨k1, k2, _, _⟩ := hrk
    rw [hos] at k1
    rw [hs] at k2
    unfold enterB sizeS
    simp only [hoth, hown, if_neg hb]
    exact ⟨⟨k1, k2, P.gs⟩, by omega⟩
theorem kdS_price {e : Stp} (h : V.str (kdS e) = V.str "rest") : ∃ p, e.price = some p := by
  unfold kdS at h
  split at h
  · exact absurd h (by decide +kernel)
  · next p hp => exact ⟨p, hp⟩
theorem off_pure {s : BS} {z : Addr} (P : PureR s) : PureR (offS s z) := ⟨P.r1, P.r2, fun e he => P.gs e (dropS_mem he)⟩
theorem trig_pure {s s' : BS} {reps : List RepT} (h : TrigS s s' reps) : PureR s → PureR s' ∧ sizeS s' ≤ sizeS s ∧ s'.next = s.next := by
  induction h with
  | nil => exact fun P => ⟨P, Nat.le_refl _, rfl⟩
  | @snoc s1 reps e o dxo h hf ih =>
    intro P
    obtain ⟨P1, h1, h2⟩ := ih P
    obtain ⟨hm, _⟩ := firstS_mem hf
    have g := P1.gs e hm
    have hE := enter_pure (o := o) (dxo := dxo) (kd := kdS e.2.2) (off_pure (z := e.1) P1) (t := ordS e.2.2) g.1 g.2.1 (Int.le_refl 0) kdS_price
    have hd := dropS_len hm
    have hsz : sizeS (offS s1 e.1) + 1 ≤ sizeS s1 := by
      unfold sizeS offS
      dsimp only
      omega
    exact ⟨hE.1, by omega, h2⟩
/-- the last price behind fills -/
def lastF (last : Option Int) (fills : List (Int × Str × Int × Int)) : Option Int := fills.foldl (fun _ f => some f.2.2.1) last
def lastR (last : Option Int) (reps : List RepT) : Option Int := reps.foldl (fun l r => lastF l r.fills) last
theorem lastF_snoc (last : Option Int) (fs : List (Int × Str × Int × Int)) (f : Int × Str × Int × Int) : lastF last (fs ++ [f]) = some f.2.2.1 := by
  unfold lastF
  rw [List.foldl_append]
  rfl
theorem runM_last {t : Ord} {l0 : Option Int} : ∀ (k : Nat) {m : Mt}, m.last = lastF l0 m.fills → (runM t k m).last = lastF l0 (runM t k m).fills
  | 0, m, h => h
  | k + 1, m, h => by
    cases hg : goesM t m with
    | none => rw [runM_stop hg]; exact h
    | some e =>
      rw [runM_go hg]
      refine runM_last k ?_
      unfold stepM
      split
      · exact h
      · exact (lastF_snoc l0 m.fills (e.2.2.number, e.2.2.house, prcE e, qtyM m e)).symm
theorem enter_last {s : BS} {o dxo : Addr} {t : Ord} {kd : Str} : (enterB s o dxo t kd).1.last = lastF s.last (enterB s o dxo t kd).2.fills := by
  unfold enterB
  dsimp only
  generalize othE t.side s.es1 s.es2 = oth
  generalize ownE t.side s.es1 s.es2 = own
  unfold subF
  split
  · rfl
  · exact runM_last (l0 := s.last) _ (m := startM t s.last oth) rfl
theorem trig_last {s s' : BS} {reps : List RepT} (h : TrigS s s' reps) : s'.last = lastR s.last reps := by
  induction h with
  | nil => rfl
  | snoc o dxo h hf ih =>
    unfold lastR at ih ⊢
    rw [List.foldl_append, ← ih]
    exact enter_last
theorem dropS_perm {e : EntS} {ss : List EntS} (nd : (ss.map (·.1)).Nodup) (h : e ∈ ss) : ss.Perm (e :: dropS e.1 ss) := by
  obtain ⟨pre, post, rfl⟩ := List.append_of_mem h
  rw [List.map_append, List.map_cons] at nd
  obtain ⟨_, n2, n3⟩ := List.nodup_append.mp nd
  have h1 : dropS e.1 pre = pre := List.filter_eq_self.mpr fun y hy => decide_eq_true fun z => n3 _ (List.mem_map.mpr ⟨y, hy, rfl⟩) _ List.mem_cons_self z
  have h2 : dropS e.1 post = post := List.filter_eq_self.mpr fun y hy => decide_eq_true fun z => (List.nodup_cons.mp n2).1 (List.mem_map.mpr ⟨y, hy, z⟩)
  have h3 : dropS e.1 (pre ++ e :: post) = pre ++ post := by
    unfold dropS at h1 h2 ⊢
    rw [List.filter_append, List.filter_cons, if_neg (by simp), h1, h2]
  rw [h3]
  exact List.perm_middle
def numS (ss : List EntS) : List Int := ss.map fun e => e.2.2.number
theorem trig_perm {s s' : BS} {reps : List RepT} (h : TrigS s s' reps) : (s.ss.map (·.1)).Nodup → (numS s.ss).Perm (reps.map (·.number) ++ numS s'.ss) ∧ (s'.ss.map (·.1)).Nodup ∧ s'.ss.Sublist s.ss := by
  induction h with
  | nil => exact fun nd => ⟨List.Perm.refl _, nd, List.Sublist.refl _⟩
  | @snoc s1 reps e o dxo h hf ih =>
    intro nd
    obtain ⟨h1, h2, h3⟩ := ih nd
    obtain ⟨hm, _⟩ := firstS_mem hf
    refine ⟨h1.trans ?_, ((List.filter_sublist (p := fun y : EntS => decide (y.1 ≠ e.1)) (l := s1.ss)).map _).nodup h2, List.filter_sublist.trans h3⟩
    have hp : (numS s1.ss).Perm (e.2.2.number :: numS (dropS e.1 s1.ss)) := (dropS_perm h2 hm).map _
    rw [List.map_append, List.append_assoc]
    exact (List.Perm.append_left _ hp)

/-! ### the law's own rows -/
def housesL : List Str := ["ash", "bay", "elm", "oak"]
def houseF (c : Int) : Str := housesL.getD (c % 4).toNat ""
theorem houseF_at (c : Int) : atI (housesL.map V.str) (c % 4) = some (.str (houseF c)) := by
  have h0 := Int.emod_nonneg c (by decide : (4 : Int) ≠ 0)
  have h1 := Int.emod_lt_of_pos c (by decide : (0 : Int) < 4)
  obtain ⟨n, hn⟩ := Int.eq_ofNat_of_zero_le h0
  unfold houseF
  rw [hn, Int.toNat_natCast]
  refine at_of (j := n) rfl ?_
  have hl : n < housesL.length := by show n < 4; omega
  rw [List.getElem?_map, List.getD_eq_getElem?_getD, List.getElem?_eq_getElem hl]
  rfl
theorem houseF_ne (c : Int) : ¬ V.str (houseF c) = V.str "" := by
  have h0 := Int.emod_nonneg c (by decide : (4 : Int) ≠ 0)
  have h1 := Int.emod_lt_of_pos c (by decide : (0 : Int) < 4)
  have h2 : ∀ n : Nat, n < 4 → ¬ V.str (housesL.getD n "") = V.str "" := by decide +kernel
  exact h2 _ (by omega)
theorem houseF_sok (c : Int) : PyData.strOk (houseF c) = true := by
  have h0 := Int.emod_nonneg c (by decide : (4 : Int) ≠ 0)
  have h1 := Int.emod_lt_of_pos c (by decide : (0 : Int) < 4)
  have h2 : ∀ n : Nat, n < 4 → PyData.strOk (housesL.getD n "") = true := by decide +kernel
  exact h2 _ (by omega)
def sp_law_house (K : PySem.W.Frag) : Sp := fun vs H Q _ => ∃ c : Int, vs = [.int c] ∧ ∀ H', Same H H' → Q (.str (houseF c)) H'
set_option maxHeartbeats 0 in
theorem ok_law_house (T : Txt K mg) : FnOk P w K mg base CX0 1 T.f_law_house T.d_law_house ["cell"] (sp_law_house K) := by
  refine T.F_law_house.ok sc_law_house (fun vs H Q E h => ?_) (fun cdv A outer s H vs Q E hr h => ?_)
  · obtain ⟨c, rfl, _⟩ := h
    rfl
  · obtain ⟨c, rfl, q⟩ := h
    refine ⟨_, (pss_one (ps_ret (pe_ix ix_list (pe_lst (pa_cons pe_str (pa_cons pe_str (pa_cons pe_str (pa_cons pe_str pa_nil))))) (pe_op op_mod (pe_callTy call_int_i (by rfl) T.z_int (by decide +kernel) (pa_cons (pv 0) pa_nil)) pe_int) (fun _ _ => rfl)))), ?_⟩
    walk_at "st"
    intro p np
    have hp : SqL K (upd H p (.lst [V.str "ash", V.str "bay", V.str "elm", V.str "oak"])) p (housesL.map V.str) := SqL.of upd_same
    have hat := houseF_at c
    walk_at "st"
    exact q _ (same_upd np)

def sp_law_reached (K : PySem.W.Frag) : Sp := fun vs H Q _ => ∃ (p : Addr) (s : Stp) (last : Option Int), vs = [.ref p, optV last] ∧ H p = some (.tup (rowS s)) ∧ Q (.bl (reachedS s last)) H
set_option maxHeartbeats 0 in
theorem ok_law_reached (T : Txt K mg) : FnOk P w K mg base CX0 1 T.f_law_reached T.d_law_reached ["row", "last"] (sp_law_reached K) := by
  refine T.F_law_reached.ok sc_law_reached (fun vs H Q E h => ?_) (fun cdv A outer s H vs Q E hr h => ?_)
  · obtain ⟨p, s, last, rfl, _⟩ := h
    rfl
  · obtain ⟨p, s, last, rfl, hp, q⟩ := h
    refine ⟨_, (pss_cons (ps_if (pt_cmpR op_isN (pv 1) pe_non (nomark _))
      (pss_one (ps_ret pe_bl))
      pss_nil)
    (pss_cons (ps_if (pt_cmpR op_eq (pe_ix ix_tup (pv 0) pe_int (fun _ _ => rfl)) pe_str (nomark _))
      (pss_one (ps_ret (pe_cmpR op_ge (pv 1) (pe_ix ix_tup (pv 0) pe_int (fun _ _ => rfl)) (nomark _))))
      pss_nil)
    (pss_one (ps_ret (pe_cmpR op_le (pv 1) (pe_ix ix_tup (pv 0) pe_int (fun _ _ => rfl)) (nomark _)))))), ?_⟩
    have hq := SqT.of (K := K) hp
    have h2 : atI (rowS s) 2 = some (.str s.side) := rfl
    have h3 : atI (rowS s) 3 = some (.int s.trigger) := rfl
    cases last with
    | none =>
      walk_at "st"
      exact q
    | some l =>
      have e : reachedS s (some l) = if buyS s.side = true then decide (s.trigger ≤ l) else decide (l ≤ s.trigger) := rfl
      rw [e] at q
      walk_at "st"
      refine iteB (fun h => ?_) (fun h => ?_)
      · rw [if_pos (show buyS s.side = true from h)] at q
        walk_at "st"
        exact q
      · rw [if_neg (by rw [show buyS s.side = false from h]; exact Bool.false_ne_true)] at q
        walk_at "st"
        exact q
/-- what the law needs of a book between its commands -/
structure Inv25 (s : BS) : Prop where
  asc : (numS s.ss).Pairwise (· < ·)
  lt : ∀ n, n ∈ numS s.ss → n < s.next
  no : firstS s.last s.ss = none
/-- what a command does -/
structure Run25 (s s' : BS) (reps : List RepT) : Prop where
  inv : Inv25 s'
  siz : sizeS s' ≤ sizeS s + 1
  lst : s'.last = lastR s.last reps
  sub : reps = [] ∨ ∃ (r0 : RepT) (tl : List RepT) (ex : List Int), reps = r0 :: tl ∧ (ex = [] ∨ ex = [r0.number]) ∧ (numS s.ss ++ ex).Nodup ∧ (numS s.ss ++ ex).Perm (tl.map (·.number) ++ numS s'.ss)
theorem asc_nodup {xs : List Int} (h : xs.Pairwise (· < ·)) : xs.Nodup := h.imp fun h => Int.ne_of_lt h
theorem run_submit {s s' : BS} {reps : List RepT} {o dxo : Addr} {t : Ord} {kd : Str} (I : Inv25 s) (P : PureR s) (nd : (s.ss.map (·.1)).Nodup) (hs : t.side = "buy" ∨ t.side = "sell") (hl : 1 ≤ t.left) (h0 : 0 ≤ t.shown) (hkp : V.str kd = V.str "rest" → ∃ p, t.price = some p)
    (hT : TrigS (enterB (nxtS s) o dxo t kd).1 s' reps) (hf : firstS s'.last s'.ss = none) : Run25 s s' ((enterB (nxtS s) o dxo t kd).2 :: reps) := by
  have hE := enter_pure (s := nxtS s) (o := o) (dxo := dxo) (kd := kd) ⟨P.r1, P.r2, P.gs⟩ hs hl h0 hkp
  obtain ⟨P', h2, h3⟩ := trig_pure hT hE.1
  obtain ⟨h4, h5, h6⟩ := trig_perm hT nd
  have hsub : (numS s'.ss).Sublist (numS s.ss) := h6.map _
  have hnx : s'.next = s.next + 1 := h3
  have hsz : sizeS (nxtS s) = sizeS s := rfl
  have hel : (enterB (nxtS s) o dxo t kd).1.last = lastF s.last (enterB (nxtS s) o dxo t kd).2.fills := enter_last
  refine ⟨⟨I.asc.sublist hsub, fun n hn => by have := I.lt n (hsub.subset hn); omega, hf⟩, by omega, ?_, .inr ⟨_, reps, [], rfl, .inl rfl, ?_, ?_⟩⟩
  · rw [trig_last hT, hel]
    rfl
  · rw [List.append_nil]
    exact asc_nodup I.asc
  · rw [List.append_nil]
    exact h4
theorem run_stop {s s' : BS} {reps : List RepT} {y dy : Addr} {ho si : Str} {tr : Int} {pr : Option Int} {qu : Int} (I : Inv25 s) (P : PureR s) (G : GoodStp ho si tr pr qu) (nd : ((newS s y dy ho si tr pr qu).ss.map (·.1)).Nodup)
    (hT : TrigS (newS s y dy ho si tr pr qu) s' reps) (hf : firstS s'.last s'.ss = none) : Run25 s s' (⟨s.next, ho, si, [], [], 0⟩ :: reps) := by
  have hP : PureR (newS s y dy ho si tr pr qu) := ⟨P.r1, P.r2, fun e he => by
    rcases List.mem_append.mp he with h | h
    · exact P.gs e h
    · rw [List.mem_singleton.mp h]
      exact ⟨G.h2.imp V.str.inj V.str.inj, G.h6⟩⟩
  obtain ⟨P', h2, h3⟩ := trig_pure hT hP
  obtain ⟨h4, h5, h6⟩ := trig_perm hT nd
  have hnum : numS (newS s y dy ho si tr pr qu).ss = numS s.ss ++ [s.next] := by
    show numS (s.ss ++ [_]) = _
    unfold numS
    rw [List.map_append]
    rfl
  have hasc : (numS s.ss ++ [s.next]).Pairwise (· < ·) := List.pairwise_append.mpr ⟨I.asc, List.pairwise_singleton _ _, fun a ha b hb => by rw [List.mem_singleton.mp hb]; exact I.lt a ha⟩
  have hsub : (numS s'.ss).Sublist (numS s.ss ++ [s.next]) := by rw [← hnum]; exact h6.map _
  have hnx : s'.next = s.next + 1 := h3
  have hsz : sizeS (newS s y dy ho si tr pr qu) = sizeS s + 1 := by
    unfold sizeS newS nxtS
    dsimp only
    rw [List.length_append, List.length_singleton]
    omega
  refine ⟨⟨hasc.sublist hsub, fun n hn => ?_, hf⟩, by omega, ?_, .inr ⟨_, reps, [s.next], rfl, .inr rfl, asc_nodup hasc, ?_⟩⟩
  · rcases List.mem_append.mp (hsub.subset hn) with k | k
    · have := I.lt n k
      omega
    · rw [List.mem_singleton.mp k]
      omega
  · rw [trig_last hT]
    rfl
  · rw [← hnum]
    exact h4
theorem first_sub {last : Option Int} {ss ss' : List EntS} (h : firstS last ss = none) (hs : ss'.Sublist ss) : firstS last ss' = none := by
  unfold firstS at h ⊢
  rw [List.find?_eq_none] at h ⊢
  exact fun x hx => h x (hs.subset hx)
theorem run_offS {s : BS} {z : Addr} (I : Inv25 s) : Run25 s (offS s z) [] := by
  have hs : (dropS z s.ss).Sublist s.ss := List.filter_sublist
  have hl := hs.length_le
  refine ⟨⟨I.asc.sublist (hs.map _), fun n hn => I.lt n ((hs.map _).subset hn), first_sub I.no hs⟩, ?_, rfl, .inl rfl⟩
  unfold sizeS offS
  dsimp only
  omega
theorem run_offO {s : BS} {z : Addr} (I : Inv25 s) : Run25 s (offO s z) [] := by
  have h1 := drop_len z s.es1
  have h2 := drop_len z s.es2
  refine ⟨⟨I.asc, I.lt, I.no⟩, ?_, rfl, .inl rfl⟩
  unfold sizeS offO
  dsimp only
  omega
theorem run_same {s : BS} (I : Inv25 s) : Run25 s s [] := ⟨I, Nat.le_succ _, rfl, .inl rfl⟩
def sideF (c : Int) : Str := if c % 2 = 0 then "buy" else "sell"
theorem sideF_at (c : Int) : atI ([.str "buy", .str "sell"] : List V) (c % 2) = some (.str (sideF c)) := by
  have h0 := Int.emod_nonneg c (by decide : (2 : Int) ≠ 0)
  have h1 := Int.emod_lt_of_pos c (by decide : (0 : Int) < 2)
  unfold sideF
  by_cases h : c % 2 = 0
  · rw [if_pos h, h]
    rfl
  · have h2 : c % 2 = 1 := by omega
    rw [if_neg h, h2]
    rfl
theorem sideF_or (c : Int) : sideF c = "buy" ∨ sideF c = "sell" := by
  unfold sideF
  split
  · exact .inl rfl
  · exact .inr rfl
def sp_law_run (K : PySem.W.Frag) (CO CB CK CS CR : Addr) : Sp := fun vs H Q _ => ∃ (a : BA) (s : BS) (cell count : Int), vs = [.ref a.x, .int cell, .int count] ∧ BookW ⟨CO, CB, CK, CS, CR⟩ H a s ∧ sizeS s ≤ 899 ∧ Inv25 s ∧ 0 ≤ count ∧
  ∀ s' reps p H', Run25 s s' reps → BookW ⟨CO, CB, CK, CS, CR⟩ H' a s' → StepW a s s' H H' → RepsAt CR H' (foot a s') p reps → Q (.ref p) H'
set_option maxHeartbeats 0 in
theorem ok_law_run (T : Txt K mg) : FnOk P w K mg base CX0 9 T.f_law_run T.d_law_run ["book", "cell", "count"] (sp_law_run K T.c_Order T.c_BookSide T.c_Book T.c_Stop T.c_Report) := by
  refine T.F_law_run.ok sc_law_run (fun vs H Q E h => ?_) (fun cdv A outer s H vs Q E hr h => ?_)
  · obtain ⟨a, s, cell, count, rfl, _⟩ := h
    rfl
  · obtain ⟨a, s, cell, count, rfl, B, hsz, I, hc, q⟩ := h
    have G_law_house : FnOk P w K mg base CX0 1 T.f_law_house T.d_law_house ["cell"] (sp_law_house K) := ok_law_house T
    have G_Book_submit : FnOk P w K mg base (L2.CX P w) 8 T.f_Book_submit T.d_Book_submit ["self", "house", "side", "price", "quantity", "kind", "shown"] (sp_Book_submit K T.c_InvalidOrder T.c_Order T.c_BookSide T.c_Book T.c_Stop T.c_Report) := ok_Book_submit T
    have G_Book_submit_stop : FnOk P w K mg base (L2.CX P w) 8 T.f_Book_submit_stop T.d_Book_submit_stop ["self", "house", "side", "trigger", "price", "quantity"] (sp_Book_submit_stop K T.c_InvalidOrder T.c_Order T.c_BookSide T.c_Book T.c_Stop T.c_Report) := ok_Book_submit_stop T
    have G_Book_cancel : FnOk P w K mg base (L2.CX P w) 4 T.f_Book_cancel T.d_Book_cancel ["self", "number", "house"] (sp_Book_cancel K T.c_UnknownOrder T.c_NotOwner T.c_Order T.c_BookSide T.c_Book T.c_Stop T.c_Report) := ok_Book_cancel T
    refine ⟨_, (pss_cons (ps_set (i := 3) sc_law_run.nd rfl (Or.inl rfl) (pe_call G_law_house (hr.mono (by decide)) (by rfl) T.m_law_house T.F_law_house.kp T.b_law_house .nil pass0 (pa_cons (pe_op op_fdiv (pv 1) pe_int) pa_nil)))
    (pss_cons (ps_set (i := 4) sc_law_run.nd rfl (Or.inl rfl) (pe_ix ix_list (pe_lst (pa_cons pe_str (pa_cons pe_str pa_nil))) (pe_op op_mod (pe_op op_fdiv (pe_callTy call_int_i (by rfl) T.z_int (by decide +kernel) (pa_cons (pv 1) pa_nil)) pe_int) pe_int) (fun _ _ => rfl)))
    (pss_cons (ps_set (i := 5) sc_law_run.nd rfl (Or.inl rfl) (pe_op op_add pe_int (pe_op op_mod (pe_op op_fdiv (pe_callTy call_int_i (by rfl) T.z_int (by decide +kernel) (pa_cons (pv 1) pa_nil)) pe_int) pe_int)))
    (pss_cons (ps_set (i := 6) sc_law_run.nd rfl (Or.inl rfl) (pe_op op_add pe_int (pe_op op_mod (pe_op op_fdiv (pe_callTy call_int_i (by rfl) T.z_int (by decide +kernel) (pa_cons (pv 1) pa_nil)) pe_int) pe_int)))
    (pss_cons (ps_set (i := 7) sc_law_run.nd rfl (Or.inl rfl) (pe_op op_mod (pe_callTy call_int_i (by rfl) T.z_int (by decide +kernel) (pa_cons (pv 1) pa_nil)) pe_int))
    (pss_cons (ps_if (pt_cmpR op_lt (pv 7) pe_int (nomark _))
      (pss_one (ps_ret (pe_mx (pv 0) T.cl_Book T.mt_Book_submit G_Book_submit hr T.b_Book_submit.choose_spec.2 T.b_Book_submit.choose_spec.1 (fun _ => passLat) (pa_cons (pv 3) (pa_cons (pv 4) (pa_cons (pv 5) (pa_cons (pv 6) pa_nil)))))))
      pss_nil)
    (pss_cons (ps_if (pt_cmpR op_eq (pv 7) pe_int (nomark _))
      (pss_one (ps_ret (pe_mk (pv 0) T.cl_Book T.mt_Book_submit G_Book_submit hr T.kb_Book_submit_kind.choose_spec (fun _ => passLat) (pa_cons (pv 3) (pa_cons (pv 4) (pa_cons pe_non (pa_cons (pv 6) pa_nil)))) (pk_cons pe_str pk_nil))))
      pss_nil)
    (pss_cons (ps_if (pt_cmpR op_eq (pv 7) pe_int (nomark _))
      (pss_cons (ps_set (i := 8) sc_law_run.nd rfl (Or.inl rfl) (pe_op op_add pe_int (pe_op op_mod (pe_op op_fdiv (pe_callTy call_int_i (by rfl) T.z_int (by decide +kernel) (pa_cons (pv 1) pa_nil)) pe_int) pe_int)))
      (C8.pss_cut (ps_if (pt_cmpR op_eq (pe_op op_mod (pe_op op_fdiv (pe_callTy call_int_i (by rfl) T.z_int (by decide +kernel) (pa_cons (pv 1) pa_nil)) pe_int) pe_int) pe_int (nomark _))
        (pss_one (ps_set (i := 8) sc_law_run.nd rfl (Or.inl rfl) pe_non))
        pss_nil)
      (pss_one (ps_ret (pe_mx (pv 0) T.cl_Book T.mt_Book_submit_stop G_Book_submit_stop hr T.b_Book_submit_stop .nil (fun _ => passLat) (pa_cons (pv 3) (pa_cons (pv 4) (pa_cons (pv 5) (pa_cons (pv 8) (pa_cons (pv 6) pa_nil))))))))))
      pss_nil)
    (pss_cons (ps_try_any rfl rfl sc_law_run.nd takes0
      (fun W pn xe tk _ => (pss_one (ps_expr (pe_mx (pv 0) T.cl_Book T.mt_Book_cancel G_Book_cancel (hr.mono (by decide)) T.b_Book_cancel .nil (fun σ => passAt tk σ) (pa_cons (pe_op op_add pe_int (pe_op op_mod (pe_op op_fdiv (pe_callTy call_int_i (by rfl) T.z_int (by decide +kernel) (pa_cons (pv 1) pa_nil)) pe_int) (pe_op op_add (pv 2) pe_int))) (pa_cons (pv 3) pa_nil))))))
      (.cons (.plain ⟨rfl, by decide, Or.inl T.m_BourseError⟩ (fun a oe cls d pn hz hf => (pss_one (ps_ret (pe_lst pa_nil)))))
      .nil))
    (pss_one (ps_ret (pe_lst pa_nil)))))))))))), ?_⟩
    have fact_Book_0 := T.cl_Book; have fact_Book_1 := T.na_Book_last; have fact_Book_2 := T.na_Book__next_number; have fact_Book_3 := T.na_Book__sides; have fact_Book_4 := T.na_Book__stops
    walk_at "st"
    intro H1 s1
    have B1 := B.same s1
    walk_at "st"
    intro p0 n0
    have s2 := same_upd (o := .lst [.str "buy", .str "sell"]) n0
    have hp0 : upd H1 p0 (.lst [.str "buy", .str "sell"]) p0 = some (.lst [.str "buy", .str "sell"]) := upd_same
    generalize upd H1 p0 _ = H2 at *
    have hsd := sideF_at (cell / 20)
    have B2 := B1.same s2
    have sA := s1.trans s2
    have hhe := houseF_ne (cell / 5)
    have hso := sideF_or (cell / 20)
    generalize houseF (cell / 5) = ho at hhe
    generalize sideF (cell / 20) = si at hsd hso
    have m0 := Int.emod_nonneg (cell / 40) (by decide : (11 : Int) ≠ 0)
    have m1 := Int.emod_lt_of_pos (cell / 40) (by decide : (0 : Int) < 11)
    have k0 := Int.emod_nonneg (cell / 440) (by decide : (6 : Int) ≠ 0)
    have k1 := Int.emod_lt_of_pos (cell / 440) (by decide : (0 : Int) < 6)
    have g0 := Int.emod_nonneg (cell / 2640) (by decide : (11 : Int) ≠ 0)
    have g1 := Int.emod_lt_of_pos (cell / 2640) (by decide : (0 : Int) < 11)
    have hob2 := B2.ob
    unfold bookO at hob2
    have hc1 : (0 : Int) < count + 1 := by omega
    have hss := hso.imp (congrArg V.str) (congrArg V.str)
    have sub : ∀ (pr : Option Int) (kd : Str) {Q2 : VK} {E2 : XK}, GoodOrd ho si pr (1 + cell / 440 % 6) kd 0 → (∀ p H', Q2 (.ref p) H' = Q (.ref p) H') → sp_Book_submit K T.c_InvalidOrder T.c_Order T.c_BookSide T.c_Book T.c_Stop T.c_Report [.ref a.x, .str ho, .str si, optV pr, .int (1 + cell / 440 % 6), .str kd, .int 0] H2 Q2 E2 := fun pr kd {Q2 E2} G hQ =>
      ⟨a, s, ho, si, pr, _, kd, 0, rfl, B2, hsz, fun _ s' reps p o dxo H' hT hf B' S' hR => by
        rw [hQ]
        have hkp : V.str kd = V.str "rest" → ∃ p, pr = some p := fun z => by
          cases pr with
          | none => exact absurd z (G.h5 rfl)
          | some p => exact ⟨p, rfl⟩
        exact q s' _ p H' (run_submit (t := newO s ho si pr (1 + cell / 440 % 6) 0) I B.pure B.sp.nd hso G.h6.1 (Int.le_refl 0) hkp hT hf) B' (S'.pre sA) hR, fun h => absurd G h⟩
    walk_at "st"
    refine iteB (fun h => ?_) (fun h => ?_)
    · walk_at "st"
      delta tNil
      refine sub (some _) "rest" ⟨hhe, hss, .inl rfl, (fun p hp => by cases hp; omega), (fun h => by cases h), by omega, by omega, fun h => absurd h (by decide)⟩ fun p H' => rfl
    · walk_at "st"
      refine iteB (fun h2 => ?_) (fun h2 => ?_)
      · walk_at "st"
        refine sub none "now" ⟨hhe, hss, .inr (.inl rfl), (fun p hp => by cases hp), (fun _ => by decide +kernel), by omega, by omega, fun h => absurd h (by decide)⟩ fun p H' => rfl
      · walk_at "st"
        refine iteB (fun h3 => ?_) (fun h3 => ?_)
        · walk_at "st"
          refine ⟨fun σ' H' => H' = H2 ∧ ∃ (_ : Unit) (lim : Option Int), σ' = [some (.ref a.x), some (.int cell), some (.int count), some (.str ho), some (.str si), some (.int (95 + cell / 40 % 11)), some (.int (1 + cell / 440 % 6)), some (.int (cell % 5)), some (optV lim)] ∧ ∀ l, lim = some l → 1 ≤ l ∧ l ≤ 1000000, ?_, ?_⟩
          · walk_at "st"
            refine iteB (fun h4 => ?_) (fun h4 => ?_)
            · walk_at "st"
              exact ⟨(), none, rfl, fun l hl => by cases hl⟩
            · exact ⟨rfl, (), some (95 + cell / 2640 % 11), rfl, fun l hl => by cases hl; omega⟩
          · rintro σ' H' ⟨rfl, _, lim, rfl, hlim⟩
            have G : GoodStp ho si (95 + cell / 40 % 11) lim (1 + cell / 440 % 6) := ⟨hhe, hss, by omega, hlim, by omega⟩
            walk_at "st"
            delta tNil
            refine ⟨a, s, ho, si, 95 + cell / 40 % 11, lim, 1 + cell / 440 % 6, rfl, B2, hsz, fun _ s' reps p y dy H3 nd hT hf B3 S3 hR => ?_, fun h => absurd G h⟩
            exact q s' _ p H3 (run_stop I B.pure G nd hT hf) B3 (S3.pre sA) hR
        · walk_at "st"
          delta tNil
          have tu := PySem.W.exm_ref T.b_BourseError T.d_BourseError T.t_BourseError T.su_UnknownOrder_BourseError
          have tn := PySem.W.exm_ref T.b_BourseError T.d_BourseError T.t_BourseError T.su_NotOwner_BourseError
          refine ⟨a, s, 1 + cell / 440 % (count + 1), ho, rfl, B2, fun e H3 h1 h2 B3 S3 => ?_, fun e h1 h2 => ?_, fun e H3 h1 h2 h3 B3 S3 => ?_, fun h1 h2 => ?_, fun e h1 h2 h3 => ?_⟩
          · walk_at "st"
            intro p np
            exact q _ [] p _ (run_offS I) (B3.same (same_upd np)) ((S3.pre sA).post (same_upd np)) ⟨[], upd_same, B3.fresh np, rfl, fun i r t h => by cases h⟩
          · refine ⟨true, tn, fun _ a0 _ => ?_, fun q => Bool.noConfusion q⟩
            walk_at "st"
            intro p np
            exact q s [] p _ (run_same I) (B2.same (same_upd np)) ((StepW.refl.pre sA).post (same_upd np)) ⟨[], upd_same, B2.fresh np, rfl, fun i r t h => by cases h⟩
          · walk_at "st"
            intro p np
            exact q _ [] p _ (run_offO I) (B3.same (same_upd np)) ((S3.pre sA).post (same_upd np)) ⟨[], upd_same, B3.fresh np, rfl, fun i r t h => by cases h⟩
          · refine ⟨true, tu, fun _ a0 _ => ?_, fun q => Bool.noConfusion q⟩
            walk_at "st"
            intro p np
            exact q s [] p _ (run_same I) (B2.same (same_upd np)) ((StepW.refl.pre sA).post (same_upd np)) ⟨[], upd_same, B2.fresh np, rfl, fun i r t h => by cases h⟩
          · refine ⟨true, tn, fun _ a0 _ => ?_, fun q => Bool.noConfusion q⟩
            walk_at "st"
            intro p np
            exact q s [] p _ (run_same I) (B2.same (same_upd np)) ((StepW.refl.pre sA).post (same_upd np)) ⟨[], upd_same, B2.fresh np, rfl, fun i r t h => by cases h⟩

theorem cutV_take {xs : List V} {k : Int} (h0 : 0 ≤ k) (h : k ≤ (xs.length : Int)) : cutV xs none (some k) = xs.take k.toNat := by
  obtain ⟨n, rfl⟩ := Int.eq_ofNat_of_zero_le h0
  have hn : n ≤ xs.length := by omega
  have e : HT.sIx xs.length xs.length (some (n : Int)) = n := by
    rw [HT.sIx_nat]
    omega
  unfold cutV
  show (xs.drop _).take (HT.sIx xs.length xs.length (some (n : Int)) - _) = _
  rw [e, HT.sIx_none, List.drop_zero, Int.toNat_natCast]
  rfl
theorem cutV_drop {xs : List V} {k : Int} (h0 : 0 ≤ k) (h : k ≤ (xs.length : Int)) : cutV xs (some k) none = xs.drop k.toNat := by
  obtain ⟨n, rfl⟩ := Int.eq_ofNat_of_zero_le h0
  have hn : n ≤ xs.length := by omega
  have e : HT.sIx xs.length 0 (some (n : Int)) = n := by
    rw [HT.sIx_nat]
    omega
  unfold cutV
  show (xs.drop (HT.sIx xs.length 0 (some (n : Int)))).take _ = _
  rw [e, HT.sIx_none, List.take_of_length_le (by rw [List.length_drop]; exact Nat.le_refl _), Int.toNat_natCast]

theorem flat_ints : ∀ xs : List Int, (xs.map V.int).all flatV = true
  | [] => rfl
  | x :: xs => by
    rw [List.map_cons, List.all_cons, flat_ints xs]
    rfl
theorem eqV_ints (x y : Int) : eqV (V.int x) (V.int y) = decide (x = y) := by
  show (x == y) = _
  exact Bool.beq_eq_decide_eq x y
theorem inV_ints (x : Int) : ∀ xs : List Int, inV (V.int x) (xs.map V.int) = decide (x ∈ xs)
  | [] => rfl
  | y :: xs => by
    have ih := inV_ints x xs
    unfold inV at ih ⊢
    rw [List.map_cons, List.any_cons, ih, eqV_ints]
    by_cases h : y = x
    · rw [decide_eq_true h, Bool.true_or, decide_eq_true (by rw [h]; exact List.mem_cons_self)]
    · rw [decide_eq_false h, Bool.false_or]
      exact decide_eq_decide.mpr ⟨fun z => List.mem_cons_of_mem _ z, fun z => (List.mem_cons.mp z).resolve_left fun e => h e.symm⟩

theorem lastR_take {last : Option Int} {reps : List RepT} {i : Nat} {t : RepT} (h : reps[i]? = some t) : lastR last (reps.take (i + 1)) = lastF (lastR last (reps.take i)) t.fills := by
  rw [take_succ h]
  unfold lastR
  rw [List.foldl_append]
  rfl
theorem lastF_take {last : Option Int} {fs : List (Int × Str × Int × Int)} {i : Nat} {f : Int × Str × Int × Int} (h : fs[i]? = some f) : lastF last (fs.take (i + 1)) = some f.2.2.1 := by
  rw [take_succ h, lastF_snoc]
def sp_law_last (K : PySem.W.Frag) (CR : Addr) : Sp := fun vs H Q _ => ∃ (_ : Unit) (D : Addr) (F : List Addr) (reps : List RepT) (last : Option Int), vs = [optV last, .ref D] ∧ RepsAt CR H F D reps ∧ Q (optV (lastR last reps)) H
set_option maxHeartbeats 0 in
theorem ok_law_last (T : Txt K mg) : FnOk P w K mg base CX0 1 T.f_law_last T.d_law_last ["last", "reports"] (sp_law_last K T.c_Report) := by
  refine T.F_law_last.ok sc_law_last (fun vs H Q E h => ?_) (fun cdv A outer s H vs Q E hr h => ?_)
  · obtain ⟨_, D, F, reps, last, rfl, _⟩ := h
    rfl
  · obtain ⟨_, D, F, reps, last, rfl, ⟨rs, hD, _, hlr, hreps⟩, q⟩ := h
    refine ⟨_, (pss_cons (ps_for PassesOwn.never rfl (pi_list (pv 1)) (pg_name (i := 2) sc_law_last.nd rfl (Or.inl rfl))
      (pss_one (ps_for PassesOwn.never rfl (pi_list (pe_fld (pv 2) rfl)) (pg_name (i := 3) sc_law_last.nd rfl (Or.inl rfl))
        (pss_one (ps_set (i := 0) sc_law_last.nd rfl (Or.inl rfl) (pe_ix ix_tup (pv 3) pe_int (fun _ _ => rfl)))))))
    (pss_one (ps_ret (pv 0)))), ?_⟩
    have fact_Report_0 := T.cl_Report; have fact_Report_1 := T.na_Report_number; have fact_Report_2 := T.na_Report_house; have fact_Report_3 := T.na_Report_side; have fact_Report_4 := T.na_Report_fills; have fact_Report_5 := T.na_Report_removed; have fact_Report_6 := T.na_Report_resting
    have hq := SqL.of (K := K) hD
    walk_at "st"
    refine for_list (K := K) (a := D) (xs := rs.map V.ref) (fun i σ H' => H' = H ∧ ∃ v2 v3 : Option V, σ = [some (optV (lastR last (reps.take i))), some (.ref D), v2, v3]) ⟨rfl, _, _, rfl⟩ (fun i σ H' _ ⟨e, _⟩ => by rw [e]; exact hq) ?_ ?_
    · rintro i v σ H' hv ⟨rfl, v2, v3, rfl⟩
      obtain ⟨r, hr, rfl⟩ := refs_at hv
      have hi := (List.getElem?_eq_some_iff.mp hr).1
      obtain ⟨t, ht⟩ : ∃ t, reps[i]? = some t := ⟨reps[i]'(by omega), List.getElem?_eq_getElem (by omega)⟩
      obtain ⟨dr, fl, rm, fs, h1, h2, h3, _⟩ := hreps i r t hr ht
      unfold repO at h1
      have hqf := SqL.of (K := K) h2.lst
      walk_at "st"
      refine for_list (K := K) (a := fl) (xs := fs.map V.ref) (fun j σ H2 => H2 = H' ∧ ∃ v3 : Option V, σ = [some (optV (lastF (lastR last (reps.take i)) (t.fills.take j))), some (.ref D), some (.ref r), v3]) ⟨rfl, _, rfl⟩ (fun j σ H2 _ ⟨e, _⟩ => by rw [e]; exact hqf) ?_ ?_
      · rintro j v σ H2 hv ⟨rfl, v3, rfl⟩
        obtain ⟨p, f, hp, hf, rfl, hpt⟩ := h2.item hv
        have hpq := SqT.of (K := K) hpt
        have hat : atI (encFill f) 2 = some (.int f.2.2.1) := rfl
        walk_at "st"
        rw [lastF_take hf]
        exact ⟨_, rfl⟩
      · rintro σ H2 ⟨rfl, v3, rfl⟩
        rw [List.length_map, h2.len, List.take_of_length_le (Nat.le_refl _)]
        exact ⟨rfl, some (.ref r), v3, by rw [lastR_take (last := last) ht]⟩
    · rintro σ H' ⟨rfl, v2, v3, rfl⟩
      rw [List.length_map, hlr, List.take_of_length_le (Nat.le_refl _)]
      walk_at "st"
      exact q
theorem sorted_self {ns ns' : List Int} (h : ns.Pairwise (· < ·)) (p : ns'.Perm ns) (h' : ns'.Pairwise (· ≤ ·)) : ns' = ns :=
  p.eq_of_pairwise (fun a b _ _ h1 h2 => Int.le_antisymm h1 h2) h' (h.imp fun h => Int.le_of_lt h)
theorem cut_one {xs : List V} : cutV xs (some 1) none = xs.drop 1 := by
  cases xs with
  | nil =>
    unfold cutV
    rw [List.drop_nil, List.take_nil]
    rfl
  | cons x xs => exact cutV_drop (by decide) (by rw [List.length_cons]; omega)
def trigN (reps : List RepT) : List Int := (reps.drop 1).map (·.number)
theorem run_facts {s s' : BS} {reps : List RepT} (R : Run25 s s' reps) {n : Int} (h : n ∈ trigN reps) : n ∉ numS s'.ss ∧ (trigN reps).count n = 1 ∧ (n ∈ numS s.ss ∨ ∃ r0 tl, reps = r0 :: tl ∧ n = r0.number) := by
  rcases R.sub with e | ⟨r0, tl, ex, e, hex, nd, pm⟩
  · rw [e] at h
    cases h
  · have e2 : trigN reps = tl.map (·.number) := by rw [e]; rfl
    rw [e2] at h ⊢
    obtain ⟨n1, n2, n3⟩ := List.nodup_append.mp (pm.nodup_iff.mp nd)
    refine ⟨fun k => n3 n h n k rfl, (by rw [n1.count, if_pos h]), ?_⟩
    rcases List.mem_append.mp (pm.mem_iff.mpr (List.mem_append_left _ h)) with k | k
    · exact .inl k
    · rcases hex with z | z
      · rw [z] at k; cases k
      · rw [z] at k
        exact .inr ⟨r0, tl, e, List.mem_singleton.mp k⟩
theorem run_all {s s' : BS} {reps : List RepT} (R : Run25 s s' reps) (hne : reps ≠ []) {n : Int} (h : n ∈ numS s.ss) : n ∈ numS s'.ss ∨ n ∈ trigN reps := by
  rcases R.sub with e | ⟨r0, tl, ex, e, hex, nd, pm⟩
  · exact absurd e hne
  · have e2 : trigN reps = tl.map (·.number) := by rw [e]; rfl
    rw [e2]
    exact (List.mem_append.mp (pm.mem_iff.mp (List.mem_append_left _ h))).symm
def sp_law_stops_right (K : PySem.W.Frag) (CO CB CK CS CR : Addr) : Sp := fun vs H Q _ => ∃ (_ : Unit) (a : BA) (s s' : BS) (reps : List RepT) (D bl : Addr) (F : List Addr), vs = [.ref a.x, .ref bl, .ref D] ∧ BookW ⟨CO, CB, CK, CS, CR⟩ H a s' ∧ H bl = some (.lst ((numS s.ss).map V.int)) ∧ Run25 s s' reps ∧ RepsAt CR H F D reps ∧ sizeS s ≤ 40 ∧ ∀ H', Same H H' → Q (.bl true) H'
set_option maxHeartbeats 0 in
theorem ok_law_stops_right (T : Txt K mg) : FnOk P w K mg base CX0 3 T.f_law_stops_right T.d_law_stops_right ["book", "before", "reports"] (sp_law_stops_right K T.c_Order T.c_BookSide T.c_Book T.c_Stop T.c_Report) := by
  refine T.F_law_stops_right.ok sc_law_stops_right (fun vs H Q E h => ?_) (fun cdv A outer s H vs Q E hr h => ?_)
  · obtain ⟨_, a, s, s', reps, D, bl, F, rfl, _⟩ := h
    rfl
  · obtain ⟨_, a, s, s', reps, D, bl, F, rfl, B, hbl, R, ⟨rs, hD, _, hlr, hreps⟩, hsz, q⟩ := h
    have G_Book_stops : FnOk P w K mg base CX0 2 T.f_Book_stops T.d_Book_stops ["self"] (sp_Book_stops K T.c_Stop T.c_Book) := ok_Book_stops T
    have G_law_reached : FnOk P w K mg base CX0 1 T.f_law_reached T.d_law_reached ["row", "last"] (sp_law_reached K) := ok_law_reached T
    refine ⟨_, (pss_cons (ps_setLc (i := 3) (own := [("row", 4)]) (g := gName 4) (tt := tYes) rfl sc_law_stops_right.nd rfl rfl (sw_true rfl rfl rfl (by decide +kernel)) (pi_list (pe_meth0 (pv 0) T.cl_Book T.mt_Book_stops G_Book_stops hr T.b_Book_stops .nil pass0)) (blkOk_by (own := [("row", 4)]) (N := N_law_stops_right) (sc := defScope s_law_stops_right) (by decide +kernel)) (fun _ _ _ _ _ => (pg_name (i := 4) sc_law_stops_right.nd rfl (Or.inl rfl))) (fun _ _ _ _ _ => pts_nil) (fun _ _ _ _ _ => (pe_ix (show IxR _ (rIxT K) from ix_tup) (pv 4) pe_int (fun _ _ => rfl))))
    (pss_cons (ps_if (pt_cmpR (op_neD hr.units) (pv 3) (pe_callB cr_sorted (by rfl) T.z_sorted (by decide +kernel) (pa_cons (pv 3) pa_nil)) (nomark _))
      (pss_one (ps_ret pe_bl))
      pss_nil)
    (pss_cons (ps_for PassesOwn.never rfl (pi_list (pe_meth0 (pv 0) T.cl_Book T.mt_Book_stops G_Book_stops hr T.b_Book_stops .nil pass0)) (pg_name (i := 4) sc_law_stops_right.nd rfl (Or.inl rfl))
      (pss_one (ps_if (pt_val (pe_call G_law_reached (hr.mono (by decide)) (by rfl) T.m_law_reached T.F_law_reached.kp T.b_law_reached .nil pass0 (pa_cons (pv 4) (pa_cons (pe_fld (pv 0) rfl) pa_nil))))
        (pss_one (ps_ret pe_bl))
        pss_nil)))
    (pss_cons (ps_setLc (i := 5) (own := [("report", 6)]) (g := gName 6) (tt := tYes) rfl sc_law_stops_right.nd rfl rfl (sw_true rfl rfl rfl (by decide +kernel)) (pi_list (pe_slice sl_list (pv 2) (po_some pe_int) po_none)) (blkOk_by (own := [("report", 6)]) (N := N_law_stops_right) (sc := defScope s_law_stops_right) (by decide +kernel)) (fun _ _ _ _ _ => (pg_name (i := 6) sc_law_stops_right.nd rfl (Or.inl rfl))) (fun _ _ _ _ _ => pts_nil) (fun _ _ _ _ _ => (show PE _ (Expr.Attribute _ "number" _) (tFld K _ "number") from pe_fld (pv 6) rfl)))
    (pss_cons (ps_for PassesOwn.never rfl (pi_list (pv 5)) (pg_name (i := 7) sc_law_stops_right.nd rfl (Or.inl rfl))
      (pss_cons (ps_if (PW.pt (pw_or (pt_cmpR op_in_seq (pv 7) (pv 3) rfl) (pw_or1 (pt_cmpR op_ne (pe_bm PySem.F.plainAttrs_list PySem.F.slot_list_count PySem.F.type_list_count mt_lcount (pv 5) (pa_cons (pv 7) pa_nil)) pe_int (nomark _)))))
        (pss_one (ps_ret pe_bl))
        pss_nil)
      (pss_one (ps_if (PW.pt (pw_and (pt_cmpR op_notIn_seq (pv 7) (pv 1) rfl) (pw_and1 (pt_cmpR op_ne (pv 7) (pe_fld (pe_ix ix_list (pv 2) pe_int (fun _ _ => rfl)) rfl) (nomark _)))))
        (pss_one (ps_ret pe_bl))
        pss_nil))))
    (pss_one (ps_ret pe_bl))))))), ?_⟩
    have fact_Book_0 := T.cl_Book; have fact_Book_1 := T.na_Book_last; have fact_Book_2 := T.na_Book__next_number; have fact_Book_3 := T.na_Book__sides; have fact_Book_4 := T.na_Book__stops; have fact_Report_0 := T.cl_Report; have fact_Report_1 := T.na_Report_number; have fact_Report_2 := T.na_Report_house; have fact_Report_3 := T.na_Report_side; have fact_Report_4 := T.na_Report_fills; have fact_Report_5 := T.na_Report_removed; have fact_Report_6 := T.na_Report_resting
    have hob := B.ob
    have hob2 := hob
    unfold bookO at hob2
    have hsz' := R.siz
    have hszs : s'.ss.length ≤ sizeS s' := by unfold sizeS; omega
    walk_at "st"
    refine ⟨_, _, _, rfl, hob, B.sp, fun D1 ps H1 s1 nD1 hT1 => ?_⟩
    have hq1 := SqL.of (K := K) hT1.lst
    walk_at "st"
    intro D2 nD2
    refine lc_list (K := K) (a := D1) (xs := ps.map V.ref) (fun i H' => H' = upd H1 D2 (.lst (((numS s'.ss).take i).map V.int))) rfl (fun i H' _ e => by rw [e]; exact (same_upd nD2).seq hq1) ?_ ?_
    · rintro i v H' hv rfl
      obtain ⟨p, e, hp, he, rfl, hpt⟩ := hT1.item hv
      have hpq := SqT.of (K := K) (same_upd (o := .lst (((numS s'.ss).take i).map V.int)) nD2 _ _ hpt)
      have hat : atI (rowS e) 0 = some (.int e.number) := rfl
      have hnm : (numS s'.ss)[i]? = some e.number := by
        rw [List.getElem?_map] at he
        unfold numS
        rw [List.getElem?_map]
        obtain ⟨y, hy, rfl⟩ := Option.map_eq_some_iff.mp he
        rw [hy]
        rfl
      have hi : i < s'.ss.length := by
        have := (List.getElem?_eq_some_iff.mp he).1
        rw [List.length_map] at this
        exact this
      refine ⟨rfl, ?_⟩
      walk_at "st"
      refine ⟨small1000 (by rw [List.length_map, List.length_take]; omega), ?_⟩
      rw [upd_upd, take_succ hnm, List.map_append]
      rfl
    · rintro H' rfl
      have hnl : (numS s'.ss).length = s'.ss.length := List.length_map ..
      have htk : (numS s'.ss).take (ps.map V.ref).length = numS s'.ss := by
        rw [List.length_map, hT1.len, List.length_map]
        exact List.take_of_length_le (by omega)
      rw [htk]
      have s2 := same_upd (o := .lst ((numS s'.ss).map V.int)) nD2
      have hD2 : upd H1 D2 (.lst ((numS s'.ss).map V.int)) D2 = some (.lst ((numS s'.ss).map V.int)) := upd_same
      generalize upd H1 D2 _ = H2 at *
      have hq2 := SqL.of (K := K) hD2
      walk_at "st"
      intro ns' p hperm hsort np
      obtain rfl : ns' = numS s'.ss := sorted_self R.inv.asc hperm hsort
      have s3 := same_upd (o := .lst ((numS s'.ss).map V.int)) np
      have hp3 : upd H2 p (.lst ((numS s'.ss).map V.int)) p = some (.lst ((numS s'.ss).map V.int)) := upd_same
      generalize upd H2 p _ = H3 at *
      have hD3 := s3 _ _ hD2
      walk_at "st"
      refine neD_ints (SqL.of hD3) (SqL.of hp3) ?_
      walk_at "st"
      refine iteB (fun h => absurd rfl (ndec_t h)) (fun _ => ?_)
      have B3 := B.same (s1.trans (s2.trans s3))
      have hob3 := B3.ob
      unfold bookO at hob3
      walk_at "st"
      refine ⟨_, _, _, rfl, B3.ob, B3.sp, fun D4 ps4 H4 s4 nD4 hT4 => ?_⟩
      have B4 := B3.same s4
      have hob4 := B4.ob
      unfold bookO at hob4
      have hq4 := SqL.of (K := K) hT4.lst
      walk_at "st"
      refine for_list (K := K) (a := D4) (xs := ps4.map V.ref) (fun i σ H' => H' = H4 ∧ ∃ v4 : Option V, σ = [some (.ref a.x), some (.ref bl), some (.ref D), some (.ref D2), v4, none, none, none]) ⟨rfl, _, rfl⟩ (fun i σ H' _ ⟨e, _⟩ => by rw [e]; exact hq4) ?_ ?_
      · rintro i v σ H' hv ⟨rfl, v4, rfl⟩
        obtain ⟨q4, e, hp4, he, rfl, hpt⟩ := hT4.item hv
        have hno : reachedS e s'.last = false := by
          rw [List.getElem?_map] at he
          obtain ⟨y, hy, rfl⟩ := Option.map_eq_some_iff.mp he
          have := List.find?_eq_none.mp R.inv.no y (List.mem_of_getElem? hy)
          cases h : reachedS y.2.2 s'.last with
          | false => rfl
          | true => exact absurd h this
        walk_at "st"
        refine ⟨e, s'.last, rfl, hpt, ?_⟩
        rw [hno]
        walk_at "st"
        exact ⟨_, rfl⟩
      · rintro σ H' ⟨rfl, v4, rfl⟩
        have hDa := s4 _ _ (s3 _ _ (s2 _ _ (s1 _ _ hD)))
        have hqD := SqL.of (K := K) hDa
        walk_at "st"
        intro p5 n5
        generalize hH5 : upd H' p5 _ = H5
        have s5 : Same H' H5 := hH5 ▸ same_upd n5
        have hp5 := (congrFun hH5 p5).symm.trans upd_same
        have hq5 := SqL.of (K := K) hp5
        rw [cut_one, ← List.map_drop] at hp5 hq5
        have hnr : (rs.drop 1).length = (reps.drop 1).length := by rw [List.length_drop, List.length_drop, hlr]
        have hrl : rs.length ≤ 100 := by
          rw [hlr]
          rcases R.sub with e | ⟨r0, tl, ex, e, hex, nd, pm⟩
          · rw [e]; exact Nat.zero_le _
          · rw [e]
            have h1 := pm.length_eq
            have h2 : ex.length ≤ 1 := by
              rcases hex with z | z
              · rw [z]; exact Nat.zero_le _
              · rw [z]; exact Nat.le_refl _
            have h3 : (numS s.ss).length = s.ss.length := List.length_map ..
            have h4 : s.ss.length ≤ sizeS s := by unfold sizeS; omega
            rw [List.length_append, List.length_append, List.length_map] at h1
            rw [List.length_cons]
            omega
        walk_at "st"
        intro D6 n6
        refine lc_list (K := K) (a := p5) (xs := (rs.drop 1).map V.ref) (fun i Hx => Hx = upd H5 D6 (.lst (((trigN reps).take i).map V.int))) rfl (fun i Hx _ e => by rw [e]; exact (same_upd n6).seq hq5) ?_ ?_
        · rintro i v Hx hv rfl
          obtain ⟨r, hr, rfl⟩ := refs_at hv
          have hi := (List.getElem?_eq_some_iff.mp hr).1
          obtain ⟨t, ht⟩ : ∃ t, (reps.drop 1)[i]? = some t := ⟨(reps.drop 1)[i]'(by omega), List.getElem?_eq_getElem (by omega)⟩
          have hr' := hr
          have ht' := ht
          rw [List.getElem?_drop] at hr' ht'
          obtain ⟨dr, fl, rm, fs, h1, _⟩ := hreps _ r t hr' ht'
          have h1 := same_upd (o := .lst (((trigN reps).take i).map V.int)) n6 _ _ (s5 _ _ (s4 _ _ (s3 _ _ (s2 _ _ (s1 _ _ h1)))))
          unfold repO at h1
          have htn : (trigN reps)[i]? = some t.number := by
            unfold trigN
            rw [List.getElem?_map, ht]
            rfl
          rw [List.length_drop] at hi
          refine ⟨rfl, ?_⟩
          walk_at "st"
          refine ⟨small1000 (by rw [List.length_map, List.length_take]; omega), ?_⟩
          rw [upd_upd, take_succ htn, List.map_append]
          rfl
        · rintro Hx rfl
          have htk : (trigN reps).take ((rs.drop 1).map V.ref).length = trigN reps := by
            rw [List.length_map, hnr]
            exact List.take_of_length_le (by unfold trigN; rw [List.length_map]; exact Nat.le_refl _)
          rw [htk]
          have s6 := same_upd (o := .lst ((trigN reps).map V.int)) n6
          have hD6 : upd H5 D6 (.lst ((trigN reps).map V.int)) D6 = some (.lst ((trigN reps).map V.int)) := upd_same
          generalize upd H5 D6 _ = H6 at *
          have hq6 := SqL.of (K := K) hD6
          have sAll := s1.trans (s2.trans (s3.trans (s4.trans (s5.trans s6))))
          have hqb := SqL.of (K := K) (sAll _ _ hbl)
          have hqn := SqL.of (K := K) (s6 _ _ (s5 _ _ (s4 _ _ hD3)))
          have hqr := SqL.of (K := K) (sAll _ _ hD)
          walk_at "st"
          refine for_list (K := K) (a := D6) (xs := (trigN reps).map V.int) (fun i σ Hx => Hx = H6 ∧ ∃ v6 v7 : Option V, σ = [some (.ref a.x), some (.ref bl), some (.ref D), some (.ref D2), v4, some (.ref D6), v6, v7]) ⟨rfl, _, _, rfl⟩ (fun i σ Hx _ ⟨e, _⟩ => by rw [e]; exact hq6) ?_ ?_
          · rintro i v σ Hx hv ⟨rfl, v6, v7, rfl⟩
            obtain ⟨n, hn, rfl⟩ := ints_at hv
            obtain ⟨f1, f2, f3⟩ := run_facts R (List.mem_of_getElem? hn)
            have hfl1 := flat_ints (numS s'.ss)
            have hfl2 := flat_ints (numS s.ss)
            have stop3 : ∀ {c : Bool} {A B : Prop}, c = false → B → if c = true then A else B := fun h b => by rw [h]; exact iteF b
            walk_at "st"
            refine stop3 (by rw [inV_ints]; exact decide_eq_false f1) ?_
            walk_at "st"
            rw [f2]
            refine stop3 (by decide) ?_
            walk_at "st"
            refine iteB (fun h => ?_) (fun h => ?_)
            · have hnb : ¬ n ∈ numS s.ss := by
                intro k
                have h2 : (!inV (V.int n) ((numS s.ss).map V.int)) = true := h
                rw [inV_ints, decide_eq_true k] at h2
                cases h2
              obtain ⟨r0, tl, e, hn0⟩ := f3.resolve_left hnb
              obtain ⟨r, hr⟩ : ∃ r, rs[0]? = some r := ⟨rs[0]'(by rw [hlr, e]; exact Nat.succ_pos _), List.getElem?_eq_getElem _⟩
              obtain ⟨dr, fl, rm, fs, h1, _⟩ := hreps 0 r r0 hr (by rw [e]; rfl)
              have h1 := sAll _ _ h1
              unfold repO at h1
              have hat : atI (rs.map V.ref) 0 = some (.ref r) := at_of (j := 0) rfl (by rw [List.getElem?_map, hr]; rfl)
              rw [hn0]
              walk_at "st"
              refine stop3 (by rw [decide_eq_true rfl]; rfl) ?_
              exact ⟨rfl, _, _, rfl⟩
            · exact ⟨rfl, _, _, rfl⟩
          · rintro σ Hx ⟨rfl, v6, v7, rfl⟩
            walk_at "st"
            exact q _ sAll

def sp_law (K : PySem.W.Frag) : Sp := fun vs H Q _ => ∃ (a : Addr) (ns : List Int), vs = [.ref a] ∧ SqL K H a (ns.map V.int) ∧ ns.length ≤ 63 ∧ ∀ H', Q (.bl true) H'
set_option maxHeartbeats 0 in
theorem ok_law {f : Addr} {fd : FuncData} (T : Txt K mg) (F : Fun K "law" "law" s_law f fd) : FnOk P w K mg base CX0 10 f fd ["script"] (sp_law K) := by
  refine F.ok sc_law (fun vs H Q E h => ?_) (fun cdv A outer s H vs Q E hr h => ?_)
  · obtain ⟨a, ns, rfl, _⟩ := h
    rfl
  · obtain ⟨z, ns, rfl, hs, hl, q⟩ := h
    have G_Book_init : FnOk P w K mg base CX0 3 T.f_Book_init T.d_Book_init ["self", "first_number"] (sp_Book_init K T.c_Order T.c_BookSide T.c_Book) := ok_Book_init T
    have G_law_run : FnOk P w K mg base CX0 9 T.f_law_run T.d_law_run ["book", "cell", "count"] (sp_law_run K T.c_Order T.c_BookSide T.c_Book T.c_Stop T.c_Report) := ok_law_run T
    have G_law_last : FnOk P w K mg base CX0 1 T.f_law_last T.d_law_last ["last", "reports"] (sp_law_last K T.c_Report) := ok_law_last T
    have G_Book_stops : FnOk P w K mg base CX0 2 T.f_Book_stops T.d_Book_stops ["self"] (sp_Book_stops K T.c_Stop T.c_Book) := ok_Book_stops T
    have G_law_stops_right : FnOk P w K mg base CX0 3 T.f_law_stops_right T.d_law_stops_right ["book", "before", "reports"] (sp_law_stops_right K T.c_Order T.c_BookSide T.c_Book T.c_Stop T.c_Report) := ok_law_stops_right T
    obtain ⟨D0_Book_init, B0_Book_init⟩ := T.b0_Book_init
    refine ⟨_, (pss_cons (ps_set (i := 1) sc_law.nd rfl (Or.inl rfl) (pe_make0 T.mk_Book G_Book_init (hr.mono (by decide)) (by rfl) T.m_Book B0_Book_init.2 B0_Book_init.1 pass0))
    (pss_cons (ps_set (i := 2) sc_law.nd rfl (Or.inl rfl) pe_non)
    (pss_cons (ps_for PassesOwn.never rfl (pi_enum (by rfl) T.z_enumerate (pa_cons (pe_slice sl_list (pv 0) po_none (po_some pe_int)) pa_nil)) (pg_tup rfl (pgs_cons (pg_name (i := 3) sc_law.nd rfl (Or.inl rfl)) (pgs_cons (pg_name (i := 4) sc_law.nd rfl (Or.inl rfl)) pgs_nil)))
      (pss_cons (ps_setLc (i := 5) (own := [("row", 6)]) (g := gName 6) (tt := tYes) rfl sc_law.nd rfl rfl (sw_true rfl rfl rfl (by decide +kernel)) (pi_list (pe_meth0 (pv 1) T.cl_Book T.mt_Book_stops G_Book_stops (hr.mono (by decide)) T.b_Book_stops .nil pass0)) (blkOk_by (own := [("row", 6)]) (N := N_law) (sc := defScope s_law) (by decide +kernel)) (fun _ _ _ _ _ => (pg_name (i := 6) sc_law.nd rfl (Or.inl rfl))) (fun _ _ _ _ _ => pts_nil) (fun _ _ _ _ _ => (pe_ix (show IxR _ (rIxT K) from ix_tup) (pv 6) pe_int (fun _ _ => rfl))))
      (pss_cons (ps_set (i := 7) sc_law.nd rfl (Or.inl rfl) (pe_call G_law_run hr (by rfl) T.m_law_run T.F_law_run.kp T.b_law_run .nil pass0 (pa_cons (pv 1) (pa_cons (pv 4) (pa_cons (pv 3) pa_nil)))))
      (pss_cons (ps_set (i := 2) sc_law.nd rfl (Or.inl rfl) (pe_call G_law_last (hr.mono (by decide)) (by rfl) T.m_law_last T.F_law_last.kp T.b_law_last .nil pass0 (pa_cons (pv 2) (pa_cons (pv 7) pa_nil))))
      (pss_cons (ps_if (PW.pt (pw_or (pt_cmpR op_ne (pe_fld (pv 1) rfl) (pv 2) (nomark _)) (pw_or1 (pt_not (pt_val (pe_call G_law_stops_right (hr.mono (by decide)) (by rfl) T.m_law_stops_right T.F_law_stops_right.kp T.b_law_stops_right .nil pass0 (pa_cons (pv 1) (pa_cons (pv 5) (pa_cons (pv 7) pa_nil)))))))))
        (pss_one (ps_ret pe_bl))
        pss_nil)
      (pss_cons (ps_setLc (i := 8) (own := [("row", 6)]) (g := gName 6) (tt := tYes) rfl sc_law.nd rfl rfl (sw_true rfl rfl rfl (by decide +kernel)) (pi_list (pe_meth0 (pv 1) T.cl_Book T.mt_Book_stops G_Book_stops (hr.mono (by decide)) T.b_Book_stops .nil pass0)) (blkOk_by (own := [("row", 6)]) (N := N_law) (sc := defScope s_law) (by decide +kernel)) (fun _ _ _ _ _ => (pg_name (i := 6) sc_law.nd rfl (Or.inl rfl))) (fun _ _ _ _ _ => pts_nil) (fun _ _ _ _ _ => (pe_ix (show IxR _ (rIxT K) from ix_tup) (pv 6) pe_int (fun _ _ => rfl))))
      (pss_one (ps_if (pt_truth (pv 7) (by intro _; rfl))
        (pss_one (ps_for PassesOwn.never rfl (pi_list (pv 5)) (pg_name (i := 9) sc_law.nd rfl (Or.inl rfl))
          (pss_one (ps_if (PW.pt (pw_and (pt_cmpR op_notIn_seq (pv 9) (pv 8) rfl) (pw_and1 (pt_cmpR op_notIn_seq (pv 9) (pe_lc (own := [("report", 10)]) (g := gName 10) (tt := tYes) rfl sc_law.nd (pi_list (pe_slice sl_list (pv 7) (po_some pe_int) po_none)) (blkOk_by (own := [("report", 10)]) (N := N_law) (sc := defScope s_law) (by decide +kernel)) (fun _ _ _ _ _ => (pg_name (i := 10) sc_law.nd rfl (Or.inl rfl))) (fun _ _ _ _ _ => pts_nil) (fun _ _ _ _ _ => (show PE _ (Expr.Attribute _ "number" _) (tFld K _ "number") from pe_fld (pv 10) rfl))) rfl))))
            (pss_one (ps_ret pe_bl))
            pss_nil))))
        pss_nil))))))))
    (pss_one (ps_ret pe_bl))))), ?_⟩
    have fact_Book_0 := T.cl_Book; have fact_Book_1 := T.na_Book_last; have fact_Book_2 := T.na_Book__next_number; have fact_Book_3 := T.na_Book__sides; have fact_Book_4 := T.na_Book__stops; have fact_Report_0 := T.cl_Report; have fact_Report_1 := T.na_Report_number; have fact_Report_2 := T.na_Report_house; have fact_Report_3 := T.na_Report_side; have fact_Report_4 := T.na_Report_fills; have fact_Report_5 := T.na_Report_removed; have fact_Report_6 := T.na_Report_resting
    walk_at "st"
    intro x dx nx ndx nex
    refine ⟨x, dx, 1, rfl, upd_same, fun H1 sd st b1 d1 l1 b2 d2 l2 BA hlls hnew hfr => ?_⟩
    have s1 : Same H H1 := fun z o hz => by
      have zx : z ≠ x := fun e => by rw [e, nx] at hz; cases hz
      have zd : z ≠ dx := fun e => by rw [e, ndx] at hz; cases hz
      refine hfr z o zx ?_
      rw [upd_ne zx, upd_ne zd]
      exact hz
    have B0 : BookW ⟨T.c_Order, T.c_BookSide, T.c_Book, T.c_Stop, T.c_Report⟩ H1 ⟨x, dx, sd, st, b1, d1, l1, b2, d2, l2⟩ ⟨none, 1, [], [], []⟩ :=
      ⟨BA.ob, BA.sd, ⟨BA.st, (fun e he => by cases he), List.nodup_nil, Nat.zero_le _⟩, BA.s1, BA.s2, Rank.nil _, Rank.nil _, (fun e he => by cases he), hlls.1, hlls.2.1, hlls.2.2, (fun e he => by cases he), Nat.zero_le _⟩
    refine ⟨rfl, ?_⟩
    have hs1 := s1.seq hs
    have hcz : cutV (ns.map V.int) none (some 30) = (cutI ns none (some 30)).map V.int := cutV_ints ns none (some 30)
    have hcl : (cutI ns none (some 30)).length ≤ 30 := by
      unfold cutI
      rw [List.length_take]
      have : HT.sIx ns.length ns.length (some 30) ≤ 30 := by
        rw [show (some (30 : Int)) = some ((30 : Nat) : Int) from rfl, HT.sIx_nat]
        omega
      omega
    walk_at "st"
    intro C nC
    rw [hcz]
    generalize cutI ns none (some 30) = cs at hcl
    generalize hH2 : upd H1 C _ = H2
    have s2 : Same H1 H2 := hH2 ▸ same_upd nC
    have hC := (congrFun hH2 C).symm.trans upd_same
    have hqC := SqL.of (K := K) hC
    have fC := B0.fresh nC
    have B0 := B0.same s2
    walk_at "st"
    refine for_enum (a := C) (xs := cs.map V.int) (fun i σ H' => ∃ (v3 v4 v5 v6 v7 v8 v9 v10 : Option V) (s : BS), σ = [some (.ref z), some (.ref x), some (optV s.last), v3, v4, v5, v6, v7, v8, v9, v10] ∧ H' C = some (.lst (cs.map V.int)) ∧ C ∉ foot ⟨x, dx, sd, st, b1, d1, l1, b2, d2, l2⟩ s ∧ BookW ⟨T.c_Order, T.c_BookSide, T.c_Book, T.c_Stop, T.c_Report⟩ H' ⟨x, dx, sd, st, b1, d1, l1, b2, d2, l2⟩ s ∧ Inv25 s ∧ sizeS s ≤ i)
      ⟨none, none, none, none, none, none, none, none, ⟨none, 1, [], [], []⟩, rfl, hC, fC, B0, ⟨List.Pairwise.nil, (fun n hn => by cases hn), rfl⟩, Nat.zero_le _⟩ (fun i σ H' _ ⟨_, _, _, _, _, _, _, _, _, _, h, _⟩ => SqL.of h) ?_ ?_
    · rintro i v σ H3 U hv ⟨v3, v4, v5, v6, v7, v8, v9, v10, s, rfl, hC3, fC3, B3, I3, hsz3⟩ nU
      obtain ⟨cell, hcell, rfl⟩ := ints_at hv
      have hi := (List.getElem?_eq_some_iff.mp hcell).1
      generalize hH4 : upd H3 U _ = H4
      have s4 : Same H3 H4 := hH4 ▸ same_upd nU
      have hU := (congrFun hH4 U).symm.trans upd_same
      have hqU := SqT.of (K := K) hU
      have B4 := B3.same s4
      have hob4 := B4.ob
      unfold bookO at hob4
      have hszs : s.ss.length ≤ sizeS s := by unfold sizeS; omega
      have hnl : (numS s.ss).length = s.ss.length := List.length_map ..
      walk_at "st"
      refine ⟨_, _, _, rfl, B4.ob, B4.sp, fun D1 ps H5 s5 nD1 hT1 => ?_⟩
      have B5 := B4.same s5
      have hq1 := SqL.of (K := K) hT1.lst
      walk_at "st"
      intro bl nbl
      refine lc_list (K := K) (a := D1) (xs := ps.map V.ref) (fun k H' => H' = upd H5 bl (.lst (((numS s.ss).take k).map V.int))) rfl (fun k H' _ e => by rw [e]; exact (same_upd nbl).seq hq1) ?_ ?_
      · rintro k v H' hv rfl
        obtain ⟨p, e, hp, he, rfl, hpt⟩ := hT1.item hv
        have hpq := SqT.of (K := K) (same_upd (o := .lst (((numS s.ss).take k).map V.int)) nbl _ _ hpt)
        have hat : atI (rowS e) 0 = some (.int e.number) := rfl
        have hnm : (numS s.ss)[k]? = some e.number := by
          rw [List.getElem?_map] at he
          unfold numS
          rw [List.getElem?_map]
          obtain ⟨y, hy, rfl⟩ := Option.map_eq_some_iff.mp he
          rw [hy]
          rfl
        refine ⟨rfl, ?_⟩
        walk_at "st"
        refine ⟨small1000 (by rw [List.length_map, List.length_take]; omega), ?_⟩
        rw [upd_upd, take_succ hnm, List.map_append]
        rfl
      · rintro H' rfl
        have htk : (numS s.ss).take (ps.map V.ref).length = numS s.ss := by
          rw [List.length_map, hT1.len, List.length_map]
          exact List.take_of_length_le (by omega)
        rw [htk]
        have s6 := same_upd (o := .lst ((numS s.ss).map V.int)) nbl
        have hbl : upd H5 bl (.lst ((numS s.ss).map V.int)) bl = some (.lst ((numS s.ss).map V.int)) := upd_same
        have fbl := B5.fresh nbl
        generalize upd H5 bl _ = H6 at *
        have B6 := B5.same s6
        walk_at "st"
        refine ⟨⟨x, dx, sd, st, b1, d1, l1, b2, d2, l2⟩, s, cell, (i : Int), rfl, B6, by omega, I3, by omega, fun s' reps p H7 R B7 S7 hR => ?_⟩
        have hC6 := s6 _ _ (s5 _ _ (s4 _ _ hC3))
        have hC7 := S7.fr _ _ fC3 hC6
        have fC7 := S7.out hC6 fC3
        have hbl7 := S7.fr _ _ fbl hbl
        have hsz7 := R.siz
        walk_at "st"
        refine ⟨(), p, _, reps, s.last, rfl, hR, ?_⟩
        rw [← R.lst]
        have hob7 := B7.ob
        unfold bookO at hob7
        have hsc : scal (optV s'.last) (optV s'.last) = true := by cases s'.last <;> rfl
        have stop3 : ∀ {c : Bool} {A B : Prop}, c = false → B → if c = true then A else B := fun h b => by rw [h]; exact iteF b
        walk_at "st"
        refine stop3 (by rw [decide_eq_true rfl]; rfl) ?_
        walk_at "st"
        refine ⟨(), ⟨x, dx, sd, st, b1, d1, l1, b2, d2, l2⟩, s, s', reps, p, bl, _, rfl, B7, hbl7, R, hR, by omega, fun H8 s8 => ?_⟩
        have B8 := B7.same s8
        have hob8 := B8.ob
        unfold bookO at hob8
        have hbl8 := s8 _ _ hbl7
        have hC8 := s8 _ _ hC7
        obtain ⟨rs, hp7, hpF, hlr, hreps⟩ := hR
        have hp8 := s8 _ _ hp7
        have hszs' : s'.ss.length ≤ sizeS s' := by unfold sizeS; omega
        have hnl' : (numS s'.ss).length = s'.ss.length := List.length_map ..
        walk_at "st"
        refine ⟨_, _, _, rfl, B8.ob, B8.sp, fun D9 ps9 H9 s9 nD9 hT9 => ?_⟩
        have B9 := B8.same s9
        have hq9 := SqL.of (K := K) hT9.lst
        walk_at "st"
        intro nw nnw
        refine lc_list (K := K) (a := D9) (xs := ps9.map V.ref) (fun k H' => H' = upd H9 nw (.lst (((numS s'.ss).take k).map V.int))) rfl (fun k H' _ e => by rw [e]; exact (same_upd nnw).seq hq9) ?_ ?_
        · rintro k v H' hv rfl
          obtain ⟨p, e, hp, he, rfl, hpt⟩ := hT9.item hv
          have hpq := SqT.of (K := K) (same_upd (o := .lst (((numS s'.ss).take k).map V.int)) nnw _ _ hpt)
          have hat : atI (rowS e) 0 = some (.int e.number) := rfl
          have hnm : (numS s'.ss)[k]? = some e.number := by
            rw [List.getElem?_map] at he
            unfold numS
            rw [List.getElem?_map]
            obtain ⟨y, hy, rfl⟩ := Option.map_eq_some_iff.mp he
            rw [hy]
            rfl
          refine ⟨rfl, ?_⟩
          walk_at "st"
          refine ⟨small1000 (by rw [List.length_map, List.length_take]; omega), ?_⟩
          rw [upd_upd, take_succ hnm, List.map_append]
          rfl
        · rintro H' rfl
          have htk : (numS s'.ss).take (ps9.map V.ref).length = numS s'.ss := by
            rw [List.length_map, hT9.len, List.length_map]
            exact List.take_of_length_le (by omega)
          rw [htk]
          have s10 := same_upd (o := .lst ((numS s'.ss).map V.int)) nnw
          have hnw : upd H9 nw (.lst ((numS s'.ss).map V.int)) nw = some (.lst ((numS s'.ss).map V.int)) := upd_same
          generalize upd H9 nw _ = H10 at *
          have s810 := s9.trans s10
          have BE := B8.same s810
          have hCE := s810 _ _ hC8
          have hpE := s810 _ _ hp8
          have hblE := s810 _ _ hbl8
          have hqE := SqL.of (K := K) hpE
          have hqb := SqL.of (K := K) hblE
          have stE : StepW ⟨x, dx, sd, st, b1, d1, l1, b2, d2, l2⟩ s' s' H7 H10 := StepW.refl.pre (s8.trans s810)
          have fin : ∀ (v3 v4 v5 v6 v7 v8 v9 v10 : Option V) (Hf : Hp), Same H10 Hf → ∃ (w3 w4 w5 w6 w7 w8 w9 w10 : Option V) (sx : BS), [some (.ref z), some (.ref x), some (optV s'.last), v3, v4, v5, v6, v7, v8, v9, v10] = [some (.ref z), some (.ref x), some (optV sx.last), w3, w4, w5, w6, w7, w8, w9, w10] ∧ Hf C = some (.lst (cs.map V.int)) ∧ C ∉ foot ⟨x, dx, sd, st, b1, d1, l1, b2, d2, l2⟩ sx ∧ BookW ⟨T.c_Order, T.c_BookSide, T.c_Book, T.c_Stop, T.c_Report⟩ Hf ⟨x, dx, sd, st, b1, d1, l1, b2, d2, l2⟩ sx ∧ Inv25 sx ∧ sizeS sx ≤ i + 1 := fun v3 v4 v5 v6 v7 v8 v9 v10 Hf e => ⟨v3, v4, v5, v6, v7, v8, v9, v10, s', rfl, e _ _ hCE, fC7, BE.same e, R.inv, by omega⟩
          cases hrs : rs with
          | nil =>
            subst hrs
            walk_at "st"
            refine iteF ?_
            exact fin _ _ _ _ _ _ _ _ _ (Same.refl _)
          | cons r rs2 =>
            have hne : reps ≠ [] := fun e => by rw [e, hrs] at hlr; cases hlr
            have hrl : rs.length ≤ 100 := by
              rw [hlr]
              rcases R.sub with e | ⟨r0, tl, ex, e, hex, nd, pm⟩
              · rw [e]; exact Nat.zero_le _
              · rw [e]
                have h1 := pm.length_eq
                have h2 : ex.length ≤ 1 := by
                  rcases hex with z | z
                  · rw [z]; exact Nat.zero_le _
                  · rw [z]; exact Nat.le_refl _
                rw [List.length_append, List.length_append, List.length_map] at h1
                rw [List.length_cons]
                omega
            have htr : (!(rs.map V.ref).isEmpty) = true := by rw [hrs]; rfl
            clear hrs
            have hfl1 := flat_ints (numS s'.ss)
            have hqn := SqL.of (K := K) hnw
            walk_at "st"
            rw [htr]
            refine iteT ?_
            walk_at "st"
            refine for_list (K := K) (a := bl) (xs := (numS s.ss).map V.int) (fun j σ Hx => Same H10 Hx ∧ ∃ v9 v10 : Option V, σ = [some (.ref z), some (.ref x), some (optV s'.last), some (.int (i : Int)), some (.int cell), some (.ref bl), v6, some (.ref p), some (.ref nw), v9, v10]) ⟨Same.refl _, _, _, rfl⟩ (fun j σ Hx _ ⟨e, _⟩ => e.seq hqb) ?_ ?_
            · rintro j v σ Hx hv ⟨ex, v9, v10, rfl⟩
              obtain ⟨n, hn, rfl⟩ := ints_at hv
              have hall := run_all R hne (List.mem_of_getElem? hn)
              have hqnx := ex.seq hqn
              have hqEx := ex.seq hqE
              walk_at "st"
              refine iteB (fun h => ?_) (fun h => ?_)
              · have hnn : n ∈ trigN reps := hall.resolve_left fun k => by
                  have h2 : (!inV (V.int n) ((numS s'.ss).map V.int)) = true := h
                  rw [inV_ints, decide_eq_true k] at h2
                  cases h2
                walk_at "st"
                intro p5 n5
                generalize hH5 : upd Hx p5 _ = Hy
                have s5 : Same Hx Hy := hH5 ▸ same_upd n5
                have hp5 := (congrFun hH5 p5).symm.trans upd_same
                rw [cut_one, ← List.map_drop] at hp5
                have hq5 := SqL.of (K := K) hp5
                have hnr : (rs.drop 1).length = (reps.drop 1).length := by rw [List.length_drop, List.length_drop, hlr]
                have sy := ((s8.trans s810).trans ex).trans s5
                walk_at "st"
                intro D6 n6
                refine lc_list (K := K) (a := p5) (xs := (rs.drop 1).map V.ref) (fun k Hz => Hz = upd Hy D6 (.lst (((trigN reps).take k).map V.int))) rfl (fun k Hz _ e => by rw [e]; exact (same_upd n6).seq hq5) ?_ ?_
                · rintro k v Hz hv rfl
                  obtain ⟨r', hr, rfl⟩ := refs_at hv
                  have hi := (List.getElem?_eq_some_iff.mp hr).1
                  obtain ⟨t, ht⟩ : ∃ t, (reps.drop 1)[k]? = some t := ⟨(reps.drop 1)[k]'(by omega), List.getElem?_eq_getElem (by omega)⟩
                  have hr' := hr
                  have ht' := ht
                  rw [List.getElem?_drop] at hr' ht'
                  obtain ⟨dr, fl, rm, fs, h1, _⟩ := hreps _ r' t hr' ht'
                  have h1 := same_upd (o := .lst (((trigN reps).take k).map V.int)) n6 _ _ (sy _ _ h1)
                  unfold repO at h1
                  have htn : (trigN reps)[k]? = some t.number := by
                    unfold trigN
                    rw [List.getElem?_map, ht]
                    rfl
                  rw [List.length_drop] at hi
                  refine ⟨rfl, ?_⟩
                  walk_at "st"
                  refine ⟨small1000 (by rw [List.length_map, List.length_take]; omega), ?_⟩
                  rw [upd_upd, take_succ htn, List.map_append]
                  rfl
                · rintro Hz rfl
                  have htk : (trigN reps).take ((rs.drop 1).map V.ref).length = trigN reps := by
                    rw [List.length_map, hnr]
                    exact List.take_of_length_le (by unfold trigN; rw [List.length_map]; exact Nat.le_refl _)
                  rw [htk]
                  have s6 := same_upd (o := .lst ((trigN reps).map V.int)) n6
                  have hq6 := SqL.of (K := K) (show upd Hy D6 (.lst ((trigN reps).map V.int)) D6 = some (.lst ((trigN reps).map V.int)) from upd_same)
                  have hfl6 := flat_ints (trigN reps)
                  generalize upd Hy D6 _ = Hw at *
                  walk_at "st"
                  refine stop3 (c := !inV (V.int n) ((trigN reps).map V.int)) (by rw [inV_ints, decide_eq_true hnn]; rfl) ?_
                  exact ⟨(ex.trans s5).trans s6, _, _, rfl⟩
              · exact ⟨ex, _, _, rfl⟩
            · rintro σ Hx ⟨ex, v9, v10, rfl⟩
              exact fin _ _ _ _ _ _ _ _ _ ex
    · rintro σ H3 ⟨v3, v4, v5, v6, v7, v8, v9, v10, s, rfl, _⟩
      walk_at "st"
      exact q _

end
set_option maxHeartbeats 0 in
theorem all_mk {l : PySem.W.OpenLaw} {w : World} {K : PySem.W.Frag} {h : Heap} {mg : Str → Option Value} {fa f1 f2 f3 f4 f5 f6 f7 f8 f9 f10 f11 f12 f13 f14 f15 f16 f17 f18 f19 f20 f21 f22 f23 f24 f25 f26 f27 f28 f29 f30 f31 f32 f33 f34 f35 f36 f37 f38 f39 f40 f41 f42 f43 f44 f45 f46 f47 : Addr} (X : K.In h) (G : h.Ns mainGlobals mg) (hfa : mg "law" = some (.ref fa))
    {c_BourseError c_InvalidOrder c_UnknownOrder c_NotOwner c_Order c_Stop c_BookSide c_Report c_Book : Addr}
    {od1 an1 od2 an2 od3 an3 od4 an4 od5 an5 od6 an6 od7 an7 od8 an8 od9 an9 od10 an10 od11 an11 od12 an12 od13 an13 od14 an14 od15 an15 od16 an16 od17 an17 od18 an18 od19 an19 od20 an20 od21 an21 od22 an22 od23 an23 od24 an24 od25 an25 od26 an26 od27 an27 od28 an28 od29 an29 od30 an30 od31 an31 od32 an32 od33 an33 od34 an34 od35 an35 od36 an36 od37 an37 od38 an38 od39 an39 od40 an40 od41 an41 od42 an42 od43 an43 od44 an44 od45 an45 od46 an46 od47 an47 : Option Addr} {sl1 sl2 sl3 sl4 sl5 sl6 sl7 sl8 sl9 sl10 sl11 sl12 sl13 sl14 sl15 sl16 sl17 sl18 sl19 sl20 sl21 sl22 sl23 sl24 sl25 sl26 sl27 sl28 sl29 sl30 sl31 sl32 sl33 sl34 sl35 sl36 sl37 sl38 sl39 sl40 sl41 sl42 sl43 sl44 sl45 sl46 sl47 : Array (Option Value)} {oc1 kV1 dc1 pm1 cd1 ct1 oc2 kV2 dc2 pm2 cd2 ct2 oc3 kV3 dc3 pm3 cd3 ct3 oc4 kV4 dc4 pm4 cd4 ct4 oc5 kV5 dc5 pm5 cd5 ct5 oc6 kV6 dc6 pm6 cd6 ct6 oc7 kV7 dc7 pm7 cd7 ct7 oc8 kV8 dc8 pm8 cd8 ct8 oc9 kV9 dc9 pm9 cd9 ct9 oc10 kV10 dc10 pm10 cd10 ct10 oc11 kV11 dc11 pm11 cd11 ct11 oc12 kV12 dc12 pm12 cd12 ct12 oc13 kV13 dc13 pm13 cd13 ct13 oc14 kV14 dc14 pm14 cd14 ct14 oc15 kV15 dc15 pm15 cd15 ct15 oc16 kV16 dc16 pm16 cd16 ct16 oc17 kV17 dc17 pm17 cd17 ct17 oc18 kV18 dc18 pm18 cd18 ct18 oc19 kV19 dc19 pm19 cd19 ct19 oc20 kV20 dc20 pm20 cd20 ct20 oc21 kV21 dc21 pm21 cd21 ct21 oc22 kV22 dc22 pm22 cd22 ct22 oc23 kV23 dc23 pm23 cd23 ct23 oc24 kV24 dc24 pm24 cd24 ct24 oc25 kV25 dc25 pm25 cd25 ct25 oc26 kV26 dc26 pm26 cd26 ct26 oc27 kV27 dc27 pm27 cd27 ct27 oc28 kV28 dc28 pm28 cd28 ct28 oc29 kV29 dc29 pm29 cd29 ct29 oc30 dc30 pm30 cd30 ct30 oc31 kV31 dc31 pm31 cd31 ct31 oc32 kV32 dc32 pm32 cd32 ct32 oc33 kV33 dc33 pm33 cd33 ct33 oc34 kV34 dc34 pm34 cd34 ct34 oc35 kV35 dc35 pm35 cd35 ct35 oc36 kV36 dc36 pm36 cd36 ct36 oc37 kV37 dc37 pm37 cd37 ct37 oc38 kV38 dc38 pm38 cd38 ct38 oc39 kV39 dc39 pm39 cd39 ct39 oc40 kV40 dc40 pm40 cd40 ct40 oc41 kV41 dc41 pm41 cd41 ct41 oc42 kV42 dc42 pm42 cd42 ct42 oc43 kV43 dc43 pm43 cd43 ct43 oc44 kV44 dc44 pm44 cd44 ct44 oc45 kV45 dc45 pm45 cd45 ct45 oc46 kV46 dc46 pm46 cd46 ct46 oc47 kV47 dc47 pm47 cd47 ct47 : Value}
    (a1 : PySem.W.nsIn K mainGlobals "is_integral" = some (some (.ref f1)))
    (l1 : K.lookup f1 = some ⟨oc1, od1, .func (PySem.W.fnOf "is_integral" "is_integral" (defArgs s_is_integral) (defBody s_is_integral) (defScope s_is_integral) .none kV1 dc1 pm1 an1 cd1 ct1), sl1⟩) (c1 : PySem.W.codeIn K cd1 "is_integral" = true) (k1 : PySem.W.keepIn K (.ref f1) = true)
    (a2 : PySem.W.nsIn K mainGlobals "is_within" = some (some (.ref f2)))
    (l2 : K.lookup f2 = some ⟨oc2, od2, .func (PySem.W.fnOf "is_within" "is_within" (defArgs s_is_within) (defBody s_is_within) (defScope s_is_within) .none kV2 dc2 pm2 an2 cd2 ct2), sl2⟩) (c2 : PySem.W.codeIn K cd2 "is_within" = true) (k2 : PySem.W.keepIn K (.ref f2) = true)
    (a3 : PySem.W.nsIn K mainGlobals "other_side" = some (some (.ref f3)))
    (l3 : K.lookup f3 = some ⟨oc3, od3, .func (PySem.W.fnOf "other_side" "other_side" (defArgs s_other_side) (defBody s_other_side) (defScope s_other_side) .none kV3 dc3 pm3 an3 cd3 ct3), sl3⟩) (c3 : PySem.W.codeIn K cd3 "other_side" = true) (k3 : PySem.W.keepIn K (.ref f3) = true)
    (a4 : PySem.W.nsIn K mainGlobals "accepts" = some (some (.ref f4)))
    (l4 : K.lookup f4 = some ⟨oc4, od4, .func (PySem.W.fnOf "accepts" "accepts" (defArgs s_accepts) (defBody s_accepts) (defScope s_accepts) .none kV4 dc4 pm4 an4 cd4 ct4), sl4⟩) (c4 : PySem.W.codeIn K cd4 "accepts" = true) (k4 : PySem.W.keepIn K (.ref f4) = true)
    (a5 : PySem.W.nsIn K mainGlobals "check_house" = some (some (.ref f5)))
    (l5 : K.lookup f5 = some ⟨oc5, od5, .func (PySem.W.fnOf "check_house" "check_house" (defArgs s_check_house) (defBody s_check_house) (defScope s_check_house) .none kV5 dc5 pm5 an5 cd5 ct5), sl5⟩) (c5 : PySem.W.codeIn K cd5 "check_house" = true) (k5 : PySem.W.keepIn K (.ref f5) = true)
    (a6 : PySem.W.nsIn K mainGlobals "check_side" = some (some (.ref f6)))
    (l6 : K.lookup f6 = some ⟨oc6, od6, .func (PySem.W.fnOf "check_side" "check_side" (defArgs s_check_side) (defBody s_check_side) (defScope s_check_side) .none kV6 dc6 pm6 an6 cd6 ct6), sl6⟩) (c6 : PySem.W.codeIn K cd6 "check_side" = true) (k6 : PySem.W.keepIn K (.ref f6) = true)
    (a7 : PySem.W.nsIn K mainGlobals "check_number" = some (some (.ref f7)))
    (l7 : K.lookup f7 = some ⟨oc7, od7, .func (PySem.W.fnOf "check_number" "check_number" (defArgs s_check_number) (defBody s_check_number) (defScope s_check_number) .none kV7 dc7 pm7 an7 cd7 ct7), sl7⟩) (c7 : PySem.W.codeIn K cd7 "check_number" = true) (k7 : PySem.W.keepIn K (.ref f7) = true)
    (a8 : PySem.W.nsIn K mainGlobals "check_price" = some (some (.ref f8)))
    (l8 : K.lookup f8 = some ⟨oc8, od8, .func (PySem.W.fnOf "check_price" "check_price" (defArgs s_check_price) (defBody s_check_price) (defScope s_check_price) .none kV8 dc8 pm8 an8 cd8 ct8), sl8⟩) (c8 : PySem.W.codeIn K cd8 "check_price" = true) (k8 : PySem.W.keepIn K (.ref f8) = true)
    (a9 : PySem.W.nsIn K mainGlobals "check_quantity" = some (some (.ref f9)))
    (l9 : K.lookup f9 = some ⟨oc9, od9, .func (PySem.W.fnOf "check_quantity" "check_quantity" (defArgs s_check_quantity) (defBody s_check_quantity) (defScope s_check_quantity) .none kV9 dc9 pm9 an9 cd9 ct9), sl9⟩) (c9 : PySem.W.codeIn K cd9 "check_quantity" = true) (k9 : PySem.W.keepIn K (.ref f9) = true)
    (a10 : PySem.W.nsIn K mainGlobals "check_order" = some (some (.ref f10)))
    (l10 : K.lookup f10 = some ⟨oc10, od10, .func (PySem.W.fnOf "check_order" "check_order" (defArgs s_check_order) (defBody s_check_order) (defScope s_check_order) .none kV10 dc10 pm10 an10 cd10 ct10), sl10⟩) (c10 : PySem.W.codeIn K cd10 "check_order" = true) (k10 : PySem.W.keepIn K (.ref f10) = true)
    (a11 : PySem.W.nsIn K mainGlobals "check_stop" = some (some (.ref f11)))
    (l11 : K.lookup f11 = some ⟨oc11, od11, .func (PySem.W.fnOf "check_stop" "check_stop" (defArgs s_check_stop) (defBody s_check_stop) (defScope s_check_stop) .none kV11 dc11 pm11 an11 cd11 ct11), sl11⟩) (c11 : PySem.W.codeIn K cd11 "check_stop" = true) (k11 : PySem.W.keepIn K (.ref f11) = true)
    (a12 : PySem.W.findIn K (.ref c_Order) "__init__" = some (some (.ref f12))) (i12 : PySem.W.isFn K (.ref f12) = true)
    (l12 : K.lookup f12 = some ⟨oc12, od12, .func (PySem.W.fnOf "__init__" "Order.__init__" (defArgs s_Order_init) (defBody s_Order_init) (defScope s_Order_init) .none kV12 dc12 pm12 an12 cd12 ct12), sl12⟩) (c12 : PySem.W.codeIn K cd12 "Order.__init__" = true) (k12 : PySem.W.keepIn K (.ref f12) = true)
    (a13 : PySem.W.findIn K (.ref c_Order) "accepts_price" = some (some (.ref f13))) (i13 : PySem.W.isFn K (.ref f13) = true)
    (l13 : K.lookup f13 = some ⟨oc13, od13, .func (PySem.W.fnOf "accepts_price" "Order.accepts_price" (defArgs s_Order_accepts_price) (defBody s_Order_accepts_price) (defScope s_Order_accepts_price) .none kV13 dc13 pm13 an13 cd13 ct13), sl13⟩) (c13 : PySem.W.codeIn K cd13 "Order.accepts_price" = true) (k13 : PySem.W.keepIn K (.ref f13) = true)
    (a14 : PySem.W.findIn K (.ref c_Order) "show_next_part" = some (some (.ref f14))) (i14 : PySem.W.isFn K (.ref f14) = true)
    (l14 : K.lookup f14 = some ⟨oc14, od14, .func (PySem.W.fnOf "show_next_part" "Order.show_next_part" (defArgs s_Order_show_next_part) (defBody s_Order_show_next_part) (defScope s_Order_show_next_part) .none kV14 dc14 pm14 an14 cd14 ct14), sl14⟩) (c14 : PySem.W.codeIn K cd14 "Order.show_next_part" = true) (k14 : PySem.W.keepIn K (.ref f14) = true)
    (a15 : PySem.W.findIn K (.ref c_Order) "trade_visible" = some (some (.ref f15))) (i15 : PySem.W.isFn K (.ref f15) = true)
    (l15 : K.lookup f15 = some ⟨oc15, od15, .func (PySem.W.fnOf "trade_visible" "Order.trade_visible" (defArgs s_Order_trade_visible) (defBody s_Order_trade_visible) (defScope s_Order_trade_visible) .none kV15 dc15 pm15 an15 cd15 ct15), sl15⟩) (c15 : PySem.W.codeIn K cd15 "Order.trade_visible" = true) (k15 : PySem.W.keepIn K (.ref f15) = true)
    (a16 : PySem.W.findIn K (.ref c_Stop) "__init__" = some (some (.ref f16))) (i16 : PySem.W.isFn K (.ref f16) = true)
    (l16 : K.lookup f16 = some ⟨oc16, od16, .func (PySem.W.fnOf "__init__" "Stop.__init__" (defArgs s_Stop_init) (defBody s_Stop_init) (defScope s_Stop_init) .none kV16 dc16 pm16 an16 cd16 ct16), sl16⟩) (c16 : PySem.W.codeIn K cd16 "Stop.__init__" = true) (k16 : PySem.W.keepIn K (.ref f16) = true)
    (a17 : PySem.W.findIn K (.ref c_Stop) "is_reached" = some (some (.ref f17))) (i17 : PySem.W.isFn K (.ref f17) = true)
    (l17 : K.lookup f17 = some ⟨oc17, od17, .func (PySem.W.fnOf "is_reached" "Stop.is_reached" (defArgs s_Stop_is_reached) (defBody s_Stop_is_reached) (defScope s_Stop_is_reached) .none kV17 dc17 pm17 an17 cd17 ct17), sl17⟩) (c17 : PySem.W.codeIn K cd17 "Stop.is_reached" = true) (k17 : PySem.W.keepIn K (.ref f17) = true)
    (a18 : PySem.W.findIn K (.ref c_Stop) "row" = some (some (.ref f18))) (i18 : PySem.W.isFn K (.ref f18) = true)
    (l18 : K.lookup f18 = some ⟨oc18, od18, .func (PySem.W.fnOf "row" "Stop.row" (defArgs s_Stop_row) (defBody s_Stop_row) (defScope s_Stop_row) .none kV18 dc18 pm18 an18 cd18 ct18), sl18⟩) (c18 : PySem.W.codeIn K cd18 "Stop.row" = true) (k18 : PySem.W.keepIn K (.ref f18) = true)
    (a19 : PySem.W.findIn K (.ref c_BookSide) "__init__" = some (some (.ref f19))) (i19 : PySem.W.isFn K (.ref f19) = true)
    (l19 : K.lookup f19 = some ⟨oc19, od19, .func (PySem.W.fnOf "__init__" "BookSide.__init__" (defArgs s_BookSide_init) (defBody s_BookSide_init) (defScope s_BookSide_init) .none kV19 dc19 pm19 an19 cd19 ct19), sl19⟩) (c19 : PySem.W.codeIn K cd19 "BookSide.__init__" = true) (k19 : PySem.W.keepIn K (.ref f19) = true)
    (a20 : PySem.W.findIn K (.ref c_BookSide) "rows" = some (some (.ref f20))) (i20 : PySem.W.isFn K (.ref f20) = true)
    (l20 : K.lookup f20 = some ⟨oc20, od20, .func (PySem.W.fnOf "rows" "BookSide.rows" (defArgs s_BookSide_rows) (defBody s_BookSide_rows) (defScope s_BookSide_rows) .none kV20 dc20 pm20 an20 cd20 ct20), sl20⟩) (c20 : PySem.W.codeIn K cd20 "BookSide.rows" = true) (k20 : PySem.W.keepIn K (.ref f20) = true)
    (a21 : PySem.W.findIn K (.ref c_BookSide) "first" = some (some (.ref f21))) (i21 : PySem.W.isFn K (.ref f21) = true)
    (l21 : K.lookup f21 = some ⟨oc21, od21, .func (PySem.W.fnOf "first" "BookSide.first" (defArgs s_BookSide_first) (defBody s_BookSide_first) (defScope s_BookSide_first) .none kV21 dc21 pm21 an21 cd21 ct21), sl21⟩) (c21 : PySem.W.codeIn K cd21 "BookSide.first" = true) (k21 : PySem.W.keepIn K (.ref f21) = true)
    (a22 : PySem.W.findIn K (.ref c_BookSide) "with_number" = some (some (.ref f22))) (i22 : PySem.W.isFn K (.ref f22) = true)
    (l22 : K.lookup f22 = some ⟨oc22, od22, .func (PySem.W.fnOf "with_number" "BookSide.with_number" (defArgs s_BookSide_with_number) (defBody s_BookSide_with_number) (defScope s_BookSide_with_number) .none kV22 dc22 pm22 an22 cd22 ct22), sl22⟩) (c22 : PySem.W.codeIn K cd22 "BookSide.with_number" = true) (k22 : PySem.W.keepIn K (.ref f22) = true)
    (a23 : PySem.W.findIn K (.ref c_BookSide) "available" = some (some (.ref f23))) (i23 : PySem.W.isFn K (.ref f23) = true)
    (l23 : K.lookup f23 = some ⟨oc23, od23, .func (PySem.W.fnOf "available" "BookSide.available" (defArgs s_BookSide_available) (defBody s_BookSide_available) (defScope s_BookSide_available) .none kV23 dc23 pm23 an23 cd23 ct23), sl23⟩) (c23 : PySem.W.codeIn K cd23 "BookSide.available" = true) (k23 : PySem.W.keepIn K (.ref f23) = true)
    (a24 : PySem.W.findIn K (.ref c_BookSide) "enter" = some (some (.ref f24))) (i24 : PySem.W.isFn K (.ref f24) = true)
    (l24 : K.lookup f24 = some ⟨oc24, od24, .func (PySem.W.fnOf "enter" "BookSide.enter" (defArgs s_BookSide_enter) (defBody s_BookSide_enter) (defScope s_BookSide_enter) .none kV24 dc24 pm24 an24 cd24 ct24), sl24⟩) (c24 : PySem.W.codeIn K cd24 "BookSide.enter" = true) (k24 : PySem.W.keepIn K (.ref f24) = true)
    (a25 : PySem.W.findIn K (.ref c_BookSide) "_place_behind" = some (some (.ref f25))) (i25 : PySem.W.isFn K (.ref f25) = true)
    (l25 : K.lookup f25 = some ⟨oc25, od25, .func (PySem.W.fnOf "_place_behind" "BookSide._place_behind" (defArgs s_BookSideplace_behind) (defBody s_BookSideplace_behind) (defScope s_BookSideplace_behind) .none kV25 dc25 pm25 an25 cd25 ct25), sl25⟩) (c25 : PySem.W.codeIn K cd25 "BookSide._place_behind" = true) (k25 : PySem.W.keepIn K (.ref f25) = true)
    (a26 : PySem.W.findIn K (.ref c_BookSide) "leave" = some (some (.ref f26))) (i26 : PySem.W.isFn K (.ref f26) = true)
    (l26 : K.lookup f26 = some ⟨oc26, od26, .func (PySem.W.fnOf "leave" "BookSide.leave" (defArgs s_BookSide_leave) (defBody s_BookSide_leave) (defScope s_BookSide_leave) .none kV26 dc26 pm26 an26 cd26 ct26), sl26⟩) (c26 : PySem.W.codeIn K cd26 "BookSide.leave" = true) (k26 : PySem.W.keepIn K (.ref f26) = true)
    (a27 : PySem.W.findIn K (.ref c_BookSide) "trade_first" = some (some (.ref f27))) (i27 : PySem.W.isFn K (.ref f27) = true)
    (l27 : K.lookup f27 = some ⟨oc27, od27, .func (PySem.W.fnOf "trade_first" "BookSide.trade_first" (defArgs s_BookSide_trade_first) (defBody s_BookSide_trade_first) (defScope s_BookSide_trade_first) .none kV27 dc27 pm27 an27 cd27 ct27), sl27⟩) (c27 : PySem.W.codeIn K cd27 "BookSide.trade_first" = true) (k27 : PySem.W.keepIn K (.ref f27) = true)
    (a28 : PySem.W.findIn K (.ref c_Report) "__init__" = some (some (.ref f28))) (i28 : PySem.W.isFn K (.ref f28) = true)
    (l28 : K.lookup f28 = some ⟨oc28, od28, .func (PySem.W.fnOf "__init__" "Report.__init__" (defArgs s_Report_init) (defBody s_Report_init) (defScope s_Report_init) .none kV28 dc28 pm28 an28 cd28 ct28), sl28⟩) (c28 : PySem.W.codeIn K cd28 "Report.__init__" = true) (k28 : PySem.W.keepIn K (.ref f28) = true)
    (a29 : PySem.W.findIn K (.ref c_Book) "__init__" = some (some (.ref f29))) (i29 : PySem.W.isFn K (.ref f29) = true)
    {T29 : Addr} {ocT29 : Value} {odT29 : Option Addr} {slT29 : Array (Option Value)} {nT29 : Nat} {tT29_0 : Tok}
    (l29 : K.lookup f29 = some ⟨oc29, od29, .func (PySem.W.fnOf "__init__" "Book.__init__" (defArgs s_Book_init) (defBody s_Book_init) (defScope s_Book_init) (.ref T29) kV29 dc29 pm29 an29 cd29 ct29), sl29⟩)
    (lT29 : K.lookup T29 = some ⟨ocT29, odT29, .seq #[.int 1 tT29_0] nT29, slT29⟩)
    (c29 : PySem.W.codeIn K cd29 "Book.__init__" = true) (k29 : PySem.W.keepIn K (.ref f29) = true)
    (a30 : PySem.W.findIn K (.ref c_Book) "submit" = some (some (.ref f30))) (i30 : PySem.W.isFn K (.ref f30) = true)
    {KD30 : Addr} {tK30_0 tK30_1 : Tok}
    (l30 : K.lookup f30 = some ⟨oc30, od30, .func (PySem.W.fnOf "submit" "Book.submit" (defArgs s_Book_submit) (defBody s_Book_submit) (defScope s_Book_submit) .none (.ref KD30) dc30 pm30 an30 cd30 ct30), sl30⟩) (c30 : PySem.W.codeIn K cd30 "Book.submit" = true) (k30 : PySem.W.keepIn K (.ref f30) = true)
    (kd30_0 : PySem.W.nsIn K KD30 "kind" = some (some (.str "rest" tK30_0)))
    (kd30_1 : PySem.W.nsIn K KD30 "shown" = some (some (.int 0 tK30_1)))
    (a31 : PySem.W.findIn K (.ref c_Book) "submit_stop" = some (some (.ref f31))) (i31 : PySem.W.isFn K (.ref f31) = true)
    (l31 : K.lookup f31 = some ⟨oc31, od31, .func (PySem.W.fnOf "submit_stop" "Book.submit_stop" (defArgs s_Book_submit_stop) (defBody s_Book_submit_stop) (defScope s_Book_submit_stop) .none kV31 dc31 pm31 an31 cd31 ct31), sl31⟩) (c31 : PySem.W.codeIn K cd31 "Book.submit_stop" = true) (k31 : PySem.W.keepIn K (.ref f31) = true)
    (a32 : PySem.W.findIn K (.ref c_Book) "cancel" = some (some (.ref f32))) (i32 : PySem.W.isFn K (.ref f32) = true)
    (l32 : K.lookup f32 = some ⟨oc32, od32, .func (PySem.W.fnOf "cancel" "Book.cancel" (defArgs s_Book_cancel) (defBody s_Book_cancel) (defScope s_Book_cancel) .none kV32 dc32 pm32 an32 cd32 ct32), sl32⟩) (c32 : PySem.W.codeIn K cd32 "Book.cancel" = true) (k32 : PySem.W.keepIn K (.ref f32) = true)
    (a33 : PySem.W.findIn K (.ref c_Book) "orders" = some (some (.ref f33))) (i33 : PySem.W.isFn K (.ref f33) = true)
    (l33 : K.lookup f33 = some ⟨oc33, od33, .func (PySem.W.fnOf "orders" "Book.orders" (defArgs s_Book_orders) (defBody s_Book_orders) (defScope s_Book_orders) .none kV33 dc33 pm33 an33 cd33 ct33), sl33⟩) (c33 : PySem.W.codeIn K cd33 "Book.orders" = true) (k33 : PySem.W.keepIn K (.ref f33) = true)
    (a34 : PySem.W.findIn K (.ref c_Book) "stops" = some (some (.ref f34))) (i34 : PySem.W.isFn K (.ref f34) = true)
    (l34 : K.lookup f34 = some ⟨oc34, od34, .func (PySem.W.fnOf "stops" "Book.stops" (defArgs s_Book_stops) (defBody s_Book_stops) (defScope s_Book_stops) .none kV34 dc34 pm34 an34 cd34 ct34), sl34⟩) (c34 : PySem.W.codeIn K cd34 "Book.stops" = true) (k34 : PySem.W.keepIn K (.ref f34) = true)
    (a35 : PySem.W.findIn K (.ref c_Book) "_take_number" = some (some (.ref f35))) (i35 : PySem.W.isFn K (.ref f35) = true)
    (l35 : K.lookup f35 = some ⟨oc35, od35, .func (PySem.W.fnOf "_take_number" "Book._take_number" (defArgs s_Booktake_number) (defBody s_Booktake_number) (defScope s_Booktake_number) .none kV35 dc35 pm35 an35 cd35 ct35), sl35⟩) (c35 : PySem.W.codeIn K cd35 "Book._take_number" = true) (k35 : PySem.W.keepIn K (.ref f35) = true)
    (a36 : PySem.W.findIn K (.ref c_Book) "_enter" = some (some (.ref f36))) (i36 : PySem.W.isFn K (.ref f36) = true)
    (l36 : K.lookup f36 = some ⟨oc36, od36, .func (PySem.W.fnOf "_enter" "Book._enter" (defArgs s_Bookenter) (defBody s_Bookenter) (defScope s_Bookenter) .none kV36 dc36 pm36 an36 cd36 ct36), sl36⟩) (c36 : PySem.W.codeIn K cd36 "Book._enter" = true) (k36 : PySem.W.keepIn K (.ref f36) = true)
    (a37 : PySem.W.findIn K (.ref c_Book) "_order_of" = some (some (.ref f37))) (i37 : PySem.W.isFn K (.ref f37) = true)
    (l37 : K.lookup f37 = some ⟨oc37, od37, .func (PySem.W.fnOf "_order_of" "Book._order_of" (defArgs s_Bookorder_of) (defBody s_Bookorder_of) (defScope s_Bookorder_of) .none kV37 dc37 pm37 an37 cd37 ct37), sl37⟩) (c37 : PySem.W.codeIn K cd37 "Book._order_of" = true) (k37 : PySem.W.keepIn K (.ref f37) = true)
    (a38 : PySem.W.findIn K (.ref c_Book) "_order_with" = some (some (.ref f38))) (i38 : PySem.W.isFn K (.ref f38) = true)
    (l38 : K.lookup f38 = some ⟨oc38, od38, .func (PySem.W.fnOf "_order_with" "Book._order_with" (defArgs s_Bookorder_with) (defBody s_Bookorder_with) (defScope s_Bookorder_with) .none kV38 dc38 pm38 an38 cd38 ct38), sl38⟩) (c38 : PySem.W.codeIn K cd38 "Book._order_with" = true) (k38 : PySem.W.keepIn K (.ref f38) = true)
    (a39 : PySem.W.findIn K (.ref c_Book) "_stop_with" = some (some (.ref f39))) (i39 : PySem.W.isFn K (.ref f39) = true)
    (l39 : K.lookup f39 = some ⟨oc39, od39, .func (PySem.W.fnOf "_stop_with" "Book._stop_with" (defArgs s_Bookstop_with) (defBody s_Bookstop_with) (defScope s_Bookstop_with) .none kV39 dc39 pm39 an39 cd39 ct39), sl39⟩) (c39 : PySem.W.codeIn K cd39 "Book._stop_with" = true) (k39 : PySem.W.keepIn K (.ref f39) = true)
    (a40 : PySem.W.findIn K (.ref c_Book) "_trigger_stops" = some (some (.ref f40))) (i40 : PySem.W.isFn K (.ref f40) = true)
    (l40 : K.lookup f40 = some ⟨oc40, od40, .func (PySem.W.fnOf "_trigger_stops" "Book._trigger_stops" (defArgs s_Booktrigger_stops) (defBody s_Booktrigger_stops) (defScope s_Booktrigger_stops) .none kV40 dc40 pm40 an40 cd40 ct40), sl40⟩) (c40 : PySem.W.codeIn K cd40 "Book._trigger_stops" = true) (k40 : PySem.W.keepIn K (.ref f40) = true)
    (a41 : PySem.W.findIn K (.ref c_Book) "_first_reached" = some (some (.ref f41))) (i41 : PySem.W.isFn K (.ref f41) = true)
    (l41 : K.lookup f41 = some ⟨oc41, od41, .func (PySem.W.fnOf "_first_reached" "Book._first_reached" (defArgs s_Bookfirst_reached) (defBody s_Bookfirst_reached) (defScope s_Bookfirst_reached) .none kV41 dc41 pm41 an41 cd41 ct41), sl41⟩) (c41 : PySem.W.codeIn K cd41 "Book._first_reached" = true) (k41 : PySem.W.keepIn K (.ref f41) = true)
    (a42 : PySem.W.nsIn K mainGlobals "_law_house" = some (some (.ref f42)))
    (l42 : K.lookup f42 = some ⟨oc42, od42, .func (PySem.W.fnOf "_law_house" "_law_house" (defArgs s_law_house) (defBody s_law_house) (defScope s_law_house) .none kV42 dc42 pm42 an42 cd42 ct42), sl42⟩) (c42 : PySem.W.codeIn K cd42 "_law_house" = true) (k42 : PySem.W.keepIn K (.ref f42) = true)
    (a43 : PySem.W.nsIn K mainGlobals "_law_reached" = some (some (.ref f43)))
    (l43 : K.lookup f43 = some ⟨oc43, od43, .func (PySem.W.fnOf "_law_reached" "_law_reached" (defArgs s_law_reached) (defBody s_law_reached) (defScope s_law_reached) .none kV43 dc43 pm43 an43 cd43 ct43), sl43⟩) (c43 : PySem.W.codeIn K cd43 "_law_reached" = true) (k43 : PySem.W.keepIn K (.ref f43) = true)
    (a44 : PySem.W.nsIn K mainGlobals "_law_run" = some (some (.ref f44)))
    (l44 : K.lookup f44 = some ⟨oc44, od44, .func (PySem.W.fnOf "_law_run" "_law_run" (defArgs s_law_run) (defBody s_law_run) (defScope s_law_run) .none kV44 dc44 pm44 an44 cd44 ct44), sl44⟩) (c44 : PySem.W.codeIn K cd44 "_law_run" = true) (k44 : PySem.W.keepIn K (.ref f44) = true)
    (a45 : PySem.W.nsIn K mainGlobals "_law_last" = some (some (.ref f45)))
    (l45 : K.lookup f45 = some ⟨oc45, od45, .func (PySem.W.fnOf "_law_last" "_law_last" (defArgs s_law_last) (defBody s_law_last) (defScope s_law_last) .none kV45 dc45 pm45 an45 cd45 ct45), sl45⟩) (c45 : PySem.W.codeIn K cd45 "_law_last" = true) (k45 : PySem.W.keepIn K (.ref f45) = true)
    (a46 : PySem.W.nsIn K mainGlobals "_law_stops_right" = some (some (.ref f46)))
    (l46 : K.lookup f46 = some ⟨oc46, od46, .func (PySem.W.fnOf "_law_stops_right" "_law_stops_right" (defArgs s_law_stops_right) (defBody s_law_stops_right) (defScope s_law_stops_right) .none kV46 dc46 pm46 an46 cd46 ct46), sl46⟩) (c46 : PySem.W.codeIn K cd46 "_law_stops_right" = true) (k46 : PySem.W.keepIn K (.ref f46) = true)
    (a47 : PySem.W.nsIn K mainGlobals "law" = some (some (.ref f47)))
    (l47 : K.lookup f47 = some ⟨oc47, od47, .func (PySem.W.fnOf "law" "law" (defArgs s_law) (defBody s_law) (defScope s_law) .none kV47 dc47 pm47 an47 cd47 ct47), sl47⟩) (c47 : PySem.W.codeIn K cd47 "law" = true) (k47 : PySem.W.keepIn K (.ref f47) = true)
    (z_bool : PySem.W.nsIn K mainGlobals "bool" = some none)
    (z_enumerate : PySem.W.nsIn K mainGlobals "enumerate" = some none)
    (z_int : PySem.W.nsIn K mainGlobals "int" = some none)
    (z_isinstance : PySem.W.nsIn K mainGlobals "isinstance" = some none)
    (z_len : PySem.W.nsIn K mainGlobals "len" = some none)
    (z_min : PySem.W.nsIn K mainGlobals "min" = some none)
    (z_sorted : PySem.W.nsIn K mainGlobals "sorted" = some none)
    (z_sum : PySem.W.nsIn K mainGlobals "sum" = some none)
    {t_MOST : Tok}
    (v_MOST : PySem.W.nsIn K mainGlobals "MOST" = some (some (.int 1000000 t_MOST)))
    {ac_SIDES : Addr} {oc_SIDES : Option Addr} {sc'_SIDES : Array (Option Value)} {nc_SIDES : Nat} {tc_SIDES_0 tc_SIDES_1 : Tok}
    (v_SIDES : PySem.W.nsIn K mainGlobals "SIDES" = some (some (.ref ac_SIDES))) (lc_SIDES : K.lookup ac_SIDES = some ⟨.type "tuple", oc_SIDES, .seq #[.str "buy" tc_SIDES_0, .str "sell" tc_SIDES_1] nc_SIDES, sc'_SIDES⟩)
    {ac_KINDS : Addr} {oc_KINDS : Option Addr} {sc'_KINDS : Array (Option Value)} {nc_KINDS : Nat} {tc_KINDS_0 tc_KINDS_1 tc_KINDS_2 : Tok}
    (v_KINDS : PySem.W.nsIn K mainGlobals "KINDS" = some (some (.ref ac_KINDS))) (lc_KINDS : K.lookup ac_KINDS = some ⟨.type "tuple", oc_KINDS, .seq #[.str "rest" tc_KINDS_0, .str "now" tc_KINDS_1, .str "all" tc_KINDS_2] nc_KINDS, sc'_KINDS⟩)
    (g_BourseError : PySem.W.nsIn K mainGlobals "BourseError" = some (some (.ref c_BourseError)))
    (x_BourseError : PySem.W.excIn K c_BourseError [.type "ValueError", .type "Exception", .type "BaseException", .type "object"] "ValueError.__new__" = true)
    (k_BourseError : PySem.W.keepIn K (.ref c_BourseError) = true)
    (b_BourseError : PySem.W.subIn K (.ref c_BourseError) (.type "BaseException") = some true)
    (t_BourseError : PySem.W.typeIn K (.ref c_BourseError) = some (.type "type"))
    (d_BourseError : PySem.W.hasDictIn K c_BourseError = true)
    (s_BourseError : PySem.W.subIn K (.ref c_BourseError) (.ref c_BourseError) = some true)
    (eg_BourseError : PySem.W.findIn K (.ref c_BourseError) "__getattribute__" = some (some (.builtin "BaseException.__getattribute__")))
    (ek_BourseError : PySem.W.findIn K (.ref c_BourseError) "__getattr__" = some none)
    (ea_BourseError : PySem.W.findIn K (.ref c_BourseError) "__class__" = some (some (.builtin "object.__class__")))
    (en_BourseError : PySem.W.specialIn K (.builtin "object.__class__") "__get__" = some (some (.builtin "getset_descriptor.__get__")))
    (et_BourseError : PySem.W.takesIn K (.builtin "object.__class__") = some true)
    (em_BourseError : PySem.W.mroIn K c_BourseError (.type "object") = some true)
    (g_InvalidOrder : PySem.W.nsIn K mainGlobals "InvalidOrder" = some (some (.ref c_InvalidOrder)))
    (x_InvalidOrder : PySem.W.excIn K c_InvalidOrder [.type "ValueError", .type "Exception", .type "BaseException", .type "object"] "ValueError.__new__" = true)
    (k_InvalidOrder : PySem.W.keepIn K (.ref c_InvalidOrder) = true)
    (b_InvalidOrder : PySem.W.subIn K (.ref c_InvalidOrder) (.type "BaseException") = some true)
    (t_InvalidOrder : PySem.W.typeIn K (.ref c_InvalidOrder) = some (.type "type"))
    (d_InvalidOrder : PySem.W.hasDictIn K c_InvalidOrder = true)
    (s_InvalidOrder : PySem.W.subIn K (.ref c_InvalidOrder) (.ref c_InvalidOrder) = some true)
    (g_UnknownOrder : PySem.W.nsIn K mainGlobals "UnknownOrder" = some (some (.ref c_UnknownOrder)))
    (x_UnknownOrder : PySem.W.excIn K c_UnknownOrder [.type "ValueError", .type "Exception", .type "BaseException", .type "object"] "ValueError.__new__" = true)
    (k_UnknownOrder : PySem.W.keepIn K (.ref c_UnknownOrder) = true)
    (b_UnknownOrder : PySem.W.subIn K (.ref c_UnknownOrder) (.type "BaseException") = some true)
    (t_UnknownOrder : PySem.W.typeIn K (.ref c_UnknownOrder) = some (.type "type"))
    (d_UnknownOrder : PySem.W.hasDictIn K c_UnknownOrder = true)
    (s_UnknownOrder : PySem.W.subIn K (.ref c_UnknownOrder) (.ref c_UnknownOrder) = some true)
    (g_NotOwner : PySem.W.nsIn K mainGlobals "NotOwner" = some (some (.ref c_NotOwner)))
    (x_NotOwner : PySem.W.excIn K c_NotOwner [.type "ValueError", .type "Exception", .type "BaseException", .type "object"] "ValueError.__new__" = true)
    (k_NotOwner : PySem.W.keepIn K (.ref c_NotOwner) = true)
    (b_NotOwner : PySem.W.subIn K (.ref c_NotOwner) (.type "BaseException") = some true)
    (t_NotOwner : PySem.W.typeIn K (.ref c_NotOwner) = some (.type "type"))
    (d_NotOwner : PySem.W.hasDictIn K c_NotOwner = true)
    (s_NotOwner : PySem.W.subIn K (.ref c_NotOwner) (.ref c_NotOwner) = some true)
    (g_Order : PySem.W.nsIn K mainGlobals "Order" = some (some (.ref c_Order)))
    (pg_Order : PySem.W.plainGet K c_Order Str.empty = true)
    (hd_Order : PySem.W.hasDictIn K c_Order = true)
    (po_Order : PySem.W.plainOver K c_Order = true)
    (sa_Order : PySem.W.findIn K (.ref c_Order) "__setattr__" = some (some (.builtin "object.__setattr__")))
    (ma_Order : PySem.W.makesIn K c_Order = true)
    (kc_Order : PySem.W.keepIn K (.ref c_Order) = true)
    (eq_Order : PySem.W.findIn K (.ref c_Order) "__eq__" = some (some (.builtin "object.__eq__")))
    (mo_Order : PySem.W.mroIn K c_Order (.type "object") = some true)
    (na_Order_number : PySem.W.findIn K (.ref c_Order) "number" = some none)
    (na_Order_house : PySem.W.findIn K (.ref c_Order) "house" = some none)
    (na_Order_side : PySem.W.findIn K (.ref c_Order) "side" = some none)
    (na_Order_price : PySem.W.findIn K (.ref c_Order) "price" = some none)
    (na_Order_shown : PySem.W.findIn K (.ref c_Order) "shown" = some none)
    (na_Order_left : PySem.W.findIn K (.ref c_Order) "left" = some none)
    (na_Order_visible : PySem.W.findIn K (.ref c_Order) "visible" = some none)
    (g_Stop : PySem.W.nsIn K mainGlobals "Stop" = some (some (.ref c_Stop)))
    (pg_Stop : PySem.W.plainGet K c_Stop Str.empty = true)
    (hd_Stop : PySem.W.hasDictIn K c_Stop = true)
    (po_Stop : PySem.W.plainOver K c_Stop = true)
    (sa_Stop : PySem.W.findIn K (.ref c_Stop) "__setattr__" = some (some (.builtin "object.__setattr__")))
    (ma_Stop : PySem.W.makesIn K c_Stop = true)
    (kc_Stop : PySem.W.keepIn K (.ref c_Stop) = true)
    (eq_Stop : PySem.W.findIn K (.ref c_Stop) "__eq__" = some (some (.builtin "object.__eq__")))
    (mo_Stop : PySem.W.mroIn K c_Stop (.type "object") = some true)
    (na_Stop_number : PySem.W.findIn K (.ref c_Stop) "number" = some none)
    (na_Stop_house : PySem.W.findIn K (.ref c_Stop) "house" = some none)
    (na_Stop_side : PySem.W.findIn K (.ref c_Stop) "side" = some none)
    (na_Stop_trigger : PySem.W.findIn K (.ref c_Stop) "trigger" = some none)
    (na_Stop_price : PySem.W.findIn K (.ref c_Stop) "price" = some none)
    (na_Stop_quantity : PySem.W.findIn K (.ref c_Stop) "quantity" = some none)
    (g_BookSide : PySem.W.nsIn K mainGlobals "BookSide" = some (some (.ref c_BookSide)))
    (pg_BookSide : PySem.W.plainGet K c_BookSide Str.empty = true)
    (hd_BookSide : PySem.W.hasDictIn K c_BookSide = true)
    (po_BookSide : PySem.W.plainOver K c_BookSide = true)
    (sa_BookSide : PySem.W.findIn K (.ref c_BookSide) "__setattr__" = some (some (.builtin "object.__setattr__")))
    (ma_BookSide : PySem.W.makesIn K c_BookSide = true)
    (kc_BookSide : PySem.W.keepIn K (.ref c_BookSide) = true)
    (na_BookSide__orders : PySem.W.findIn K (.ref c_BookSide) "_orders" = some none)
    (g_Report : PySem.W.nsIn K mainGlobals "Report" = some (some (.ref c_Report)))
    (pg_Report : PySem.W.plainGet K c_Report Str.empty = true)
    (hd_Report : PySem.W.hasDictIn K c_Report = true)
    (po_Report : PySem.W.plainOver K c_Report = true)
    (sa_Report : PySem.W.findIn K (.ref c_Report) "__setattr__" = some (some (.builtin "object.__setattr__")))
    (ma_Report : PySem.W.makesIn K c_Report = true)
    (kc_Report : PySem.W.keepIn K (.ref c_Report) = true)
    (na_Report_number : PySem.W.findIn K (.ref c_Report) "number" = some none)
    (na_Report_house : PySem.W.findIn K (.ref c_Report) "house" = some none)
    (na_Report_side : PySem.W.findIn K (.ref c_Report) "side" = some none)
    (na_Report_fills : PySem.W.findIn K (.ref c_Report) "fills" = some none)
    (na_Report_removed : PySem.W.findIn K (.ref c_Report) "removed" = some none)
    (na_Report_resting : PySem.W.findIn K (.ref c_Report) "resting" = some none)
    (g_Book : PySem.W.nsIn K mainGlobals "Book" = some (some (.ref c_Book)))
    (pg_Book : PySem.W.plainGet K c_Book Str.empty = true)
    (hd_Book : PySem.W.hasDictIn K c_Book = true)
    (po_Book : PySem.W.plainOver K c_Book = true)
    (sa_Book : PySem.W.findIn K (.ref c_Book) "__setattr__" = some (some (.builtin "object.__setattr__")))
    (ma_Book : PySem.W.makesIn K c_Book = true)
    (kc_Book : PySem.W.keepIn K (.ref c_Book) = true)
    (na_Book_last : PySem.W.findIn K (.ref c_Book) "last" = some none)
    (na_Book__next_number : PySem.W.findIn K (.ref c_Book) "_next_number" = some none)
    (na_Book__sides : PySem.W.findIn K (.ref c_Book) "_sides" = some none)
    (na_Book__stops : PySem.W.findIn K (.ref c_Book) "_stops" = some none)
    (su_UnknownOrder_BourseError : PySem.W.subIn K (.ref c_UnknownOrder) (.ref c_BourseError) = some true)
    (su_NotOwner_BourseError : PySem.W.subIn K (.ref c_NotOwner) (.ref c_BourseError) = some true) :
    ∃ fd : FuncData, (∀ (s : Shared) (v : Value), BindsTo s fd ⟨[v], []⟩ [("script", v)]) ∧ ∀ base : Heap, K.In base → base.Ns mainGlobals mg → FnOk l.prog w K mg base CX0 10 fa fd ["script"] (sp_law K) := by
  have e := hfa.symm.trans (PySem.W.mg_of X G a47)
  cases e
  have F1 := fun_mk (st := s_is_integral) l1 c1 k1
  have b1 := F1.binds (ps := ["value"]) fun _ _ _ _ _ _ us hl => match us, hl with | [_], _ => rfl
  have F2 := fun_mk (st := s_is_within) l2 c2 k2
  have b2 := F2.binds (ps := ["least", "most", "value"]) fun _ _ _ _ _ _ us hl => match us, hl with | [_, _, _], _ => rfl
  have F3 := fun_mk (st := s_other_side) l3 c3 k3
  have b3 := F3.binds (ps := ["side"]) fun _ _ _ _ _ _ us hl => match us, hl with | [_], _ => rfl
  have F4 := fun_mk (st := s_accepts) l4 c4 k4
  have b4 := F4.binds (ps := ["side", "limit", "price"]) fun _ _ _ _ _ _ us hl => match us, hl with | [_, _, _], _ => rfl
  have F5 := fun_mk (st := s_check_house) l5 c5 k5
  have b5 := F5.binds (ps := ["house"]) fun _ _ _ _ _ _ us hl => match us, hl with | [_], _ => rfl
  have F6 := fun_mk (st := s_check_side) l6 c6 k6
  have b6 := F6.binds (ps := ["side"]) fun _ _ _ _ _ _ us hl => match us, hl with | [_], _ => rfl
  have F7 := fun_mk (st := s_check_number) l7 c7 k7
  have b7 := F7.binds (ps := ["number", "least", "most"]) fun _ _ _ _ _ _ us hl => match us, hl with | [_, _, _], _ => rfl
  have F8 := fun_mk (st := s_check_price) l8 c8 k8
  have b8 := F8.binds (ps := ["price"]) fun _ _ _ _ _ _ us hl => match us, hl with | [_], _ => rfl
  have F9 := fun_mk (st := s_check_quantity) l9 c9 k9
  have b9 := F9.binds (ps := ["quantity"]) fun _ _ _ _ _ _ us hl => match us, hl with | [_], _ => rfl
  have F10 := fun_mk (st := s_check_order) l10 c10 k10
  have b10 := F10.binds (ps := ["house", "side", "price", "quantity", "kind", "shown"]) fun _ _ _ _ _ _ us hl => match us, hl with | [_, _, _, _, _, _], _ => rfl
  have F11 := fun_mk (st := s_check_stop) l11 c11 k11
  have b11 := F11.binds (ps := ["house", "side", "trigger", "price", "quantity"]) fun _ _ _ _ _ _ us hl => match us, hl with | [_, _, _, _, _], _ => rfl
  have F12 := fun_mk (st := s_Order_init) l12 c12 k12
  have b12 := F12.binds (ps := ["self", "number", "house", "side", "price", "quantity", "shown"]) fun _ _ _ _ _ _ us hl => match us, hl with | [_, _, _, _, _, _, _], _ => rfl
  have F13 := fun_mk (st := s_Order_accepts_price) l13 c13 k13
  have b13 := F13.binds (ps := ["self", "price"]) fun _ _ _ _ _ _ us hl => match us, hl with | [_, _], _ => rfl
  have F14 := fun_mk (st := s_Order_show_next_part) l14 c14 k14
  have b14 := F14.binds (ps := ["self"]) fun _ _ _ _ _ _ us hl => match us, hl with | [_], _ => rfl
  have F15 := fun_mk (st := s_Order_trade_visible) l15 c15 k15
  have b15 := F15.binds (ps := ["self", "quantity"]) fun _ _ _ _ _ _ us hl => match us, hl with | [_, _], _ => rfl
  have F16 := fun_mk (st := s_Stop_init) l16 c16 k16
  have b16 := F16.binds (ps := ["self", "number", "house", "side", "trigger", "price", "quantity"]) fun _ _ _ _ _ _ us hl => match us, hl with | [_, _, _, _, _, _, _], _ => rfl
  have F17 := fun_mk (st := s_Stop_is_reached) l17 c17 k17
  have b17 := F17.binds (ps := ["self", "last"]) fun _ _ _ _ _ _ us hl => match us, hl with | [_, _], _ => rfl
  have F18 := fun_mk (st := s_Stop_row) l18 c18 k18
  have b18 := F18.binds (ps := ["self"]) fun _ _ _ _ _ _ us hl => match us, hl with | [_], _ => rfl
  have F19 := fun_mk (st := s_BookSide_init) l19 c19 k19
  have b19 := F19.binds (ps := ["self"]) fun _ _ _ _ _ _ us hl => match us, hl with | [_], _ => rfl
  have F20 := fun_mk (st := s_BookSide_rows) l20 c20 k20
  have b20 := F20.binds (ps := ["self"]) fun _ _ _ _ _ _ us hl => match us, hl with | [_], _ => rfl
  have F21 := fun_mk (st := s_BookSide_first) l21 c21 k21
  have b21 := F21.binds (ps := ["self"]) fun _ _ _ _ _ _ us hl => match us, hl with | [_], _ => rfl
  have F22 := fun_mk (st := s_BookSide_with_number) l22 c22 k22
  have b22 := F22.binds (ps := ["self", "number"]) fun _ _ _ _ _ _ us hl => match us, hl with | [_, _], _ => rfl
  have F23 := fun_mk (st := s_BookSide_available) l23 c23 k23
  have b23 := F23.binds (ps := ["self", "taker"]) fun _ _ _ _ _ _ us hl => match us, hl with | [_, _], _ => rfl
  have F24 := fun_mk (st := s_BookSide_enter) l24 c24 k24
  have b24 := F24.binds (ps := ["self", "order"]) fun _ _ _ _ _ _ us hl => match us, hl with | [_, _], _ => rfl
  have F25 := fun_mk (st := s_BookSideplace_behind) l25 c25 k25
  have b25 := F25.binds (ps := ["self", "order"]) fun _ _ _ _ _ _ us hl => match us, hl with | [_, _], _ => rfl
  have F26 := fun_mk (st := s_BookSide_leave) l26 c26 k26
  have b26 := F26.binds (ps := ["self", "order"]) fun _ _ _ _ _ _ us hl => match us, hl with | [_, _], _ => rfl
  have F27 := fun_mk (st := s_BookSide_trade_first) l27 c27 k27
  have b27 := F27.binds (ps := ["self", "quantity"]) fun _ _ _ _ _ _ us hl => match us, hl with | [_, _], _ => rfl
  have F28 := fun_mk (st := s_Report_init) l28 c28 k28
  have b28 := F28.binds (ps := ["self", "number", "house", "side"]) fun _ _ _ _ _ _ us hl => match us, hl with | [_, _, _, _], _ => rfl
  have F29 : FunD K "__init__" "Book.__init__" (defArgs s_Book_init) (defBody s_Book_init) (defScope s_Book_init) [.int 1] [] f29 (PySem.W.fnOf "__init__" "Book.__init__" (defArgs s_Book_init) (defBody s_Book_init) (defScope s_Book_init) (.ref T29) kV29 dc29 pm29 an29 cd29 ct29) := ⟨⟨_, _, _, _, _, _, _, _, _, _, rfl, l29, c29, .inr ⟨by simp, T29, _, _, _, rfl, lT29, rfl, .cons ⟨_, rfl⟩ (.nil)⟩, .inl rfl⟩, k29⟩
  have b29_0 := F29.binds1 (ps := ["self", "first_number"]) 1 0 (by simp) rfl fun _ _ _ _ _ _ _ us its h1 h2 => match us, its, h1, h2 with | [_], [_], _, _ => ⟨_, rfl, rfl⟩
  have b29 : Binds K (PySem.W.fnOf "__init__" "Book.__init__" (defArgs s_Book_init) (defBody s_Book_init) (defScope s_Book_init) (.ref T29) kV29 dc29 pm29 an29 cd29 ct29) ["self", "first_number"] [] := by
    obtain ⟨ds, v, b⟩ := F29.binds1 (ps := ["self", "first_number"]) 2 1 (by simp) rfl fun _ _ _ _ _ _ _ us its h1 h2 => match us, its, h1, h2 with | [_, _], [_], _, _ => ⟨_, rfl, rfl⟩
    cases v
    exact b
  have hk30 : ∀ q ∈ ([("kind", .str "rest"), ("shown", .int 0)] : List (Str × V)), ∃ u, PySem.W.nsIn K KD30 q.1 = some (some u) ∧ RelV q.2 u := by
    intro q hq
    rcases List.mem_cons.mp hq with e | hq
    · rw [e]
      exact ⟨_, kd30_0, ⟨_, rfl⟩⟩
    rw [List.mem_singleton.mp hq]
    exact ⟨_, kd30_1, ⟨_, rfl⟩⟩
  have F30 : FunD K "submit" "Book.submit" (defArgs s_Book_submit) (defBody s_Book_submit) (defScope s_Book_submit) [] [("kind", .str "rest"), ("shown", .int 0)] f30 (PySem.W.fnOf "submit" "Book.submit" (defArgs s_Book_submit) (defBody s_Book_submit) (defScope s_Book_submit) .none (.ref KD30) dc30 pm30 an30 cd30 ct30) := ⟨⟨_, _, _, _, _, _, _, _, _, _, rfl, l30, c30, .inl ⟨rfl, rfl⟩, .inr ⟨KD30, rfl, hk30⟩⟩, k30⟩
  have b30 := F30.binds0 (ps := ["self", "house", "side", "price", "quantity", "kind", "shown"]) 5 (by simp) rfl fun _ _ _ _ _ _ us ks h1 h2 => match us, ks, h1, h2 with | [_, _, _, _, _], [_, _], _, _ => ⟨_, _, _, _, _, _, rfl, rfl, ⟨_, _, _, _, _, _, rfl, rfl, rfl⟩⟩
  have kb30_kind : ∃ g : List Value → List Value → List Value, KBn K (PySem.W.fnOf "submit" "Book.submit" (defArgs s_Book_submit) (defBody s_Book_submit) (defScope s_Book_submit) .none (.ref KD30) dc30 pm30 an30 cd30 ct30) ["self", "house", "side", "price", "quantity", "kind", "shown"] 5 ["kind"] g _ := (F30.kbinds0 (ps := ["self", "house", "side", "price", "quantity", "kind", "shown"]) 5 ["kind"] [("shown", .int 0)] (fun us mv ws => us ++ ws ++ mv) (by simp) (by simp) (fun r1 r2 r3 => ((r1.append r3).append r2)) fun _ _ _ _ _ _ us mv ws h1 h2 h3 => match us, mv, ws, h1, h2, h3 with | [_, _, _, _, _], [_], [_], _, _, _ => ⟨_, _, _, _, _, _, rfl, rfl, rfl⟩).elim fun mv h => ⟨_, h⟩
  have F31 := fun_mk (st := s_Book_submit_stop) l31 c31 k31
  have b31 := F31.binds (ps := ["self", "house", "side", "trigger", "price", "quantity"]) fun _ _ _ _ _ _ us hl => match us, hl with | [_, _, _, _, _, _], _ => rfl
  have F32 := fun_mk (st := s_Book_cancel) l32 c32 k32
  have b32 := F32.binds (ps := ["self", "number", "house"]) fun _ _ _ _ _ _ us hl => match us, hl with | [_, _, _], _ => rfl
  have F33 := fun_mk (st := s_Book_orders) l33 c33 k33
  have b33 := F33.binds (ps := ["self", "side"]) fun _ _ _ _ _ _ us hl => match us, hl with | [_, _], _ => rfl
  have F34 := fun_mk (st := s_Book_stops) l34 c34 k34
  have b34 := F34.binds (ps := ["self"]) fun _ _ _ _ _ _ us hl => match us, hl with | [_], _ => rfl
  have F35 := fun_mk (st := s_Booktake_number) l35 c35 k35
  have b35 := F35.binds (ps := ["self"]) fun _ _ _ _ _ _ us hl => match us, hl with | [_], _ => rfl
  have F36 := fun_mk (st := s_Bookenter) l36 c36 k36
  have b36 := F36.binds (ps := ["self", "order", "kind"]) fun _ _ _ _ _ _ us hl => match us, hl with | [_, _, _], _ => rfl
  have F37 := fun_mk (st := s_Bookorder_of) l37 c37 k37
  have b37 := F37.binds (ps := ["self", "number", "house"]) fun _ _ _ _ _ _ us hl => match us, hl with | [_, _, _], _ => rfl
  have F38 := fun_mk (st := s_Bookorder_with) l38 c38 k38
  have b38 := F38.binds (ps := ["self", "number"]) fun _ _ _ _ _ _ us hl => match us, hl with | [_, _], _ => rfl
  have F39 := fun_mk (st := s_Bookstop_with) l39 c39 k39
  have b39 := F39.binds (ps := ["self", "number"]) fun _ _ _ _ _ _ us hl => match us, hl with | [_, _], _ => rfl
  have F40 := fun_mk (st := s_Booktrigger_stops) l40 c40 k40
  have b40 := F40.binds (ps := ["self"]) fun _ _ _ _ _ _ us hl => match us, hl with | [_], _ => rfl
  have F41 := fun_mk (st := s_Bookfirst_reached) l41 c41 k41
  have b41 := F41.binds (ps := ["self"]) fun _ _ _ _ _ _ us hl => match us, hl with | [_], _ => rfl
  have F42 := fun_mk (st := s_law_house) l42 c42 k42
  have b42 := F42.binds (ps := ["cell"]) fun _ _ _ _ _ _ us hl => match us, hl with | [_], _ => rfl
  have F43 := fun_mk (st := s_law_reached) l43 c43 k43
  have b43 := F43.binds (ps := ["row", "last"]) fun _ _ _ _ _ _ us hl => match us, hl with | [_, _], _ => rfl
  have F44 := fun_mk (st := s_law_run) l44 c44 k44
  have b44 := F44.binds (ps := ["book", "cell", "count"]) fun _ _ _ _ _ _ us hl => match us, hl with | [_, _, _], _ => rfl
  have F45 := fun_mk (st := s_law_last) l45 c45 k45
  have b45 := F45.binds (ps := ["last", "reports"]) fun _ _ _ _ _ _ us hl => match us, hl with | [_, _], _ => rfl
  have F46 := fun_mk (st := s_law_stops_right) l46 c46 k46
  have b46 := F46.binds (ps := ["book", "before", "reports"]) fun _ _ _ _ _ _ us hl => match us, hl with | [_, _, _], _ => rfl
  have F47 := fun_mk (st := s_law) l47 c47 k47
  have b47 := F47.binds (ps := ["script"]) fun _ _ _ _ _ _ us hl => match us, hl with | [_], _ => rfl
  have T : Txt K mg := ⟨f1, _, F1, PySem.W.mg_of X G a1, b1, f2, _, F2, PySem.W.mg_of X G a2, b2, f3, _, F3, PySem.W.mg_of X G a3, b3, f4, _, F4, PySem.W.mg_of X G a4, b4, f5, _, F5, PySem.W.mg_of X G a5, b5, f6, _, F6, PySem.W.mg_of X G a6, b6, f7, _, F7, PySem.W.mg_of X G a7, b7, f8, _, F8, PySem.W.mg_of X G a8, b8, f9, _, F9, PySem.W.mg_of X G a9, b9, f10, _, F10, PySem.W.mg_of X G a10, b10, f11, _, F11, PySem.W.mg_of X G a11, b11, f12, _, F12, b12, f13, _, F13, b13, f14, _, F14, b14, f15, _, F15, b15, f16, _, F16, b16, f17, _, F17, b17, f18, _, F18, b18, f19, _, F19, b19, f20, _, F20, b20, f21, _, F21, b21, f22, _, F22, b22, f23, _, F23, b23, f24, _, F24, b24, f25, _, F25, b25, f26, _, F26, b26, f27, _, F27, b27, f28, _, F28, b28, f29, _, F29, b29_0, b29, f30, _, F30, b30, kb30_kind, f31, _, F31, b31, f32, _, F32, b32, f33, _, F33, b33, f34, _, F34, b34, f35, _, F35, b35, f36, _, F36, b36, f37, _, F37, b37, f38, _, F38, b38, f39, _, F39, b39, f40, _, F40, b40, f41, _, F41, b41, f42, _, F42, PySem.W.mg_of X G a42, b42, f43, _, F43, PySem.W.mg_of X G a43, b43, f44, _, F44, PySem.W.mg_of X G a44, b44, f45, _, F45, PySem.W.mg_of X G a45, b45, f46, _, F46, PySem.W.mg_of X G a46, b46, c_BourseError, PySem.W.mg_of X G g_BourseError, x_BourseError, k_BourseError, b_BourseError, t_BourseError, d_BourseError, s_BourseError, eg_BourseError, ek_BourseError, ea_BourseError, en_BourseError, et_BourseError, em_BourseError, ⟨eg_BourseError, ek_BourseError, b_BourseError, d_BourseError, ea_BourseError, en_BourseError, et_BourseError, em_BourseError⟩, c_InvalidOrder, PySem.W.mg_of X G g_InvalidOrder, x_InvalidOrder, k_InvalidOrder, b_InvalidOrder, t_InvalidOrder, d_InvalidOrder, s_InvalidOrder, c_UnknownOrder, PySem.W.mg_of X G g_UnknownOrder, x_UnknownOrder, k_UnknownOrder, b_UnknownOrder, t_UnknownOrder, d_UnknownOrder, s_UnknownOrder, c_NotOwner, PySem.W.mg_of X G g_NotOwner, x_NotOwner, k_NotOwner, b_NotOwner, t_NotOwner, d_NotOwner, s_NotOwner, c_Order, PySem.W.mg_of X G g_Order, pg_Order, hd_Order, po_Order, sa_Order, ma_Order, kc_Order, eq_Order, mo_Order, ⟨pg_Order, hd_Order, po_Order, sa_Order⟩, na_Order_number, na_Order_house, na_Order_side, na_Order_price, na_Order_shown, na_Order_left, na_Order_visible, c_Stop, PySem.W.mg_of X G g_Stop, pg_Stop, hd_Stop, po_Stop, sa_Stop, ma_Stop, kc_Stop, eq_Stop, mo_Stop, ⟨pg_Stop, hd_Stop, po_Stop, sa_Stop⟩, na_Stop_number, na_Stop_house, na_Stop_side, na_Stop_trigger, na_Stop_price, na_Stop_quantity, c_BookSide, PySem.W.mg_of X G g_BookSide, pg_BookSide, hd_BookSide, po_BookSide, sa_BookSide, ma_BookSide, kc_BookSide, ⟨pg_BookSide, hd_BookSide, po_BookSide, sa_BookSide⟩, na_BookSide__orders, c_Report, PySem.W.mg_of X G g_Report, pg_Report, hd_Report, po_Report, sa_Report, ma_Report, kc_Report, ⟨pg_Report, hd_Report, po_Report, sa_Report⟩, na_Report_number, na_Report_house, na_Report_side, na_Report_fills, na_Report_removed, na_Report_resting, c_Book, PySem.W.mg_of X G g_Book, pg_Book, hd_Book, po_Book, sa_Book, ma_Book, kc_Book, ⟨pg_Book, hd_Book, po_Book, sa_Book⟩, na_Book_last, na_Book__next_number, na_Book__sides, na_Book__stops, ⟨ma_Order, a12, i12, kc_Order⟩, ⟨a13, i13, k13⟩, ⟨a14, i14, k14⟩, ⟨a15, i15, k15⟩, ⟨ma_Stop, a16, i16, kc_Stop⟩, ⟨a17, i17, k17⟩, ⟨a18, i18, k18⟩, ⟨ma_BookSide, a19, i19, kc_BookSide⟩, ⟨a20, i20, k20⟩, ⟨a21, i21, k21⟩, ⟨a22, i22, k22⟩, ⟨a23, i23, k23⟩, ⟨a24, i24, k24⟩, ⟨a25, i25, k25⟩, ⟨a26, i26, k26⟩, ⟨a27, i27, k27⟩, ⟨ma_Report, a28, i28, kc_Report⟩, ⟨ma_Book, a29, i29, kc_Book⟩, ⟨a30, i30, k30⟩, ⟨a31, i31, k31⟩, ⟨a32, i32, k32⟩, ⟨a33, i33, k33⟩, ⟨a34, i34, k34⟩, ⟨a35, i35, k35⟩, ⟨a36, i36, k36⟩, ⟨a37, i37, k37⟩, ⟨a38, i38, k38⟩, ⟨a39, i39, k39⟩, ⟨a40, i40, k40⟩, ⟨a41, i41, k41⟩, su_UnknownOrder_BourseError, su_NotOwner_BourseError, PySem.W.mg_none_of X G z_bool, PySem.W.mg_none_of X G z_enumerate, PySem.W.mg_none_of X G z_int, PySem.W.mg_none_of X G z_isinstance, PySem.W.mg_none_of X G z_len, PySem.W.mg_none_of X G z_min, PySem.W.mg_none_of X G z_sorted, PySem.W.mg_none_of X G z_sum, ac_SIDES, PySem.W.mg_of X G v_SIDES, (fun H => .inr ⟨_, _, _, lc_SIDES, rfl, rfl, (show 2 ≤ sizeLine from len_le rfl), .cons ⟨_, rfl⟩ (.cons ⟨_, rfl⟩ (.nil))⟩), ac_KINDS, PySem.W.mg_of X G v_KINDS, (fun H => .inr ⟨_, _, _, lc_KINDS, rfl, rfl, (show 3 ≤ sizeLine from len_le rfl), .cons ⟨_, rfl⟩ (.cons ⟨_, rfl⟩ (.cons ⟨_, rfl⟩ (.nil)))⟩), t_MOST, PySem.W.mg_of X G v_MOST⟩
  exact ⟨PySem.W.fnOf "law" "law" (defArgs s_law) (defBody s_law) (defScope s_law) .none kV47 dc47 pm47 an47 cd47 ct47, fun s v => .of_eq rfl, fun base _ _ => ok_law T F47⟩
end FB
open PySem PySem.W PyProof.Rows
set_option maxRecDepth 100000 in
set_option maxHeartbeats 0 in
theorem PySem.Challenge.cw_fairbourse_k25_stop_orders_holds : PySem.Challenge.rw_fairbourse_k25_stop_orders.Holds := by
  w_on; o_law; k_head; (case hw => w_witness2)
  k_fill
  refine L2.walk_of (l := PySem.Challenge.rw_fairbourse_k25_stop_orders) (n := 63) (k := 10) (x := "script") (CX := fun _ => L2.CX0) (sp := fun w => FB.sp_law _) rfl (by decide) rfl ⟨rfl, by decide, by decide⟩ (fun w h Y => PySem.W.kIn_of Y) ?F (fun _ _ a ns hl _ hS => ⟨a, ns, rfl, hS, hl, fun _ => rfl⟩) (fun _ _ _ _ _ h => h)
  case F =>
    intro w mg fa h KX G hmg
    refine' FB.all_mk KX G hmg ?a1 ?l1 ?c1 ?k1 ?a2 ?l2 ?c2 ?k2 ?a3 ?l3 ?c3 ?k3 ?a4 ?l4 ?c4 ?k4 ?a5 ?l5 ?c5 ?k5 ?a6 ?l6 ?c6 ?k6 ?a7 ?l7 ?c7 ?k7 ?a8 ?l8 ?c8 ?k8 ?a9 ?l9 ?c9 ?k9 ?a10 ?l10 ?c10 ?k10 ?a11 ?l11 ?c11 ?k11 ?a12 ?i12 ?l12 ?c12 ?k12 ?a13 ?i13 ?l13 ?c13 ?k13 ?a14 ?i14 ?l14 ?c14 ?k14 ?a15 ?i15 ?l15 ?c15 ?k15 ?a16 ?i16 ?l16 ?c16 ?k16 ?a17 ?i17 ?l17 ?c17 ?k17 ?a18 ?i18 ?l18 ?c18 ?k18 ?a19 ?i19 ?l19 ?c19 ?k19 ?a20 ?i20 ?l20 ?c20 ?k20 ?a21 ?i21 ?l21 ?c21 ?k21 ?a22 ?i22 ?l22 ?c22 ?k22 ?a23 ?i23 ?l23 ?c23 ?k23 ?a24 ?i24 ?l24 ?c24 ?k24 ?a25 ?i25 ?l25 ?c25 ?k25 ?a26 ?i26 ?l26 ?c26 ?k26 ?a27 ?i27 ?l27 ?c27 ?k27 ?a28 ?i28 ?l28 ?c28 ?k28 ?a29 ?i29 ?l29 ?lT29 ?c29 ?k29 ?a30 ?i30 ?l30 ?c30 ?k30 ?kd30_0 ?kd30_1 ?a31 ?i31 ?l31 ?c31 ?k31 ?a32 ?i32 ?l32 ?c32 ?k32 ?a33 ?i33 ?l33 ?c33 ?k33 ?a34 ?i34 ?l34 ?c34 ?k34 ?a35 ?i35 ?l35 ?c35 ?k35 ?a36 ?i36 ?l36 ?c36 ?k36 ?a37 ?i37 ?l37 ?c37 ?k37 ?a38 ?i38 ?l38 ?c38 ?k38 ?a39 ?i39 ?l39 ?c39 ?k39 ?a40 ?i40 ?l40 ?c40 ?k40 ?a41 ?i41 ?l41 ?c41 ?k41 ?a42 ?l42 ?c42 ?k42 ?a43 ?l43 ?c43 ?k43 ?a44 ?l44 ?c44 ?k44 ?a45 ?l45 ?c45 ?k45 ?a46 ?l46 ?c46 ?k46 ?a47 ?l47 ?c47 ?k47 ?z_bool ?z_enumerate ?z_int ?z_isinstance ?z_len ?z_min ?z_sorted ?z_sum ?v_MOST ?v_SIDES ?lc_SIDES ?v_KINDS ?lc_KINDS ?g_BourseError ?x_BourseError ?k_BourseError ?b_BourseError ?t_BourseError ?d_BourseError ?s_BourseError ?eg_BourseError ?ek_BourseError ?ea_BourseError ?en_BourseError ?et_BourseError ?em_BourseError ?g_InvalidOrder ?x_InvalidOrder ?k_InvalidOrder ?b_InvalidOrder ?t_InvalidOrder ?d_InvalidOrder ?s_InvalidOrder ?g_UnknownOrder ?x_UnknownOrder ?k_UnknownOrder ?b_UnknownOrder ?t_UnknownOrder ?d_UnknownOrder ?s_UnknownOrder ?g_NotOwner ?x_NotOwner ?k_NotOwner ?b_NotOwner ?t_NotOwner ?d_NotOwner ?s_NotOwner ?g_Order ?pg_Order ?hd_Order ?po_Order ?sa_Order ?ma_Order ?kc_Order ?eq_Order ?mo_Order ?na_Order_number ?na_Order_house ?na_Order_side ?na_Order_price ?na_Order_shown ?na_Order_left ?na_Order_visible ?g_Stop ?pg_Stop ?hd_Stop ?po_Stop ?sa_Stop ?ma_Stop ?kc_Stop ?eq_Stop ?mo_Stop ?na_Stop_number ?na_Stop_house ?na_Stop_side ?na_Stop_trigger ?na_Stop_price ?na_Stop_quantity ?g_BookSide ?pg_BookSide ?hd_BookSide ?po_BookSide ?sa_BookSide ?ma_BookSide ?kc_BookSide ?na_BookSide__orders ?g_Report ?pg_Report ?hd_Report ?po_Report ?sa_Report ?ma_Report ?kc_Report ?na_Report_number ?na_Report_house ?na_Report_side ?na_Report_fills ?na_Report_removed ?na_Report_resting ?g_Book ?pg_Book ?hd_Book ?po_Book ?sa_Book ?ma_Book ?kc_Book ?na_Book_last ?na_Book__next_number ?na_Book__sides ?na_Book__stops ?su_UnknownOrder_BourseError ?su_NotOwner_BourseError
    (case g_BourseError => k_is)
    (case g_InvalidOrder => k_is)
    (case g_UnknownOrder => k_is)
    (case g_NotOwner => k_is)
    (case g_Order => k_is)
    (case g_Stop => k_is)
    (case g_BookSide => k_is)
    (case g_Report => k_is)
    (case g_Book => k_is)
    (case a1 => k_is)
    (case l1 => k_is)
    (case c1 => k_is)
    (case k1 => k_is)
    (case a2 => k_is)
    (case l2 => k_is)
    (case c2 => k_is)
    (case k2 => k_is)
    (case a3 => k_is)
    (case l3 => k_is)
    (case c3 => k_is)
    (case k3 => k_is)
    (case a4 => k_is)
    (case l4 => k_is)
    (case c4 => k_is)
    (case k4 => k_is)
    (case a5 => k_is)
    (case l5 => k_is)
    (case c5 => k_is)
    (case k5 => k_is)
    (case a6 => k_is)
    (case l6 => k_is)
    (case c6 => k_is)
    (case k6 => k_is)
    (case a7 => k_is)
    (case l7 => k_is)
    (case c7 => k_is)
    (case k7 => k_is)
    (case a8 => k_is)
    (case l8 => k_is)
    (case c8 => k_is)
    (case k8 => k_is)
    (case a9 => k_is)
    (case l9 => k_is)
    (case c9 => k_is)
    (case k9 => k_is)
    (case a10 => k_is)
    (case l10 => k_is)
    (case c10 => k_is)
    (case k10 => k_is)
    (case a11 => k_is)
    (case l11 => k_is)
    (case c11 => k_is)
    (case k11 => k_is)
    (case a12 => k_is)
    (case i12 => k_is)
    (case l12 => k_is)
    (case c12 => k_is)
    (case k12 => k_is)
    (case a13 => k_is)
    (case i13 => k_is)
    (case l13 => k_is)
    (case c13 => k_is)
    (case k13 => k_is)
    (case a14 => k_is)
    (case i14 => k_is)
    (case l14 => k_is)
    (case c14 => k_is)
    (case k14 => k_is)
    (case a15 => k_is)
    (case i15 => k_is)
    (case l15 => k_is)
    (case c15 => k_is)
    (case k15 => k_is)
    (case a16 => k_is)
    (case i16 => k_is)
    (case l16 => k_is)
    (case c16 => k_is)
    (case k16 => k_is)
    (case a17 => k_is)
    (case i17 => k_is)
    (case l17 => k_is)
    (case c17 => k_is)
    (case k17 => k_is)
    (case a18 => k_is)
    (case i18 => k_is)
    (case l18 => k_is)
    (case c18 => k_is)
    (case k18 => k_is)
    (case a19 => k_is)
    (case i19 => k_is)
    (case l19 => k_is)
    (case c19 => k_is)
    (case k19 => k_is)
    (case a20 => k_is)
    (case i20 => k_is)
    (case l20 => k_is)
    (case c20 => k_is)
    (case k20 => k_is)
    (case a21 => k_is)
    (case i21 => k_is)
    (case l21 => k_is)
    (case c21 => k_is)
    (case k21 => k_is)
    (case a22 => k_is)
    (case i22 => k_is)
    (case l22 => k_is)
    (case c22 => k_is)
    (case k22 => k_is)
    (case a23 => k_is)
    (case i23 => k_is)
    (case l23 => k_is)
    (case c23 => k_is)
    (case k23 => k_is)
    (case a24 => k_is)
    (case i24 => k_is)
    (case l24 => k_is)
    (case c24 => k_is)
    (case k24 => k_is)
    (case a25 => k_is)
    (case i25 => k_is)
    (case l25 => k_is)
    (case c25 => k_is)
    (case k25 => k_is)
    (case a26 => k_is)
    (case i26 => k_is)
    (case l26 => k_is)
    (case c26 => k_is)
    (case k26 => k_is)
    (case a27 => k_is)
    (case i27 => k_is)
    (case l27 => k_is)
    (case c27 => k_is)
    (case k27 => k_is)
    (case a28 => k_is)
    (case i28 => k_is)
    (case l28 => k_is)
    (case c28 => k_is)
    (case k28 => k_is)
    (case a29 => k_is)
    (case i29 => k_is)
    (case l29 => k_is)
    (case lT29 => k_is)
    (case c29 => k_is)
    (case k29 => k_is)
    (case a30 => k_is)
    (case i30 => k_is)
    (case l30 => k_is)
    (case c30 => k_is)
    (case k30 => k_is)
    (case kd30_0 => k_is)
    (case kd30_1 => k_is)
    (case a31 => k_is)
    (case i31 => k_is)
    (case l31 => k_is)
    (case c31 => k_is)
    (case k31 => k_is)
    (case a32 => k_is)
    (case i32 => k_is)
    (case l32 => k_is)
    (case c32 => k_is)
    (case k32 => k_is)
    (case a33 => k_is)
    (case i33 => k_is)
    (case l33 => k_is)
    (case c33 => k_is)
    (case k33 => k_is)
    (case a34 => k_is)
    (case i34 => k_is)
    (case l34 => k_is)
    (case c34 => k_is)
    (case k34 => k_is)
    (case a35 => k_is)
    (case i35 => k_is)
    (case l35 => k_is)
    (case c35 => k_is)
    (case k35 => k_is)
    (case a36 => k_is)
    (case i36 => k_is)
    (case l36 => k_is)
    (case c36 => k_is)
    (case k36 => k_is)
    (case a37 => k_is)
    (case i37 => k_is)
    (case l37 => k_is)
    (case c37 => k_is)
    (case k37 => k_is)
    (case a38 => k_is)
    (case i38 => k_is)
    (case l38 => k_is)
    (case c38 => k_is)
    (case k38 => k_is)
    (case a39 => k_is)
    (case i39 => k_is)
    (case l39 => k_is)
    (case c39 => k_is)
    (case k39 => k_is)
    (case a40 => k_is)
    (case i40 => k_is)
    (case l40 => k_is)
    (case c40 => k_is)
    (case k40 => k_is)
    (case a41 => k_is)
    (case i41 => k_is)
    (case l41 => k_is)
    (case c41 => k_is)
    (case k41 => k_is)
    (case a42 => k_is)
    (case l42 => k_is)
    (case c42 => k_is)
    (case k42 => k_is)
    (case a43 => k_is)
    (case l43 => k_is)
    (case c43 => k_is)
    (case k43 => k_is)
    (case a44 => k_is)
    (case l44 => k_is)
    (case c44 => k_is)
    (case k44 => k_is)
    (case a45 => k_is)
    (case l45 => k_is)
    (case c45 => k_is)
    (case k45 => k_is)
    (case a46 => k_is)
    (case l46 => k_is)
    (case c46 => k_is)
    (case k46 => k_is)
    (case a47 => k_is)
    (case l47 => k_is)
    (case c47 => k_is)
    (case k47 => k_is)
    (case z_bool => k_is)
    (case z_enumerate => k_is)
    (case z_int => k_is)
    (case z_isinstance => k_is)
    (case z_len => k_is)
    (case z_min => k_is)
    (case z_sorted => k_is)
    (case z_sum => k_is)
    (case v_MOST => k_is)
    (case v_SIDES => k_is)
    (case lc_SIDES => k_is)
    (case v_KINDS => k_is)
    (case lc_KINDS => k_is)
    (case x_BourseError => k_exc)
    (case k_BourseError => k_is)
    (case b_BourseError => k_is)
    (case t_BourseError => k_is)
    (case d_BourseError => k_is)
    (case s_BourseError => first | rfl | k_is)
    (case eg_BourseError => k_is)
    (case ek_BourseError => k_is)
    (case ea_BourseError => k_is)
    (case en_BourseError => k_is)
    (case et_BourseError => k_is)
    (case em_BourseError => k_is)
    (case x_InvalidOrder => k_exc)
    (case k_InvalidOrder => k_is)
    (case b_InvalidOrder => k_is)
    (case t_InvalidOrder => k_is)
    (case d_InvalidOrder => k_is)
    (case s_InvalidOrder => first | rfl | k_is)
    (case x_UnknownOrder => k_exc)
    (case k_UnknownOrder => k_is)
    (case b_UnknownOrder => k_is)
    (case t_UnknownOrder => k_is)
    (case d_UnknownOrder => k_is)
    (case s_UnknownOrder => first | rfl | k_is)
    (case x_NotOwner => k_exc)
    (case k_NotOwner => k_is)
    (case b_NotOwner => k_is)
    (case t_NotOwner => k_is)
    (case d_NotOwner => k_is)
    (case s_NotOwner => first | rfl | k_is)
    (case pg_Order => k_is)
    (case hd_Order => k_is)
    (case po_Order => k_is)
    (case sa_Order => k_is)
    (case ma_Order => k_is)
    (case kc_Order => k_is)
    (case eq_Order => k_is)
    (case mo_Order => k_is)
    (case na_Order_number => k_is)
    (case na_Order_house => k_is)
    (case na_Order_side => k_is)
    (case na_Order_price => k_is)
    (case na_Order_shown => k_is)
    (case na_Order_left => k_is)
    (case na_Order_visible => k_is)
    (case pg_Stop => k_is)
    (case hd_Stop => k_is)
    (case po_Stop => k_is)
    (case sa_Stop => k_is)
    (case ma_Stop => k_is)
    (case kc_Stop => k_is)
    (case eq_Stop => k_is)
    (case mo_Stop => k_is)
    (case na_Stop_number => k_is)
    (case na_Stop_house => k_is)
    (case na_Stop_side => k_is)
    (case na_Stop_trigger => k_is)
    (case na_Stop_price => k_is)
    (case na_Stop_quantity => k_is)
    (case pg_BookSide => k_is)
    (case hd_BookSide => k_is)
    (case po_BookSide => k_is)
    (case sa_BookSide => k_is)
    (case ma_BookSide => k_is)
    (case kc_BookSide => k_is)
    (case na_BookSide__orders => k_is)
    (case pg_Report => k_is)
    (case hd_Report => k_is)
    (case po_Report => k_is)
    (case sa_Report => k_is)
    (case ma_Report => k_is)
    (case kc_Report => k_is)
    (case na_Report_number => k_is)
    (case na_Report_house => k_is)
    (case na_Report_side => k_is)
    (case na_Report_fills => k_is)
    (case na_Report_removed => k_is)
    (case na_Report_resting => k_is)
    (case pg_Book => k_is)
    (case hd_Book => k_is)
    (case po_Book => k_is)
    (case sa_Book => k_is)
    (case ma_Book => k_is)
    (case kc_Book => k_is)
    (case na_Book_last => k_is)
    (case na_Book__next_number => k_is)
    (case na_Book__sides => k_is)
    (case na_Book__stops => k_is)
    (case su_UnknownOrder_BourseError => first | rfl | k_is)
    (case su_NotOwner_BourseError => first | rfl | k_is)
