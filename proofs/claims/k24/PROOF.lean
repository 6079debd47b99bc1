import PyProof.Rows.All
import Wide.All
import OpenK.AllK
import Wide.FinOn
import HandS.ForMost
import HandS.ForExc
import HandS.Defaults
import HandS.IsInst
import HandS.Wide
import HandS.Codes
import HandS.Walk
import HandS.SetFor
import HandS.More
import KE.DataFind
import HandS.ExcIs
import HandS.MakeKwOnly
import HandS.CallSlots
import HandS.OwnEq
import HandS.Deep
import HandS.ListItems
import PySem.Challenge.RW_fairbourse_k24_book_whole_model
set_option Elab.async false
set_option linter.all false
set_option maxRecDepth 100000
namespace FB
open PySem PySem.Spec PyProof.Rows L2
def topS (i : Nat) : Stmt := PySem.Challenge.pw_fairbourse_k24_book_whole_model.main.body.getD i (.Pass ⟨0, 0, 0, 0⟩)
abbrev s_is_integral : Stmt := topS 7
abbrev N_is_integral : List Str := ["value"]
theorem sc_is_integral : FnScope N_is_integral ["value"] (defScope s_is_integral) := ⟨rfl, rfl, rfl, by decide +kernel, rfl, by decide +kernel, by decide +kernel⟩
abbrev s_is_within : Stmt := topS 8
abbrev N_is_within : List Str := ["least", "most", "value"]
theorem sc_is_within : FnScope N_is_within ["least", "most", "value"] (defScope s_is_within) := ⟨rfl, rfl, rfl, by decide +kernel, rfl, by decide +kernel, by decide +kernel⟩
abbrev s_other_side : Stmt := topS 13
abbrev N_other_side : List Str := ["side"]
theorem sc_other_side : FnScope N_other_side ["side"] (defScope s_other_side) := ⟨rfl, rfl, rfl, by decide +kernel, rfl, by decide +kernel, by decide +kernel⟩
abbrev s_accepts : Stmt := topS 14
abbrev N_accepts : List Str := ["side", "limit", "price"]
theorem sc_accepts : FnScope N_accepts ["side", "limit", "price"] (defScope s_accepts) := ⟨rfl, rfl, rfl, by decide +kernel, rfl, by decide +kernel, by decide +kernel⟩
abbrev s_check_house : Stmt := topS 15
abbrev N_check_house : List Str := ["house"]
theorem sc_check_house : FnScope N_check_house ["house"] (defScope s_check_house) := ⟨rfl, rfl, rfl, by decide +kernel, rfl, by decide +kernel, by decide +kernel⟩
abbrev s_check_side : Stmt := topS 16
abbrev N_check_side : List Str := ["side"]
theorem sc_check_side : FnScope N_check_side ["side"] (defScope s_check_side) := ⟨rfl, rfl, rfl, by decide +kernel, rfl, by decide +kernel, by decide +kernel⟩
abbrev s_check_number : Stmt := topS 17
abbrev N_check_number : List Str := ["number", "least", "most"]
theorem sc_check_number : FnScope N_check_number ["number", "least", "most"] (defScope s_check_number) := ⟨rfl, rfl, rfl, by decide +kernel, rfl, by decide +kernel, by decide +kernel⟩
abbrev s_check_price : Stmt := topS 18
abbrev N_check_price : List Str := ["price"]
theorem sc_check_price : FnScope N_check_price ["price"] (defScope s_check_price) := ⟨rfl, rfl, rfl, by decide +kernel, rfl, by decide +kernel, by decide +kernel⟩
abbrev s_check_quantity : Stmt := topS 19
abbrev N_check_quantity : List Str := ["quantity"]
theorem sc_check_quantity : FnScope N_check_quantity ["quantity"] (defScope s_check_quantity) := ⟨rfl, rfl, rfl, by decide +kernel, rfl, by decide +kernel, by decide +kernel⟩
abbrev s_check_order : Stmt := topS 20
abbrev N_check_order : List Str := ["house", "side", "price", "quantity", "kind", "shown"]
theorem sc_check_order : FnScope N_check_order ["house", "side", "price", "quantity", "kind", "shown"] (defScope s_check_order) := ⟨rfl, rfl, rfl, by decide +kernel, rfl, by decide +kernel, by decide +kernel⟩
abbrev s_Order_init : Stmt := inClass (topS 22) 0
abbrev N_Order_init : List Str := ["self", "number", "house", "side", "price", "quantity", "shown"]
theorem sc_Order_init : FnScope N_Order_init ["self", "number", "house", "side", "price", "quantity", "shown"] (defScope s_Order_init) := ⟨rfl, rfl, rfl, by decide +kernel, rfl, by decide +kernel, by decide +kernel⟩
abbrev s_Order_accepts_price : Stmt := inClass (topS 22) 1
abbrev N_Order_accepts_price : List Str := ["self", "price"]
theorem sc_Order_accepts_price : FnScope N_Order_accepts_price ["self", "price"] (defScope s_Order_accepts_price) := ⟨rfl, rfl, rfl, by decide +kernel, rfl, by decide +kernel, by decide +kernel⟩
abbrev s_Order_show_next_part : Stmt := inClass (topS 22) 2
abbrev N_Order_show_next_part : List Str := ["self"]
theorem sc_Order_show_next_part : FnScope N_Order_show_next_part ["self"] (defScope s_Order_show_next_part) := ⟨rfl, rfl, rfl, by decide +kernel, rfl, by decide +kernel, by decide +kernel⟩
abbrev s_Order_trade_visible : Stmt := inClass (topS 22) 3
abbrev N_Order_trade_visible : List Str := ["self", "quantity"]
theorem sc_Order_trade_visible : FnScope N_Order_trade_visible ["self", "quantity"] (defScope s_Order_trade_visible) := ⟨rfl, rfl, rfl, by decide +kernel, rfl, by decide +kernel, by decide +kernel⟩
abbrev s_Order_reduce : Stmt := inClass (topS 22) 4
abbrev N_Order_reduce : List Str := ["self", "quantity"]
theorem sc_Order_reduce : FnScope N_Order_reduce ["self", "quantity"] (defScope s_Order_reduce) := ⟨rfl, rfl, rfl, by decide +kernel, rfl, by decide +kernel, by decide +kernel⟩
abbrev s_BookSide_init : Stmt := inClass (topS 23) 0
abbrev N_BookSide_init : List Str := ["self"]
theorem sc_BookSide_init : FnScope N_BookSide_init ["self"] (defScope s_BookSide_init) := ⟨rfl, rfl, rfl, by decide +kernel, rfl, by decide +kernel, by decide +kernel⟩
abbrev s_BookSide_rows : Stmt := inClass (topS 23) 1
abbrev N_BookSide_rows : List Str := ["self", "order"]
theorem sc_BookSide_rows : FnScope N_BookSide_rows ["self"] (defScope s_BookSide_rows) := ⟨rfl, rfl, rfl, by decide +kernel, rfl, by decide +kernel, by decide +kernel⟩
abbrev s_BookSide_first : Stmt := inClass (topS 23) 4
abbrev N_BookSide_first : List Str := ["self"]
theorem sc_BookSide_first : FnScope N_BookSide_first ["self"] (defScope s_BookSide_first) := ⟨rfl, rfl, rfl, by decide +kernel, rfl, by decide +kernel, by decide +kernel⟩
abbrev s_BookSide_with_number : Stmt := inClass (topS 23) 5
abbrev N_BookSide_with_number : List Str := ["self", "number", "order"]
theorem sc_BookSide_with_number : FnScope N_BookSide_with_number ["self", "number"] (defScope s_BookSide_with_number) := ⟨rfl, rfl, rfl, by decide +kernel, rfl, by decide +kernel, by decide +kernel⟩
abbrev s_BookSide_available : Stmt := inClass (topS 23) 6
abbrev N_BookSide_available : List Str := ["self", "taker", "lefts", "order"]
theorem sc_BookSide_available : FnScope N_BookSide_available ["self", "taker"] (defScope s_BookSide_available) := ⟨rfl, rfl, rfl, by decide +kernel, rfl, by decide +kernel, by decide +kernel⟩
abbrev s_BookSide_enter : Stmt := inClass (topS 23) 7
abbrev N_BookSide_enter : List Str := ["self", "order"]
theorem sc_BookSide_enter : FnScope N_BookSide_enter ["self", "order"] (defScope s_BookSide_enter) := ⟨rfl, rfl, rfl, by decide +kernel, rfl, by decide +kernel, by decide +kernel⟩
abbrev s_BookSideplace_behind : Stmt := inClass (topS 23) 8
abbrev N_BookSideplace_behind : List Str := ["self", "order", "low", "high", "middle"]
theorem sc_BookSideplace_behind : FnScope N_BookSideplace_behind ["self", "order"] (defScope s_BookSideplace_behind) := ⟨rfl, rfl, rfl, by decide +kernel, rfl, by decide +kernel, by decide +kernel⟩
abbrev s_BookSide_leave : Stmt := inClass (topS 23) 9
abbrev N_BookSide_leave : List Str := ["self", "order"]
theorem sc_BookSide_leave : FnScope N_BookSide_leave ["self", "order"] (defScope s_BookSide_leave) := ⟨rfl, rfl, rfl, by decide +kernel, rfl, by decide +kernel, by decide +kernel⟩
abbrev s_BookSide_trade_first : Stmt := inClass (topS 23) 10
abbrev N_BookSide_trade_first : List Str := ["self", "quantity", "first"]
theorem sc_BookSide_trade_first : FnScope N_BookSide_trade_first ["self", "quantity"] (defScope s_BookSide_trade_first) := ⟨rfl, rfl, rfl, by decide +kernel, rfl, by decide +kernel, by decide +kernel⟩
abbrev s_Report_init : Stmt := inClass (topS 25) 0
abbrev N_Report_init : List Str := ["self", "number", "house", "side"]
theorem sc_Report_init : FnScope N_Report_init ["self", "number", "house", "side"] (defScope s_Report_init) := ⟨rfl, rfl, rfl, by decide +kernel, rfl, by decide +kernel, by decide +kernel⟩
abbrev s_Book_init : Stmt := inClass (topS 26) 0
abbrev N_Book_init : List Str := ["self", "first_number"]
theorem sc_Book_init : FnScope N_Book_init ["self", "first_number"] (defScope s_Book_init) := ⟨rfl, rfl, rfl, by decide +kernel, rfl, by decide +kernel, by decide +kernel⟩
abbrev s_Book_submit : Stmt := inClass (topS 26) 1
abbrev N_Book_submit : List Str := ["self", "house", "side", "price", "quantity", "kind", "shown", "order", "report"]
theorem sc_Book_submit : FnScope N_Book_submit ["self", "house", "side", "price", "quantity", "kind", "shown"] (defScope s_Book_submit) := ⟨rfl, rfl, rfl, by decide +kernel, rfl, by decide +kernel, by decide +kernel⟩
abbrev s_Book_place : Stmt := inClass (topS 26) 3
abbrev N_Book_place : List Str := ["self", "number", "house", "side", "price", "quantity", "best"]
theorem sc_Book_place : FnScope N_Book_place ["self", "number", "house", "side", "price", "quantity"] (defScope s_Book_place) := ⟨rfl, rfl, rfl, by decide +kernel, rfl, by decide +kernel, by decide +kernel⟩
abbrev s_Book_cancel : Stmt := inClass (topS 26) 4
abbrev N_Book_cancel : List Str := ["self", "number", "house", "stop", "order"]
theorem sc_Book_cancel : FnScope N_Book_cancel ["self", "number", "house"] (defScope s_Book_cancel) := ⟨rfl, rfl, rfl, by decide +kernel, rfl, by decide +kernel, by decide +kernel⟩
abbrev s_Book_amend : Stmt := inClass (topS 26) 5
abbrev N_Book_amend : List Str := ["self", "number", "house", "price", "quantity", "order", "report"]
theorem sc_Book_amend : FnScope N_Book_amend ["self", "number", "house", "price", "quantity"] (defScope s_Book_amend) := ⟨rfl, rfl, rfl, by decide +kernel, rfl, by decide +kernel, by decide +kernel⟩
abbrev s_Book_orders : Stmt := inClass (topS 26) 6
abbrev N_Book_orders : List Str := ["self", "side"]
theorem sc_Book_orders : FnScope N_Book_orders ["self", "side"] (defScope s_Book_orders) := ⟨rfl, rfl, rfl, by decide +kernel, rfl, by decide +kernel, by decide +kernel⟩
abbrev s_Book_best : Stmt := inClass (topS 26) 8
abbrev N_Book_best : List Str := ["self", "side", "first"]
theorem sc_Book_best : FnScope N_Book_best ["self", "side"] (defScope s_Book_best) := ⟨rfl, rfl, rfl, by decide +kernel, rfl, by decide +kernel, by decide +kernel⟩
abbrev s_Booktake_number : Stmt := inClass (topS 26) 11
abbrev N_Booktake_number : List Str := ["self", "number"]
theorem sc_Booktake_number : FnScope N_Booktake_number ["self"] (defScope s_Booktake_number) := ⟨rfl, rfl, rfl, by decide +kernel, rfl, by decide +kernel, by decide +kernel⟩
abbrev s_Bookenter : Stmt := inClass (topS 26) 12
abbrev N_Bookenter : List Str := ["self", "order", "kind", "report", "across", "first", "quantity"]
theorem sc_Bookenter : FnScope N_Bookenter ["self", "order", "kind"] (defScope s_Bookenter) := ⟨rfl, rfl, rfl, by decide +kernel, rfl, by decide +kernel, by decide +kernel⟩
abbrev s_Bookreduce : Stmt := inClass (topS 26) 13
abbrev N_Bookreduce : List Str := ["self", "order", "quantity", "report"]
theorem sc_Bookreduce : FnScope N_Bookreduce ["self", "order", "quantity"] (defScope s_Bookreduce) := ⟨rfl, rfl, rfl, by decide +kernel, rfl, by decide +kernel, by decide +kernel⟩
abbrev s_Bookenter_again : Stmt := inClass (topS 26) 14
abbrev N_Bookenter_again : List Str := ["self", "order", "price", "quantity", "shown"]
theorem sc_Bookenter_again : FnScope N_Bookenter_again ["self", "order", "price", "quantity"] (defScope s_Bookenter_again) := ⟨rfl, rfl, rfl, by decide +kernel, rfl, by decide +kernel, by decide +kernel⟩
abbrev s_Bookorder_of : Stmt := inClass (topS 26) 15
abbrev N_Bookorder_of : List Str := ["self", "number", "house", "order"]
theorem sc_Bookorder_of : FnScope N_Bookorder_of ["self", "number", "house"] (defScope s_Bookorder_of) := ⟨rfl, rfl, rfl, by decide +kernel, rfl, by decide +kernel, by decide +kernel⟩
abbrev s_Bookorder_with : Stmt := inClass (topS 26) 16
abbrev N_Bookorder_with : List Str := ["self", "number", "order"]
theorem sc_Bookorder_with : FnScope N_Bookorder_with ["self", "number"] (defScope s_Bookorder_with) := ⟨rfl, rfl, rfl, by decide +kernel, rfl, by decide +kernel, by decide +kernel⟩
abbrev s_Bookstop_with : Stmt := inClass (topS 26) 17
abbrev N_Bookstop_with : List Str := ["self", "number", "stop"]
theorem sc_Bookstop_with : FnScope N_Bookstop_with ["self", "number"] (defScope s_Bookstop_with) := ⟨rfl, rfl, rfl, by decide +kernel, rfl, by decide +kernel, by decide +kernel⟩
abbrev s_Booktrigger_stops : Stmt := inClass (topS 26) 18
abbrev N_Booktrigger_stops : List Str := ["self", "reports", "stop", "kind", "order"]
theorem sc_Booktrigger_stops : FnScope N_Booktrigger_stops ["self"] (defScope s_Booktrigger_stops) := ⟨rfl, rfl, rfl, by decide +kernel, rfl, by decide +kernel, by decide +kernel⟩
abbrev s_Bookfirst_reached : Stmt := inClass (topS 26) 19
abbrev N_Bookfirst_reached : List Str := ["self", "stop"]
theorem sc_Bookfirst_reached : FnScope N_Bookfirst_reached ["self"] (defScope s_Bookfirst_reached) := ⟨rfl, rfl, rfl, by decide +kernel, rfl, by decide +kernel, by decide +kernel⟩
abbrev s_law_house : Stmt := topS 28
abbrev N_law_house : List Str := ["cell"]
theorem sc_law_house : FnScope N_law_house ["cell"] (defScope s_law_house) := ⟨rfl, rfl, rfl, by decide +kernel, rfl, by decide +kernel, by decide +kernel⟩
abbrev s_law_resting_side : Stmt := topS 29
abbrev N_law_resting_side : List Str := ["side"]
theorem sc_law_resting_side : FnScope N_law_resting_side ["side"] (defScope s_law_resting_side) := ⟨rfl, rfl, rfl, by decide +kernel, rfl, by decide +kernel, by decide +kernel⟩
abbrev s_law_fits : Stmt := topS 30
abbrev N_law_fits : List Str := ["side", "limit", "price"]
theorem sc_law_fits : FnScope N_law_fits ["side", "limit", "price"] (defScope s_law_fits) := ⟨rfl, rfl, rfl, by decide +kernel, rfl, by decide +kernel, by decide +kernel⟩
abbrev s_law_first : Stmt := topS 31
abbrev N_law_first : List Str := ["orders", "side", "limit", "best", "order"]
theorem sc_law_first : FnScope N_law_first ["orders", "side", "limit"] (defScope s_law_first) := ⟨rfl, rfl, rfl, by decide +kernel, rfl, by decide +kernel, by decide +kernel⟩
abbrev s_law_visible : Stmt := topS 32
abbrev N_law_visible : List Str := ["left", "shown"]
theorem sc_law_visible : FnScope N_law_visible ["left", "shown"] (defScope s_law_visible) := ⟨rfl, rfl, rfl, by decide +kernel, rfl, by decide +kernel, by decide +kernel⟩
abbrev s_law_trade : Stmt := topS 33
abbrev N_law_trade : List Str := ["orders", "house", "side", "limit", "quantity", "fills", "removed", "left", "step", "first", "traded"]
theorem sc_law_trade : FnScope N_law_trade ["orders", "house", "side", "limit", "quantity"] (defScope s_law_trade) := ⟨rfl, rfl, rfl, by decide +kernel, rfl, by decide +kernel, by decide +kernel⟩
abbrev s_law_available : Stmt := topS 34
abbrev N_law_available : List Str := ["orders", "house", "side", "limit", "total", "order"]
theorem sc_law_available : FnScope N_law_available ["orders", "house", "side", "limit"] (defScope s_law_available) := ⟨rfl, rfl, rfl, by decide +kernel, rfl, by decide +kernel, by decide +kernel⟩
abbrev s_law_enter : Stmt := topS 35
abbrev N_law_enter : List Str := ["orders", "number", "house", "side", "limit", "quantity", "kind", "shown", "fills", "removed", "left"]
theorem sc_law_enter : FnScope N_law_enter ["orders", "number", "house", "side", "limit", "quantity", "kind", "shown"] (defScope s_law_enter) := ⟨rfl, rfl, rfl, by decide +kernel, rfl, by decide +kernel, by decide +kernel⟩
abbrev s_law_listed : Stmt := topS 36
abbrev N_law_listed : List Str := ["orders", "side", "kept", "order", "rows", "step", "first"]
theorem sc_law_listed : FnScope N_law_listed ["orders", "side"] (defScope s_law_listed) := ⟨rfl, rfl, rfl, by decide +kernel, rfl, by decide +kernel, by decide +kernel⟩
abbrev s_law_same : Stmt := topS 37
abbrev N_law_same : List Str := ["book", "orders", "reports", "due", "number", "report"]
theorem sc_law_same : FnScope N_law_same ["book", "orders", "reports", "due", "number"] (defScope s_law_same) := ⟨rfl, rfl, rfl, by decide +kernel, rfl, by decide +kernel, by decide +kernel⟩
abbrev s_law_submit : Stmt := topS 38
abbrev N_law_submit : List Str := ["book", "orders", "cell", "number", "house", "side", "limit", "quantity", "kind", "shown", "reports", "due"]
theorem sc_law_submit : FnScope N_law_submit ["book", "orders", "cell", "number"] (defScope s_law_submit) := ⟨rfl, rfl, rfl, by decide +kernel, rfl, by decide +kernel, by decide +kernel⟩
abbrev s_law_cancel : Stmt := topS 39
abbrev N_law_cancel : List Str := ["book", "orders", "cell", "order", "quantity"]
theorem sc_law_cancel : FnScope N_law_cancel ["book", "orders", "cell"] (defScope s_law_cancel) := ⟨rfl, rfl, rfl, by decide +kernel, rfl, by decide +kernel, by decide +kernel⟩
abbrev s_law_amend : Stmt := topS 40
abbrev N_law_amend : List Str := ["book", "orders", "cell", "order", "price", "quantity", "reports", "due"]
theorem sc_law_amend : FnScope N_law_amend ["book", "orders", "cell"] (defScope s_law_amend) := ⟨rfl, rfl, rfl, by decide +kernel, rfl, by decide +kernel, by decide +kernel⟩
abbrev s_law : Stmt := topS 41
abbrev N_law : List Str := ["script", "book", "orders", "number", "cell", "step", "right"]
theorem sc_law : FnScope N_law ["script"] (defScope s_law) := ⟨rfl, rfl, rfl, by decide +kernel, rfl, by decide +kernel, by decide +kernel⟩
set_option maxHeartbeats 0 in
structure Txt (K : PySem.W.Frag) (mg : Str → Option Value) where
  f_is_integral : Addr
  d_is_integral : FuncData
  F_is_integral : Fun K "is_integral" "is_integral" s_is_integral f_is_integral d_is_integral
  m_is_integral : mg "is_integral" = some (.ref f_is_integral)
  b_is_integral : Binds K d_is_integral ["value"] []
  f_is_within : Addr
  d_is_within : FuncData
  F_is_within : Fun K "is_within" "is_within" s_is_within f_is_within d_is_within
  m_is_within : mg "is_within" = some (.ref f_is_within)
  b_is_within : Binds K d_is_within ["least", "most", "value"] []
  f_other_side : Addr
  d_other_side : FuncData
  F_other_side : Fun K "other_side" "other_side" s_other_side f_other_side d_other_side
  m_other_side : mg "other_side" = some (.ref f_other_side)
  b_other_side : Binds K d_other_side ["side"] []
  f_accepts : Addr
  d_accepts : FuncData
  F_accepts : Fun K "accepts" "accepts" s_accepts f_accepts d_accepts
  m_accepts : mg "accepts" = some (.ref f_accepts)
  b_accepts : Binds K d_accepts ["side", "limit", "price"] []
  f_check_house : Addr
  d_check_house : FuncData
  F_check_house : Fun K "check_house" "check_house" s_check_house f_check_house d_check_house
  m_check_house : mg "check_house" = some (.ref f_check_house)
  b_check_house : Binds K d_check_house ["house"] []
  f_check_side : Addr
  d_check_side : FuncData
  F_check_side : Fun K "check_side" "check_side" s_check_side f_check_side d_check_side
  m_check_side : mg "check_side" = some (.ref f_check_side)
  b_check_side : Binds K d_check_side ["side"] []
  f_check_number : Addr
  d_check_number : FuncData
  F_check_number : Fun K "check_number" "check_number" s_check_number f_check_number d_check_number
  m_check_number : mg "check_number" = some (.ref f_check_number)
  b_check_number : Binds K d_check_number ["number", "least", "most"] []
  f_check_price : Addr
  d_check_price : FuncData
  F_check_price : Fun K "check_price" "check_price" s_check_price f_check_price d_check_price
  m_check_price : mg "check_price" = some (.ref f_check_price)
  b_check_price : Binds K d_check_price ["price"] []
  f_check_quantity : Addr
  d_check_quantity : FuncData
  F_check_quantity : Fun K "check_quantity" "check_quantity" s_check_quantity f_check_quantity d_check_quantity
  m_check_quantity : mg "check_quantity" = some (.ref f_check_quantity)
  b_check_quantity : Binds K d_check_quantity ["quantity"] []
  f_check_order : Addr
  d_check_order : FuncData
  F_check_order : Fun K "check_order" "check_order" s_check_order f_check_order d_check_order
  m_check_order : mg "check_order" = some (.ref f_check_order)
  b_check_order : Binds K d_check_order ["house", "side", "price", "quantity", "kind", "shown"] []
  f_Order_init : Addr
  d_Order_init : FuncData
  F_Order_init : Fun K "__init__" "Order.__init__" s_Order_init f_Order_init d_Order_init
  b_Order_init : Binds K d_Order_init ["self", "number", "house", "side", "price", "quantity", "shown"] []
  f_Order_accepts_price : Addr
  d_Order_accepts_price : FuncData
  F_Order_accepts_price : Fun K "accepts_price" "Order.accepts_price" s_Order_accepts_price f_Order_accepts_price d_Order_accepts_price
  b_Order_accepts_price : Binds K d_Order_accepts_price ["self", "price"] []
  f_Order_show_next_part : Addr
  d_Order_show_next_part : FuncData
  F_Order_show_next_part : Fun K "show_next_part" "Order.show_next_part" s_Order_show_next_part f_Order_show_next_part d_Order_show_next_part
  b_Order_show_next_part : Binds K d_Order_show_next_part ["self"] []
  f_Order_trade_visible : Addr
  d_Order_trade_visible : FuncData
  F_Order_trade_visible : Fun K "trade_visible" "Order.trade_visible" s_Order_trade_visible f_Order_trade_visible d_Order_trade_visible
  b_Order_trade_visible : Binds K d_Order_trade_visible ["self", "quantity"] []
  f_Order_reduce : Addr
  d_Order_reduce : FuncData
  F_Order_reduce : Fun K "reduce" "Order.reduce" s_Order_reduce f_Order_reduce d_Order_reduce
  b_Order_reduce : Binds K d_Order_reduce ["self", "quantity"] []
  f_BookSide_init : Addr
  d_BookSide_init : FuncData
  F_BookSide_init : Fun K "__init__" "BookSide.__init__" s_BookSide_init f_BookSide_init d_BookSide_init
  b_BookSide_init : Binds K d_BookSide_init ["self"] []
  f_BookSide_rows : Addr
  d_BookSide_rows : FuncData
  F_BookSide_rows : Fun K "rows" "BookSide.rows" s_BookSide_rows f_BookSide_rows d_BookSide_rows
  b_BookSide_rows : Binds K d_BookSide_rows ["self"] []
  f_BookSide_first : Addr
  d_BookSide_first : FuncData
  F_BookSide_first : Fun K "first" "BookSide.first" s_BookSide_first f_BookSide_first d_BookSide_first
  b_BookSide_first : Binds K d_BookSide_first ["self"] []
  f_BookSide_with_number : Addr
  d_BookSide_with_number : FuncData
  F_BookSide_with_number : Fun K "with_number" "BookSide.with_number" s_BookSide_with_number f_BookSide_with_number d_BookSide_with_number
  b_BookSide_with_number : Binds K d_BookSide_with_number ["self", "number"] []
  f_BookSide_available : Addr
  d_BookSide_available : FuncData
  F_BookSide_available : Fun K "available" "BookSide.available" s_BookSide_available f_BookSide_available d_BookSide_available
  b_BookSide_available : Binds K d_BookSide_available ["self", "taker"] []
  f_BookSide_enter : Addr
  d_BookSide_enter : FuncData
  F_BookSide_enter : Fun K "enter" "BookSide.enter" s_BookSide_enter f_BookSide_enter d_BookSide_enter
  b_BookSide_enter : Binds K d_BookSide_enter ["self", "order"] []
  f_BookSideplace_behind : Addr
  d_BookSideplace_behind : FuncData
  F_BookSideplace_behind : Fun K "_place_behind" "BookSide._place_behind" s_BookSideplace_behind f_BookSideplace_behind d_BookSideplace_behind
  b_BookSideplace_behind : Binds K d_BookSideplace_behind ["self", "order"] []
  f_BookSide_leave : Addr
  d_BookSide_leave : FuncData
  F_BookSide_leave : Fun K "leave" "BookSide.leave" s_BookSide_leave f_BookSide_leave d_BookSide_leave
  b_BookSide_leave : Binds K d_BookSide_leave ["self", "order"] []
  f_BookSide_trade_first : Addr
  d_BookSide_trade_first : FuncData
  F_BookSide_trade_first : Fun K "trade_first" "BookSide.trade_first" s_BookSide_trade_first f_BookSide_trade_first d_BookSide_trade_first
  b_BookSide_trade_first : Binds K d_BookSide_trade_first ["self", "quantity"] []
  f_Report_init : Addr
  d_Report_init : FuncData
  F_Report_init : Fun K "__init__" "Report.__init__" s_Report_init f_Report_init d_Report_init
  b_Report_init : Binds K d_Report_init ["self", "number", "house", "side"] []
  f_Book_init : Addr
  d_Book_init : FuncData
  F_Book_init : FunD K "__init__" "Book.__init__" (defArgs s_Book_init) (defBody s_Book_init) (defScope s_Book_init) [.int 1] [] f_Book_init d_Book_init
  b0_Book_init : ∃ ds, Vals [.int 1] ds ∧ Binds K d_Book_init ["self", "first_number"] ds
  b_Book_init : Binds K d_Book_init ["self", "first_number"] []
  f_Book_submit : Addr
  d_Book_submit : FuncData
  F_Book_submit : FunD K "submit" "Book.submit" (defArgs s_Book_submit) (defBody s_Book_submit) (defScope s_Book_submit) [] [("kind", .str "rest"), ("shown", .int 0)] f_Book_submit d_Book_submit
  b_Book_submit : ∃ ds, Vals [.str "rest", .int 0] ds ∧ Binds K d_Book_submit ["self", "house", "side", "price", "quantity", "kind", "shown"] ds
  kb_Book_submit_kind_shown : ∃ g : List Value → List Value → List Value, KBn K d_Book_submit ["self", "house", "side", "price", "quantity", "kind", "shown"] 5 ["kind", "shown"] g (fun vs zs => vs ++ zs)
  f_Book_place : Addr
  d_Book_place : FuncData
  F_Book_place : Fun K "place" "Book.place" s_Book_place f_Book_place d_Book_place
  b_Book_place : Binds K d_Book_place ["self", "number", "house", "side", "price", "quantity"] []
  f_Book_cancel : Addr
  d_Book_cancel : FuncData
  F_Book_cancel : Fun K "cancel" "Book.cancel" s_Book_cancel f_Book_cancel d_Book_cancel
  b_Book_cancel : Binds K d_Book_cancel ["self", "number", "house"] []
  f_Book_amend : Addr
  d_Book_amend : FuncData
  F_Book_amend : Fun K "amend" "Book.amend" s_Book_amend f_Book_amend d_Book_amend
  b_Book_amend : Binds K d_Book_amend ["self", "number", "house", "price", "quantity"] []
  f_Book_orders : Addr
  d_Book_orders : FuncData
  F_Book_orders : Fun K "orders" "Book.orders" s_Book_orders f_Book_orders d_Book_orders
  b_Book_orders : Binds K d_Book_orders ["self", "side"] []
  f_Book_best : Addr
  d_Book_best : FuncData
  F_Book_best : Fun K "best" "Book.best" s_Book_best f_Book_best d_Book_best
  b_Book_best : Binds K d_Book_best ["self", "side"] []
  f_Booktake_number : Addr
  d_Booktake_number : FuncData
  F_Booktake_number : Fun K "_take_number" "Book._take_number" s_Booktake_number f_Booktake_number d_Booktake_number
  b_Booktake_number : Binds K d_Booktake_number ["self"] []
  f_Bookenter : Addr
  d_Bookenter : FuncData
  F_Bookenter : Fun K "_enter" "Book._enter" s_Bookenter f_Bookenter d_Bookenter
  b_Bookenter : Binds K d_Bookenter ["self", "order", "kind"] []
  f_Bookreduce : Addr
  d_Bookreduce : FuncData
  F_Bookreduce : Fun K "_reduce" "Book._reduce" s_Bookreduce f_Bookreduce d_Bookreduce
  b_Bookreduce : Binds K d_Bookreduce ["self", "order", "quantity"] []
  f_Bookenter_again : Addr
  d_Bookenter_again : FuncData
  F_Bookenter_again : Fun K "_enter_again" "Book._enter_again" s_Bookenter_again f_Bookenter_again d_Bookenter_again
  b_Bookenter_again : Binds K d_Bookenter_again ["self", "order", "price", "quantity"] []
  f_Bookorder_of : Addr
  d_Bookorder_of : FuncData
  F_Bookorder_of : Fun K "_order_of" "Book._order_of" s_Bookorder_of f_Bookorder_of d_Bookorder_of
  b_Bookorder_of : Binds K d_Bookorder_of ["self", "number", "house"] []
  f_Bookorder_with : Addr
  d_Bookorder_with : FuncData
  F_Bookorder_with : Fun K "_order_with" "Book._order_with" s_Bookorder_with f_Bookorder_with d_Bookorder_with
  b_Bookorder_with : Binds K d_Bookorder_with ["self", "number"] []
  f_Bookstop_with : Addr
  d_Bookstop_with : FuncData
  F_Bookstop_with : Fun K "_stop_with" "Book._stop_with" s_Bookstop_with f_Bookstop_with d_Bookstop_with
  b_Bookstop_with : Binds K d_Bookstop_with ["self", "number"] []
  f_Booktrigger_stops : Addr
  d_Booktrigger_stops : FuncData
  F_Booktrigger_stops : Fun K "_trigger_stops" "Book._trigger_stops" s_Booktrigger_stops f_Booktrigger_stops d_Booktrigger_stops
  b_Booktrigger_stops : Binds K d_Booktrigger_stops ["self"] []
  f_Bookfirst_reached : Addr
  d_Bookfirst_reached : FuncData
  F_Bookfirst_reached : Fun K "_first_reached" "Book._first_reached" s_Bookfirst_reached f_Bookfirst_reached d_Bookfirst_reached
  b_Bookfirst_reached : Binds K d_Bookfirst_reached ["self"] []
  f_law_house : Addr
  d_law_house : FuncData
  F_law_house : Fun K "_law_house" "_law_house" s_law_house f_law_house d_law_house
  m_law_house : mg "_law_house" = some (.ref f_law_house)
  b_law_house : Binds K d_law_house ["cell"] []
  f_law_resting_side : Addr
  d_law_resting_side : FuncData
  F_law_resting_side : Fun K "_law_resting_side" "_law_resting_side" s_law_resting_side f_law_resting_side d_law_resting_side
  m_law_resting_side : mg "_law_resting_side" = some (.ref f_law_resting_side)
  b_law_resting_side : Binds K d_law_resting_side ["side"] []
  f_law_fits : Addr
  d_law_fits : FuncData
  F_law_fits : Fun K "_law_fits" "_law_fits" s_law_fits f_law_fits d_law_fits
  m_law_fits : mg "_law_fits" = some (.ref f_law_fits)
  b_law_fits : Binds K d_law_fits ["side", "limit", "price"] []
  f_law_first : Addr
  d_law_first : FuncData
  F_law_first : Fun K "_law_first" "_law_first" s_law_first f_law_first d_law_first
  m_law_first : mg "_law_first" = some (.ref f_law_first)
  b_law_first : Binds K d_law_first ["orders", "side", "limit"] []
  f_law_visible : Addr
  d_law_visible : FuncData
  F_law_visible : Fun K "_law_visible" "_law_visible" s_law_visible f_law_visible d_law_visible
  m_law_visible : mg "_law_visible" = some (.ref f_law_visible)
  b_law_visible : Binds K d_law_visible ["left", "shown"] []
  f_law_trade : Addr
  d_law_trade : FuncData
  F_law_trade : Fun K "_law_trade" "_law_trade" s_law_trade f_law_trade d_law_trade
  m_law_trade : mg "_law_trade" = some (.ref f_law_trade)
  b_law_trade : Binds K d_law_trade ["orders", "house", "side", "limit", "quantity"] []
  f_law_available : Addr
  d_law_available : FuncData
  F_law_available : Fun K "_law_available" "_law_available" s_law_available f_law_available d_law_available
  m_law_available : mg "_law_available" = some (.ref f_law_available)
  b_law_available : Binds K d_law_available ["orders", "house", "side", "limit"] []
  f_law_enter : Addr
  d_law_enter : FuncData
  F_law_enter : Fun K "_law_enter" "_law_enter" s_law_enter f_law_enter d_law_enter
  m_law_enter : mg "_law_enter" = some (.ref f_law_enter)
  b_law_enter : Binds K d_law_enter ["orders", "number", "house", "side", "limit", "quantity", "kind", "shown"] []
  f_law_listed : Addr
  d_law_listed : FuncData
  F_law_listed : Fun K "_law_listed" "_law_listed" s_law_listed f_law_listed d_law_listed
  m_law_listed : mg "_law_listed" = some (.ref f_law_listed)
  b_law_listed : Binds K d_law_listed ["orders", "side"] []
  f_law_same : Addr
  d_law_same : FuncData
  F_law_same : Fun K "_law_same" "_law_same" s_law_same f_law_same d_law_same
  m_law_same : mg "_law_same" = some (.ref f_law_same)
  b_law_same : Binds K d_law_same ["book", "orders", "reports", "due", "number"] []
  f_law_submit : Addr
  d_law_submit : FuncData
  F_law_submit : Fun K "_law_submit" "_law_submit" s_law_submit f_law_submit d_law_submit
  m_law_submit : mg "_law_submit" = some (.ref f_law_submit)
  b_law_submit : Binds K d_law_submit ["book", "orders", "cell", "number"] []
  f_law_cancel : Addr
  d_law_cancel : FuncData
  F_law_cancel : Fun K "_law_cancel" "_law_cancel" s_law_cancel f_law_cancel d_law_cancel
  m_law_cancel : mg "_law_cancel" = some (.ref f_law_cancel)
  b_law_cancel : Binds K d_law_cancel ["book", "orders", "cell"] []
  f_law_amend : Addr
  d_law_amend : FuncData
  F_law_amend : Fun K "_law_amend" "_law_amend" s_law_amend f_law_amend d_law_amend
  m_law_amend : mg "_law_amend" = some (.ref f_law_amend)
  b_law_amend : Binds K d_law_amend ["book", "orders", "cell"] []
  c_BourseError : Addr
  m_BourseError : mg "BourseError" = some (.ref c_BourseError)
  c_InvalidOrder : Addr
  m_InvalidOrder : mg "InvalidOrder" = some (.ref c_InvalidOrder)
  c_UnknownOrder : Addr
  m_UnknownOrder : mg "UnknownOrder" = some (.ref c_UnknownOrder)
  x_UnknownOrder : PySem.W.excIn K c_UnknownOrder [.type "ValueError", .type "Exception", .type "BaseException", .type "object"] "ValueError.__new__" = true
  k_UnknownOrder : PySem.W.keepIn K (.ref c_UnknownOrder) = true
  b_UnknownOrder : PySem.W.subIn K (.ref c_UnknownOrder) (.type "BaseException") = some true
  t_UnknownOrder : PySem.W.typeIn K (.ref c_UnknownOrder) = some (.type "type")
  d_UnknownOrder : PySem.W.hasDictIn K c_UnknownOrder = true
  s_UnknownOrder : PySem.W.subIn K (.ref c_UnknownOrder) (.ref c_UnknownOrder) = some true
  c_NotOwner : Addr
  m_NotOwner : mg "NotOwner" = some (.ref c_NotOwner)
  x_NotOwner : PySem.W.excIn K c_NotOwner [.type "ValueError", .type "Exception", .type "BaseException", .type "object"] "ValueError.__new__" = true
  k_NotOwner : PySem.W.keepIn K (.ref c_NotOwner) = true
  b_NotOwner : PySem.W.subIn K (.ref c_NotOwner) (.type "BaseException") = some true
  t_NotOwner : PySem.W.typeIn K (.ref c_NotOwner) = some (.type "type")
  d_NotOwner : PySem.W.hasDictIn K c_NotOwner = true
  s_NotOwner : PySem.W.subIn K (.ref c_NotOwner) (.ref c_NotOwner) = some true
  c_Order : Addr
  m_Order : mg "Order" = some (.ref c_Order)
  pg_Order : PySem.W.plainGet K c_Order Str.empty = true
  hd_Order : PySem.W.hasDictIn K c_Order = true
  po_Order : PySem.W.plainOver K c_Order = true
  sa_Order : PySem.W.findIn K (.ref c_Order) "__setattr__" = some (some (.builtin "object.__setattr__"))
  ma_Order : PySem.W.makesIn K c_Order = true
  kc_Order : PySem.W.keepIn K (.ref c_Order) = true
  eq_Order : PySem.W.findIn K (.ref c_Order) "__eq__" = some (some (.builtin "object.__eq__"))
  mo_Order : PySem.W.mroIn K c_Order (.type "object") = some true
  cl_Order : Cls K c_Order
  na_Order_number : PySem.W.findIn K (.ref c_Order) "number" = some none
  na_Order_house : PySem.W.findIn K (.ref c_Order) "house" = some none
  na_Order_side : PySem.W.findIn K (.ref c_Order) "side" = some none
  na_Order_price : PySem.W.findIn K (.ref c_Order) "price" = some none
  na_Order_shown : PySem.W.findIn K (.ref c_Order) "shown" = some none
  na_Order_left : PySem.W.findIn K (.ref c_Order) "left" = some none
  na_Order_visible : PySem.W.findIn K (.ref c_Order) "visible" = some none
  c_BookSide : Addr
  m_BookSide : mg "BookSide" = some (.ref c_BookSide)
  pg_BookSide : PySem.W.plainGet K c_BookSide Str.empty = true
  hd_BookSide : PySem.W.hasDictIn K c_BookSide = true
  po_BookSide : PySem.W.plainOver K c_BookSide = true
  sa_BookSide : PySem.W.findIn K (.ref c_BookSide) "__setattr__" = some (some (.builtin "object.__setattr__"))
  ma_BookSide : PySem.W.makesIn K c_BookSide = true
  kc_BookSide : PySem.W.keepIn K (.ref c_BookSide) = true
  cl_BookSide : Cls K c_BookSide
  na_BookSide__orders : PySem.W.findIn K (.ref c_BookSide) "_orders" = some none
  c_Report : Addr
  m_Report : mg "Report" = some (.ref c_Report)
  pg_Report : PySem.W.plainGet K c_Report Str.empty = true
  hd_Report : PySem.W.hasDictIn K c_Report = true
  po_Report : PySem.W.plainOver K c_Report = true
  sa_Report : PySem.W.findIn K (.ref c_Report) "__setattr__" = some (some (.builtin "object.__setattr__"))
  ma_Report : PySem.W.makesIn K c_Report = true
  kc_Report : PySem.W.keepIn K (.ref c_Report) = true
  cl_Report : Cls K c_Report
  na_Report_number : PySem.W.findIn K (.ref c_Report) "number" = some none
  na_Report_house : PySem.W.findIn K (.ref c_Report) "house" = some none
  na_Report_side : PySem.W.findIn K (.ref c_Report) "side" = some none
  na_Report_fills : PySem.W.findIn K (.ref c_Report) "fills" = some none
  na_Report_removed : PySem.W.findIn K (.ref c_Report) "removed" = some none
  na_Report_resting : PySem.W.findIn K (.ref c_Report) "resting" = some none
  c_Book : Addr
  m_Book : mg "Book" = some (.ref c_Book)
  pg_Book : PySem.W.plainGet K c_Book Str.empty = true
  hd_Book : PySem.W.hasDictIn K c_Book = true
  po_Book : PySem.W.plainOver K c_Book = true
  sa_Book : PySem.W.findIn K (.ref c_Book) "__setattr__" = some (some (.builtin "object.__setattr__"))
  ma_Book : PySem.W.makesIn K c_Book = true
  kc_Book : PySem.W.keepIn K (.ref c_Book) = true
  cl_Book : Cls K c_Book
  na_Book_last : PySem.W.findIn K (.ref c_Book) "last" = some none
  na_Book__next_number : PySem.W.findIn K (.ref c_Book) "_next_number" = some none
  na_Book__sides : PySem.W.findIn K (.ref c_Book) "_sides" = some none
  na_Book__stops : PySem.W.findIn K (.ref c_Book) "_stops" = some none
  mk_Order : Mk K c_Order f_Order_init
  mt_Order_accepts_price : Meth K c_Order "accepts_price" f_Order_accepts_price
  mt_Order_show_next_part : Meth K c_Order "show_next_part" f_Order_show_next_part
  mt_Order_trade_visible : Meth K c_Order "trade_visible" f_Order_trade_visible
  mt_Order_reduce : Meth K c_Order "reduce" f_Order_reduce
  mk_BookSide : Mk K c_BookSide f_BookSide_init
  mt_BookSide_rows : Meth K c_BookSide "rows" f_BookSide_rows
  mt_BookSide_first : Meth K c_BookSide "first" f_BookSide_first
  mt_BookSide_with_number : Meth K c_BookSide "with_number" f_BookSide_with_number
  mt_BookSide_available : Meth K c_BookSide "available" f_BookSide_available
  mt_BookSide_enter : Meth K c_BookSide "enter" f_BookSide_enter
  mt_BookSideplace_behind : Meth K c_BookSide "_place_behind" f_BookSideplace_behind
  mt_BookSide_leave : Meth K c_BookSide "leave" f_BookSide_leave
  mt_BookSide_trade_first : Meth K c_BookSide "trade_first" f_BookSide_trade_first
  mk_Report : Mk K c_Report f_Report_init
  mk_Book : Mk K c_Book f_Book_init
  mt_Book_submit : Meth K c_Book "submit" f_Book_submit
  mt_Book_place : Meth K c_Book "place" f_Book_place
  mt_Book_cancel : Meth K c_Book "cancel" f_Book_cancel
  mt_Book_amend : Meth K c_Book "amend" f_Book_amend
  mt_Book_orders : Meth K c_Book "orders" f_Book_orders
  mt_Book_best : Meth K c_Book "best" f_Book_best
  mt_Booktake_number : Meth K c_Book "_take_number" f_Booktake_number
  mt_Bookenter : Meth K c_Book "_enter" f_Bookenter
  mt_Bookreduce : Meth K c_Book "_reduce" f_Bookreduce
  mt_Bookenter_again : Meth K c_Book "_enter_again" f_Bookenter_again
  mt_Bookorder_of : Meth K c_Book "_order_of" f_Bookorder_of
  mt_Bookorder_with : Meth K c_Book "_order_with" f_Bookorder_with
  mt_Bookstop_with : Meth K c_Book "_stop_with" f_Bookstop_with
  mt_Booktrigger_stops : Meth K c_Book "_trigger_stops" f_Booktrigger_stops
  mt_Bookfirst_reached : Meth K c_Book "_first_reached" f_Bookfirst_reached
  su_UnknownOrder_BourseError : PySem.W.subIn K (.ref c_UnknownOrder) (.ref c_BourseError) = some true
  su_NotOwner_BourseError : PySem.W.subIn K (.ref c_NotOwner) (.ref c_BourseError) = some true
  z_bool : mg "bool" = none
  z_int : mg "int" = none
  z_isinstance : mg "isinstance" = none
  z_len : mg "len" = none
  z_max : mg "max" = none
  z_min : mg "min" = none
  z_range : mg "range" = none
  z_sum : mg "sum" = none
  c_SIDES : Addr
  m_SIDES : mg "SIDES" = some (.ref c_SIDES)
  q_SIDES : ∀ H : Hp, SqT K H c_SIDES [.str "buy", .str "sell"]
  c_KINDS : Addr
  m_KINDS : mg "KINDS" = some (.ref c_KINDS)
  q_KINDS : ∀ H : Hp, SqT K H c_KINDS [.str "rest", .str "now", .str "all"]
  t_MOST : Tok
  m_MOST : mg "MOST" = some (.int 1000000 t_MOST)
/-! own short words -/
theorem iteD {p A B : Prop} [Decidable p] (h1 : p → A) (h2 : ¬ p → B) : if decide p = true then A else B := by
  by_cases h : p
  · rw [decide_eq_true h, if_pos rfl]; exact h1 h
  · rw [decide_eq_false h, if_neg Bool.false_ne_true]; exact h2 h
theorem iteDN {p A B : Prop} [Decidable p] (h1 : ¬ p → A) (h2 : p → B) : if (!decide p) = true then A else B := by
  by_cases h : p
  · rw [decide_eq_true h]; exact iteF (h2 h)
  · rw [decide_eq_false h]; exact iteT (h1 h)
theorem len_le {n : Nat} (h : Nat.ble n 1000 = true) : n ≤ sizeLine := Nat.le_trans (Nat.le_of_ble_eq_true h) (by decide)
theorem iteB {b : Bool} {A B : Prop} (h1 : b = true → A) (h2 : b = false → B) : if b = true then A else B := by
  cases b with
  | true => exact iteT (h1 rfl)
  | false => exact iteF (h2 rfl)
theorem cmul_l {i j : Int} (h : -(2 ^ 64) < i) (h' : i < 2 ^ 64) : CMul i j := .inl ⟨h, h'⟩
theorem cmul_r {i j : Int} (h : -(2 ^ 64) < j) (h' : j < 2 ^ 64) : CMul i j := .inr ⟨h, h'⟩
theorem dec_t {p : Prop} [Decidable p] (h : decide p = true) : p := of_decide_eq_true h
theorem dec_f {p : Prop} [Decidable p] (h : decide p = false) : ¬ p := of_decide_eq_false h
theorem ndec_t {p : Prop} [Decidable p] (h : (!decide p) = true) : ¬ p := fun q => by rw [decide_eq_true q] at h; cases h
theorem ndec_f {p : Prop} [Decidable p] (h : (!decide p) = false) : p := by
  by_cases q : p
  · exact q
  · rw [decide_eq_false q] at h; cases h
theorem fld_lt {n : Nat} (h : Nat.ble (n + 1) 1000 = true) : n < 1000 := Nat.le_of_ble_eq_true h
def rLen (K : PySem.W.Frag) : List V → Hp → VK → Prop := fun xs H Q => ∃ p ys, xs = [.ref p] ∧ (SqL K H p ys ∨ SqT K H p ys) ∧ Q (.int ys.length) H
def rListOf (K : PySem.W.Frag) : List V → Hp → VK → Prop := fun xs H Q => ∃ p ys, xs = [.ref p] ∧ (SqL K H p ys ∨ SqT K H p ys) ∧ ∀ l, H l = none → Q (.ref l) (upd H l (.lst ys))
def rTupleOf (K : PySem.W.Frag) : List V → Hp → VK → Prop := fun xs H Q => ∃ p ys, xs = [.ref p] ∧ ((SqL K H p ys ∧ ∀ l, H l = none → Q (.ref l) (upd H l (.tup ys))) ∨ (SqT K H p ys ∧ Q (.ref p) H))
theorem len0 : ([] : List V).length ≤ sizeLine := len_le rfl
theorem len1 {a : V} : [a].length ≤ sizeLine := len_le rfl
theorem len2 {a b : V} : [a, b].length ≤ sizeLine := len_le rfl
theorem len3 {a b c : V} : [a, b, c].length ≤ sizeLine := len_le rfl
theorem len4 {a b c d : V} : [a, b, c, d].length ≤ sizeLine := len_le rfl
theorem len5 {a b c d e : V} : [a, b, c, d, e].length ≤ sizeLine := len_le rfl
local macro_rules | `(tactic| walk_at "st") => `(tactic| repeat (first
  | (apply Exists.intro (α := V))
  | (apply Exists.intro (α := Int))
  | (apply Exists.intro (α := Bool))
  | (apply Exists.intro (α := Addr))
  | (apply Exists.intro (α := List V))
  | (apply Exists.intro (α := List Int))
  | (apply Exists.intro (α := List (Str × V)))
  | (apply Exists.intro (α := Str))
  | (apply And.intro; focus (first | omega | (dsimp only; omega) | (simp only [List.length_map, List.length_replicate]; omega) | exact rfl | assumption | exact SqL.of (by assumption) | exact Or.inl (by assumption) | exact Or.inr (by assumption) | exact Or.inr (SqT.of (by assumption)) | exact Or.inl (Or.inl upd_same) | exact Or.inl (Or.inl (Or.inl upd_same)) | (with_reducible exact len0) | (with_reducible exact len1) | (with_reducible exact len2) | (with_reducible exact len3) | (with_reducible exact len4) | (with_reducible exact len5) | exact upd_same | exact ⟨_, Or.inl (Or.inl upd_same)⟩ | exact ⟨_, SqL.of (by assumption)⟩ | exact ⟨_, by assumption⟩ | exact Or.inl ⟨rfl, _, SqL.of (by assumption)⟩ | exact Or.inl ⟨rfl, _, SqL.of upd_same⟩ | exact cmul_l (by omega) (by omega) | exact cmul_r (by omega) (by omega) | exact ⟨by omega, by omega⟩ | (simp only [List.length_map, List.length_replicate]; omega) | exact Or.inl (SqL.of (by assumption)) | exact SqT.of (by assumption) | exact fld_lt rfl | exact Or.inl ⟨_, by assumption, rfl⟩))))
/-- the script's cell at j, 0 where there is none -/
def cellOf (ns : List Int) (j : Nat) : Int := ns.getD j 0
theorem atI_ints {ns : List Int} {j : Nat} (h : j < ns.length) : atI (ns.map V.int) (j : Int) = some (.int (cellOf ns j)) := by
  refine at_of (j := j) rfl ?_
  rw [List.getElem?_map, List.getElem?_eq_getElem h]
  unfold cellOf
  rw [List.getD_eq_getElem?_getD, List.getElem?_eq_getElem h]
  rfl
theorem cellOf_out {ns : List Int} {j : Nat} (h : ¬ j < ns.length) : cellOf ns j = 0 := by
  unfold cellOf
  rw [List.getD_eq_getElem?_getD, List.getElem?_eq_none (by omega)]
  rfl
theorem same_upd {H : Hp} {p : Addr} {o : HO} (h : H p = none) : Same H (upd H p o) := fun b x e => by
  rw [upd_ne (ne_of_none e h)]
  exact e
/-- a slice of a list of ints -/
def cutI (ns : List Int) (lo hi : Option Int) : List Int := (ns.drop (HT.sIx ns.length 0 lo)).take (HT.sIx ns.length ns.length hi - HT.sIx ns.length 0 lo)
theorem cutV_ints (ns : List Int) (lo hi : Option Int) : cutV (ns.map V.int) lo hi = (cutI ns lo hi).map V.int := by
  unfold cutV cutI
  rw [List.length_map, List.map_take, List.map_drop]
theorem cutI_len (ns : List Int) (lo hi : Option Int) : (cutI ns lo hi).length ≤ ns.length := by
  unfold cutI
  rw [List.length_take, List.length_drop]
  omega
theorem ints_at {ns : List Int} {i : Nat} {x : V} (h : (ns.map V.int)[i]? = some x) : ∃ z, ns[i]? = some z ∧ x = V.int z := by
  rw [List.getElem?_map] at h
  cases e : ns[i]? with
  | none => rw [e] at h; cases h
  | some z => rw [e] at h; exact ⟨z, rfl, (Option.some.inj h).symm⟩
theorem take_succ {α : Type} {xs : List α} {i : Nat} {x : α} (h : xs[i]? = some x) : xs.take (i + 1) = xs.take i ++ [x] := by
  rw [List.take_add_one, h]
  rfl
theorem sum_le_mul : ∀ (ws : List Int) (b : Int), (∀ w, w ∈ ws → w ≤ b) → ws.sum ≤ (ws.length : Int) * b
  | [], b, _ => by show (0 : Int) ≤ ((0 : Nat) : Int) * b; omega
  | w :: ws, b, h => by
    rw [List.sum_cons, List.length_cons, Int.natCast_add, Int.add_mul]
    have h1 := h w List.mem_cons_self
    have h2 := sum_le_mul ws b fun x hx => h x (List.mem_cons_of_mem _ hx)
    omega
theorem ixN_nat {n j : Nat} (h : j < n) : ixN n (j : Int) = some j := by
  unfold ixN
  rw [if_pos (by omega), if_pos (by omega), Int.toNat_natCast]
theorem call_int_i {X : Cx} : CallR X (.type "int") (fun xs H Q => ∃ i : Int, xs = [.int i] ∧ Q (.int i) H) := by
  intro pins s σ H xs us Q I r h
  obtain ⟨i, e, q⟩ := h
  exact call_int1 pins s σ H xs us Q I r (.inl ⟨i, e, q⟩)
theorem dpAll_ints {K : PySem.W.Frag} {H : Hp} : ∀ xs : List Int, DpAll K H (xs.map V.int) (xs.map PyData.int)
  | [] => .nil
  | x :: xs => .cons (.int x) (dpAll_ints xs)
theorem eqvAll_ints : ∀ xs ys : List Int, PyData.eqvAll (xs.map PyData.int) (ys.map PyData.int) = decide (xs = ys)
  | [], [] => by simp [PyData.eqvAll]
  | [], _ :: _ => by simp [PyData.eqvAll]
  | _ :: _, [] => by simp [PyData.eqvAll]
  | x :: xs, y :: ys => by
    rw [List.map_cons, List.map_cons]
    simp only [PyData.eqvAll, PyData.eqv]
    rw [eqvAll_ints xs ys]
    by_cases h : x = y <;> by_cases h2 : xs = ys <;> simp [h, h2]
theorem lay_ints : ∀ xs : List Int, PyData.canLayAll0 (xs.map PyData.int) = true
  | [] => rfl
  | x :: xs => by
    rw [List.map_cons]
    simp only [PyData.canLayAll0, PyData.canLay0, Bool.true_and]
    exact lay_ints xs
theorem depth_ints : ∀ xs : List Int, PyData.depthAll (xs.map PyData.int) = 0
  | [] => rfl
  | x :: xs => by
    rw [List.map_cons]
    simp only [PyData.depthAll, PyData.depth, depth_ints xs]
    rfl
theorem shaped_ints (xs : List Int) : SeqAt.shaped (.list (xs.map PyData.int)) = true := by
  unfold SeqAt.shaped
  simp only [PyData.canLay0, PyData.depth, lay_ints, depth_ints]
  rfl
theorem eqD_ints {K : PySem.W.Frag} {H : Hp} {a b : Addr} {xs ys : List Int} {Q : VK} (h1 : SqL K H a (xs.map V.int)) (h2 : SqL K H b (ys.map V.int)) (q : Q (.bl (decide (xs = ys))) H) : rEqD K (.ref a) (.ref b) H Q :=
  ⟨_, _, .lst h1 (dpAll_ints xs), .lst h2 (dpAll_ints ys), shaped_ints xs, shaped_ints ys, by rw [show PyData.eqv (.list (xs.map PyData.int)) (.list (ys.map PyData.int)) = decide (xs = ys) by simp only [PyData.eqv, eqvAll_ints]]; exact q⟩
theorem neD_ints {K : PySem.W.Frag} {H : Hp} {a b : Addr} {xs ys : List Int} {Q : VK} (h1 : SqL K H a (xs.map V.int)) (h2 : SqL K H b (ys.map V.int)) (q : Q (.bl (!decide (xs = ys))) H) : rNeD K (.ref a) (.ref b) H Q :=
  ⟨_, _, .lst h1 (dpAll_ints xs), .lst h2 (dpAll_ints ys), shaped_ints xs, shaped_ints ys, by rw [show PyData.eqv (.list (xs.map PyData.int)) (.list (ys.map PyData.int)) = decide (xs = ys) by simp only [PyData.eqv, eqvAll_ints]]; exact q⟩

/-- how items of one kind are told as data; equal data are equal items -/
structure LayD {α : Type} [DecidableEq α] (L : α → PyData) (k : Nat) (G : α → Prop) : Prop where
  lay : ∀ x, G x → (L x).canLay0 = true
  dep : ∀ x, (L x).depth ≤ k
  eqv : ∀ x y, PyData.eqv (L x) (L y) = decide (x = y)
theorem LayD.shaped {α : Type} [DecidableEq α] {L : α → PyData} {k : Nat} {G : α → Prop} (h : LayD L k G) (hk : k ≤ 64) {x : α} (g : G x) : SeqAt.shaped (L x) = true := by
  have h1 := h.lay x g
  have h2 := h.dep x
  unfold SeqAt.shaped
  rw [h1, Bool.true_and]
  exact decide_eq_true (by omega)
theorem layD_int : LayD PyData.int 0 (fun _ => True) := ⟨fun _ _ => rfl, fun _ => Nat.le_refl _, fun x y => by simp only [PyData.eqv]; exact (Bool.beq_eq_decide_eq x y)⟩
theorem layD_str : LayD PyData.str 0 (fun x => PyData.strOk x = true) := ⟨fun _ h => by simp only [PyData.canLay0]; exact h, fun _ => Nat.le_refl _, fun x y => by simp only [PyData.eqv]; exact (Bool.beq_eq_decide_eq x y)⟩
theorem decide_and2 {p q r : Prop} [Decidable p] [Decidable q] [Decidable r] (h : r ↔ p ∧ q) : (decide p && decide q) = decide r := by
  by_cases hp : p <;> by_cases hq : q <;> simp [h, hp, hq]
theorem layD_all {α : Type} [DecidableEq α] {L : α → PyData} {k : Nat} {G : α → Prop} (h : LayD L k G) : (∀ xs : List α, (∀ x, x ∈ xs → G x) → PyData.canLayAll0 (xs.map L) = true) ∧ (∀ xs : List α, PyData.depthAll (xs.map L) ≤ k) ∧ ∀ xs ys : List α, PyData.eqvAll (xs.map L) (ys.map L) = decide (xs = ys) := by
  refine ⟨fun xs => ?_, fun xs => ?_, fun xs => ?_⟩
  · induction xs with
    | nil => exact fun _ => rfl
    | cons x xs ih =>
      intro g
      rw [List.map_cons]
      simp only [PyData.canLayAll0, ih fun y hy => g y (List.mem_cons_of_mem _ hy), h.lay x (g x List.mem_cons_self)]
      rfl
  · induction xs with
    | nil => exact Nat.zero_le _
    | cons x xs ih => rw [List.map_cons]; simp only [PyData.depthAll]; exact Nat.max_le.mpr ⟨h.dep x, ih⟩
  · induction xs with
    | nil =>
      intro ys
      cases ys with
      | nil => rfl
      | cons y ys => simp [PyData.eqvAll]
    | cons x xs ih =>
      intro ys
      cases ys with
      | nil => simp [PyData.eqvAll]
      | cons y ys =>
        rw [List.map_cons, List.map_cons]
        simp only [PyData.eqvAll]
        rw [ih ys, h.eqv x y]
        exact decide_and2 (by rw [List.cons.injEq])
theorem LayD.list {α : Type} [DecidableEq α] {L : α → PyData} {k : Nat} {G : α → Prop} (h : LayD L k G) : LayD (fun xs : List α => PyData.list (xs.map L)) (k + 1) (fun xs => ∀ x, x ∈ xs → G x) := by
  obtain ⟨h1, h2, h3⟩ := layD_all h
  refine ⟨fun xs g => ?_, fun xs => ?_, fun xs ys => ?_⟩
  · simp only [PyData.canLay0]; exact h1 xs g
  · simp only [PyData.depth]; exact Nat.succ_le_succ (h2 xs)
  · simp only [PyData.eqv]; exact h3 xs ys
theorem LayD.tup2 {α β : Type} [DecidableEq α] [DecidableEq β] {L : α → PyData} {M : β → PyData} {k : Nat} {G : α → Prop} {G2 : β → Prop} (h : LayD L k G) (g : LayD M k G2) : LayD (fun x : α × β => PyData.tuple [L x.1, M x.2]) (k + 1) (fun x => G x.1 ∧ G2 x.2) := by
  refine ⟨fun x a => ?_, fun x => ?_, fun x y => ?_⟩
  · simp only [PyData.canLay0, PyData.canLayAll0, h.lay _ a.1, g.lay _ a.2, Bool.and_true]
  · simp only [PyData.depth, PyData.depthAll]
    have := h.dep x.1
    have := g.dep x.2
    omega
  · simp only [PyData.eqv, PyData.eqvAll, h.eqv, g.eqv, Bool.and_true]
    exact decide_and2 (by rw [Prod.ext_iff])
theorem LayD.tup3 {α β γ : Type} [DecidableEq α] [DecidableEq β] [DecidableEq γ] {L : α → PyData} {M : β → PyData} {N : γ → PyData} {k : Nat} {G : α → Prop} {G2 : β → Prop} {G3 : γ → Prop} (h : LayD L k G) (g : LayD M k G2) (e : LayD N k G3) : LayD (fun x : α × β × γ => PyData.tuple [L x.1, M x.2.1, N x.2.2]) (k + 1) (fun x => G x.1 ∧ G2 x.2.1 ∧ G3 x.2.2) := by
  refine ⟨fun x a => ?_, fun x => ?_, fun x y => ?_⟩
  · simp only [PyData.canLay0, PyData.canLayAll0, h.lay _ a.1, g.lay _ a.2.1, e.lay _ a.2.2, Bool.and_true]
  · simp only [PyData.depth, PyData.depthAll]
    have := h.dep x.1
    have := g.dep x.2.1
    have := e.dep x.2.2
    omega
  · simp only [PyData.eqv, PyData.eqvAll, h.eqv, g.eqv, e.eqv, Bool.and_true]
    rw [decide_and2 (r := x.2 = y.2) (by rw [Prod.ext_iff])]
    exact decide_and2 (by rw [Prod.ext_iff])
theorem LayD.tup4 {α β γ δ : Type} [DecidableEq α] [DecidableEq β] [DecidableEq γ] [DecidableEq δ] {L : α → PyData} {M : β → PyData} {N : γ → PyData} {O : δ → PyData} {k : Nat} {G : α → Prop} {G2 : β → Prop} {G3 : γ → Prop} {G4 : δ → Prop} (h : LayD L k G) (g : LayD M k G2) (e : LayD N k G3) (d : LayD O k G4) : LayD (fun x : α × β × γ × δ => PyData.tuple [L x.1, M x.2.1, N x.2.2.1, O x.2.2.2]) (k + 1) (fun x => G x.1 ∧ G2 x.2.1 ∧ G3 x.2.2.1 ∧ G4 x.2.2.2) := by
  refine ⟨fun x a => ?_, fun x => ?_, fun x y => ?_⟩
  · simp only [PyData.canLay0, PyData.canLayAll0, h.lay _ a.1, g.lay _ a.2.1, e.lay _ a.2.2.1, d.lay _ a.2.2.2, Bool.and_true]
  · simp only [PyData.depth, PyData.depthAll]
    have := h.dep x.1
    have := g.dep x.2.1
    have := e.dep x.2.2.1
    have := d.dep x.2.2.2
    omega
  · simp only [PyData.eqv, PyData.eqvAll, h.eqv, g.eqv, e.eqv, d.eqv, Bool.and_true]
    rw [decide_and2 (r := x.2.2 = y.2.2) (by rw [Prod.ext_iff]), decide_and2 (r := x.2 = y.2) (by rw [Prod.ext_iff])]
    exact decide_and2 (by rw [Prod.ext_iff])
theorem eqL {α : Type} [DecidableEq α] {L : α → PyData} {k : Nat} {G : α → Prop} (h : LayD L k G) (hk : k ≤ 64) {K : PySem.W.Frag} {H : Hp} {x y : V} {a b : α} {Q : VK} (ga : G a) (gb : G b) (h1 : Dp K H x (L a)) (h2 : Dp K H y (L b)) (q : Q (.bl (decide (a = b))) H) : rEqD K x y H Q :=
  ⟨_, _, h1, h2, h.shaped hk ga, h.shaped hk gb, by rw [h.eqv]; exact q⟩
theorem neL {α : Type} [DecidableEq α] {L : α → PyData} {k : Nat} {G : α → Prop} (h : LayD L k G) (hk : k ≤ 64) {K : PySem.W.Frag} {H : Hp} {x y : V} {a b : α} {Q : VK} (ga : G a) (gb : G b) (h1 : Dp K H x (L a)) (h2 : Dp K H y (L b)) (q : Q (.bl (!decide (a = b))) H) : rNeD K x y H Q :=
  ⟨_, _, h1, h2, h.shaped hk ga, h.shaped hk gb, by rw [h.eqv]; exact q⟩
theorem dpAll_refs {α : Type} {L : α → PyData} {K : PySem.W.Frag} {H : Hp} : ∀ {ps : List Addr} {xs : List α}, ps.length = xs.length → (∀ (i : Nat) (p : Addr) (x : α), ps[i]? = some p → xs[i]? = some x → Dp K H (.ref p) (L x)) → DpAll K H (ps.map V.ref) (xs.map L)
  | [], [], _, _ => .nil
  | [], _ :: _, h, _ => by cases h
  | _ :: _, [], h, _ => by cases h
  | p :: ps, x :: xs, h, e => .cons (e 0 p x rfl rfl) (dpAll_refs (Nat.succ.inj h) fun i p' x' h1 h2 => e (i + 1) p' x' h1 h2)

theorem refs_at {ps : List Addr} {i : Nat} {x : V} (h : (ps.map V.ref)[i]? = some x) : ∃ p, ps[i]? = some p ∧ x = V.ref p := by
  rw [List.getElem?_map] at h
  cases e : ps[i]? with
  | none => rw [e] at h; cases h
  | some z => rw [e] at h; exact ⟨z, rfl, (Option.some.inj h).symm⟩

/-- a list of tuples: the tuple of each item -/
structure Tups {α : Type} (enc : α → List V) (H : Hp) (l : Addr) (ps : List Addr) (xs : List α) : Prop where
  lst : H l = some (.lst (ps.map V.ref))
  len : ps.length = xs.length
  row : ∀ (i : Nat) (p : Addr) (x : α), ps[i]? = some p → xs[i]? = some x → H p = some (.tup (enc x))
theorem Tups.nil {α : Type} {enc : α → List V} {H : Hp} {l : Addr} (h : H l = some (.lst [])) : Tups enc H l [] ([] : List α) :=
  ⟨h, rfl, fun _ _ _ e => (by rw [List.getElem?_nil] at e; cases e)⟩
theorem Tups.same {α : Type} {enc : α → List V} {H H' : Hp} {l : Addr} {ps : List Addr} {xs : List α} (h : Tups enc H l ps xs) (e : Same H H') : Tups enc H' l ps xs :=
  ⟨e _ _ h.lst, h.len, fun i p x a b => e _ _ (h.row i p x a b)⟩
theorem Tups.at {α : Type} {enc : α → List V} {H : Hp} {l : Addr} {ps : List Addr} {xs : List α} (h : Tups enc H l ps xs) {i : Nat} {x : α} (e : xs[i]? = some x) : ∃ p, ps[i]? = some p ∧ atI (ps.map V.ref) (i : Int) = some (.ref p) ∧ H p = some (.tup (enc x)) := by
  have hi := (List.getElem?_eq_some_iff.mp e).1
  have hl : i < ps.length := by rw [h.len]; exact hi
  refine ⟨ps[i], List.getElem?_eq_getElem hl, at_of (j := i) rfl ?_, h.row i _ x (List.getElem?_eq_getElem hl) e⟩
  rw [List.getElem?_map, List.getElem?_eq_getElem hl]
  rfl
theorem Tups.item {α : Type} {enc : α → List V} {H : Hp} {l : Addr} {ps : List Addr} {xs : List α} (h : Tups enc H l ps xs) {i : Nat} {v : V} (e : (ps.map V.ref)[i]? = some v) : ∃ p x, ps[i]? = some p ∧ xs[i]? = some x ∧ v = .ref p ∧ H p = some (.tup (enc x)) := by
  obtain ⟨p, hp, rfl⟩ := refs_at e
  have hi := (List.getElem?_eq_some_iff.mp hp).1
  rw [h.len] at hi
  exact ⟨p, xs[i], hp, List.getElem?_eq_getElem hi, rfl, h.row i p _ hp (List.getElem?_eq_getElem hi)⟩
theorem Tups.push {α : Type} {enc : α → List V} {H H' : Hp} {l p : Addr} {ps : List Addr} {xs : List α} {x : α} (h : Tups enc H l ps xs) (e : Same H H') (np : H p = none) (hp : H' p = some (.tup (enc x))) : Tups enc (upd H' l (.lst (ps.map V.ref ++ [V.ref p]))) l (ps ++ [p]) (xs ++ [x]) := by
  have hpl : p ≠ l := fun z => by rw [z, h.lst] at np; cases np
  refine ⟨?_, ?_, fun i q y hq hy => ?_⟩
  · rw [upd_same, List.map_append]
    rfl
  · rw [List.length_append, List.length_append, h.len]
    rfl
  · by_cases hi : i < ps.length
    · rw [List.getElem?_append_left hi] at hq
      rw [List.getElem?_append_left (by rw [← h.len]; exact hi)] at hy
      have hq2 := h.row i q y hq hy
      rw [upd_ne (fun z => by rw [z, h.lst] at hq2; cases hq2)]
      exact e _ _ hq2
    · rw [List.getElem?_append_right (by omega)] at hq
      rw [List.getElem?_append_right (by have := h.len; omega)] at hy
      have h1 := (List.getElem?_eq_some_iff.mp hq).1
      rw [List.length_cons, List.length_nil] at h1
      have e0 : i - ps.length = 0 := by omega
      have e1 : i - xs.length = 0 := by have := h.len; omega
      rw [e0] at hq
      rw [e1] at hy
      have z1 : p = q := Option.some.inj hq
      have z2 : x = y := Option.some.inj hy
      rw [← z1, ← z2, upd_ne hpl]
      exact hp
theorem Tups.dp {α : Type} {enc : α → List V} {L : α → PyData} {K : PySem.W.Frag} {H : Hp} {l : Addr} {ps : List Addr} {xs : List α} (h : Tups enc H l ps xs) (he : ∀ x (p : Addr), H p = some (.tup (enc x)) → Dp K H (.ref p) (L x)) : Dp K H (.ref l) (PyData.list (xs.map L)) :=
  .lst (SqL.of h.lst) (dpAll_refs h.len fun i p x h1 h2 => he x p (h.row i p x h1 h2))
def enc2 (x : Int × Int) : List V := [.int x.1, .int x.2]
def enc3 (x : Int × Int × Int) : List V := [.int x.1, .int x.2.1, .int x.2.2]
def lay3 (x : Int × Int × Int) : PyData := .tuple [.int x.1, .int x.2.1, .int x.2.2]
theorem layD_3 : LayD lay3 1 (fun x => True ∧ True ∧ True) := layD_int.tup3 layD_int layD_int
theorem dp3 {K : PySem.W.Frag} {H : Hp} (x : Int × Int × Int) (p : Addr) (h : H p = some (.tup (enc3 x))) : Dp K H (.ref p) (lay3 x) :=
  .tup (SqT.of h) (.cons (.int _) (.cons (.int _) (.cons (.int _) .nil)))
theorem Tups.push2 {α : Type} {enc : α → List V} {H : Hp} {l p : Addr} {ps : List Addr} {xs : List α} {x : α} (h : Tups enc H l ps xs) (hp : H p = some (.tup (enc x))) : Tups enc (upd H l (.lst (ps.map V.ref ++ [V.ref p]))) l (ps ++ [p]) (xs ++ [x]) := by
  have hpl : p ≠ l := fun z => by rw [z, h.lst] at hp; cases hp
  refine ⟨?_, ?_, fun i q y hq hy => ?_⟩
  · rw [upd_same, List.map_append]
    rfl
  · rw [List.length_append, List.length_append, h.len]
    rfl
  · by_cases hi : i < ps.length
    · rw [List.getElem?_append_left hi] at hq
      rw [List.getElem?_append_left (by rw [← h.len]; exact hi)] at hy
      have hq2 := h.row i q y hq hy
      rw [upd_ne (fun z => by rw [z, h.lst] at hq2; cases hq2)]
      exact hq2
    · rw [List.getElem?_append_right (by omega)] at hq
      rw [List.getElem?_append_right (by have := h.len; omega)] at hy
      have h1 := (List.getElem?_eq_some_iff.mp hq).1
      rw [List.length_cons, List.length_nil] at h1
      have e0 : i - ps.length = 0 := by omega
      have e1 : i - xs.length = 0 := by have := h.len; omega
      rw [e0] at hq
      rw [e1] at hy
      have z1 : p = q := Option.some.inj hq
      have z2 : x = y := Option.some.inj hy
      rw [← z1, ← z2, upd_ne hpl]
      exact hp
theorem Tups.copy {α : Type} {enc : α → List V} {H H' : Hp} {l l2 : Addr} {ps : List Addr} {xs : List α} (h : Tups enc H l ps xs) (e : Same H H') (h2 : H' l2 = some (.lst (ps.map V.ref))) : Tups enc H' l2 ps xs :=
  ⟨h2, h.len, fun i p x a b => e _ _ (h.row i p x a b)⟩
theorem Tups.other {α : Type} {enc : α → List V} {H : Hp} {l A : Addr} {ps : List Addr} {xs : List α} {ys zs : List V} (h : Tups enc H l ps xs) (hA : H A = some (.lst ys)) (ne : l ≠ A) : Tups enc (upd H A (.lst zs)) l ps xs :=
  ⟨by rw [upd_ne ne]; exact h.lst, h.len, fun i p x a b => by
    have hp := h.row i p x a b
    rw [upd_ne (fun z => by rw [z, hA] at hp; cases hp)]
    exact hp⟩

/-- for i, x in enumerate(xs): each turn a new pair -/
theorem for_enum {K : PySem.W.Frag} {a : Addr} {xs : List V} {g : TG} {tb : TS} {D : Ends} {σ : L2.St} {H : Hp} (Pv : Nat → L2.St → Hp → Prop) (h0 : Pv 0 σ H) (hl : ∀ i σ H, i ≤ xs.length → Pv i σ H → SqL K H a xs)
    (hs : ∀ (i : Nat) (x : V) (σ : L2.St) (H : Hp) (T : Addr), xs[i]? = some x → Pv i σ H → H T = none → g (.ref T) σ (upd H T (.tup [.int (i : Int), x])) fun σ2 H2 => tb { D with nx := Pv (i + 1), ct := Pv (i + 1), bk := D.nx } σ2 H2) (hd : ∀ σ H, Pv xs.length σ H → D.nx σ H) :
    ∃ W : Nat → Nat → L2.St → Hp → Prop, (∃ m, W 0 m σ H) ∧ ∀ i m σ H, W i m σ H →
      ((Ite K a).stop i H ∧ D.nx σ H) ∨ ((Ite K a).go i H ∧ ∃ N : L2.St → Hp → Prop, (∀ σ' H', N σ' H' → ∃ m', m' < m ∧ W (i + 1) m' σ' H') ∧ ∀ x H', (Ite K a).yld i H x H' → g x σ H' fun σ2 H2 => tb { D with nx := N, ct := N, bk := D.nx } σ2 H2) := by
  refine ⟨fun i m σ H => m + i = xs.length ∧ Pv i σ H, ⟨xs.length, rfl, h0⟩, ?_⟩
  rintro i m σ H ⟨em, p⟩
  have q := hl i σ H (by omega) p
  by_cases hlt : i < xs.length
  · refine .inr ⟨⟨xs, xs[i], q, List.getElem?_eq_getElem hlt⟩, Pv (i + 1), fun σ' H' p' => ⟨m - 1, by omega, by omega, p'⟩, fun x H' y => ?_⟩
    obtain ⟨T, z, rfl, nT, rfl, hz⟩ := y
    exact hs i z σ H T (hz xs q) p nT
  · have e : i = xs.length := by omega
    subst e
    exact .inl ⟨⟨xs, q, Nat.le_refl _⟩, hd σ H p⟩
theorem call_int_b {X : Cx} : CallR X (.type "int") (fun xs H Q => ∃ b : Bool, xs = [.bl b] ∧ Q (.int (if b = true then 1 else 0)) H) := by
  intro pins s σ H xs us Q I r h
  obtain ⟨i, e, q⟩ := h
  exact call_int1 pins s σ H xs us Q I r (.inr ⟨i, e, q⟩)

/-! methods that raise, methods called with keywords (own rules over the library's run_fnN and methodCall_KW) -/
def tMx (C : Addr) (m : Str) (sp : Sp) (dvs : List V) (E : L2.St → XK) (to : TE) (t : TA) : TE := fun σ H Q => to σ H fun x H1 => ∃ (a dx : Addr) (fs : List (Str × V)), x = .ref a ∧ H1 a = some (.ins C dx fs) ∧ fs.lookup m = none ∧ t σ H1 fun vs H2 => sp (.ref a :: vs ++ dvs) H2 Q (E σ)
theorem passLat {X : Cx} {σ : L2.St} : PassesAt (L2.CX X.prog X.w) X σ E0 := fun pn Hh st ev st' inv got => passL pn σ Hh st ev st' inv got
theorem pass0at {X : Cx} {σ : L2.St} : PassesAt CX0 X σ E0 := fun _ _ _ _ _ _ h => h.elim
def tMk (C : Addr) (m : Str) (n k : Nat) (sp : Sp) (gV : List V → List V → List V) (E : L2.St → XK) (to : TE) (t tk : TA) : TE := fun σ H Q => to σ H fun x H1 => ∃ (a dx : Addr) (fs : List (Str × V)), x = .ref a ∧ H1 a = some (.ins C dx fs) ∧ fs.lookup m = none ∧
  t σ H1 fun vs H2 => tk σ H2 fun zs H3 => vs.length = n ∧ zs.length = k ∧ sp (gV (.ref a :: vs) zs) H3 Q (E σ)
section
variable {X : Cx} {CX : CXT} {k n : Nat} {f C : Addr} {fd : FuncData} {ps ks : List Str} {sp : Sp} {E : L2.St → XK} {m : Str} {pos apos : Pos} {e o : Expr} {es : List Expr} {kws : List Keyword} {to : TE} {t tk : TA} {g : List Value → List Value → List Value} {gV : List V → List V → List V} {pl : Sem Bool} {dvs : List V} {ds : List Value}
theorem run_kw {pn : List (Addr × Obj)} {sh : L2.St} {Hh : Hp} {st : Shared} {Q : VK} {us ws : List Value} {vs zs : List V} (prom : FnOk X.prog X.w X.K X.mg X.base CX k f fd ps sp) (room : Room k X.A) (bnd : KBn X.K fd ps n ks g gV) (way : PassesAt CX X sh (E sh))
    (inv : Inv X pn sh Hh st) (rel : Vals vs us) (relz : Vals zs ws) (len1 : vs.length = n) (len2 : zs.length = ks.length) (hyp : sp (gV vs zs) Hh Q (E sh)) : wpAny (model X.prog X.w) X.A (call (.ref f) us (ks.zip ws)) (EP X pn sh Q) X.xe st := by
  have both := bnd.rel rel relz
  have bind := bnd.to st us ws inv.kIn (rel.length.symm.trans len1) (relz.length.symm.trans len2)
  refine wpAny_call (codeAny_mono (prom.run X.A X.stack st Hh ⟨us, ks.zip ws⟩ (g us ws) (gV vs zs) Q (E sh) room inv.env0 bind both hyp) fun out st' got => ?_)
  cases out with
  | error ev => exact way pn Hh st ev st' inv got
  | ok fl =>
    cases fl with
    | ret u => exact inv.after got
    | next => exact (False.elim got)
    | brk => exact (False.elim got)
    | cont => exact (False.elim got)
theorem pe_mx (obj : PE X o to) (cls : Cls X.K C) (mt : Meth X.K C m f) (prom : FnOk X.prog X.w X.K X.mg X.base CX k f fd ps sp) (room : Room k X.A) (bnd : Binds X.K fd ps ds) (dfl : Vals dvs ds) (way : ∀ σ, PassesAt CX X σ (E σ)) (args : PA X (e :: es) t)
    (st1 : starEach (e :: es) X.env = (false, eval e X.env) :: starEach es X.env := by rfl) (st2 : (backTo pos (starEach es X.env)).any (·.1) = false := by rfl)
    (form : eval (.Call (.Attribute o m apos) (e :: es) [] pos) X.env = (do let ov ← eval o X.env; standAt apos.atName; let (fn, fst) ← holding [ov] (getMethod ov m pl); callWith pos fn fst (backTo pos (starEach (e :: es) X.env)) (backToKw pos (keywordEach [] X.env))) := by rfl) :
    PE X (.Call (.Attribute o m apos) (e :: es) [] pos) (tMx C m sp dvs E to t) := by
  refine ⟨fun pn sh st Hh Q inv hyp => ?_⟩
  refine PySem.W.methodCall_KW (pl := pl) (thn (obj.run pn sh st Hh _ inv hyp) fun ov s1 ⟨x, H1, I1, rel, a, dx, fs, ex, ins, noat, more⟩ => ?_) form
  subst ex
  obtain rfl : ov = Value.ref a := rel
  refine getmeth_ok I1 ins cls mt noat ?_
  refine PySem.W.callWith_K (first := [.ref a]) (h₀ := X.base) I1.ok.mod.kin mt.kp (thn (args.run pos pn s1 st H1 _ I1 more) fun us s2 ⟨vs, H2, I2, rels, fin⟩ => ⟨I2.kIn, ?_⟩) st1 st2
  exact run_fnSD (us := Value.ref a :: us) (vs := V.ref a :: vs) prom room bnd dfl (way st) I2 (.cons rfl rels) fin
/-- o.m(e, .., k = v, ..) -/
theorem pe_mk (obj : PE X o to) (cls : Cls X.K C) (mt : Meth X.K C m f) (prom : FnOk X.prog X.w X.K X.mg X.base CX k f fd ps sp) (room : Room k X.A) (bnd : KBn X.K fd ps (n + 1) ks g gV) (way : ∀ σ, PassesAt CX X σ (E σ)) (args : PA X (e :: es) t) (kargs : PK X kws tk)
    (ka : (backToKw pos (keywordEach kws X.env)).all (·.1.isSome) = true := by rfl) (kn : (backToKw pos (keywordEach kws X.env)).filterMap (·.1) = ks := by rfl)
    (st1 : starEach (e :: es) X.env = (false, eval e X.env) :: starEach es X.env := by rfl)
    (st2 : ((backTo pos (starEach (e :: es) X.env)).any (·.1) || (backToKw pos (keywordEach kws X.env)).any (·.1.isNone)) = false := by rfl)
    (form : eval (.Call (.Attribute o m apos) (e :: es) kws pos) X.env = (do let ov ← eval o X.env; standAt apos.atName; let (fn, fst) ← holding [ov] (getMethod ov m pl); callWith pos fn fst (backTo pos (starEach (e :: es) X.env)) (backToKw pos (keywordEach kws X.env))) := by rfl) :
    PE X (.Call (.Attribute o m apos) (e :: es) kws pos) (tMk C m n ks.length sp gV E to t tk) := by
  refine ⟨fun pn sh st Hh Q inv hyp => ?_⟩
  refine PySem.W.methodCall_KW (pl := pl) (thn (obj.run pn sh st Hh _ inv hyp) fun ov s1 ⟨x, H1, I1, rel, a, dx, fs, ex, ins, noat, more⟩ => ?_) form
  subst ex
  obtain rfl : ov = Value.ref a := rel
  refine getmeth_ok I1 ins cls mt noat ?_
  refine PySem.W.callWith_KW (first := [.ref a]) (h₀ := X.base) I1.ok.mod.kin mt.kp ka (thn (args.run pos pn s1 st H1 _ I1 more) fun us s2 ⟨vs, H2, I2, rels, mid⟩ => ?_) st2 st1
  refine thn (kargs.run pos pn s2 st H2 _ I2 mid) fun ws s3 ⟨zs, H3, I3, relz, l1, l2, fin⟩ => ⟨I3.kIn, ?_⟩
  rw [kn]
  exact run_kw (us := Value.ref a :: us) (vs := V.ref a :: vs) prom room bnd (way st) I3 (.cons rfl rels) relz (congrArg (· + 1) l1) l2 fin
end

/-! one try with any except clauses, with names or without (the library has one named clause, or several without names) -/
section
variable {X : Cx}
inductive Clause (X : Cx) : ExceptHandler → (WX → Ends → WX) → Prop
  | named {x n : Str} {c : Value} {i : Nat} {np pp : Pos} {ff : Stmt} {ss : List Stmt} {tt : Addr → Value → Option Addr → TS} (nm : Names X x c) (at_i : X.N[i]? = some n) (loc_n : X.env.kindOf n = some .local)
      (hsu : ∀ (a : Addr) (o : Obj) (cls : Value) (d : Option Addr) (pn : List (Addr × Obj)), Zc cls d o → (∃ vs, o.data = .fields vs) → PSs (X.suite a ((a, o) :: pn)) (ff :: ss) (tt a cls d)) :
      Clause X (.ExceptHandler (some (.Name x np)) (some n) (ff :: ss) pp) (fun Wn D => wAs X.K c i tt Wn D)
  | plain {x : Str} {c : Value} {np pp : Pos} {ff : Stmt} {ss : List Stmt} {tt : Addr → Value → Option Addr → TS} (nm : Names X x c)
      (hsu : ∀ (a : Addr) (o : Obj) (cls : Value) (d : Option Addr) (pn : List (Addr × Obj)), Zc cls d o → (∃ vs, o.data = .fields vs) → PSs (X.suite a ((a, o) :: pn)) (ff :: ss) (tt a cls d)) :
      Clause X (.ExceptHandler (some (.Name x np)) none (ff :: ss) pp) (fun Wn D cls d σ H => ∃ b, PySem.W.exmOne X.K cls c = some b ∧ (b = true → ∀ a, H a = none → tt a cls d D σ H) ∧ (b = false → Wn cls d σ H))
inductive Clauses (X : Cx) : List ExceptHandler → List (WX → Ends → WX) → Prop
  | nil : Clauses X [] []
  | cons {h : ExceptHandler} {w : WX → Ends → WX} {hs : List ExceptHandler} {ws : List (WX → Ends → WX)} : Clause X h w → Clauses X hs ws → Clauses X (h :: hs) (w :: ws)
def wishes (D : Ends) (Wout : WX) : List (WX → Ends → WX) → WX
  | [] => Wout
  | w :: ws => w (wishes D Wout ws) D
theorem ps_try_any {body : List Stmt} {h0 : ExceptHandler} {hds : List ExceptHandler} {ws : List (WX → Ends → WX)} {pos : Pos} {tb : WX → TS} {Wout : WX} (hst : X.stack = X.env :: X.outer) (hfr : X.env.frame = some X.env.locals) (nd : X.N.Nodup) (tk : Takes X Wout)
    (hbody : ∀ (W : WX) (pn : List (Addr × Obj)) (xe : Value → Shared → Prop), Takes (X.tr pn xe) W → PassesOwn (model X.prog X.w) X.A X.env xe → PSs (X.tr pn xe) body (tb W))
    (cl : Clauses X (h0 :: hds) ws) : PS X (.Try body (h0 :: hds) [] [] pos) (fun D σ H => tb (wishes D Wout ws) D σ H) := by
  refine ⟨fun pins sh st Hh D inv hyp => ?_⟩
  have okX := inv.ok
  have frs0 : X.A.frames = some (X.env :: X.outer) := okX.frames.trans (congrArg some hst)
  refine wpAny_Try_except ?_
  refine wpAny_mono ((hbody (wishes D Wout ws) (X.pn ++ pins) (fun ev q₁ => wpAny (model X.prog X.w) X.A (noteFrame ev X.env) (fun _ q₂ => wpAny (model X.prog X.w) X.A (setFlight ev none) (fun _ q₃ =>
    wpAny (model X.prog X.w) X.A (handleBy ev X.env (h0 :: hds)) (SP X pins D) X.xe q₃) X.xe q₂) X.xe q₁) (fun u z xx => ?_) PassesOwn.looking).run [] sh st Hh D (inv.toTry _) hyp) (fun fl z1 left => ?_) (fun _ _ same => same)
  · obtain ⟨a, B, zI, pins2, st2, Hh2, cls, d, rfl, JT, nb, up, sky, na, os, ag, wish⟩ := xx
    have J : Inv X pins st2 Hh2 zI := JT.ofTry okX
    have skyX : Sky B (X.env :: X.outer) a (Zc cls d) X.env.locals z.heap := hst ▸ sky
    show wpAny (model X.prog X.w) X.A (noteFrame (Value.ref a) X.env) _ _ _
    refine Sky.land Zc.steady frs0 hfr skyX fun hp flz upz => ?_
    have J3 : Inv X pins st2 Hh2 { z with heap := hp } := J.landed nb flz.1 (up.trans upz) os ag
    obtain ⟨oA, vsA, atA, zA, dA⟩ := flz.there
    have apart : a ∉ frs (X.env :: X.outer) := fun hm => by
      obtain ⟨_, o', e', hnf⟩ := flz.2.2.1.mem hm
      rw [atA] at e'
      cases e'
      exact hnf _ dA
    have n1 : a ≠ X.env.locals := fun w => apart (List.mem_filterMap.mpr ⟨X.env, List.mem_cons_self, hfr.trans (congrArg some w.symm)⟩)
    have n2 : a ∉ X.fs := fun hm => by
      obtain ⟨ee, he, q⟩ := List.mem_filterMap.mp hm
      exact apart (List.mem_filterMap.mpr ⟨ee, List.mem_cons_of_mem _ he, q⟩)
    have S3 := J3.suite atA dA na n1 n2
    have onward : ∀ {hs' : List ExceptHandler} {ws' : List (WX → Ends → WX)}, Clauses X hs' ws' → wishes D Wout ws' cls d st2 Hh2 → wpAny (model X.prog X.w) X.A (handleBy (.ref a) X.env hs') (SP X pins D) X.xe { z with heap := hp } := by
      intro hs' ws' all
      induction all with
      | nil =>
        intro out
        refine wpAny_handleBy_nil ?_
        obtain ⟨j1, j2, j3, oC, vC, T, oT, tC, atC, zC, dC, fC, rC⟩ := id flz
        unfold PySem.passOn
        refine wpAny_bind (wpAny_field atC dC fC ?_)
        rw [if_neg (show ¬ ((Value.ref T == Value.none) = true) by simp)]
        have fin : wpAny (model X.prog X.w) X.A (setFlight (.ref a) X.env.frame) (fun _ q4 => wpAny (model X.prog X.w) X.A (throw (.ref a) : Sem Flow) (SP X pins D) X.xe q4) X.xe { z with heap := hp } := by
          rw [hfr]
          refine HandSPX.setFlight_upZ flz fun hq fq uq => wpAny_throw (tk _ _ ?_)
          exact ⟨a, B, zI, pins, st2, Hh2, cls, d, rfl, J, nb, (up.trans upz).trans uq, .inr (.inr (hst.symm ▸ fq)), na, os, ag, out⟩
        first | (exact wpAny_bind (wpAny_pure (wpAny_bind fin))) | (exact wpAny_bind fin)
      | @cons h w more ws2 c1 _ ih =>
        intro wish2
        have looks : PySem.W.Looks (model X.prog X.w) hp (typeOf (.ref a)) cls := fun A Q E s k q => wpAny_typeOf_ref (k _ _ atA) (by rw [zA.1]; exact q)
        have test : ∀ {x' : Str} {c' : Value} {np : Pos} {Q E : Value → Shared → Prop}, Names X x' c' → Q c' { z with heap := hp } → wpAny (model X.prog X.w) (X.A.mark (some (.ref a))) (eval (.Name x' np) X.env) Q E { z with heap := hp } := fun {x' c' np Q E} nm q => by
          rcases nm with ⟨gl, nodb, known | ⟨unk, boot, nn⟩⟩
          · exact ld_glob (X := X.suite a ((a, oA) :: (X.pn ++ pins))) S3 gl known q nodb
          · exact ld_blt (X := X.suite a ((a, oA) :: (X.pn ++ pins))) S3 gl unk boot q nn nodb
        cases c1 with
        | @plain x' c' np pp ff ss tt nm hsu =>
          obtain ⟨b, isb, yes, no⟩ := wish2
          refine wpAny_handleBy_cons (codeAny_handlers_test ?_) (fun q => by cases q)
          refine test nm ((PySem.W.exm_one (M := model X.prog X.w) J3.kIn looks isb).here ?_)
          cases b with
          | false => exact ih (no rfl)
          | true =>
            refine (codeAny_handlers_suite ?_)
            refine HandSPX.lands_againZ flz fun hq flq upq => ?_
            have J4 : Inv X pins st2 Hh2 { z with heap := hq } := J.landed nb flq.1 ((up.trans upz).trans upq) os ag
            obtain ⟨oB, vsB, atB, zB, dB⟩ := flq.there
            have S4 := J4.suite atB dB na n1 n2
            refine wpAny_mono ((hsu a oB cls d (X.pn ++ pins) zB ⟨_, dB⟩).run [] _ _ Hh2 _ S4 (yes rfl a na)) (fun fl r6 got => ?_) (fun _ _ w => False.elim w)
            cases fl with
            | next =>
              obtain ⟨σ6, H6, S6, w⟩ := got
              exact ⟨_, _, S6.unsuite okX, w⟩
            | brk =>
              obtain ⟨σ6, H6, S6, w⟩ := got
              exact ⟨_, _, S6.unsuite okX, w⟩
            | cont =>
              obtain ⟨σ6, H6, S6, w⟩ := got
              exact ⟨_, _, S6.unsuite okX, w⟩
            | ret u =>
              obtain ⟨v6, σ6, H6, S6, r6', w⟩ := got
              exact ⟨_, _, _, S6.unsuite okX, r6', w⟩
        | @named x' n c' i np pp ff ss tt nm at_i loc_n hsu =>
          obtain ⟨b, isb, yes, no⟩ := wish2
          refine wpAny_handleBy_cons (codeAny_handlers_test ?_) (fun q => by cases q)
          refine test nm ((PySem.W.exm_one (M := model X.prog X.w) J3.kIn looks isb).here ?_)
          cases b with
          | false => exact ih (no rfl)
          | true =>
            refine (codeAny_handlers_suite_as ?_)
            refine HandSPX.lands_againZ flz fun hq flq upq => ?_
            have J4 : Inv X pins st2 Hh2 { z with heap := hq } := J.landed nb flq.1 ((up.trans upz).trans upq) os ag
            obtain ⟨oB, vsB, atB, zB, dB⟩ := flq.there
            have S4 := J4.suite atB dB na n1 n2
            refine store_ok (X := X.suite a ((a, oB) :: (X.pn ++ pins))) (v := .ref a) S4 nd at_i (.inl loc_n) rfl (fun r5 S5 => ?_) (.inr loc_n)
            refine wpAny_mono ((hsu a oB cls d (X.pn ++ pins) zB ⟨_, dB⟩).run [] r5 _ Hh2 _ S5 (yes rfl a na)) (fun fl r6 got => ?_) (fun _ _ w => False.elim w)
            have close : ∀ {σ6 : L2.St} {H6 : Hp} {Q : Shared → Prop}, Inv (X.suite a ((a, oB) :: (X.pn ++ pins))) [] σ6 H6 r6 → (∀ r7, Inv X pins (σ6.set i none) H6 r7 → Q r7) →
                wpAny (model X.prog X.w) X.A (do bindName X.env n .none; unbindBehindTheSuite X.env n pp) (fun _ r7 => Q r7) X.xe r6 := fun {σ6 H6 Q} S6 hq => gone_ok (S6.unsuite okX) nd at_i loc_n hq
            cases fl with
            | next =>
              obtain ⟨σ6, H6, S6, w⟩ := got
              exact close S6 fun r7 J7 => ⟨_, _, J7, w⟩
            | brk =>
              obtain ⟨σ6, H6, S6, w⟩ := got
              exact close S6 fun r7 J7 => ⟨_, _, J7, w⟩
            | cont =>
              obtain ⟨σ6, H6, S6, w⟩ := got
              exact close S6 fun r7 J7 => ⟨_, _, J7, w⟩
            | ret u =>
              obtain ⟨v6, σ6, H6, S6, r6', w⟩ := got
              exact close S6 fun r7 J7 => ⟨_, _, _, J7, r6', w⟩
    exact onward cl wish
  · cases fl with
    | next =>
      obtain ⟨σ', H', J', q⟩ := left
      exact wpAny_execs_nil ⟨σ', H', J'.ofTry okX, q⟩
    | brk =>
      obtain ⟨σ', H', J', q⟩ := left
      exact ⟨σ', H', J'.ofTry okX, q⟩
    | cont =>
      obtain ⟨σ', H', J', q⟩ := left
      exact ⟨σ', H', J'.ofTry okX, q⟩
    | ret u =>
      obtain ⟨v, σ', H', J', r, q⟩ := left
      exact ⟨v, σ', H', J'.ofTry okX, r, q⟩
end

section
variable {P : Program} {w : World} {K : PySem.W.Frag} {mg : Str → Option Value} {base : Heap}
/-- a field of an instance, set and read -/
theorem setF {K : PySem.W.Frag} {C x dx : Addr} {fs : List (Str × V)} {f : Str} {y : V} {H : Hp} {W : Hp → Prop} (hx : H x = some (.ins C dx fs)) (c : Cls K C) (na : NoAttr K C f) (hl : Nat.ble (fs.length + 1) 1000 = true)
    (h : W (upd H x (.ins C dx (putF f y fs)))) : ∃ (a C : Addr) (dx : Addr) (fs : List (Str × V)), V.ref x = V.ref a ∧ H a = some (.ins C dx fs) ∧ Cls K C ∧ NoAttr K C f ∧ fs.length < 1000 ∧ W (upd H a (.ins C dx (putF f y fs))) :=
  ⟨x, C, dx, fs, rfl, hx, c, na, Nat.le_of_ble_eq_true hl, h⟩
theorem getF {K : PySem.W.Frag} {C x dx : Addr} {fs : List (Str × V)} {f : Str} {v : V} {H : Hp} {σ : L2.St} {Q : VK} (hx : H x = some (.ins C dx fs)) (c : Cls K C) (na : NoAttr K C f) (hl : fs.lookup f = some v) (h : Q v H) :
    tFld K (tC (.ref x)) f σ H Q := ⟨x, C, dx, fs, v, rfl, hx, c, na, hl, h⟩

/-! ### xs.remove(x), x an object at any place of xs: it is found by identity, the objects ahead of it are other ones (no own ==) -/
section
open PySem.SeqAt PySem.MeetsSeq PySem.AutoSeq1 PySem.W
theorem obj_bound {M : Model} {A : Around} {E : Value → Shared → Prop} {s : Shared} {K : Frag} {x C : Addr} {ox : Obj} {od : Option Obj} {name : Str} {id : String} {args : List Value} {Q : Option Value → Shared → Prop}
    (hX : K.In s.heap) (J : InstAt s.heap x ox C od) (hs : findIn K (.ref C) name = some (some (.builtin id))) (hbd : ∀ v, bindSpecial (.builtin id) v = pure (.builtin id, [v]))
    (h : wpAny M A (call (.builtin id) (.ref x :: args)) (fun v => Q (some v)) E s) : wpAny M A (callSpecialIfBound? (.ref x) name args) Q E s := by
  simp only [callSpecialIfBound?, bindSpecialIfBound?]
  refine wpAny_holding (wpAny_bind (wpAny_bind (wpAny_bind (J.type.here ((looks_findIn hX hs).here ?_)))))
  simp only [hbd]
  refine wpAny_bind (wpAny_askSetting (wpAny_ite ?_))
  have fin : wpAny M A (call (.builtin id) ([.ref x] ++ args) >>= fun v => pure (some v)) Q E s := wpAny_bind (wpAny_mono h (fun v s' h' => wpAny_pure h') fun _ _ h' => h')
  split
  · exact wpAny_bind (wpAny_pure (wpAny_pure fin))
  · exact wpAny_tryCatch (wpAny_bind (wpAny_pure (wpAny_pure fin)))
theorem obj_check {M : Model} {A : Around} {E : Value → Shared → Prop} {s : Shared} {K : Frag} {x C : Addr} {ox : Obj} {od : Option Obj} {id owner n : String} {rest : List Value} {Q : Unit → Shared → Prop}
    (hX : K.In s.heap) (J : InstAt s.heap x ox C od) (hk : builtinKind id = some .slot) (hs : splitId id = some (owner, n)) (ha : argsOk id ⟨.ref x :: rest, []⟩)
    (hm : mroIn K C (.type owner) = some true) (hq : Q () s) : wpAny M A (checkBuiltinCall id ⟨.ref x :: rest, []⟩) Q E s := by
  have hL := looks_mroIn (M := M) hX hm
  simp only [checkBuiltinCall, hk, hs]
  refine wpAny_bind ?_
  unfold isInstance
  refine wpAny_bind (J.type.here ?_)
  refine (hL.here ?_)
  simp only [Bool.not_true, Bool.false_eq_true, if_false]
  cases hsig : Manifest.signature? id with
  | none => exact wpAny_pure hq
  | some sig =>
    simp only [argsOk, hsig] at ha
    have h2 : Bind.checkArgs id sig ⟨.ref x :: rest, []⟩ = pure () := ha
    show wpAny M A (Bind.checkArgs id sig ⟨.ref x :: rest, []⟩) Q E _
    rw [h2]; exact wpAny_pure hq
theorem obj_try {prog : Program} {w : World} {A : Around} {E : Value → Shared → Prop} {s : Shared} {K : Frag} {x y C : Addr} {ox oy : Obj} {od : Option Obj} {Q : Option Value → Shared → Prop}
    (hX : K.In s.heap) (J : InstAt s.heap x ox C od) (hy : s.heap.get? y = some oy) (hxy : x ≠ y) (hs : findIn K (.ref C) "__eq__" = some (some (.builtin "object.__eq__")))
    (hm : mroIn K C (.type "object") = some true) (hq : Q none s) : wpAny (model prog w) A (tryCompare (.ref x) "__eq__" (.ref y)) Q E s := by
  have hnt : ox.cls ≠ .type "tuple" := by rw [J.cls]; intro e; cases e
  simp only [tryCompare]
  refine wpAny_bind (obj_bound hX J hs F.cmp_object.eq.bind (wpAny_call (codeAny_call_builtin F.cmp_object.eq.plain F.cmpEntry_eq (obj_check hX J F.cmpKind_eq F.cmpSplit_eq (F.cmpArgs_eq _ _) hm ?_))))
  refine objEq_entry_other hxy J.at_ hy hnt ?_
  exact wpAny_pure hq
theorem obj_rich {prog : Program} {w : World} {A : Around} {E : Value → Shared → Prop} {s : Shared} {K : Frag} {x y C : Addr} {ox oy : Obj} {od od' : Option Obj} {Q : Value → Shared → Prop}
    (hu : A.units < cLine) (hX : K.In s.heap) (J : InstAt s.heap x ox C od) (J' : InstAt s.heap y oy C od') (hxy : x ≠ y) (hs : findIn K (.ref C) "__eq__" = some (some (.builtin "object.__eq__")))
    (hm : mroIn K C (.type "object") = some true) (hq : Q (.bool false) s) : wpAny (model prog w) A (richCompare .Eq (.ref x) (.ref y)) Q E s := by
  have hnt : ox.cls ≠ .type "tuple" := by rw [J.cls]; intro e; cases e
  unfold richCompare
  simp only [oneThing_ref]
  refine wpAny_holding (wpAny_bind (wpAny_cRoomFor hu ?_))
  refine wpAny_bind (J.type.here (wpAny_bind (J'.type.here ?_)))
  rw [if_neg (by simp)]
  refine wpAny_bind (wpAny_pure ?_)
  simp only [Bool.false_eq_true, if_false, Bool.not_false, if_true]
  refine wpAny_bind (obj_try hX J J'.at_ hxy hs hm ?_)
  dsimp only
  refine wpAny_bind (obj_try hX J' J.at_ hxy.symm hs hm ?_)
  dsimp only
  refine wpAny_bind (wpAny_rule ?_)
  refine wpAny_bind (wpAny_isSame_ref_other hxy J.at_ J'.at_ hnt ?_)
  exact wpAny_pure hq
theorem obj_eqAt {A : Around} {s : Shared} {K : Frag} {x y C : Addr} {ox oy : Obj} {od od' : Option Obj} (hu : A.units < cLine) (hX : K.In s.heap) (J : InstAt s.heap x ox C od) (J' : InstAt s.heap y oy C od')
    (hs : findIn K (.ref C) "__eq__" = some (some (.builtin "object.__eq__"))) (hm : mroIn K C (.type "object") = some true) : EqAt A s (.ref x) (.ref y) (x == y) := by
  by_cases hxy : x = y
  · subst hxy
    rw [beq_self_eq_true]
    exact EqAt.same (A := A) (s := s) (.ref x)
  · rw [show (x == y) = false from beq_false_of_ne hxy]
    intro prog w E Q hq
    exact GQ.eqBool_refG hxy (obj_rich hu hX J J' hxy hs hm ⟨false, rfl, hq⟩)
end
theorem erase_mapR (a : Addr) : ∀ (as : List Addr), (as.map V.ref).eraseIdx (as.idxOf a) = (as.erase a).map V.ref
  | [] => rfl
  | b :: r => by
    have ih := erase_mapR a r
    by_cases h : b = a
    · subst h
      rw [List.idxOf_cons_self, List.erase_cons_head]
      rfl
    · rw [List.idxOf_cons, show (b == a) = false from beq_false_of_ne h, cond_false, List.erase_cons_tail (by simpa using h), List.map_cons, List.map_cons, List.eraseIdx_cons_succ, ih]
theorem vals_refs : ∀ {as : List Addr} {its : List Value}, Vals (as.map V.ref) its → its = as.map Value.ref
  | [], _, .nil => rfl
  | _ :: _, _, .cons h t => by
    cases h
    rw [vals_refs t]
    rfl
theorem hu_in {k : Nat} {A : Around} (hr : Room k A) : A.in1.units < cLine := by
  have := hr.units
  show A.units + 1 < cLine
  omega
section
open PySem.SeqAt
variable {X : Cx}
/-- one object of the class at C out of several -/
def rRemO (C : Addr) : V → List V → Hp → VK → Prop := fun x xs H Q => ∃ (l a : Addr) (as : List Addr), x = .ref l ∧ xs = [.ref a] ∧ H l = some (.lst (as.map V.ref)) ∧ a ∈ as ∧ (∀ b, b ∈ as → ∃ dx fs, H b = some (.ins C dx fs)) ∧ Q .non (upd H l (.lst ((as.erase a).map V.ref)))
theorem mt_removeO {k : Nat} {C : Addr} (hr : Room k X.A) (hs : PySem.W.findIn X.K (.ref C) "__eq__" = some (some (.builtin "object.__eq__"))) (hm : PySem.W.mroIn X.K C (.type "object") = some true) : MtM X "list.remove" (rRemO C) := by
  intro pins s σ H x xs v us Q I rx rxs h
  obtain ⟨l, a, as, rfl, rfl, hH, ha, hobj, q⟩ := h
  cases rx
  obtain ⟨u, rfl, ru⟩ := rxs.one
  cases ru
  obtain ⟨z, its, n, r, hl, e⟩ := I.lstM hH
  have hi := vals_refs r
  rw [List.length_map] at hl z
  have hj : as.idxOf a < as.length := List.idxOf_lt_length_iff.mpr ha
  have hjl : as.idxOf a < its.toArray.size := by rw [List.size_toArray]; omega
  have look : ∀ b, b ∈ as → ∃ ob od, PySem.W.InstAt s.heap b ob C od := by
    intro b hb
    obtain ⟨dx, fs, hb2⟩ := hobj b hb
    obtain ⟨mA, J, _⟩ := ins_get I.hok hb2
    obtain ⟨od, J, _⟩ := J.look
    exact ⟨_, _, J⟩
  have item : ∀ m (hm : m < its.toArray.size), ∃ hm2 : m < as.length, its.toArray[m] = .ref as[m] := by
    intro m hm
    subst hi
    have h2 : m < as.length := by simpa using hm
    exact ⟨h2, by simp⟩
  refine call_meets PySem.F.slot_list_remove ⟨_, e, rfl⟩ PySem.F.entry_list_remove (PySem.F.args_list_remove_2 _ _)
    (list_removeAt l its.toArray n none #[] (.ref a) (fun y => y == .ref a) (as.idxOf a) hjl ?_ ?_ (by rw [List.size_toArray]; omega)) ⟨e, ?_, ?_⟩
  · obtain ⟨h2, e2⟩ := item _ hjl
    show (its.toArray[as.idxOf a] == Value.ref a) = true
    rw [e2, List.getElem_idxOf]
    exact beq_self_eq_true _
  · intro m hm2 hmj
    obtain ⟨h2, e2⟩ := item _ hm2
    show (its.toArray[m] == Value.ref a) = false
    rw [e2]
    refine beq_eq_false_iff_ne.mpr fun e3 => ?_
    injection e3 with e3
    have e4 := List.not_of_lt_findIdx (p := (· == a)) hmj
    rw [e3] at e4
    simp at e4
  · intro y hy
    obtain ⟨m, hm2, e2⟩ := Array.getElem_of_mem hy
    obtain ⟨h2, e3⟩ := item m hm2
    rw [← e2, e3]
    obtain ⟨_, _, J⟩ := look _ (List.getElem_mem h2)
    obtain ⟨_, _, J'⟩ := look _ ha
    have q2 := obj_eqAt (A := X.A.in1) (s := s) (hu_in hr) I.kIn J J' hs hm
    have e4 : (Value.ref as[m] == Value.ref a) = (as[m] == a) := by
      by_cases h : as[m] = a
      · rw [h, beq_self_eq_true, beq_self_eq_true]
      · rw [beq_false_of_ne h]
        exact beq_eq_false_iff_ne.mpr fun e5 => h (by injection e5)
    rw [← e4] at q2
    exact q2
  · have rr := r.eraseIdx (as.idxOf a)
    rw [erase_mapR] at rr
    refine ⟨.non, _, I.lset (its' := its.eraseIdx (as.idxOf a)) (t' := s.toks) hH e ?_ rr ?_, rfl, q⟩
    · show its.toArray.eraseIdxIfInBounds (as.idxOf a) = (its.eraseIdx (as.idxOf a)).toArray
      rw [List.eraseIdxIfInBounds_toArray]
    · rw [List.length_map]
      have := (List.erase_sublist (a := a) (l := as)).length_le
      omega
end

/-! ### xs.remove(x), nested data: the first item that is equal -/
section
open PySem.SeqAt PySem.MeetsSeq PySem.AutoSeq1 PySem.W
variable {X : Cx}
def rRemD (K : PySem.W.Frag) : V → List V → Hp → VK → Prop := fun x xs H Q => ∃ (_ : Unit) (l : Addr) (ys : List V) (y : V) (d : PyData) (ds : List PyData) (j : Nat) (z : PyData), x = .ref l ∧ xs = [y] ∧ H l = some (.lst ys) ∧ DpAll K H ys ds ∧ Dp K H y d ∧
  SeqAt.shaped (.list ds) = true ∧ SeqAt.shaped d = true ∧ ds[j]? = some z ∧ PyData.eqv z d = true ∧ (∀ (m : Nat) (z' : PyData), m < j → ds[m]? = some z' → PyData.eqv z' d = false) ∧ Q .non (upd H l (.lst (ys.eraseIdx j)))
theorem mt_removeD (hu : X.A.units + 65 < cLine) : MtM X "list.remove" (rRemD X.K) := by
  intro pins s σ H x xs v us Q I rx rxs h
  obtain ⟨_, l, ys, y, d, ds, j, zz, rfl, rfl, hH, ha, hy, sl, sd, hz, hzj, hno, q⟩ := h
  cases rx
  obtain ⟨uy, rfl, ry⟩ := rxs.one
  obtain ⟨z, its, n, r, hl, e⟩ := I.lstM hH
  obtain ⟨bs, r1⟩ := Dp.reads I d y uy hy ry
  have hxs : PyData.canLayAll0 ds = true := SeqAt.canLay_of_shaped sl
  have hroom : X.A.units + 1 + min (PyData.depthAll ds) d.depth < cLine := room_in_shaped sd hu
  obtain ⟨as, h4⟩ := Dp.readsAll I ds _ its ha r
  have hn : its.length = ds.length := SeqAt.ReadsAll.length ds its as h4
  have hmap : its.map (SeqAt.readOf s.heap) = ds := SeqAt.readsAll_map ds its as hxs h4
  obtain ⟨hjd, _⟩ := List.getElem?_eq_some_iff.mp hz
  have hjl : j < its.length := by omega
  have hj : j < its.toArray.size := by simpa using hjl
  have at_ : ∀ (m : Nat) (hm : m < its.toArray.size) (z' : PyData), ds[m]? = some z' → SeqAt.readOf s.heap its.toArray[m] = z' := by
    intro m hm z' hz'
    have hml : m < its.length := by simpa using hm
    rw [← hmap, List.getElem?_map, List.getElem?_eq_getElem hml] at hz'
    have e1 : SeqAt.readOf s.heap its[m] = z' := Option.some.inj (show some (SeqAt.readOf s.heap its[m]) = some z' from hz')
    simpa using e1
  refine call_meets PySem.F.slot_list_remove ⟨_, e, rfl⟩ PySem.F.entry_list_remove (PySem.F.args_list_remove_2 _ _)
    (list_removeAt l its.toArray n none #[] uy (fun u => PyData.eqv (SeqAt.readOf s.heap u) d) j hj ?_ ?_ (by rw [List.size_toArray]; omega)) ⟨e, SeqAt.items_eqAt (vs := its.toArray) (show ReadsAll s.heap its.toArray.toList ds as from h4) r1 hxs (SeqAt.canLay_of_shaped sd) hroom, ?_⟩
  · show PyData.eqv (SeqAt.readOf s.heap its.toArray[j]) d = true
    rw [at_ j hj zz hz]
    exact hzj
  · intro m hm hmj
    have hmd : m < ds.length := by omega
    have hz' : ds[m]? = some ds[m] := List.getElem?_eq_getElem hmd
    show PyData.eqv (SeqAt.readOf s.heap its.toArray[m]) d = false
    rw [at_ m hm _ hz']
    exact hno m _ hmj hz'
  · have rr := r.eraseIdx j
    refine ⟨.non, _, I.lset (its' := its.eraseIdx j) (t' := s.toks) hH e ?_ rr ?_, rfl, q⟩
    · show its.toArray.eraseIdxIfInBounds j = (its.eraseIdx j).toArray
      rw [List.eraseIdxIfInBounds_toArray]
    · have h5 := List.length_eraseIdx_le ys j
      omega
theorem hu65 {k : Nat} {A : Around} (hr : Room k A) : A.units + 65 < cLine := by have := hr.un; omega
end

/-- an order as the program keeps it -/
structure Ord where
  number : Int
  house : Str
  side : Str
  price : Option Int
  shown : Int
  left : Int
  visible : Int
def optV : Option Int → V
  | none => .non
  | some i => .int i
/-- its place in the heap -/
def ordO (C dx : Addr) (o : Ord) : HO := .ins C dx [("number", .int o.number), ("house", .str o.house), ("side", .str o.side), ("price", optV o.price), ("shown", .int o.shown), ("left", .int o.left), ("visible", .int o.visible)]
def buyS (s : Str) : Bool := decide (V.str s = V.str "buy")
/-- whether the limit takes the price -/
def takes (side : Str) (limit : Option Int) (p : Int) : Bool := match limit with
  | none => true
  | some l => if buyS side then decide (p ≤ l) else decide (l ≤ p)
def sp_accepts (K : PySem.W.Frag) : Sp := fun vs H Q _ => ∃ (s : Str) (l : Option Int) (p : Int), vs = [.str s, optV l, .int p] ∧ Q (.bl (takes s l p)) H
set_option maxHeartbeats 0 in
theorem ok_accepts (T : Txt K mg) : FnOk P w K mg base CX0 1 T.f_accepts T.d_accepts ["side", "limit", "price"] (sp_accepts K) := by
  refine T.F_accepts.ok sc_accepts (fun vs H Q E h => ?_) (fun cdv A outer s H vs Q E hr h => ?_)
  · obtain ⟨s, l, p, rfl, _⟩ := h
    rfl
  · obtain ⟨s, l, p, rfl, q⟩ := h
    refine ⟨_, (pss_cons (ps_if (pt_cmpR op_isN (pv 1) pe_non (nomark _))
      (pss_one (ps_ret pe_bl))
      pss_nil)
    (pss_one (ps_ret (pe_ifExp (pt_cmpR op_eq (pv 0) pe_str (nomark _)) (pe_cmpR op_le (pv 2) (pv 1) (nomark _)) (pe_cmpR op_ge (pv 2) (pv 1) (nomark _)))))), ?_⟩
    cases l with
    | none =>
      walk_at "st"
      exact q
    | some l =>
      walk_at "st"
      refine iteB (fun h => ?_) (fun h => ?_)
      · walk_at "st"
        have e : takes s (some l) p = decide (p ≤ l) := by
          show (if buyS s = true then _ else _) = _
          rw [show buyS s = true from h, if_pos rfl]
        rw [e] at q
        exact q
      · walk_at "st"
        have e : takes s (some l) p = decide (l ≤ p) := by
          show (if buyS s = true then _ else _) = _
          rw [show buyS s = false from h, if_neg Bool.false_ne_true]
        rw [e] at q
        exact q
def sp_Order_init (K : PySem.W.Frag) (C : Addr) : Sp := fun vs H Q _ => ∃ (x dx : Addr) (n : Int) (ho si : Str) (pr : Option Int) (qu sh : Int), vs = [.ref x, .int n, .str ho, .str si, optV pr, .int qu, .int sh] ∧
  H x = some (.ins C dx []) ∧ Q .non (upd H x (ordO C dx ⟨n, ho, si, pr, sh, qu, 0⟩))
set_option maxHeartbeats 0 in
theorem ok_Order_init (T : Txt K mg) : FnOk P w K mg base CX0 1 T.f_Order_init T.d_Order_init ["self", "number", "house", "side", "price", "quantity", "shown"] (sp_Order_init K T.c_Order) := by
  refine T.F_Order_init.ok sc_Order_init (fun vs H Q E h => ?_) (fun cdv A outer s H vs Q E hr h => ?_)
  · obtain ⟨x, dx, n, ho, si, pr, qu, sh, rfl, _⟩ := h
    rfl
  · obtain ⟨x, dx, n, ho, si, pr, qu, sh, rfl, hx, q⟩ := h
    refine ⟨_, (pss_cons (ps_fld (pv 0) (pv 1) rfl)
    (pss_cons (ps_fld (pv 0) (pv 2) rfl)
    (pss_cons (ps_fld (pv 0) (pv 3) rfl)
    (pss_cons (ps_fld (pv 0) (pv 4) rfl)
    (pss_cons (ps_fld (pv 0) (pv 6) rfl)
    (pss_cons (ps_fld (pv 0) (pv 5) rfl)
    (pss_one (ps_fld (pv 0) pe_int rfl)))))))), ?_⟩
    refine ⟨_, rfl, _, rfl, setF hx T.cl_Order T.na_Order_number rfl ?_⟩
    refine ⟨_, rfl, _, rfl, setF upd_same T.cl_Order T.na_Order_house rfl ?_⟩
    refine ⟨_, rfl, _, rfl, setF upd_same T.cl_Order T.na_Order_side rfl ?_⟩
    refine ⟨_, rfl, _, rfl, setF upd_same T.cl_Order T.na_Order_price rfl ?_⟩
    refine ⟨_, rfl, _, rfl, setF upd_same T.cl_Order T.na_Order_shown rfl ?_⟩
    refine ⟨_, rfl, _, rfl, setF upd_same T.cl_Order T.na_Order_left rfl ?_⟩
    refine ⟨_, rfl, setF upd_same T.cl_Order T.na_Order_visible rfl ?_⟩
    simp only [upd_upd]
    exact q
def sp_Order_accepts_price (K : PySem.W.Frag) (C : Addr) : Sp := fun vs H Q _ => ∃ (x dx : Addr) (o : Ord) (p : Int), vs = [.ref x, .int p] ∧ H x = some (ordO C dx o) ∧ Q (.bl (takes o.side o.price p)) H
set_option maxHeartbeats 0 in
theorem ok_Order_accepts_price (T : Txt K mg) : FnOk P w K mg base CX0 2 T.f_Order_accepts_price T.d_Order_accepts_price ["self", "price"] (sp_Order_accepts_price K T.c_Order) := by
  refine T.F_Order_accepts_price.ok sc_Order_accepts_price (fun vs H Q E h => ?_) (fun cdv A outer s H vs Q E hr h => ?_)
  · obtain ⟨x, dx, o, p, rfl, _⟩ := h
    rfl
  · obtain ⟨x, dx, o, p, rfl, hx, q⟩ := h
    have G_accepts : FnOk P w K mg base CX0 1 T.f_accepts T.d_accepts ["side", "limit", "price"] (sp_accepts K) := ok_accepts T
    refine ⟨_, (pss_one (ps_ret (pe_call G_accepts hr (by rfl) T.m_accepts T.F_accepts.kp T.b_accepts .nil pass0 (pa_cons (pe_fld (pv 0) rfl) (pa_cons (pe_fld (pv 0) rfl) (pa_cons (pv 1) pa_nil)))))), ?_⟩
    have fact_Order_0 := T.cl_Order; have fact_Order_1 := T.na_Order_number; have fact_Order_2 := T.na_Order_house; have fact_Order_3 := T.na_Order_side; have fact_Order_4 := T.na_Order_price; have fact_Order_5 := T.na_Order_shown; have fact_Order_6 := T.na_Order_left; have fact_Order_7 := T.na_Order_visible
    walk_at "st"
    exact ⟨_, _, rfl, q⟩
def Ord.showNext (o : Ord) : Ord := { o with visible := if o.shown = 0 then o.left else if o.left < o.shown then o.left else o.shown }
def sp_Order_show_next_part (K : PySem.W.Frag) (C : Addr) : Sp := fun vs H Q _ => ∃ (x dx : Addr) (o : Ord), vs = [.ref x] ∧ H x = some (ordO C dx o) ∧ Q .non (upd H x (ordO C dx o.showNext))
set_option maxHeartbeats 0 in
theorem ok_Order_show_next_part (T : Txt K mg) : FnOk P w K mg base CX0 1 T.f_Order_show_next_part T.d_Order_show_next_part ["self"] (sp_Order_show_next_part K T.c_Order) := by
  refine T.F_Order_show_next_part.ok sc_Order_show_next_part (fun vs H Q E h => ?_) (fun cdv A outer s H vs Q E hr h => ?_)
  · obtain ⟨x, dx, o, rfl, _⟩ := h
    rfl
  · obtain ⟨x, dx, o, rfl, hx, q⟩ := h
    refine ⟨_, (pss_one (ps_fld (pv 0) (pe_ifExp (pt_cmpR op_eq (pe_fld (pv 0) rfl) pe_int (nomark _)) (pe_fld (pv 0) rfl) (pe_callB (call_min2 rfl) (by rfl) T.z_min (by decide +kernel) (pa_cons (pe_fld (pv 0) rfl) (pa_cons (pe_fld (pv 0) rfl) pa_nil)))) rfl)), ?_⟩
    have fact_Order_0 := T.cl_Order; have fact_Order_1 := T.na_Order_number; have fact_Order_2 := T.na_Order_house; have fact_Order_3 := T.na_Order_side; have fact_Order_4 := T.na_Order_price; have fact_Order_5 := T.na_Order_shown; have fact_Order_6 := T.na_Order_left; have fact_Order_7 := T.na_Order_visible
    walk_at "st"
    refine iteB (fun h => ?_) (fun h => ?_)
    · have e : o.showNext = { o with visible := o.left } := by
        unfold Ord.showNext
        rw [if_pos (V.int.inj (dec_t h))]
      rw [e] at q
      walk_at "st"
      exact q
    · have e : o.showNext = { o with visible := if o.left < o.shown then o.left else o.shown } := by
        unfold Ord.showNext
        rw [if_neg (fun z => dec_f h (congrArg V.int z))]
      rw [e] at q
      walk_at "st"
      exact q
def sp_Order_trade_visible (K : PySem.W.Frag) (C : Addr) : Sp := fun vs H Q _ => ∃ (x dx : Addr) (o : Ord) (n : Int), vs = [.ref x, .int n] ∧ H x = some (ordO C dx o) ∧ Q .non (upd H x (ordO C dx { o with left := o.left - n, visible := o.visible - n }))
set_option maxHeartbeats 0 in
theorem ok_Order_trade_visible (T : Txt K mg) : FnOk P w K mg base CX0 1 T.f_Order_trade_visible T.d_Order_trade_visible ["self", "quantity"] (sp_Order_trade_visible K T.c_Order) := by
  refine T.F_Order_trade_visible.ok sc_Order_trade_visible (fun vs H Q E h => ?_) (fun cdv A outer s H vs Q E hr h => ?_)
  · obtain ⟨x, dx, o, n, rfl, _⟩ := h
    rfl
  · obtain ⟨x, dx, o, n, rfl, hx, q⟩ := h
    refine ⟨_, (pss_cons (ps_fldaug (pv 0) (pv 1) in_sub)
    (pss_one (ps_fldaug (pv 0) (pv 1) in_sub))), ?_⟩
    have fact_Order_0 := T.cl_Order; have fact_Order_1 := T.na_Order_number; have fact_Order_2 := T.na_Order_house; have fact_Order_3 := T.na_Order_side; have fact_Order_4 := T.na_Order_price; have fact_Order_5 := T.na_Order_shown; have fact_Order_6 := T.na_Order_left; have fact_Order_7 := T.na_Order_visible
    walk_at "st"
    rw [upd_upd]
    exact q

/-! ### one side of a book -/
abbrev Ent := Addr × Addr × Ord
def refs (es : List Ent) : List V := es.map fun e => V.ref e.1
structure SideAt (CO CB : Addr) (H : Hp) (b db l : Addr) (es : List Ent) : Prop where
  ob : H b = some (.ins CB db [("_orders", .ref l)])
  li : H l = some (.lst (refs es))
  en : ∀ e, e ∈ es → H e.1 = some (ordO CO e.2.1 e.2.2)
  nd : (es.map (·.1)).Nodup
  sm : es.length ≤ 1000
theorem SideAt.bl {CO CB : Addr} {H : Hp} {b db l : Addr} {es : List Ent} (S : SideAt CO CB H b db l es) : b ≠ l := fun e => by
  have := S.ob
  rw [e, S.li] at this
  cases this
theorem SideAt.be {CO CB : Addr} {H : Hp} {b db l : Addr} {es : List Ent} (S : SideAt CO CB H b db l es) {e : Ent} (h : e ∈ es) : e.1 ≠ b := fun q => by
  have := S.en e h
  rw [q, S.ob] at this
  unfold ordO at this
  injection this with this
  injection this with _ _ this
  injection this with h1 _
  injection h1 with h1 _
  exact absurd h1 (by decide)
theorem SideAt.le {CO CB : Addr} {H : Hp} {b db l : Addr} {es : List Ent} (S : SideAt CO CB H b db l es) {e : Ent} (h : e ∈ es) : e.1 ≠ l := fun q => by
  have := S.en e h
  rw [q, S.li] at this
  cases this
def sp_BookSide_init (K : PySem.W.Frag) (CO CB : Addr) : Sp := fun vs H Q _ => ∃ (x dx : Addr), vs = [.ref x] ∧ H x = some (.ins CB dx []) ∧ ∀ l, H l = none → Q .non (upd (upd H l (.lst [])) x (.ins CB dx [("_orders", .ref l)]))
set_option maxHeartbeats 0 in
theorem ok_BookSide_init (T : Txt K mg) : FnOk P w K mg base CX0 1 T.f_BookSide_init T.d_BookSide_init ["self"] (sp_BookSide_init K T.c_Order T.c_BookSide) := by
  refine T.F_BookSide_init.ok sc_BookSide_init (fun vs H Q E h => ?_) (fun cdv A outer s H vs Q E hr h => ?_)
  · obtain ⟨x, dx, rfl, _⟩ := h
    rfl
  · obtain ⟨x, dx, rfl, hx, q⟩ := h
    refine ⟨_, (pss_one (ps_fld (pv 0) (pe_lst pa_nil) rfl)), ?_⟩
    have fact_BookSide_0 := T.cl_BookSide; have fact_BookSide_1 := T.na_BookSide__orders
    walk_at "st"
    intro l nl
    have hx2 := (upd_ne (o := HO.lst []) (ne_of_none hx nl)).trans hx
    walk_at "st"
    exact q l nl
def sp_BookSide_first (K : PySem.W.Frag) (CO CB : Addr) : Sp := fun vs H Q _ => ∃ (b db l : Addr) (es : List Ent), vs = [.ref b] ∧ SideAt CO CB H b db l es ∧ Q (match es with | [] => .non | e :: _ => .ref e.1) H
set_option maxHeartbeats 0 in
theorem ok_BookSide_first (T : Txt K mg) : FnOk P w K mg base CX0 1 T.f_BookSide_first T.d_BookSide_first ["self"] (sp_BookSide_first K T.c_Order T.c_BookSide) := by
  refine T.F_BookSide_first.ok sc_BookSide_first (fun vs H Q E h => ?_) (fun cdv A outer s H vs Q E hr h => ?_)
  · obtain ⟨b, db, l, es, rfl, _⟩ := h
    rfl
  · obtain ⟨b, db, l, es, rfl, S, q⟩ := h
    refine ⟨_, (pss_one (ps_ret (pe_ifExp (pt_truth (pe_fld (pv 0) rfl) (by intro _; rfl)) (pe_ix ix_list (pe_fld (pv 0) rfl) pe_int (fun _ _ => rfl)) pe_non))), ?_⟩
    have fact_BookSide_0 := T.cl_BookSide; have fact_BookSide_1 := T.na_BookSide__orders
    have hob := S.ob
    have hli := S.li
    walk_at "st"
    refine ⟨.inl ⟨refs es, SqL.of hli, rfl⟩, ?_⟩
    cases es with
    | nil => exact q
    | cons e r =>
      refine iteT ?_
      walk_at "st"
      refine ⟨atI_nat (j := 0) rfl, ?_⟩
      exact q
theorem refs_map (es : List Ent) : refs es = (es.map (·.1)).map V.ref := by
  unfold refs
  rw [List.map_map]
  rfl
theorem erase_mid {pre post : List Ent} {e : Ent} (nd : ((pre ++ e :: post).map (·.1)).Nodup) : ((pre ++ e :: post).map (·.1)).erase e.1 = (pre ++ post).map (·.1) := by
  rw [List.map_append, List.map_cons] at nd ⊢
  have h := (List.nodup_append.mp nd).2.2
  rw [List.erase_append_right _ (fun z => h _ z _ List.mem_cons_self rfl), List.erase_cons_head, List.map_append]
def sp_BookSide_leave (K : PySem.W.Frag) (CO CB : Addr) : Sp := fun vs H Q _ => ∃ (b db l : Addr) (pre : List Ent) (e : Ent) (es : List Ent), vs = [.ref b, .ref e.1] ∧ SideAt CO CB H b db l (pre ++ e :: es) ∧ Q .non (upd H l (.lst (refs (pre ++ es))))
set_option maxHeartbeats 0 in
theorem ok_BookSide_leave (T : Txt K mg) : FnOk P w K mg base CX0 1 T.f_BookSide_leave T.d_BookSide_leave ["self", "order"] (sp_BookSide_leave K T.c_Order T.c_BookSide) := by
  refine T.F_BookSide_leave.ok sc_BookSide_leave (fun vs H Q E h => ?_) (fun cdv A outer s H vs Q E hr h => ?_)
  · obtain ⟨b, db, l, pre, e, es, rfl, _⟩ := h
    rfl
  · obtain ⟨b, db, l, pre, e, es, rfl, S, q⟩ := h
    refine ⟨_, (pss_one (ps_expr (pe_bm PySem.F.plainAttrs_list PySem.F.slot_list_remove PySem.F.type_list_remove (mt_removeO hr T.eq_Order T.mo_Order) (pe_fld (pv 0) rfl) (pa_cons (pv 1) pa_nil)))), ?_⟩
    have fact_BookSide_0 := T.cl_BookSide; have fact_BookSide_1 := T.na_BookSide__orders
    have hob := S.ob
    have hli := S.li
    rw [refs_map] at hli
    have hmem : e.1 ∈ (pre ++ e :: es).map (·.1) := List.mem_map.mpr ⟨e, List.mem_append_right _ List.mem_cons_self, rfl⟩
    have hobj : ∀ b, b ∈ (pre ++ e :: es).map (·.1) → ∃ dx fs, H b = some (.ins T.c_Order dx fs) := fun b hb => by
      obtain ⟨y, hy, rfl⟩ := List.mem_map.mp hb
      exact ⟨_, _, S.en y hy⟩
    walk_at "st"
    refine ⟨_, rfl, rfl, hli, hmem, hobj, ?_⟩
    rw [erase_mid S.nd, ← refs_map]
    exact q
theorem ents_at {es : List Ent} {i : Nat} {x : V} (h : (refs es)[i]? = some x) : ∃ e, es[i]? = some e ∧ x = .ref e.1 := by
  unfold refs at h
  rw [List.getElem?_map] at h
  cases e : es[i]? with
  | none => rw [e] at h; cases h
  | some z => rw [e] at h; exact ⟨z, rfl, (Option.some.inj h).symm⟩
theorem find_hit {α : Type} {p : α → Bool} {es : List α} {i : Nat} {e : α} (h : es[i]? = some e) (h0 : (es.take i).find? p = none) (hp : p e = true) : es.find? p = some e := by
  rw [← List.take_append_drop (i + 1) es, List.find?_append, take_succ h, List.find?_append, h0]
  simp [hp]
theorem find_miss {α : Type} {p : α → Bool} {es : List α} {i : Nat} {e : α} (h : es[i]? = some e) (h0 : (es.take i).find? p = none) (hp : p e = false) : (es.take (i + 1)).find? p = none := by
  rw [take_succ h, List.find?_append, h0]
  simp [hp]
def sp_BookSide_with_number (K : PySem.W.Frag) (CO CB : Addr) : Sp := fun vs H Q _ => ∃ (b db l : Addr) (es : List Ent) (n : Int), vs = [.ref b, .int n] ∧ SideAt CO CB H b db l es ∧
  Q (match es.find? (fun e => decide (e.2.2.number = n)) with | none => .non | some e => .ref e.1) H
set_option maxHeartbeats 0 in
theorem ok_BookSide_with_number (T : Txt K mg) : FnOk P w K mg base CX0 1 T.f_BookSide_with_number T.d_BookSide_with_number ["self", "number"] (sp_BookSide_with_number K T.c_Order T.c_BookSide) := by
  refine T.F_BookSide_with_number.ok sc_BookSide_with_number (fun vs H Q E h => ?_) (fun cdv A outer s H vs Q E hr h => ?_)
  · obtain ⟨b, db, l, es, n, rfl, _⟩ := h
    rfl
  · obtain ⟨b, db, l, es, n, rfl, S, q⟩ := h
    refine ⟨_, (pss_cons (ps_for PassesOwn.never rfl (pi_list (pe_fld (pv 0) rfl)) (pg_name (i := 2) sc_BookSide_with_number.nd rfl (Or.inl rfl))
      (pss_one (ps_if (pt_cmpR op_eq (pe_fld (pv 2) rfl) (pv 1) (nomark _))
        (pss_one (ps_ret (pv 2)))
        pss_nil)))
    (pss_one (ps_ret pe_non))), ?_⟩
    have fact_BookSide_0 := T.cl_BookSide; have fact_BookSide_1 := T.na_BookSide__orders; have fact_Order_0 := T.cl_Order; have fact_Order_1 := T.na_Order_number; have fact_Order_2 := T.na_Order_house; have fact_Order_3 := T.na_Order_side; have fact_Order_4 := T.na_Order_price; have fact_Order_5 := T.na_Order_shown; have fact_Order_6 := T.na_Order_left; have fact_Order_7 := T.na_Order_visible
    have hob := S.ob
    have hli := S.li
    walk_at "st"
    refine for_list (K := K) (a := l) (xs := refs es) (fun i σ H' => H' = H ∧ ∃ v : Option V, σ = [some (.ref b), some (.int n), v] ∧ (es.take i).find? (fun e => decide (e.2.2.number = n)) = none) ⟨rfl, none, rfl, rfl⟩ (fun i σ H' _ ⟨e, _⟩ => by rw [e]; exact SqL.of hli) ?_ ?_
    · rintro i x σ H' hx ⟨rfl, v, rfl, hf⟩
      obtain ⟨e, he, rfl⟩ := ents_at hx
      have hen := S.en e (List.mem_of_getElem? he)
      walk_at "st"
      refine iteB (fun h => ?_) (fun h => ?_)
      · rw [find_hit he hf (decide_eq_true (V.int.inj (dec_t h)))] at q
        walk_at "st"
        exact q
      · exact ⟨rfl, _, rfl, find_miss he hf (decide_eq_false fun z => dec_f h (congrArg V.int z))⟩
    · rintro σ H' ⟨rfl, v, rfl, hf⟩
      rw [show (refs es).length = es.length from List.length_map .., List.take_of_length_le (Nat.le_refl _)] at hf
      rw [hf] at q
      exact q
def accE (p : Int) (e : Ent) : Bool := takes e.2.2.side e.2.2.price p
/-- behind all that take the price -/
def place (es : List Ent) (p : Int) : Nat := (es.takeWhile (accE p)).length
def Mono (es : List Ent) (p : Int) : Prop := ∀ (i j : Nat) (e e' : Ent), i ≤ j → es[i]? = some e → es[j]? = some e' → accE p e' = true → accE p e = true
theorem place_is {p : Int} : ∀ {es : List Ent} {k : Nat}, k ≤ es.length → (∀ i e, i < k → es[i]? = some e → accE p e = true) → (∀ e, es[k]? = some e → accE p e = false) → place es p = k
  | [], k, hk, _, _ => by
    simp at hk
    rw [hk]
    rfl
  | e :: r, 0, _, _, h2 => by
    unfold place
    rw [List.takeWhile_cons, if_neg (by rw [h2 e rfl]; exact Bool.false_ne_true)]
    rfl
  | e :: r, k + 1, hk, h1, h2 => by
    have ih := place_is (p := p) (es := r) (k := k) (by simpa using hk) (fun i e hi he => h1 (i + 1) e (by omega) he) (fun e he => h2 e he)
    unfold place at ih ⊢
    rw [List.takeWhile_cons, if_pos (h1 0 e (by omega) rfl), List.length_cons, ih]
theorem place_le (es : List Ent) (p : Int) : place es p ≤ es.length := by
  unfold place
  exact (List.takeWhile_prefix _).length_le
def sp_BookSideplace_behind (K : PySem.W.Frag) (CO CB : Addr) : Sp := fun vs H Q _ => ∃ (b db l x dx : Addr) (es : List Ent) (o : Ord) (p : Int), vs = [.ref b, .ref x] ∧ SideAt CO CB H b db l es ∧ H x = some (ordO CO dx o) ∧ o.price = some p ∧ Mono es p ∧
  Q (.int (place es p : Nat)) H
set_option maxHeartbeats 0 in
theorem ok_BookSideplace_behind (T : Txt K mg) : FnOk P w K mg base CX0 3 T.f_BookSideplace_behind T.d_BookSideplace_behind ["self", "order"] (sp_BookSideplace_behind K T.c_Order T.c_BookSide) := by
  refine T.F_BookSideplace_behind.ok sc_BookSideplace_behind (fun vs H Q E h => ?_) (fun cdv A outer s H vs Q E hr h => ?_)
  · obtain ⟨b, db, l, x, dx, es, o, p, rfl, _⟩ := h
    rfl
  · obtain ⟨b, db, l, x, dx, es, o, p, rfl, S, hx, hp, hm, q⟩ := h
    have G_Order_accepts_price : FnOk P w K mg base CX0 2 T.f_Order_accepts_price T.d_Order_accepts_price ["self", "price"] (sp_Order_accepts_price K T.c_Order) := ok_Order_accepts_price T
    refine ⟨_, (pss_cons (ps_set (i := 2) sc_BookSideplace_behind.nd rfl (Or.inl rfl) pe_int)
    (pss_cons (ps_set (i := 3) sc_BookSideplace_behind.nd rfl (Or.inl rfl) (pe_callB call_len_seq (by rfl) T.z_len PySem.boot_len (pa_cons (pe_fld (pv 0) rfl) pa_nil)))
    (pss_cons (ps_while PassesOwn.never (pt_cmpR op_lt (pv 2) (pv 3) (nomark _))
      (pss_cons (ps_set (i := 4) sc_BookSideplace_behind.nd rfl (Or.inl rfl) (pe_op op_fdiv (pe_op op_add (pv 2) (pv 3)) pe_int))
      (pss_one (ps_if (pt_val (pe_meth (pe_ix ix_list (pe_fld (pv 0) rfl) (pv 4) (fun _ _ => rfl)) T.cl_Order T.mt_Order_accepts_price G_Order_accepts_price hr T.b_Order_accepts_price .nil pass0 (pa_cons (pe_fld (pv 1) rfl) pa_nil)))
        (pss_one (ps_set (i := 2) sc_BookSideplace_behind.nd rfl (Or.inl rfl) (pe_op op_add (pv 4) pe_int)))
        (pss_one (ps_set (i := 3) sc_BookSideplace_behind.nd rfl (Or.inl rfl) (pv 4)))))))
    (pss_one (ps_ret (pv 2)))))), ?_⟩
    have fact_BookSide_0 := T.cl_BookSide; have fact_BookSide_1 := T.na_BookSide__orders; have fact_Order_0 := T.cl_Order; have fact_Order_1 := T.na_Order_number; have fact_Order_2 := T.na_Order_house; have fact_Order_3 := T.na_Order_side; have fact_Order_4 := T.na_Order_price; have fact_Order_5 := T.na_Order_shown; have fact_Order_6 := T.na_Order_left; have fact_Order_7 := T.na_Order_visible
    have hob := S.ob
    have hli := S.li
    have hsm := S.sm
    walk_at "st"
    have lenR : (refs es).length = es.length := List.length_map ..
    refine while_by (fun σ H' => H' = H ∧ ∃ (lo hi : Nat) (v : Option V), σ = [some (.ref b), some (.ref x), some (.int (lo : Int)), some (.int (hi : Int)), v] ∧ lo ≤ hi ∧ hi ≤ es.length ∧
        (∀ i e, i < lo → es[i]? = some e → accE p e = true) ∧ (∀ i e, hi ≤ i → es[i]? = some e → accE p e = false))
      (fun σ _ => match σ with | [_, _, some (.int lo), some (.int hi), _] => (hi - lo).toNat | _ => 0)
      ⟨rfl, 0, es.length, none, by rw [lenR]; rfl, Nat.zero_le _, Nat.le_refl _, fun i e h => absurd h (Nat.not_lt_zero _), fun i e h he => by rw [List.getElem?_eq_none h] at he; cases he⟩ ?_ ?_
    · rintro σ H' ⟨rfl, lo, hi, v, rfl, h1, h2, ha, hb⟩
      walk_at "st"
      refine iteD (fun h => ?_) (fun h => ?_)
      · have hmid : ((lo : Int) + hi) / 2 = (((lo + hi) / 2 : Nat) : Int) := by omega
        have hlt : (lo + hi) / 2 < es.length := by omega
        have he := List.getElem?_eq_getElem hlt
        have hen := S.en _ (List.mem_of_getElem? he)
        walk_at "st"
        rw [hmid]
        refine ⟨atI_nat (show (refs es)[(lo + hi) / 2]? = some (.ref (es[(lo + hi) / 2]).1) by unfold refs; rw [List.getElem?_map, he]; rfl), ?_⟩
        generalize hee : es[(lo + hi) / 2] = e0 at he hen
        generalize (lo + hi) / 2 = mid at *
        walk_at "st"
        refine ⟨e0.2.2, p, by rw [hp]; rfl, hen, ?_⟩
        walk_at "st"
        refine iteB (fun ht => ?_) (fun ht => ?_)
        · refine ⟨_, rfl, _, _, rfl, rfl, ⟨rfl, mid + 1, hi, some (.int (mid : Int)), ?_, by omega, h2, fun i e hi' he' => hm i mid e e0 (by omega) he' he ht, hb⟩, ?_⟩
          · show [some (V.ref b), some (V.ref x), some (V.int (((lo : Int) + hi) / 2 + 1)), some (V.int (hi : Int)), some (V.int (((lo : Int) + hi) / 2))] = _
            rw [hmid]
            rfl
          · show ((hi : Int) - (((lo : Int) + hi) / 2 + 1)).toNat < ((hi : Int) - (lo : Int)).toNat
            omega
        · refine ⟨_, rfl, ⟨rfl, lo, mid, some (.int (mid : Int)), ?_, by omega, by omega, ha, fun i e hi' he' => ?_⟩, ?_⟩
          · show [some (V.ref b), some (V.ref x), some (V.int (lo : Int)), some (V.int (((lo : Int) + hi) / 2)), some (V.int (((lo : Int) + hi) / 2))] = _
            rw [hmid]
          · cases ea : accE p e with
            | false => rfl
            | true =>
              have := hm mid i e0 e hi' he he' ea
              unfold accE at this
              rw [this] at ht
              cases ht
          · show ((((lo : Int) + hi) / 2) - (lo : Int)).toNat < ((hi : Int) - (lo : Int)).toNat
            omega
      · have e : lo = hi := by omega
        subst e
        have := place_is (p := p) h2 ha (fun e he => hb _ e (Nat.le_refl _) he)
        rw [this] at q
        walk_at "st"
        exact q
    · rintro σ H Q Q' h ⟨v1, e1, v2, e2, i, j, r1, r2, k, r3, q⟩
      exact ⟨v1, e1, v2, e2, i, j, r1, r2, k, r3, h _ _ q⟩
theorem SideAt.upd {CO CB : Addr} {H : Hp} {b db l x : Addr} {es : List Ent} {o : HO} (S : SideAt CO CB H b db l es) (hb : b ≠ x) (hl : l ≠ x) (hx : ∀ e, e ∈ es → e.1 ≠ x) : SideAt CO CB (upd H x o) b db l es :=
  ⟨(upd_ne hb).trans S.ob, (upd_ne hl).trans S.li, fun e he => (upd_ne (hx e he)).trans (S.en e he), S.nd, S.sm⟩
theorem SideAt.ord_ne {CO CB : Addr} {H : Hp} {b db l x dx : Addr} {es : List Ent} {o : Ord} (S : SideAt CO CB H b db l es) (hx : H x = some (ordO CO dx o)) : b ≠ x ∧ l ≠ x := by
  constructor
  · intro e
    have := S.ob
    rw [e, hx] at this
    unfold ordO at this
    injection this with this
    injection this with _ _ this
    injection this with h1 _
    injection h1 with h1 _
    exact absurd h1 (by decide)
  · intro e
    have := S.li
    rw [e, hx] at this
    cases this
/-- put in at a place -/
def insE (es : List Ent) (k : Nat) (e : Ent) : List Ent := es.take k ++ [e] ++ es.drop k
def sp_BookSide_enter (K : PySem.W.Frag) (CO CB : Addr) : Sp := fun vs H Q _ => ∃ (b db l x dx : Addr) (es : List Ent) (o : Ord) (p : Int), vs = [.ref b, .ref x] ∧ SideAt CO CB H b db l es ∧ H x = some (ordO CO dx o) ∧ (∀ e, e ∈ es → e.1 ≠ x) ∧ o.price = some p ∧ Mono es p ∧
  Q .non (upd (upd H x (ordO CO dx o.showNext)) l (.lst (refs (insE es (place es p) (x, dx, o.showNext)))))
set_option maxHeartbeats 0 in
theorem ok_BookSide_enter (T : Txt K mg) : FnOk P w K mg base CX0 4 T.f_BookSide_enter T.d_BookSide_enter ["self", "order"] (sp_BookSide_enter K T.c_Order T.c_BookSide) := by
  refine T.F_BookSide_enter.ok sc_BookSide_enter (fun vs H Q E h => ?_) (fun cdv A outer s H vs Q E hr h => ?_)
  · obtain ⟨b, db, l, x, dx, es, o, p, rfl, _⟩ := h
    rfl
  · obtain ⟨b, db, l, x, dx, es, o, p, rfl, S, hx, hne, hp, hm, q⟩ := h
    have G_Order_show_next_part : FnOk P w K mg base CX0 1 T.f_Order_show_next_part T.d_Order_show_next_part ["self"] (sp_Order_show_next_part K T.c_Order) := ok_Order_show_next_part T
    have G_BookSideplace_behind : FnOk P w K mg base CX0 3 T.f_BookSideplace_behind T.d_BookSideplace_behind ["self", "order"] (sp_BookSideplace_behind K T.c_Order T.c_BookSide) := ok_BookSideplace_behind T
    obtain ⟨nb, nl⟩ := S.ord_ne hx
    have S1 := S.upd (o := ordO T.c_Order dx o.showNext) nb nl hne
    have hx1 : (upd H x (ordO T.c_Order dx o.showNext)) x = some (ordO T.c_Order dx o.showNext) := upd_same
    refine ⟨_, (pss_cons (ps_expr (pe_meth0 (pv 1) T.cl_Order T.mt_Order_show_next_part G_Order_show_next_part (hr.mono (by decide)) T.b_Order_show_next_part .nil pass0))
    (pss_one (ps_expr (pe_bm PySem.F.plainAttrs_list PySem.F.slot_list_insert PySem.F.type_list_insert mt_insert (pe_fld (pv 0) rfl) (pa_cons (pe_meth (pv 0) T.cl_BookSide T.mt_BookSideplace_behind G_BookSideplace_behind hr T.b_BookSideplace_behind .nil pass0 (pa_cons (pv 1) pa_nil)) (pa_cons (pv 1) pa_nil)))))), ?_⟩
    have fact_BookSide_0 := T.cl_BookSide; have fact_BookSide_1 := T.na_BookSide__orders; have fact_Order_0 := T.cl_Order; have fact_Order_1 := T.na_Order_number; have fact_Order_2 := T.na_Order_house; have fact_Order_3 := T.na_Order_side; have fact_Order_4 := T.na_Order_price; have fact_Order_5 := T.na_Order_shown; have fact_Order_6 := T.na_Order_left; have fact_Order_7 := T.na_Order_visible
    have hob := S1.ob
    have hli := S1.li
    have hsm := S1.sm
    walk_at "st"
    refine ⟨o, rfl, hx, ?_⟩
    generalize upd H x (ordO T.c_Order dx o.showNext) = H1 at *
    walk_at "st"
    refine ⟨es, o.showNext, p, rfl, S1, hx1, hp, hm, ?_⟩
    have hpl := place_le es p
    have lenR : (refs es).length = es.length := List.length_map ..
    have hsz : (refs es).length < sizeLine := small1000 (by omega)
    refine ⟨_, rfl, l, refs es, ((place es p : Nat) : Int), .ref x, rfl, rfl, hli, hsz, by omega, by omega, ?_⟩
    have e : refs (insE es (place es p) (x, dx, o.showNext)) = (refs es).take ((place es p : Nat) : Int).toNat ++ [V.ref x] ++ (refs es).drop ((place es p : Nat) : Int).toNat := by
      unfold insE refs
      rw [Int.toNat_natCast, List.map_append, List.map_append, List.map_take, List.map_drop]
      rfl
    rw [e] at q
    exact q
theorem insE_mem {es : List Ent} {k : Nat} {e x : Ent} : x ∈ insE es k e ↔ x = e ∨ x ∈ es := by
  unfold insE
  rw [List.mem_append, List.mem_append, List.mem_singleton]
  constructor
  · rintro ((h | h) | h)
    · exact .inr (List.mem_of_mem_take h)
    · exact .inl h
    · exact .inr (List.mem_of_mem_drop h)
  · rintro (h | h)
    · exact .inl (.inr h)
    · rw [← List.take_append_drop k es] at h
      rcases List.mem_append.mp h with h | h
      · exact .inl (.inl h)
      · exact .inr h
theorem insE_perm (es : List Ent) (k : Nat) (e : Ent) : List.Perm (insE es k e) (e :: es) := by
  unfold insE
  have h : List.Perm (es.take k ++ [e] ++ es.drop k) (e :: (es.take k ++ es.drop k)) := by
    rw [List.append_assoc]
    exact List.perm_middle
  rw [List.take_append_drop] at h
  exact h
theorem SideAt.put {CO CB : Addr} {H : Hp} {b db l : Addr} {es es' : List Ent} (S : SideAt CO CB H b db l es) (he : ∀ e, e ∈ es' → H e.1 = some (ordO CO e.2.1 e.2.2)) (nd : (es'.map (·.1)).Nodup) (sm : es'.length ≤ 1000) :
    SideAt CO CB (L2.upd H l (.lst (refs es'))) b db l es' := by
  have hl : ∀ e, e ∈ es' → e.1 ≠ l := fun e h q => by
    have := he e h
    rw [q, S.li] at this
    cases this
  exact ⟨(upd_ne S.bl).trans S.ob, upd_same, fun e h => (upd_ne (hl e h)).trans (he e h), nd, sm⟩
theorem SideAt.insert {CO CB : Addr} {H : Hp} {b db l : Addr} {es : List Ent} {k : Nat} {e : Ent} (S : SideAt CO CB H b db l es) (hx : H e.1 = some (ordO CO e.2.1 e.2.2)) (hne : ∀ d, d ∈ es → d.1 ≠ e.1) (sm : es.length < 1000) :
    SideAt CO CB (L2.upd H l (.lst (refs (insE es k e)))) b db l (insE es k e) := by
  refine S.put (fun d hd => ?_) ?_ ?_
  · rcases insE_mem.mp hd with h | h
    · rw [h]
      exact hx
    · exact S.en d h
  · refine ((insE_perm es k e).map _).nodup_iff.mpr (List.nodup_cons.mpr ⟨fun hm => ?_, S.nd⟩)
    obtain ⟨d, hd, hq⟩ := List.mem_map.mp hm
    exact hne d hd hq
  · rw [(insE_perm es k e).length_eq]
    exact sm
/-- what a trade with the first leaves -/
def tradeF (e : Ent) (es : List Ent) (n p : Int) : List Ent :=
  let o := { e.2.2 with left := e.2.2.left - n, visible := e.2.2.visible - n }
  if o.visible = 0 then (if 0 < o.left then insE es (place es p) (e.1, e.2.1, o.showNext) else es) else (e.1, e.2.1, o) :: es
def sp_BookSide_trade_first (K : PySem.W.Frag) (CO CB : Addr) : Sp := fun vs H Q _ => ∃ (b db l : Addr) (e : Ent) (es : List Ent) (n p : Int), vs = [.ref b, .int n] ∧ SideAt CO CB H b db l (e :: es) ∧ e.2.2.price = some p ∧ Mono es p ∧
  ∀ H' o, SideAt CO CB H' b db l (tradeF e es n p) → H' e.1 = some (ordO CO e.2.1 o) → o.number = e.2.2.number → o.house = e.2.2.house → o.side = e.2.2.side → o.price = e.2.2.price → (∀ a, a ≠ l → a ≠ e.1 → H' a = H a) → Q .non H'
set_option maxHeartbeats 0 in
theorem ok_BookSide_trade_first (T : Txt K mg) : FnOk P w K mg base CX0 5 T.f_BookSide_trade_first T.d_BookSide_trade_first ["self", "quantity"] (sp_BookSide_trade_first K T.c_Order T.c_BookSide) := by
  refine T.F_BookSide_trade_first.ok sc_BookSide_trade_first (fun vs H Q E h => ?_) (fun cdv A outer s H vs Q E hr h => ?_)
  · obtain ⟨b, db, l, e, es, n, p, rfl, _⟩ := h
    rfl
  · obtain ⟨b, db, l, e, es, n, p, rfl, S, hp, hm, q⟩ := h
    have G_Order_trade_visible : FnOk P w K mg base CX0 1 T.f_Order_trade_visible T.d_Order_trade_visible ["self", "quantity"] (sp_Order_trade_visible K T.c_Order) := ok_Order_trade_visible T
    have G_BookSide_leave : FnOk P w K mg base CX0 1 T.f_BookSide_leave T.d_BookSide_leave ["self", "order"] (sp_BookSide_leave K T.c_Order T.c_BookSide) := ok_BookSide_leave T
    have G_BookSide_enter : FnOk P w K mg base CX0 4 T.f_BookSide_enter T.d_BookSide_enter ["self", "order"] (sp_BookSide_enter K T.c_Order T.c_BookSide) := ok_BookSide_enter T
    have hee := S.en e List.mem_cons_self
    have nd := List.nodup_cons.mp S.nd
    have hne : ∀ d, d ∈ es → d.1 ≠ e.1 := fun d hd hq => nd.1 (List.mem_map.mpr ⟨d, hd, hq⟩)
    obtain ⟨nb, nl⟩ := S.ord_ne hee
    refine ⟨_, (pss_cons (ps_set (i := 2) sc_BookSide_trade_first.nd rfl (Or.inl rfl) (pe_ix ix_list (pe_fld (pv 0) rfl) pe_int (fun _ _ => rfl)))
    (pss_cons (ps_expr (pe_meth (pv 2) T.cl_Order T.mt_Order_trade_visible G_Order_trade_visible (hr.mono (by decide)) T.b_Order_trade_visible .nil pass0 (pa_cons (pv 1) pa_nil)))
    (pss_one (ps_if (pt_cmpR op_eq (pe_fld (pv 2) rfl) pe_int (nomark _))
      (pss_cons (ps_expr (pe_meth (pv 0) T.cl_BookSide T.mt_BookSide_leave G_BookSide_leave (hr.mono (by decide)) T.b_BookSide_leave .nil pass0 (pa_cons (pv 2) pa_nil)))
      (pss_one (ps_if (pt_cmpR op_gt (pe_fld (pv 2) rfl) pe_int (nomark _))
        (pss_one (ps_expr (pe_meth (pv 0) T.cl_BookSide T.mt_BookSide_enter G_BookSide_enter hr T.b_BookSide_enter .nil pass0 (pa_cons (pv 2) pa_nil))))
        pss_nil)))
      pss_nil)))), ?_⟩
    have fact_BookSide_0 := T.cl_BookSide; have fact_BookSide_1 := T.na_BookSide__orders; have fact_Order_0 := T.cl_Order; have fact_Order_1 := T.na_Order_number; have fact_Order_2 := T.na_Order_house; have fact_Order_3 := T.na_Order_side; have fact_Order_4 := T.na_Order_price; have fact_Order_5 := T.na_Order_shown; have fact_Order_6 := T.na_Order_left; have fact_Order_7 := T.na_Order_visible
    have hob := S.ob
    have hli := S.li
    have hsm := S.sm
    have h0 : atI (refs (e :: es)) 0 = some (.ref e.1) := atI_nat (j := 0) rfl
    obtain ⟨o', ho'⟩ : ∃ o' : Ord, o' = { e.2.2 with left := e.2.2.left - n, visible := e.2.2.visible - n } := ⟨_, rfl⟩
    have hp' : o'.price = some p := by rw [ho']; exact hp
    have S1 : SideAt T.c_Order T.c_BookSide (upd H e.1 (ordO T.c_Order e.2.1 o')) b db l ((e.1, e.2.1, o') :: es) :=
      ⟨(upd_ne nb).trans S.ob, (upd_ne nl).trans S.li, fun d hd => by
        rcases List.mem_cons.mp hd with h | h
        · rw [h]
          exact upd_same
        · exact (upd_ne (hne d h)).trans (S.en d (List.mem_cons_of_mem _ h)), S.nd, S.sm⟩
    have fr1 : ∀ a, a ≠ e.1 → (upd H e.1 (ordO T.c_Order e.2.1 o')) a = H a := fun a h => upd_ne h
    have ht : tradeF e es n p = if o'.visible = 0 then (if 0 < o'.left then insE es (place es p) (e.1, e.2.1, o'.showNext) else es) else (e.1, e.2.1, o') :: es := by
      rw [ho']
      rfl
    walk_at "st"
    refine ⟨e.2.2, n, rfl, hee, ?_⟩
    rw [← ho']
    generalize upd H e.1 (ordO T.c_Order e.2.1 o') = H1 at S1 fr1
    have hob1 := S1.ob
    have hli1 := S1.li
    have hx1 := S1.en _ List.mem_cons_self
    have n1 : o'.number = e.2.2.number := by rw [ho']
    have n2 : o'.house = e.2.2.house := by rw [ho']
    have n3 : o'.side = e.2.2.side := by rw [ho']
    have n4 : o'.price = e.2.2.price := by rw [ho']
    have nd1 := List.nodup_cons.mp S1.nd
    have S2 : SideAt T.c_Order T.c_BookSide (upd H1 l (.lst (refs es))) b db l es := S1.put (fun d hd => S1.en d (List.mem_cons_of_mem _ hd)) nd1.2 (by simp at hsm; omega)
    have hx2 : (upd H1 l (.lst (refs es))) e.1 = some (ordO T.c_Order e.2.1 o') := (upd_ne (Ne.symm nl)).trans hx1
    walk_at "st"
    refine iteB (fun hv => ?_) (fun hv => ?_)
    · have hv0 : o'.visible = 0 := V.int.inj (dec_t hv)
      rw [if_pos hv0] at ht
      walk_at "st"
      refine ⟨[], (e.1, e.2.1, o'), es, rfl, S1, ?_⟩
      rw [List.nil_append]
      have fr2 : ∀ a, a ≠ l → a ≠ e.1 → (upd H1 l (.lst (refs es))) a = H a := fun a h1 h2 => (upd_ne h1).trans (fr1 a h2)
      generalize upd H1 l (.lst (refs es)) = H2 at S2 hx2 fr2
      have hob2 := S2.ob
      have hli2 := S2.li
      walk_at "st"
      refine iteD (fun hl => ?_) (fun hl => ?_)
      · rw [if_pos hl] at ht
        walk_at "st"
        refine ⟨es, o', p, rfl, S2, hx2, hne, hp', hm, ?_⟩
        have S3 := (S2.upd (o := ordO T.c_Order e.2.1 o'.showNext) nb nl hne).insert (k := place es p) (e := (e.1, e.2.1, o'.showNext)) upd_same hne (by simp at hsm; omega)
        rw [ht] at q
        refine q _ o'.showNext S3 ?_ n1 n2 n3 n4 fun a h1 h2 => ?_
        · exact (upd_ne (Ne.symm nl)).trans upd_same
        · exact (upd_ne h1).trans ((upd_ne h2).trans (fr2 a h1 h2))
      · rw [if_neg hl] at ht
        rw [ht] at q
        exact q H2 o' S2 hx2 n1 n2 n3 n4 fr2
    · have hv0 : ¬ o'.visible = 0 := fun z => dec_f hv (congrArg V.int z)
      rw [if_neg hv0] at ht
      rw [ht] at q
      exact q H1 o' S1 hx1 n1 n2 n3 n4 (fun a _ h => fr1 a h)
def rowV (o : Ord) : List V := [.int o.number, .str o.house, optV o.price, .int o.left, .int o.visible]
def sp_BookSide_rows (K : PySem.W.Frag) (CO CB : Addr) : Sp := fun vs H Q _ => ∃ (b db l : Addr) (es : List Ent), vs = [.ref b] ∧ SideAt CO CB H b db l es ∧
  ∀ D H' (ts : List (Addr × Ord)), Same H H' → H D = none → H' D = some (.lst (ts.map fun t => V.ref t.1)) → ts.map (·.2) = es.map (·.2.2) → (∀ t, t ∈ ts → H' t.1 = some (.tup (rowV t.2))) → Q (.ref D) H'
set_option maxHeartbeats 0 in
theorem ok_BookSide_rows (T : Txt K mg) : FnOk P w K mg base CX0 1 T.f_BookSide_rows T.d_BookSide_rows ["self"] (sp_BookSide_rows K T.c_Order T.c_BookSide) := by
  refine T.F_BookSide_rows.ok sc_BookSide_rows (fun vs H Q E h => ?_) (fun cdv A outer s H vs Q E hr h => ?_)
  · obtain ⟨b, db, l, es, rfl, _⟩ := h
    rfl
  · obtain ⟨b, db, l, es, rfl, S, q⟩ := h
    refine ⟨_, (pss_one (ps_ret (pe_lc (own := [("order", 1)]) (g := gName 1) (tt := tYes) rfl sc_BookSide_rows.nd (pi_list (pe_fld (pv 0) rfl)) (blkOk_by (own := [("order", 1)]) (N := N_BookSide_rows) (sc := defScope s_BookSide_rows) (by decide +kernel)) (fun _ _ _ _ _ => (pg_name (i := 1) sc_BookSide_rows.nd rfl (Or.inl rfl))) (fun _ _ _ _ _ => pts_nil) (fun _ _ _ _ _ => (pe_tup (pa_cons (show PE _ (Expr.Attribute _ "number" _) (tFld K _ "number") from pe_fld (pv 1) rfl) (pa_cons (show PE _ (Expr.Attribute _ "house" _) (tFld K _ "house") from pe_fld (pv 1) rfl) (pa_cons (show PE _ (Expr.Attribute _ "price" _) (tFld K _ "price") from pe_fld (pv 1) rfl) (pa_cons (show PE _ (Expr.Attribute _ "left" _) (tFld K _ "left") from pe_fld (pv 1) rfl) (pa_cons (show PE _ (Expr.Attribute _ "visible" _) (tFld K _ "visible") from pe_fld (pv 1) rfl) pa_nil)))))))))), ?_⟩
    have fact_BookSide_0 := T.cl_BookSide; have fact_BookSide_1 := T.na_BookSide__orders; have fact_Order_0 := T.cl_Order; have fact_Order_1 := T.na_Order_number; have fact_Order_2 := T.na_Order_house; have fact_Order_3 := T.na_Order_side; have fact_Order_4 := T.na_Order_price; have fact_Order_5 := T.na_Order_shown; have fact_Order_6 := T.na_Order_left; have fact_Order_7 := T.na_Order_visible
    have hob := S.ob
    have hli := S.li
    have hsm := S.sm
    have lenR : (refs es).length = es.length := List.length_map ..
    walk_at "st"
    intro D nD
    refine lc_list (K := K) (a := l) (xs := refs es) (fun i H' => ∃ ts : List (Addr × Ord), H' D = some (.lst (ts.map fun t => V.ref t.1)) ∧ (∀ t, t ∈ ts → H' t.1 = some (.tup (rowV t.2))) ∧ ts.map (·.2) = (es.take i).map (·.2.2) ∧ ts.length ≤ i ∧ Same H H')
      ⟨[], upd_same, (fun _ ht => by cases ht), rfl, Nat.le_refl _, same_upd nD⟩ (fun i H' _ ⟨_, _, _, _, _, e⟩ => e.seq (SqL.of hli)) ?_ ?_
    · rintro i x H' hx ⟨ts, hD, hts, hd, hlen, sa⟩
      obtain ⟨e, he, rfl⟩ := ents_at hx
      have hi := (List.getElem?_eq_some_iff.mp he).1
      have hen := sa _ _ (S.en e (List.mem_of_getElem? he))
      refine ⟨rfl, ?_⟩
      walk_at "st"
      intro p np
      have npD : D ≠ p := ne_of_none hD np
      refine ⟨_, (upd_ne npD).trans hD, ?_, ts ++ [(p, e.2.2)], ?_, fun t h => ?_, ?_, ?_, fun b' o' z => ?_⟩
      · rw [List.length_map]
        exact small1000 (by omega)
      · rw [upd_same, List.map_append]
        rfl
      · have hnD : t.1 ≠ D := fun e' => by
          rcases List.mem_append.mp h with h | h
          · have := hts t h
            rw [e', hD] at this
            cases this
          · rw [List.mem_singleton.mp h] at e'
            exact npD e'.symm
        rw [upd_ne hnD]
        rcases List.mem_append.mp h with h | h
        · rw [upd_ne (ne_of_none (hts t h) np)]
          exact hts t h
        · rw [List.mem_singleton.mp h, upd_same]
          rfl
      · rw [List.map_append, hd, take_succ he, List.map_append]
        rfl
      · rw [List.length_append]
        show ts.length + 1 ≤ i + 1
        omega
      · have hbD : b' ≠ D := fun e' => by rw [e'] at z; rw [z] at nD; cases nD
        rw [upd_ne hbD, upd_ne (ne_of_none (sa _ _ z) np)]
        exact sa _ _ z
    · rintro H' ⟨ts, hD, hts, hd, hlen, sa⟩
      rw [lenR, List.take_of_length_le (Nat.le_refl _)] at hd
      exact q D H' ts sa nD hD hd hts
/-- whether the taker could trade with it -/
def canT (t : Ord) (e : Ent) : Bool := decide (e.2.2.house ≠ t.house) && (match e.2.2.price with | some p => takes t.side t.price p | none => false)
def sp_BookSide_available (K : PySem.W.Frag) (CO CB : Addr) : Sp := fun vs H Q _ => ∃ (b db l x dx : Addr) (es : List Ent) (t : Ord), vs = [.ref b, .ref x] ∧ SideAt CO CB H b db l es ∧ H x = some (ordO CO dx t) ∧ (∀ e, e ∈ es → ∃ p, e.2.2.price = some p) ∧
  ∀ H', Same H H' → Q (.int ((es.filter (canT t)).map (fun e => e.2.2.left)).sum) H'
set_option maxHeartbeats 0 in
theorem ok_BookSide_available (T : Txt K mg) : FnOk P w K mg base CX0 3 T.f_BookSide_available T.d_BookSide_available ["self", "taker"] (sp_BookSide_available K T.c_Order T.c_BookSide) := by
  refine T.F_BookSide_available.ok sc_BookSide_available (fun vs H Q E h => ?_) (fun cdv A outer s H vs Q E hr h => ?_)
  · obtain ⟨b, db, l, x, dx, es, t, rfl, _⟩ := h
    rfl
  · obtain ⟨b, db, l, x, dx, es, t, rfl, S, hx, hp, q⟩ := h
    have G_Order_accepts_price : FnOk P w K mg base CX0 2 T.f_Order_accepts_price T.d_Order_accepts_price ["self", "price"] (sp_Order_accepts_price K T.c_Order) := ok_Order_accepts_price T
    refine ⟨_, (pss_cons (ps_setLc (i := 2) (own := [("order", 3)]) (g := gName 3) rfl sc_BookSide_available.nd rfl rfl (sw_true rfl rfl rfl (by decide +kernel)) (pi_list (pe_fld (pv 0) rfl)) (blkOk_by (own := [("order", 3)]) (N := N_BookSide_available) (sc := defScope s_BookSide_available) (by decide +kernel)) (fun _ _ _ _ _ => (pg_name (i := 3) sc_BookSide_available.nd rfl (Or.inl rfl))) (fun _ _ _ _ _ => pts_one (PW.pt (pw_and (pt_cmpR op_ne (show PE _ (Expr.Attribute _ "house" _) (tFld K _ "house") from pe_fld (pv 3) rfl) (show PE _ (Expr.Attribute _ "house" _) (tFld K _ "house") from pe_fld (pv 1) rfl) (nomark _)) (pw_and1 (pt_val (pe_meth (pv 1) T.cl_Order T.mt_Order_accepts_price G_Order_accepts_price hr T.b_Order_accepts_price .nil pass0 (pa_cons (show PE _ (Expr.Attribute _ "price" _) (tFld K _ "price") from pe_fld (pv 3) rfl) pa_nil))))))) (fun _ _ _ _ _ => (show PE _ (Expr.Attribute _ "left" _) (tFld K _ "left") from pe_fld (pv 3) rfl)))
    (pss_one (ps_ret (pe_callB (cr_sum rfl) (by rfl) T.z_sum (by decide +kernel) (pa_cons (pv 2) pa_nil))))), ?_⟩
    have fact_BookSide_0 := T.cl_BookSide; have fact_BookSide_1 := T.na_BookSide__orders; have fact_Order_0 := T.cl_Order; have fact_Order_1 := T.na_Order_number; have fact_Order_2 := T.na_Order_house; have fact_Order_3 := T.na_Order_side; have fact_Order_4 := T.na_Order_price; have fact_Order_5 := T.na_Order_shown; have fact_Order_6 := T.na_Order_left; have fact_Order_7 := T.na_Order_visible
    have hob := S.ob
    have hli := S.li
    have hsm := S.sm
    have lenR : (refs es).length = es.length := List.length_map ..
    walk_at "st"
    intro D nD
    refine lc_list (K := K) (a := l) (xs := refs es) (fun i H' => H' = upd H D (.lst ((((es.take i).filter (canT t)).map fun e => e.2.2.left).map V.int))) rfl (fun i H' _ e => by rw [e]; exact (same_upd nD).seq (SqL.of hli)) ?_ ?_
    · rintro i v H' hv rfl
      obtain ⟨e, he, rfl⟩ := ents_at hv
      have sD := same_upd (o := .lst ((((es.take i).filter (canT t)).map fun e => e.2.2.left).map V.int)) nD
      have hi := (List.getElem?_eq_some_iff.mp he).1
      have hen := sD _ _ (S.en e (List.mem_of_getElem? he))
      have hx1 := sD _ _ hx
      obtain ⟨p, hpe⟩ := hp e (List.mem_of_getElem? he)
      refine ⟨rfl, ?_⟩
      walk_at "st"
      have pos : canT t e = true → ((es.take (i + 1)).filter (canT t)) = ((es.take i).filter (canT t)) ++ [e] := fun h => by
        rw [take_succ he, List.filter_append, List.filter_cons_of_pos h, List.filter_nil]
      have neg : canT t e = false → ((es.take (i + 1)).filter (canT t)) = ((es.take i).filter (canT t)) := fun h => by
        rw [take_succ he, List.filter_append, List.filter_cons_of_neg (by rw [h]; exact Bool.false_ne_true), List.filter_nil, List.append_nil]
      refine iteB (fun h1 => ?_) (fun h1 => ?_)
      · have hh : e.2.2.house ≠ t.house := fun z => ndec_t h1 (congrArg V.str z)
        walk_at "st"
        refine ⟨t, p, by rw [hpe]; rfl, hx1, ?_⟩
        walk_at "st"
        refine iteB (fun h2 => ?_) (fun h2 => ?_)
        · have hc : canT t e = true := by
            unfold canT
            rw [hpe, decide_eq_true hh]
            exact h2
          rw [pos hc]
          have hll := List.length_filter_le (canT t) (es.take i)
          rw [List.length_take] at hll
          walk_at "st"
          rw [upd_upd, List.map_append, List.map_append]
          refine ⟨small1000 ?_, rfl⟩
          rw [List.length_map, List.length_map]
          omega
        · have hc : canT t e = false := by
            unfold canT
            rw [hpe, decide_eq_true hh]
            exact h2
          rw [neg hc]
      · have hh : e.2.2.house = t.house := V.str.inj (ndec_f h1)
        have hc : canT t e = false := by
          unfold canT
          rw [decide_eq_false (fun z => z hh)]
          rfl
        rw [neg hc]
        rfl
    · rintro H' rfl
      walk_at "st"
      rw [lenR, List.take_of_length_le (Nat.le_refl _)]
      exact q _ (same_upd nD)

/-! ### the book -/
def bookO (C dx : Addr) (last : Option Int) (next : Int) (sd st : Addr) : HO := .ins C dx [("last", optV last), ("_next_number", .int next), ("_sides", .ref sd), ("_stops", .ref st)]
def sidesO (b1 b2 : Addr) : HO := .dK [(Sum.inr "buy", .ref b1), (Sum.inr "sell", .ref b2)]
structure BookAt (CO CB CK : Addr) (H : Hp) (x dx sd st b1 d1 l1 b2 d2 l2 : Addr) (last : Option Int) (next : Int) (es1 es2 : List Ent) : Prop where
  ob : H x = some (bookO CK dx last next sd st)
  sd : H sd = some (sidesO b1 b2)
  st : H st = some (.lst [])
  s1 : SideAt CO CB H b1 d1 l1 es1
  s2 : SideAt CO CB H b2 d2 l2 es2
theorem SideAt.same {CO CB : Addr} {H H' : Hp} {b db l : Addr} {es : List Ent} (S : SideAt CO CB H b db l es) (e : Same H H') : SideAt CO CB H' b db l es :=
  ⟨e _ _ S.ob, e _ _ S.li, fun x hx => e _ _ (S.en x hx), S.nd, S.sm⟩
theorem side_new {CO CB : Addr} {H : Hp} {b d l : Addr} (nb : H b = none) (nd : H d = none) (hne : d ≠ b) (nl : upd (upd H d (.own b)) b (.ins CB d []) l = none) :
    SideAt CO CB (upd (upd (upd (upd H d (.own b)) b (.ins CB d [])) l (.lst [])) b (.ins CB d [("_orders", .ref l)])) b d l [] ∧ Same H (upd (upd (upd (upd H d (.own b)) b (.ins CB d [])) l (.lst [])) b (.ins CB d [("_orders", .ref l)])) := by
  have hlb : l ≠ b := fun z => by rw [z, upd_same] at nl; cases nl
  refine ⟨⟨upd_same, ?_, (fun e h => by cases h), List.nodup_nil, Nat.zero_le _⟩, fun c o e => ?_⟩
  · rw [upd_ne hlb, upd_same]
    rfl
  · have c1 : c ≠ b := ne_of_none e nb
    have c2 : c ≠ d := ne_of_none e nd
    have c3 : c ≠ l := fun z => by
      rw [← z, upd_ne c1, upd_ne c2, e] at nl
      cases nl
    rw [upd_ne c1, upd_ne c3, upd_ne c1, upd_ne c2]
    exact e
def sp_Book_init (K : PySem.W.Frag) (CO CB CK : Addr) : Sp := fun vs H Q _ => ∃ (x dx : Addr) (n : Int), vs = [.ref x, .int n] ∧ H x = some (.ins CK dx []) ∧ ∀ H' sd st b1 d1 l1 b2 d2 l2, BookAt CO CB CK H' x dx sd st b1 d1 l1 b2 d2 l2 none n [] [] → l1 ≠ l2 ∧ st ≠ l1 ∧ st ≠ l2 → H l1 = none ∧ H l2 = none → (∀ c o, c ≠ x → H c = some o → H' c = some o) → Q .non H'
set_option maxHeartbeats 0 in
theorem ok_Book_init (T : Txt K mg) : FnOk P w K mg base CX0 3 T.f_Book_init T.d_Book_init ["self", "first_number"] (sp_Book_init K T.c_Order T.c_BookSide T.c_Book) := by
  refine T.F_Book_init.ok sc_Book_init (fun vs H Q E h => ?_) (fun cdv A outer s H vs Q E hr h => ?_)
  · obtain ⟨x, dx, n, rfl, _⟩ := h
    rfl
  · obtain ⟨x, dx, n, rfl, hx, q⟩ := h
    have G_BookSide_init : FnOk P w K mg base CX0 1 T.f_BookSide_init T.d_BookSide_init ["self"] (sp_BookSide_init K T.c_Order T.c_BookSide) := ok_BookSide_init T
    refine ⟨_, (PSs.nox (pss_cons (ps_fld (pv 0) pe_non rfl)
    (pss_cons (ps_fld (pv 0) (pv 1) rfl)
    (pss_cons (ps_fld (pv 0) (pe_disp (pps_cons pe_str (pe_make0 T.mk_BookSide G_BookSide_init hr (by rfl) T.m_BookSide T.b_BookSide_init .nil pass0) (pps_cons pe_str (pe_make0 T.mk_BookSide G_BookSide_init hr (by rfl) T.m_BookSide T.b_BookSide_init .nil pass0) pps_nil)) (by rfl) (by rfl) (fun z => by cases z) (by decide)) rfl)
    (pss_one (ps_fld (pv 0) (pe_lst pa_nil) rfl)))))), ?_⟩
    have fact_BookSide_0 := T.cl_BookSide; have fact_BookSide_1 := T.na_BookSide__orders; have fact_Book_0 := T.cl_Book; have fact_Book_1 := T.na_Book_last; have fact_Book_2 := T.na_Book__next_number; have fact_Book_3 := T.na_Book__sides; have fact_Book_4 := T.na_Book__stops
    walk_at "st"
    rw [upd_upd, show putF "_next_number" (V.int n) (putF "last" V.non []) = ([("last", V.non), ("_next_number", .int n)] : List (Str × V)) from rfl]
    have hx1 : upd H x (.ins T.c_Book dx [("last", V.non), ("_next_number", .int n)]) x = some (.ins T.c_Book dx [("last", V.non), ("_next_number", .int n)]) := upd_same
    have fr1 : ∀ b o, b ≠ x → H b = some o → upd H x (.ins T.c_Book dx [("last", V.non), ("_next_number", .int n)]) b = some o := fun b o hb z => by rw [upd_ne hb]; exact z
    generalize upd H x (.ins T.c_Book dx [("last", V.non), ("_next_number", .int n)]) = H1 at *
    walk_at "st"
    intro D nD
    rw [tPairs]
    intro b1 d1 nb1 nd1 hne1
    walk_at "st"
    intro l1 nl1
    have nD1 : upd H1 D (.dK []) D = some (.dK []) := upd_same
    have sD : Same H1 (upd H1 D (.dK [])) := same_upd nD
    generalize upd H1 D (.dK []) = H2 at *
    have e0' : Same H2 (upd (upd H2 d1 (.own b1)) b1 (.ins T.c_BookSide d1 [])) := (same_upd nd1).trans (same_upd (by rw [upd_ne (Ne.symm hne1)]; exact nb1))
    obtain ⟨S1, e1⟩ := side_new (CO := T.c_Order) (CB := T.c_BookSide) nb1 nd1 hne1 nl1
    refine ⟨rfl, ?_⟩
    generalize upd (upd (upd (upd H2 d1 (.own b1)) b1 (.ins T.c_BookSide d1 [])) l1 (.lst [])) b1 (.ins T.c_BookSide d1 [("_orders", .ref l1)]) = H3 at *
    rw [tPairs]
    intro b2 d2 nb2 nd2 hne2
    walk_at "st"
    intro l2 nl2
    have e1' : Same H3 (upd (upd H3 d2 (.own b2)) b2 (.ins T.c_BookSide d2 [])) := (same_upd nd2).trans (same_upd (by rw [upd_ne (Ne.symm hne2)]; exact nb2))
    obtain ⟨S2, e2⟩ := side_new (CO := T.c_Order) (CB := T.c_BookSide) nb2 nd2 hne2 nl2
    refine ⟨rfl, ?_⟩
    generalize upd (upd (upd (upd H3 d2 (.own b2)) b2 (.ins T.c_BookSide d2 [])) l2 (.lst [])) b2 (.ins T.c_BookSide d2 [("_orders", .ref l2)]) = H4 at *
    have S1' := S1.same e2
    have hD4 := e2 _ _ (e1 _ _ nD1)
    rw [tPairs]
    refine ⟨hD4, [(Sum.inr "buy", .ref b1), (Sum.inr "sell", .ref b2)], rfl, (show 2 ≤ 15 by decide), ?_⟩
    rw [show mergeK [] ([(Sum.inr "buy", V.ref b1), (Sum.inr "sell", V.ref b2)] : List (Key × V)) = ([(Sum.inr "buy", V.ref b1), (Sum.inr "sell", V.ref b2)] : List (Key × V)) from rfl]
    have hxD : x ≠ D := ne_of_none hx1 nD
    have dif : ∀ {c : Addr} {o o' : HO}, H4 c = some o → o ≠ .dK [] → c ≠ D := fun e z w => by
      rw [w, hD4] at e
      exact z (Option.some.inj e).symm
    have hb1D : b1 ≠ D := fun w => by have := S1'.ob; rw [w, hD4] at this; cases this
    have hl1D : l1 ≠ D := fun w => by have := S1'.li; rw [w, hD4] at this; cases this
    have hb2D : b2 ≠ D := fun w => by have := S2.ob; rw [w, hD4] at this; cases this
    have hl2D : l2 ≠ D := fun w => by have := S2.li; rw [w, hD4] at this; cases this
    have S1a := S1'.upd (o := sidesO b1 b2) hb1D hl1D fun e h => by cases h
    have S2a := S2.upd (o := sidesO b1 b2) hb2D hl2D fun e h => by cases h
    have hx4 := e2 _ _ (e1 _ _ (sD _ _ hx1))
    have hx5 : upd H4 D (sidesO b1 b2) x = some (.ins T.c_Book dx [("last", V.non), ("_next_number", .int n)]) := (upd_ne hxD).trans hx4
    have hD5 : upd H4 D (sidesO b1 b2) D = some (sidesO b1 b2) := upd_same
    have fr5 : ∀ c o, c ≠ x → H c = some o → upd H4 D (sidesO b1 b2) c = some o := fun c o hc z => by
      have z1 := fr1 c o hc z
      rw [upd_ne (ne_of_none z1 nD)]
      exact e2 _ _ (e1 _ _ (sD _ _ z1))
    unfold sidesO at S1a S2a hx5 hD5 fr5
    generalize upd H4 D (.dK [(Sum.inr "buy", .ref b1), (Sum.inr "sell", .ref b2)]) = H5 at *
    walk_at "st"
    intro st nst
    have hxs : st ≠ x := fun z => by rw [z, upd_same] at nst; cases nst
    have nst5 : H5 st = none := by rw [← nst, upd_ne hxs]
    have nb1x : b1 ≠ x := fun w => by
      have := S1a.ob
      rw [w, hx5] at this
      injection (Option.some.inj this) with _ _ h3
      exact absurd (congrArg List.length h3) (show ¬ (2 = 1) by decide)
    have nl1x : l1 ≠ x := fun w => by have := S1a.li; rw [w, hx5] at this; cases this
    have nb2x : b2 ≠ x := fun w => by
      have := S2a.ob
      rw [w, hx5] at this
      injection (Option.some.inj this) with _ _ h3
      exact absurd (congrArg List.length h3) (show ¬ (2 = 1) by decide)
    have nl2x : l2 ≠ x := fun w => by have := S2a.li; rw [w, hx5] at this; cases this
    have hx6 : ∀ o, upd (upd H5 x o) st (.lst []) x = some o := fun o => by rw [upd_ne (Ne.symm hxs), upd_same]
    refine ⟨_, rfl, ?_⟩
    refine ⟨_, _, _, _, rfl, hx6 _, ‹_›, ‹_›, ?_, ?_⟩
    · show (3 : Nat) < 1000
      decide
    have g1 : ∀ {c : Addr} {o v w : HO}, c ≠ x → H5 c = some o → upd (upd (upd H5 x v) st (.lst [])) x w c = some o := fun hc hz => by
      rw [upd_ne hc, upd_ne (ne_of_none hz nst5), upd_ne hc]
      exact hz
    walk_at "st"
    have nst1 : st ≠ l1 := fun z => by rw [z, S1a.li] at nst5; cases nst5
    have nst2 : st ≠ l2 := fun z => by rw [z, S2a.li] at nst5; cases nst5
    have nll : l1 ≠ l2 := fun z => by
      have y := nl2
      have h1 := e1' _ _ S1.li
      rw [z] at h1
      rw [h1] at y
      cases y
    have nl10 : H l1 = none := by
      cases hh : H l1 with
      | none => rfl
      | some v =>
        have y := sD _ _ (fr1 _ _ nl1x hh)
        have z := nl1
        rw [e0' _ _ y] at z
        cases z
    have nl20 : H l2 = none := by
      cases hh : H l2 with
      | none => rfl
      | some v =>
        have y := e1 _ _ (sD _ _ (fr1 _ _ nl2x hh))
        have z := nl2
        rw [e1' _ _ y] at z
        cases z
    refine q _ D st b1 d1 l1 b2 d2 l2 ⟨?_, g1 (Ne.symm hxD) hD5, ?_, ⟨g1 nb1x S1a.ob, g1 nl1x S1a.li, (fun e h => by cases h), S1a.nd, S1a.sm⟩, ⟨g1 nb2x S2a.ob, g1 nl2x S2a.li, (fun e h => by cases h), S2a.nd, S2a.sm⟩⟩ ⟨nll, nst1, nst2⟩ ⟨nl10, nl20⟩ (fun c o hc z => g1 hc (fr5 c o hc z))
    · exact upd_same
    · rw [upd_ne hxs, upd_same]
theorem sides_buy {H : Hp} {sd b1 b2 : Addr} (h : H sd = some (sidesO b1 b2)) : DGet H sd (.str "buy") (some (.ref b1)) := DGet.k (k := Sum.inr "buy") h
theorem sides_sell {H : Hp} {sd b1 b2 : Addr} (h : H sd = some (sidesO b1 b2)) : DGet H sd (.str "sell") (some (.ref b2)) := DGet.k (k := Sum.inr "sell") h
/-- the order with the number, of the buyers first -/
def withNum (es1 es2 : List Ent) (n : Int) : Option Ent :=
  match es1.find? (fun e => decide (e.2.2.number = n)) with
  | some e => some e
  | none => es2.find? (fun e => decide (e.2.2.number = n))
def entV : Option Ent → V
  | none => .non
  | some e => .ref e.1
def sp_Bookorder_with (K : PySem.W.Frag) (CO CB CK : Addr) : Sp := fun vs H Q _ => ∃ (x dx sd st b1 d1 l1 b2 d2 l2 : Addr) (last : Option Int) (next : Int) (es1 es2 : List Ent) (n : Int), vs = [.ref x, .int n] ∧ BookAt CO CB CK H x dx sd st b1 d1 l1 b2 d2 l2 last next es1 es2 ∧
  Q (entV (withNum es1 es2 n)) H
set_option maxHeartbeats 0 in
theorem ok_Bookorder_with (T : Txt K mg) : FnOk P w K mg base CX0 2 T.f_Bookorder_with T.d_Bookorder_with ["self", "number"] (sp_Bookorder_with K T.c_Order T.c_BookSide T.c_Book) := by
  refine T.F_Bookorder_with.ok sc_Bookorder_with (fun vs H Q E h => ?_) (fun cdv A outer s H vs Q E hr h => ?_)
  · obtain ⟨x, dx, sd, st, b1, d1, l1, b2, d2, l2, last, next, es1, es2, n, rfl, _⟩ := h
    rfl
  · obtain ⟨x, dx, sd, st, b1, d1, l1, b2, d2, l2, last, next, es1, es2, n, rfl, B, q⟩ := h
    have G_BookSide_with_number : FnOk P w K mg base CX0 1 T.f_BookSide_with_number T.d_BookSide_with_number ["self", "number"] (sp_BookSide_with_number K T.c_Order T.c_BookSide) := ok_BookSide_with_number T
    refine ⟨_, (pss_cons (ps_set (i := 2) sc_Bookorder_with.nd rfl (Or.inl rfl) (pe_meth (pe_dget (hu_of hr) (pe_fld (pv 0) rfl) pe_str (fun _ _ => rfl)) T.cl_BookSide T.mt_BookSide_with_number G_BookSide_with_number hr T.b_BookSide_with_number .nil pass0 (pa_cons (pv 1) pa_nil)))
    (pss_one (ps_ret (pe_ifExp (pt_cmpR op_isN (pv 2) pe_non (nomark _)) (pe_meth (pe_dget (hu_of hr) (pe_fld (pv 0) rfl) pe_str (fun _ _ => rfl)) T.cl_BookSide T.mt_BookSide_with_number G_BookSide_with_number hr T.b_BookSide_with_number .nil pass0 (pa_cons (pv 1) pa_nil)) (pv 2))))), ?_⟩
    have fact_BookSide_0 := T.cl_BookSide; have fact_BookSide_1 := T.na_BookSide__orders; have fact_Book_0 := T.cl_Book; have fact_Book_1 := T.na_Book_last; have fact_Book_2 := T.na_Book__next_number; have fact_Book_3 := T.na_Book__sides; have fact_Book_4 := T.na_Book__stops; have fact_Order_0 := T.cl_Order; have fact_Order_1 := T.na_Order_number; have fact_Order_2 := T.na_Order_house; have fact_Order_3 := T.na_Order_side; have fact_Order_4 := T.na_Order_price; have fact_Order_5 := T.na_Order_shown; have fact_Order_6 := T.na_Order_left; have fact_Order_7 := T.na_Order_visible
    have hob := B.ob
    have hsd1 := sides_buy B.sd
    have hsd2 := sides_sell B.sd
    have S1 := B.s1
    have S2 := B.s2
    have hb1 := S1.ob
    have hb2 := S2.ob
    walk_at "st"
    refine ⟨es1, n, rfl, S1, ?_⟩
    unfold withNum at q
    cases hf : es1.find? (fun e => decide (e.2.2.number = n)) with
    | some e =>
      rw [hf] at q
      walk_at "st"
      exact q
    | none =>
      rw [hf] at q
      walk_at "st"
      refine ⟨es2, n, rfl, S2, ?_⟩
      cases hf2 : es2.find? (fun e => decide (e.2.2.number = n)) with
      | some e =>
        rw [hf2] at q
        exact q
      | none =>
        rw [hf2] at q
        exact q
/-- a book and its side of this name -/
structure BookSideAt (CO CB CK : Addr) (H : Hp) (x dx sd st : Addr) (last : Option Int) (next : Int) (s : Str) (b d l : Addr) (es : List Ent) : Prop where
  ob : H x = some (bookO CK dx last next sd st)
  sd : DGet H sd (.str s) (some (.ref b))
  sb : SideAt CO CB H b d l es
def sp_Book_orders (K : PySem.W.Frag) (CO CB CK : Addr) : Sp := fun vs H Q _ => ∃ (x dx sd st b d l : Addr) (last : Option Int) (next : Int) (es : List Ent) (s : Str), vs = [.ref x, .str s] ∧ BookSideAt CO CB CK H x dx sd st last next s b d l es ∧
  ∀ D H' (ts : List (Addr × Ord)), Same H H' → H D = none → H' D = some (.lst (ts.map fun t => V.ref t.1)) → ts.map (·.2) = es.map (·.2.2) → (∀ t, t ∈ ts → H' t.1 = some (.tup (rowV t.2))) → Q (.ref D) H'
set_option maxHeartbeats 0 in
theorem ok_Book_orders (T : Txt K mg) : FnOk P w K mg base CX0 2 T.f_Book_orders T.d_Book_orders ["self", "side"] (sp_Book_orders K T.c_Order T.c_BookSide T.c_Book) := by
  refine T.F_Book_orders.ok sc_Book_orders (fun vs H Q E h => ?_) (fun cdv A outer s H vs Q E hr h => ?_)
  · obtain ⟨x, dx, sd, st, b, d, l, last, next, es, s, rfl, _⟩ := h
    rfl
  · obtain ⟨x, dx, sd, st, b, d, l, last, next, es, s, rfl, B, q⟩ := h
    have G_BookSide_rows : FnOk P w K mg base CX0 1 T.f_BookSide_rows T.d_BookSide_rows ["self"] (sp_BookSide_rows K T.c_Order T.c_BookSide) := ok_BookSide_rows T
    refine ⟨_, (pss_one (ps_ret (pe_meth0 (pe_dget (hu_of hr) (pe_fld (pv 0) rfl) (pv 1) (fun _ _ => rfl)) T.cl_BookSide T.mt_BookSide_rows G_BookSide_rows hr T.b_BookSide_rows .nil pass0))), ?_⟩
    have fact_BookSide_0 := T.cl_BookSide; have fact_BookSide_1 := T.na_BookSide__orders; have fact_Book_0 := T.cl_Book; have fact_Book_1 := T.na_Book_last; have fact_Book_2 := T.na_Book__next_number; have fact_Book_3 := T.na_Book__sides; have fact_Book_4 := T.na_Book__stops; have fact_Order_0 := T.cl_Order; have fact_Order_1 := T.na_Order_number; have fact_Order_2 := T.na_Order_house; have fact_Order_3 := T.na_Order_side; have fact_Order_4 := T.na_Order_price; have fact_Order_5 := T.na_Order_shown; have fact_Order_6 := T.na_Order_left; have fact_Order_7 := T.na_Order_visible
    have hob := B.ob
    have hsd := B.sd
    have S := B.sb
    have hb := S.ob
    unfold bookO at hob
    walk_at "st"
    exact ⟨es, rfl, S, q⟩
def sp_Book_best (K : PySem.W.Frag) (CO CB CK : Addr) : Sp := fun vs H Q _ => ∃ (x dx sd st b d l : Addr) (last : Option Int) (next : Int) (es : List Ent) (s : Str), vs = [.ref x, .str s] ∧ BookSideAt CO CB CK H x dx sd st last next s b d l es ∧
  Q (match es with | [] => .non | e :: _ => optV e.2.2.price) H
set_option maxHeartbeats 0 in
theorem ok_Book_best (T : Txt K mg) : FnOk P w K mg base CX0 2 T.f_Book_best T.d_Book_best ["self", "side"] (sp_Book_best K T.c_Order T.c_BookSide T.c_Book) := by
  refine T.F_Book_best.ok sc_Book_best (fun vs H Q E h => ?_) (fun cdv A outer s H vs Q E hr h => ?_)
  · obtain ⟨x, dx, sd, st, b, d, l, last, next, es, s, rfl, _⟩ := h
    rfl
  · obtain ⟨x, dx, sd, st, b, d, l, last, next, es, s, rfl, B, q⟩ := h
    have G_BookSide_first : FnOk P w K mg base CX0 1 T.f_BookSide_first T.d_BookSide_first ["self"] (sp_BookSide_first K T.c_Order T.c_BookSide) := ok_BookSide_first T
    refine ⟨_, (pss_cons (ps_set (i := 2) sc_Book_best.nd rfl (Or.inl rfl) (pe_meth0 (pe_dget (hu_of hr) (pe_fld (pv 0) rfl) (pv 1) (fun _ _ => rfl)) T.cl_BookSide T.mt_BookSide_first G_BookSide_first hr T.b_BookSide_first .nil pass0))
    (pss_one (ps_ret (pe_ifExp (pt_cmpR op_isN (pv 2) pe_non (nomark _)) pe_non (pe_fld (pv 2) rfl))))), ?_⟩
    have fact_BookSide_0 := T.cl_BookSide; have fact_BookSide_1 := T.na_BookSide__orders; have fact_Book_0 := T.cl_Book; have fact_Book_1 := T.na_Book_last; have fact_Book_2 := T.na_Book__next_number; have fact_Book_3 := T.na_Book__sides; have fact_Book_4 := T.na_Book__stops; have fact_Order_0 := T.cl_Order; have fact_Order_1 := T.na_Order_number; have fact_Order_2 := T.na_Order_house; have fact_Order_3 := T.na_Order_side; have fact_Order_4 := T.na_Order_price; have fact_Order_5 := T.na_Order_shown; have fact_Order_6 := T.na_Order_left; have fact_Order_7 := T.na_Order_visible
    have hob := B.ob
    have hsd := B.sd
    have S := B.sb
    have hb := S.ob
    unfold bookO at hob
    cases es with
    | nil =>
      walk_at "st"
      refine ⟨[], rfl, S, ?_⟩
      walk_at "st"
      exact q
    | cons e r =>
      have he := S.en e (List.mem_cons_self ..)
      unfold ordO at he
      walk_at "st"
      refine ⟨e :: r, rfl, S, ?_⟩
      walk_at "st"
      exact q
def sp_Bookstop_with (K : PySem.W.Frag) (CO CB CK : Addr) : Sp := fun vs H Q _ => ∃ (x dx sd st : Addr) (last : Option Int) (next : Int) (n : Int), vs = [.ref x, .int n] ∧ H x = some (bookO CK dx last next sd st) ∧ H st = some (.lst []) ∧ Q .non H
set_option maxHeartbeats 0 in
theorem ok_Bookstop_with (T : Txt K mg) : FnOk P w K mg base CX0 1 T.f_Bookstop_with T.d_Bookstop_with ["self", "number"] (sp_Bookstop_with K T.c_Order T.c_BookSide T.c_Book) := by
  refine T.F_Bookstop_with.ok sc_Bookstop_with (fun vs H Q E h => ?_) (fun cdv A outer s H vs Q E hr h => ?_)
  · obtain ⟨x, dx, sd, st, last, next, n, rfl, _⟩ := h
    rfl
  · obtain ⟨x, dx, sd, st, last, next, n, rfl, hob, hst, q⟩ := h
    
    refine ⟨_, (pss_cons (ps_for PassesOwn.never rfl (pi_list (pe_fld (pv 0) rfl)) (pg_name (i := 2) sc_Bookstop_with.nd rfl (Or.inl rfl))
      (pss_one (ps_if (pt_cmpR op_eq (pe_fld (pv 2) rfl) (pv 1) (nomark _))
        (pss_one (ps_ret (pv 2)))
        pss_nil)))
    (pss_one (ps_ret pe_non))), ?_⟩
    have fact_BookSide_0 := T.cl_BookSide; have fact_BookSide_1 := T.na_BookSide__orders; have fact_Book_0 := T.cl_Book; have fact_Book_1 := T.na_Book_last; have fact_Book_2 := T.na_Book__next_number; have fact_Book_3 := T.na_Book__sides; have fact_Book_4 := T.na_Book__stops; have fact_Order_0 := T.cl_Order; have fact_Order_1 := T.na_Order_number; have fact_Order_2 := T.na_Order_house; have fact_Order_3 := T.na_Order_side; have fact_Order_4 := T.na_Order_price; have fact_Order_5 := T.na_Order_shown; have fact_Order_6 := T.na_Order_left; have fact_Order_7 := T.na_Order_visible
    unfold bookO at hob
    walk_at "st"
    refine for_list (K := K) (a := st) (xs := []) (fun i σ H' => H' = H ∧ ∃ v : Option V, σ = [some (.ref x), some (.int n), v]) ⟨rfl, none, rfl⟩ (fun i σ H' _ ⟨e, _⟩ => by rw [e]; exact SqL.of hst) ?_ ?_
    · rintro i y σ H' hy _
      cases hy
    · rintro σ H' ⟨rfl, v, rfl⟩
      walk_at "st"
      exact q
def sp_Booktake_number (K : PySem.W.Frag) (CO CB CK : Addr) : Sp := fun vs H Q _ => ∃ (x dx sd st : Addr) (last : Option Int) (next : Int), vs = [.ref x] ∧ H x = some (bookO CK dx last next sd st) ∧ Q (.int next) (upd H x (bookO CK dx last (next + 1) sd st))
set_option maxHeartbeats 0 in
theorem ok_Booktake_number (T : Txt K mg) : FnOk P w K mg base CX0 1 T.f_Booktake_number T.d_Booktake_number ["self"] (sp_Booktake_number K T.c_Order T.c_BookSide T.c_Book) := by
  refine T.F_Booktake_number.ok sc_Booktake_number (fun vs H Q E h => ?_) (fun cdv A outer s H vs Q E hr h => ?_)
  · obtain ⟨x, dx, sd, st, last, next, rfl, _⟩ := h
    rfl
  · obtain ⟨x, dx, sd, st, last, next, rfl, hob, q⟩ := h
    
    refine ⟨_, (pss_cons (ps_set (i := 1) sc_Booktake_number.nd rfl (Or.inl rfl) (pe_fld (pv 0) rfl))
    (pss_cons (ps_fldaug (pv 0) pe_int in_add)
    (pss_one (ps_ret (pv 1))))), ?_⟩
    have fact_BookSide_0 := T.cl_BookSide; have fact_BookSide_1 := T.na_BookSide__orders; have fact_Book_0 := T.cl_Book; have fact_Book_1 := T.na_Book_last; have fact_Book_2 := T.na_Book__next_number; have fact_Book_3 := T.na_Book__sides; have fact_Book_4 := T.na_Book__stops; have fact_Order_0 := T.cl_Order; have fact_Order_1 := T.na_Order_number; have fact_Order_2 := T.na_Order_house; have fact_Order_3 := T.na_Order_side; have fact_Order_4 := T.na_Order_price; have fact_Order_5 := T.na_Order_shown; have fact_Order_6 := T.na_Order_left; have fact_Order_7 := T.na_Order_visible
    unfold bookO at hob q
    walk_at "st"
    exact q
def sp_Bookfirst_reached (K : PySem.W.Frag) (CO CB CK : Addr) : Sp := fun vs H Q _ => ∃ (x dx sd st : Addr) (last : Option Int) (next : Int), vs = [.ref x] ∧ H x = some (bookO CK dx last next sd st) ∧ H st = some (.lst []) ∧ Q .non H
set_option maxHeartbeats 0 in
theorem ok_Bookfirst_reached (T : Txt K mg) : FnOk P w K mg base CX0 1 T.f_Bookfirst_reached T.d_Bookfirst_reached ["self"] (sp_Bookfirst_reached K T.c_Order T.c_BookSide T.c_Book) := by
  refine T.F_Bookfirst_reached.ok sc_Bookfirst_reached (fun vs H Q E h => ?_) (fun cdv A outer s H vs Q E hr h => ?_)
  · obtain ⟨x, dx, sd, st, last, next, rfl, _⟩ := h
    rfl
  · obtain ⟨x, dx, sd, st, last, next, rfl, hob, hst, q⟩ := h
    
    refine ⟨_, (pss_cons (ps_for PassesOwn.never rfl (pi_list (pe_fld (pv 0) rfl)) (pg_name (i := 1) sc_Bookfirst_reached.nd rfl (Or.inl rfl))
      (pss_one ps_never))
    (pss_one (ps_ret pe_non))), ?_⟩
    have fact_BookSide_0 := T.cl_BookSide; have fact_BookSide_1 := T.na_BookSide__orders; have fact_Book_0 := T.cl_Book; have fact_Book_1 := T.na_Book_last; have fact_Book_2 := T.na_Book__next_number; have fact_Book_3 := T.na_Book__sides; have fact_Book_4 := T.na_Book__stops; have fact_Order_0 := T.cl_Order; have fact_Order_1 := T.na_Order_number; have fact_Order_2 := T.na_Order_house; have fact_Order_3 := T.na_Order_side; have fact_Order_4 := T.na_Order_price; have fact_Order_5 := T.na_Order_shown; have fact_Order_6 := T.na_Order_left; have fact_Order_7 := T.na_Order_visible
    unfold bookO at hob
    walk_at "st"
    refine for_list (K := K) (a := st) (xs := []) (fun i σ H' => H' = H ∧ ∃ v : Option V, σ = [some (.ref x), v]) ⟨rfl, none, rfl⟩ (fun i σ H' _ ⟨e, _⟩ => by rw [e]; exact SqL.of hst) ?_ ?_
    · rintro i y σ H' hy _
      cases hy
    · rintro σ H' ⟨rfl, v, rfl⟩
      walk_at "st"
      exact q

/-! ### the order of a side, and what an order does to the other side -/
theorem takes_trans {s : Str} {a p p' : Int} (h1 : takes s (some a) p = true) (h2 : takes s (some p) p' = true) : takes s (some a) p' = true := by
  unfold takes at *
  dsimp only at *
  by_cases b : buyS s = true
  · rw [if_pos b] at *
    have := of_decide_eq_true h1
    have := of_decide_eq_true h2
    exact decide_eq_true (by omega)
  · rw [if_neg b] at *
    have := of_decide_eq_true h1
    have := of_decide_eq_true h2
    exact decide_eq_true (by omega)
theorem takes_step {s : Str} {d p p' : Int} (h1 : takes s (some d) p = false) (h2 : takes s (some d) p' = true) : takes s (some p) p' = true := by
  unfold takes at *
  dsimp only at *
  by_cases b : buyS s = true
  · rw [if_pos b] at *
    have := of_decide_eq_false h1
    have := of_decide_eq_true h2
    exact decide_eq_true (by omega)
  · rw [if_neg b] at *
    have := of_decide_eq_false h1
    have := of_decide_eq_true h2
    exact decide_eq_true (by omega)
theorem takes_self (s : Str) (p : Int) : takes s (some p) p = true := by
  unfold takes
  dsimp only
  split <;> exact decide_eq_true (by omega)
theorem mono_iff {es : List Ent} {p : Int} : Mono es p ↔ es.Pairwise fun a b => accE p b = true → accE p a = true := by
  rw [List.pairwise_iff_getElem]
  constructor
  · intro h i j hi hj hij
    exact h i j _ _ (by omega) (List.getElem?_eq_getElem hi) (List.getElem?_eq_getElem hj)
  · intro h i j e e' hij hi hj hp
    obtain ⟨hi1, hi2⟩ := List.getElem?_eq_some_iff.mp hi
    obtain ⟨hj1, hj2⟩ := List.getElem?_eq_some_iff.mp hj
    by_cases z : i = j
    · subst z
      rw [hi] at hj
      cases hj
      exact hp
    · have := h i j hi1 hj1 (by omega)
      rw [hi2, hj2] at this
      exact this hp
theorem place_split {p : Int} : ∀ {es : List Ent}, Mono es p → (∀ x, x ∈ es.take (place es p) → accE p x = true) ∧ ∀ x, x ∈ es.drop (place es p) → accE p x = false
  | [], _ => ⟨fun x h => (by rw [List.take_nil] at h; cases h), fun x h => (by rw [List.drop_nil] at h; cases h)⟩
  | e :: r, hm => by
    have hpw := List.pairwise_cons.mp (mono_iff.mp hm)
    have ih := place_split (mono_iff.mpr hpw.2)
    by_cases a : accE p e = true
    · have e1 : place (e :: r) p = place r p + 1 := by
        unfold place
        rw [List.takeWhile_cons, if_pos a, List.length_cons]
      rw [e1, List.take_succ_cons, List.drop_succ_cons]
      refine ⟨fun x h => ?_, ih.2⟩
      rcases List.mem_cons.mp h with h | h
      · rw [h]
        exact a
      · exact ih.1 x h
    · have e1 : place (e :: r) p = 0 := by
        unfold place
        rw [List.takeWhile_cons, if_neg a]
        rfl
      rw [e1, List.take_zero, List.drop_zero]
      refine ⟨fun x h => (by cases h), fun x h => ?_⟩
      cases c : accE p x with
      | false => rfl
      | true =>
        exfalso
        rcases List.mem_cons.mp h with h | h
        · rw [h] at c
          exact a c
        · exact a (hpw.1 x h c)
/-- one side in its order: sides and prices stand, each shows a part -/
structure Rank (s : Str) (es : List Ent) : Prop where
  side : ∀ e, e ∈ es → e.2.2.side = s
  price : ∀ e, e ∈ es → ∃ p, e.2.2.price = some p
  vis : ∀ e, e ∈ es → 1 ≤ e.2.2.visible ∧ e.2.2.visible ≤ e.2.2.left ∧ 0 ≤ e.2.2.shown
  mono : ∀ p, Mono es p
theorem Rank.nil (s : Str) : Rank s [] := ⟨fun _ h => (by cases h), fun _ h => (by cases h), fun _ h => (by cases h), fun p => mono_iff.mpr List.Pairwise.nil⟩
theorem Rank.tail {s : Str} {e : Ent} {es : List Ent} (h : Rank s (e :: es)) : Rank s es :=
  ⟨fun x hx => h.side x (List.mem_cons_of_mem _ hx), fun x hx => h.price x (List.mem_cons_of_mem _ hx), fun x hx => h.vis x (List.mem_cons_of_mem _ hx), fun p => mono_iff.mpr (List.pairwise_cons.mp (mono_iff.mp (h.mono p))).2⟩
theorem accE_of {p q : Int} {e : Ent} (h : e.2.2.price = some q) : accE p e = takes e.2.2.side (some q) p := by
  unfold accE
  rw [h]
theorem Rank.insert {s : Str} {e : Ent} {es : List Ent} {p : Int} (h : Rank s es) (hs : e.2.2.side = s) (hp : e.2.2.price = some p) (hv : 1 ≤ e.2.2.visible ∧ e.2.2.visible ≤ e.2.2.left ∧ 0 ≤ e.2.2.shown) : Rank s (insE es (place es p) e) := by
  have mem : ∀ {x}, x ∈ insE es (place es p) e → x = e ∨ x ∈ es := fun hx => insE_mem.mp hx
  obtain ⟨hb, ha⟩ := place_split (h.mono p)
  refine ⟨fun x hx => ?_, fun x hx => ?_, fun x hx => ?_, fun p' => mono_iff.mpr ?_⟩
  · rcases mem hx with z | z
    · rw [z]; exact hs
    · exact h.side x z
  · rcases mem hx with z | z
    · rw [z]; exact ⟨p, hp⟩
    · exact h.price x z
  · rcases mem hx with z | z
    · rw [z]; exact hv
    · exact h.vis x z
  · have hpw := mono_iff.mp (h.mono p')
    have hpw2 : (es.take (place es p) ++ es.drop (place es p)).Pairwise fun a b => accE p' b = true → accE p' a = true := by
      rw [List.take_append_drop]
      exact hpw
    rw [List.pairwise_append] at hpw2
    have before : ∀ x, x ∈ es.take (place es p) → accE p' e = true → accE p' x = true := fun x hx hz => by
      have hm := List.mem_of_mem_take hx
      obtain ⟨q, hq⟩ := h.price x hm
      have h1 := hb x hx
      rw [accE_of hq, h.side x hm] at h1 ⊢
      rw [accE_of hp, hs] at hz
      exact takes_trans h1 hz
    have after : ∀ x, x ∈ es.drop (place es p) → accE p' x = true → accE p' e = true := fun x hx hz => by
      have hm := List.mem_of_mem_drop hx
      obtain ⟨q, hq⟩ := h.price x hm
      have h1 := ha x hx
      rw [accE_of hq, h.side x hm] at h1 hz
      rw [accE_of hp, hs]
      exact takes_step h1 hz
    unfold insE
    rw [List.append_assoc, List.pairwise_append]
    refine ⟨hpw2.1, List.pairwise_cons.mpr ⟨fun x hx => after x hx, hpw2.2.1⟩, fun x hx y hy => ?_⟩
    rcases List.mem_cons.mp hy with z | z
    · rw [z]
      exact before x hx
    · exact hpw2.2.2 x hx y z
theorem showNext_vis {o : Ord} (h1 : 1 ≤ o.left) (h2 : 0 ≤ o.shown) : 1 ≤ o.showNext.visible ∧ o.showNext.visible ≤ o.showNext.left ∧ 0 ≤ o.showNext.shown := by
  unfold Ord.showNext
  dsimp only
  split
  · omega
  · split <;> omega
theorem Rank.trade {s : Str} {e : Ent} {es : List Ent} {n p : Int} (h : Rank s (e :: es)) (hp : e.2.2.price = some p) (hn : 1 ≤ n ∧ n ≤ e.2.2.visible) : Rank s (tradeF e es n p) := by
  have hv := h.vis e List.mem_cons_self
  have hs := h.side e List.mem_cons_self
  unfold tradeF
  dsimp only
  split
  · next z =>
    split
    · next z2 =>
      refine h.tail.insert (e := (e.1, e.2.1, Ord.showNext { e.2.2 with left := e.2.2.left - n, visible := e.2.2.visible - n })) ?_ ?_ ?_
      · exact hs
      · exact hp
      · exact showNext_vis (o := { e.2.2 with left := e.2.2.left - n, visible := e.2.2.visible - n }) (by dsimp only; omega) hv.2.2
    · exact h.tail
  · next z =>
    have ht := h.tail
    refine ⟨fun x hx => ?_, fun x hx => ?_, fun x hx => ?_, fun p' => mono_iff.mpr ?_⟩
    · rcases List.mem_cons.mp hx with c | c
      · rw [c]; exact hs
      · exact ht.side x c
    · rcases List.mem_cons.mp hx with c | c
      · rw [c]; exact ⟨p, hp⟩
      · exact ht.price x c
    · rcases List.mem_cons.mp hx with c | c
      · rw [c]; dsimp only; omega
      · exact ht.vis x c
    · have hpw := List.pairwise_cons.mp (mono_iff.mp (h.mono p'))
      refine List.pairwise_cons.mpr ⟨fun x hx => ?_, hpw.2⟩
      exact hpw.1 x hx
/-- how far an order has come -/
structure Mt where
  es : List Ent
  left : Int
  last : Option Int
  fills : List (Int × Str × Int × Int)
  gone : List Int
def prcE (e : Ent) : Int := e.2.2.price.getD 0
def goesM (t : Ord) (m : Mt) : Option Ent := match m.es with
  | [] => none
  | e :: _ => if 0 < m.left ∧ takes t.side t.price (prcE e) = true then some e else none
def qtyM (m : Mt) (e : Ent) : Int := if e.2.2.visible < m.left then e.2.2.visible else m.left
def stepM (t : Ord) (m : Mt) (e : Ent) : Mt := if e.2.2.house = t.house then { m with es := m.es.tail, gone := m.gone ++ [e.2.2.number] } else ⟨tradeF e m.es.tail (qtyM m e) (prcE e), m.left - qtyM m e, some (prcE e), m.fills ++ [(e.2.2.number, e.2.2.house, prcE e, qtyM m e)], m.gone⟩
def runM (t : Ord) : Nat → Mt → Mt
  | 0, m => m
  | k + 1, m => match goesM t m with
    | none => m
    | some e => runM t k (stepM t m e)
def sizeM (m : Mt) : Nat := m.left.toNat + m.es.length
theorem tradeF_len (e : Ent) (es : List Ent) (n p : Int) : (tradeF e es n p).length ≤ es.length + 1 := by
  unfold tradeF
  dsimp only
  split
  · split
    · rw [(insE_perm _ _ _).length_eq, List.length_cons]
      exact Nat.le_refl _
    · exact Nat.le_succ _
  · exact Nat.le_refl _
theorem goesM_some {t : Ord} {m : Mt} {e : Ent} (h : goesM t m = some e) : m.es = e :: m.es.tail ∧ 0 < m.left ∧ takes t.side t.price (prcE e) = true := by
  unfold goesM at h
  split at h
  · cases h
  · next e' r hes =>
    split at h
    · next z =>
      cases h
      rw [hes]
      exact ⟨rfl, z.1, z.2⟩
    · cases h
theorem stepM_less {t : Ord} {m : Mt} {e : Ent} {s : Str} (hr : Rank s m.es) (h : goesM t m = some e) : sizeM (stepM t m e) < sizeM m ∧ 0 ≤ (stepM t m e).left ∧ Rank s (stepM t m e).es := by
  obtain ⟨h1, h2, h3⟩ := goesM_some h
  rw [h1] at hr
  have hv := hr.vis e List.mem_cons_self
  obtain ⟨p, hp⟩ := hr.price e List.mem_cons_self
  have hpp : prcE e = p := by unfold prcE; rw [hp]; rfl
  have hl : m.es.length = m.es.tail.length + 1 := by rw [h1]; rfl
  unfold stepM sizeM
  split
  · dsimp only
    exact ⟨by omega, by omega, hr.tail⟩
  · dsimp only
    have hq : 1 ≤ qtyM m e ∧ qtyM m e ≤ e.2.2.visible ∧ qtyM m e ≤ m.left := by
      unfold qtyM
      split <;> omega
    have := tradeF_len e m.es.tail (qtyM m e) (prcE e)
    exact ⟨by omega, by omega, hr.trade (by rw [hpp]; exact hp) ⟨hq.1, hq.2.1⟩⟩
theorem runM_stop {t : Ord} {m : Mt} (h : goesM t m = none) : ∀ k, runM t k m = m
  | 0 => rfl
  | k + 1 => by
    show (match goesM t m with | none => m | some e => runM t k (stepM t m e)) = m
    rw [h]
theorem runM_go {t : Ord} {m : Mt} {e : Ent} (h : goesM t m = some e) (k : Nat) : runM t (k + 1) m = runM t k (stepM t m e) := by
  show (match goesM t m with | none => m | some e => runM t k (stepM t m e)) = _
  rw [h]
theorem runM_fuel {s : Str} {t : Ord} : ∀ (k : Nat) {m : Mt}, Rank s m.es → sizeM m ≤ k → ∀ j, sizeM m ≤ j → runM t k m = runM t j m := by
  intro k
  induction k with
  | zero =>
    intro m hr hk j hj
    cases h : goesM t m with
    | none => rw [runM_stop h, runM_stop h]
    | some e =>
      have := stepM_less hr h
      omega
  | succ k ih =>
    intro m hr hk j hj
    cases h : goesM t m with
    | none => rw [runM_stop h, runM_stop h]
    | some e =>
      have hs := stepM_less hr h
      obtain ⟨j', rfl⟩ : ∃ j', j = j' + 1 := ⟨j - 1, by omega⟩
      rw [runM_go h, runM_go h]
      exact ih hs.2.2 (by omega) j' (by omega)
theorem runM_next {s : Str} {t : Ord} {m : Mt} {e : Ent} (hr : Rank s m.es) (h : goesM t m = some e) : runM t (sizeM m) m = runM t (sizeM (stepM t m e)) (stepM t m e) := by
  have hs := stepM_less hr h
  obtain ⟨j, ej⟩ : ∃ j, sizeM m = j + 1 := ⟨sizeM m - 1, by omega⟩
  rw [ej, runM_go h]
  exact runM_fuel j hs.2.2 (by omega) _ (Nat.le_refl _)
def firstV : List Ent → V
  | [] => .non
  | e :: _ => .ref e.1

/-- all but one object stay -/
def KeepX (x : Addr) (H H' : Hp) : Prop := ∀ z o, z ≠ x → H z = some o → H' z = some o
theorem KeepX.then {x : Addr} {H H1 H2 : Hp} (h : KeepX x H H1) (e : Same H1 H2) : KeepX x H H2 := fun z o nz hz => e z o (h z o nz hz)
theorem KeepX.set {x : Addr} {H H1 : Hp} {o : HO} (h : KeepX x H H1) : KeepX x H (upd H1 x o) := fun z o nz hz => by
  rw [upd_ne nz]
  exact h z o nz hz
theorem keepX_of {x : Addr} {H H' : Hp} (e : Same H H') : KeepX x H H' := fun z o _ hz => e z o hz
theorem KeepX.lst {x : Addr} {H H' : Hp} (k : KeepX x H H') {c d : Addr} {l : List (Str × V)} (hx : H x = some (.ins c d l)) {a : Addr} {xs : List V} (h : H a = some (.lst xs)) : H' a = some (.lst xs) := k a _ (fun z => by rw [z, hx] at h; cases h) h

theorem smallM {n : Nat} (h : n ≤ 2000000) : n < sizeLine := Nat.lt_of_le_of_lt h (by decide)
def otherS (s : Str) : Str := if buyS s = true then "sell" else "buy"
def sp_other_side (K : PySem.W.Frag) : Sp := fun vs H Q _ => ∃ s : Str, vs = [.str s] ∧ Q (.str (otherS s)) H
set_option maxHeartbeats 0 in
theorem ok_other_side (T : Txt K mg) : FnOk P w K mg base CX0 1 T.f_other_side T.d_other_side ["side"] (sp_other_side K) := by
  refine T.F_other_side.ok sc_other_side (fun vs H Q E h => ?_) (fun cdv A outer s H vs Q E hr h => ?_)
  · obtain ⟨s, rfl, _⟩ := h
    rfl
  · obtain ⟨s, rfl, q⟩ := h
    refine ⟨_, (pss_one (ps_ret (pe_ifExp (pt_cmpR op_eq (pv 0) pe_str (nomark _)) pe_str pe_str))), ?_⟩
    unfold otherS at q
    walk_at "st"
    refine iteB (fun h => ?_) (fun h => ?_)
    · rw [if_pos (show buyS s = true from h)] at q
      exact q
    · rw [if_neg (by rw [show buyS s = false from h]; exact Bool.false_ne_true)] at q
      exact q
def repO (C dx : Addr) (n : Int) (ho si : Str) (fl rm : Addr) (rest : Int) : HO := .ins C dx [("number", .int n), ("house", .str ho), ("side", .str si), ("fills", .ref fl), ("removed", .ref rm), ("resting", .int rest)]
def sp_Report_init (K : PySem.W.Frag) (C : Addr) : Sp := fun vs H Q _ => ∃ (x dx : Addr) (n : Int) (ho si : Str), vs = [.ref x, .int n, .str ho, .str si] ∧ H x = some (.ins C dx []) ∧
  ∀ fl rm H', KeepX x H H' → H' x = some (repO C dx n ho si fl rm 0) → H' fl = some (.lst []) → H' rm = some (.lst []) → H fl = none → H rm = none → fl ≠ rm → Q .non H'
set_option maxHeartbeats 0 in
theorem ok_Report_init (T : Txt K mg) : FnOk P w K mg base CX0 1 T.f_Report_init T.d_Report_init ["self", "number", "house", "side"] (sp_Report_init K T.c_Report) := by
  refine T.F_Report_init.ok sc_Report_init (fun vs H Q E h => ?_) (fun cdv A outer s H vs Q E hr h => ?_)
  · obtain ⟨x, dx, n, ho, si, rfl, _⟩ := h
    rfl
  · obtain ⟨x, dx, n, ho, si, rfl, hx, q⟩ := h
    
    refine ⟨_, (pss_cons (ps_fld (pv 0) (pv 1) rfl)
    (pss_cons (ps_fld (pv 0) (pv 2) rfl)
    (pss_cons (ps_fld (pv 0) (pv 3) rfl)
    (pss_cons (ps_fld (pv 0) (pe_lst pa_nil) rfl)
    (pss_cons (ps_fld (pv 0) (pe_lst pa_nil) rfl)
    (pss_one (ps_fld (pv 0) pe_int rfl))))))), ?_⟩
    have fact_Report_0 := T.cl_Report; have fact_Report_1 := T.na_Report_number; have fact_Report_2 := T.na_Report_house; have fact_Report_3 := T.na_Report_side; have fact_Report_4 := T.na_Report_fills; have fact_Report_5 := T.na_Report_removed; have fact_Report_6 := T.na_Report_resting
    refine ⟨_, rfl, _, rfl, setF hx T.cl_Report T.na_Report_number rfl ?_⟩
    refine ⟨_, rfl, _, rfl, setF upd_same T.cl_Report T.na_Report_house rfl ?_⟩
    refine ⟨_, rfl, _, rfl, setF upd_same T.cl_Report T.na_Report_side rfl ?_⟩
    simp only [upd_upd]
    have k1 : KeepX x H (upd H x (.ins T.c_Report dx (putF "side" (.str si) (putF "house" (.str ho) (putF "number" (.int n) []))))) := (keepX_of (Same.refl H)).set
    have hx1 : upd H x (.ins T.c_Report dx (putF "side" (.str si) (putF "house" (.str ho) (putF "number" (.int n) [])))) x = some (.ins T.c_Report dx [("number", .int n), ("house", .str ho), ("side", .str si)]) := upd_same
    have fr1 : ∀ z, z ≠ x → upd H x (.ins T.c_Report dx (putF "side" (.str si) (putF "house" (.str ho) (putF "number" (.int n) [])))) z = H z := fun z hz => upd_ne hz
    generalize upd H x _ = H1 at *
    walk_at "st"
    intro fl nfl
    have nfx : fl ≠ x := fun z => by rw [z, hx1] at nfl; cases nfl
    have hx2 : upd H1 fl (.lst []) x = some (.ins T.c_Report dx [("number", .int n), ("house", .str ho), ("side", .str si)]) := (upd_ne nfx.symm).trans hx1
    refine ⟨_, rfl, setF hx2 T.cl_Report T.na_Report_fills rfl ?_⟩
    have nfl0 : H fl = none := by rw [← fr1 fl nfx]; exact nfl
    have k2 : KeepX x H (upd (upd H1 fl (.lst [])) x (.ins T.c_Report dx (putF "fills" (.ref fl) [("number", .int n), ("house", .str ho), ("side", .str si)]))) := (k1.then (same_upd nfl)).set
    have hx3 : upd (upd H1 fl (.lst [])) x (.ins T.c_Report dx (putF "fills" (.ref fl) [("number", .int n), ("house", .str ho), ("side", .str si)])) x = some (.ins T.c_Report dx [("number", .int n), ("house", .str ho), ("side", .str si), ("fills", .ref fl)]) := upd_same
    have hfl3 : upd (upd H1 fl (.lst [])) x (.ins T.c_Report dx (putF "fills" (.ref fl) [("number", .int n), ("house", .str ho), ("side", .str si)])) fl = some (.lst []) := (upd_ne nfx).trans upd_same
    have fr3 : ∀ z, z ≠ x → z ≠ fl → upd (upd H1 fl (.lst [])) x (.ins T.c_Report dx (putF "fills" (.ref fl) [("number", .int n), ("house", .str ho), ("side", .str si)])) z = H z := fun z hz hf => by rw [upd_ne hz, upd_ne hf, fr1 z hz]
    generalize upd (upd H1 fl _) x _ = H3 at *
    walk_at "st"
    intro rm nrm
    have nrx : rm ≠ x := fun z => by rw [z, hx3] at nrm; cases nrm
    have nrf : rm ≠ fl := fun z => by rw [z, hfl3] at nrm; cases nrm
    have hx4 : upd H3 rm (.lst []) x = some (.ins T.c_Report dx [("number", .int n), ("house", .str ho), ("side", .str si), ("fills", .ref fl)]) := (upd_ne nrx.symm).trans hx3
    refine ⟨_, rfl, setF hx4 T.cl_Report T.na_Report_removed rfl ?_⟩
    refine ⟨_, rfl, setF upd_same T.cl_Report T.na_Report_resting rfl ?_⟩
    rw [upd_upd]
    have nrm0 : H rm = none := by rw [← fr3 rm nrx nrf]; exact nrm
    refine q fl rm _ ((k2.then (same_upd nrm)).set) upd_same ?_ ?_ nfl0 nrm0 nrf.symm
    · rw [upd_ne nfx, upd_ne nrf.symm]
      exact hfl3
    · rw [upd_ne nrx]
      exact upd_same
def encFill (x : Int × Str × Int × Int) : List V := [.int x.1, .str x.2.1, .int x.2.2.1, .int x.2.2.2]
/-- what stays but for the places that a match may touch -/
def FrM (A : List Addr) (la o x fl rm : Addr) (H H' : Hp) : Prop := ∀ z v, z ∉ A → z ≠ la → z ≠ o → z ≠ x → z ≠ fl → z ≠ rm → H z = some v → H' z = some v
structure EnterIn (CO CB CK : Addr) (H : Hp) (x dx sd st b d l b2 d2 l2 o dxo : Addr) (last : Option Int) (next : Int) (es es2 : List Ent) (t : Ord) : Prop where
  ob : H x = some (bookO CK dx last next sd st)
  sdo : DGet H sd (.str (otherS t.side)) (some (.ref b))
  sds : DGet H sd (.str t.side) (some (.ref b2))
  s1 : SideAt CO CB H b d l es
  s2 : SideAt CO CB H b2 d2 l2 es2
  r1 : Rank (otherS t.side) es
  r2 : Rank t.side es2
  ho : H o = some (ordO CO dxo t)
  n1 : ∀ e, e ∈ es → e.1 ≠ o
  n2 : ∀ e, e ∈ es2 → e.1 ≠ o
  l0 : 1 ≤ t.left
  sh : 0 ≤ t.shown
  dj : ∀ e, e ∈ es → ∀ y, y ∈ es2 → e.1 ≠ y.1
  nll : l ≠ l2
  sdv : ∃ c1 c2, H sd = some (sidesO c1 c2)
theorem dget_keep {H H' : Hp} {a : Addr} {s : Str} {o : Option V} (h : DGet H a (.str s) o) (k : ∀ v, H a = some v → H' a = some v) : DGet H' a (.str s) o := by
  rcases h with ⟨kvs, y, h | ⟨z, h⟩, e1, e2⟩ | ⟨kvs, y, c, _, e1, _⟩
  · exact .inl ⟨kvs, y, .inl (k _ h), e1, e2⟩
  · exact .inl ⟨kvs, y, .inr ⟨z, k _ h⟩, e1, e2⟩
  · cases e1
theorem EnterIn.same {CO CB CK : Addr} {H H' : Hp} {x dx sd st b d l b2 d2 l2 o dxo : Addr} {last : Option Int} {next : Int} {es es2 : List Ent} {t : Ord} (E : EnterIn CO CB CK H x dx sd st b d l b2 d2 l2 o dxo last next es es2 t) (e : Same H H') : EnterIn CO CB CK H' x dx sd st b d l b2 d2 l2 o dxo last next es es2 t :=
  ⟨e _ _ E.ob, dget_keep E.sdo fun v => e _ v, dget_keep E.sds fun v => e _ v, E.s1.same e, E.s2.same e, E.r1, E.r2, e _ _ E.ho, E.n1, E.n2, E.l0, E.sh, E.dj, E.nll, E.sdv.elim fun c1 h => h.elim fun c2 h => ⟨c1, c2, e _ _ h⟩⟩
theorem Tups.frame {α : Type} {enc : α → List V} {H H' : Hp} {l : Addr} {ps : List Addr} {xs : List α} (h : Tups enc H l ps xs) (k1 : H' l = H l) (k2 : ∀ a ys, H a = some (.tup ys) → H' a = some (.tup ys)) : Tups enc H' l ps xs :=
  ⟨k1.trans h.lst, h.len, fun i p x a b => k2 _ _ (h.row i p x a b)⟩
theorem tradeF_mem {e y : Ent} {es : List Ent} {n p : Int} (h : y ∈ tradeF e es n p) : y.1 = e.1 ∨ y ∈ es := by
  unfold tradeF at h
  dsimp only at h
  split at h
  · split at h
    · rcases insE_mem.mp h with z | z
      · exact .inl (by rw [z])
      · exact .inr z
    · exact .inr h
  · rcases List.mem_cons.mp h with z | z
    · exact .inl (by rw [z])
    · exact .inr z
def muM (o l : Addr) (H : Hp) : Nat := match H o, H l with
  | some (.ins _ _ [_, _, _, _, _, (_, .int lf), _]), some (.lst xs) => lf.toNat + xs.length
  | _, _ => 0
theorem muM_eq {o l C dxo : Addr} {H : Hp} {t : Ord} {m : Mt} (h1 : H o = some (ordO C dxo { t with left := m.left })) (h2 : H l = some (.lst (refs m.es))) : muM o l H = sizeM m := by
  unfold muM
  rw [h1, h2]
  unfold ordO refs sizeM
  show m.left.toNat + (List.map _ m.es).length = _
  rw [List.length_map]
def availM (t : Ord) (es : List Ent) : Int := ((es.filter (canT t)).map (fun e => e.2.2.left)).sum
def restsM (kind : Str) (m : Mt) : Bool := decide (V.str kind = V.str "rest") && decide (m.left > 0)
def sp_Bookenter (K : PySem.W.Frag) (CO CB CK CR : Addr) : Sp := fun vs H Q _ => ∃ (_ : Unit) (x dx sd st b d l b2 d2 l2 o dxo : Addr) (last : Option Int) (next : Int) (es es2 : List Ent) (t : Ord) (kind : Str), vs = [.ref x, .ref o, .str kind] ∧ EnterIn CO CB CK H x dx sd st b d l b2 d2 l2 o dxo last next es es2 t ∧ (V.str kind = V.str "rest" → ∃ p, t.price = some p) ∧ es.length + es2.length ≤ 900 ∧ t.left ≤ 1000000 ∧
  (V.str kind = V.str "all" → availM t es < t.left → ∀ r dr fl rm H', Same H H' → H r = none → H fl = none → H rm = none → H' r = some (repO CR dr t.number t.house t.side fl rm 0) → H' fl = some (.lst []) → H' rm = some (.lst []) → Q (.ref r) H') ∧
  (¬ (V.str kind = V.str "all" ∧ availM t es < t.left) → ∀ (r dr fl rm : Addr) (fs : List Addr) (m : Mt) (H' : Hp), m = runM t (sizeM ⟨es, t.left, last, [], []⟩) ⟨es, t.left, last, [], []⟩ → H r = none → H fl = none → H rm = none → H' r = some (repO CR dr t.number t.house t.side fl rm (if restsM kind m = true then m.left else 0)) → Tups encFill H' fl fs m.fills → H' rm = some (.lst (m.gone.map V.int)) → H' x = some (bookO CK dx m.last next sd st) →
    SideAt CO CB H' b d l m.es → SideAt CO CB H' b2 d2 l2 (if restsM kind m = true then insE es2 (place es2 (t.price.getD 0)) (o, dxo, Ord.showNext { t with left := m.left }) else es2) → (∀ z v, z ∉ es.map (·.1) → z ≠ l → z ≠ l2 → z ≠ o → z ≠ x → H z = some v → H' z = some v) → Q (.ref r) H')
set_option maxHeartbeats 0 in
theorem ok_Bookenter (T : Txt K mg) : FnOk P w K mg base CX0 6 T.f_Bookenter T.d_Bookenter ["self", "order", "kind"] (sp_Bookenter K T.c_Order T.c_BookSide T.c_Book T.c_Report) := by
  refine T.F_Bookenter.ok sc_Bookenter (fun vs H Q E h => ?_) (fun cdv A outer s H vs Q E hr h => ?_)
  · obtain ⟨_, x, dx, sd, st, b, d, l, b2, d2, l2, o, dxo, last, next, es, es2, t, kind, rfl, _⟩ := h
    rfl
  · obtain ⟨_, x, dx, sd, st, b, d, l, b2, d2, l2, o, dxo, last, next, es, es2, t, kind, rfl, E, hkp, hsz, hszl, qall, qrun⟩ := h
    have G_Report_init : FnOk P w K mg base CX0 1 T.f_Report_init T.d_Report_init ["self", "number", "house", "side"] (sp_Report_init K T.c_Report) := ok_Report_init T
    have G_BookSide_first : FnOk P w K mg base CX0 1 T.f_BookSide_first T.d_BookSide_first ["self"] (sp_BookSide_first K T.c_Order T.c_BookSide) := ok_BookSide_first T
    have G_other_side : FnOk P w K mg base CX0 1 T.f_other_side T.d_other_side ["side"] (sp_other_side K) := ok_other_side T
    have G_Order_accepts_price : FnOk P w K mg base CX0 2 T.f_Order_accepts_price T.d_Order_accepts_price ["self", "price"] (sp_Order_accepts_price K T.c_Order) := ok_Order_accepts_price T
    have G_BookSide_enter : FnOk P w K mg base CX0 4 T.f_BookSide_enter T.d_BookSide_enter ["self", "order"] (sp_BookSide_enter K T.c_Order T.c_BookSide) := ok_BookSide_enter T
    have G_BookSide_available : FnOk P w K mg base CX0 3 T.f_BookSide_available T.d_BookSide_available ["self", "taker"] (sp_BookSide_available K T.c_Order T.c_BookSide) := ok_BookSide_available T
    have G_BookSide_leave : FnOk P w K mg base CX0 1 T.f_BookSide_leave T.d_BookSide_leave ["self", "order"] (sp_BookSide_leave K T.c_Order T.c_BookSide) := ok_BookSide_leave T
    have G_BookSide_trade_first : FnOk P w K mg base CX0 5 T.f_BookSide_trade_first T.d_BookSide_trade_first ["self", "quantity"] (sp_BookSide_trade_first K T.c_Order T.c_BookSide) := ok_BookSide_trade_first T
    refine ⟨_, (pss_cons (ps_set (i := 3) sc_Bookenter.nd rfl (Or.inl rfl) (pe_make T.mk_Report G_Report_init (hr.mono (by decide)) (by rfl) T.m_Report T.b_Report_init .nil pass0 (pa_cons (pe_fld (pv 1) rfl) (pa_cons (pe_fld (pv 1) rfl) (pa_cons (pe_fld (pv 1) rfl) pa_nil)))))
    (pss_cons (ps_set (i := 4) sc_Bookenter.nd rfl (Or.inl rfl) (pe_dget (hu_of hr) (pe_fld (pv 0) rfl) (pe_call G_other_side (hr.mono (by decide)) (by rfl) T.m_other_side T.F_other_side.kp T.b_other_side .nil pass0 (pa_cons (pe_fld (pv 1) rfl) pa_nil)) (fun _ _ => rfl)))
    (C8.pss_cut (ps_if (PW.pt (pw_and (pt_cmpR op_eq (pv 2) pe_str (nomark _)) (pw_and1 (pt_cmpR op_lt (pe_meth (pv 4) T.cl_BookSide T.mt_BookSide_available G_BookSide_available (hr.mono (by decide)) T.b_BookSide_available .nil pass0 (pa_cons (pv 1) pa_nil)) (pe_fld (pv 1) rfl) (nomark _)))))
      (pss_one (ps_ret (pv 3)))
      pss_nil)
    (pss_cons (ps_set (i := 5) sc_Bookenter.nd rfl (Or.inl rfl) (pe_meth0 (pv 4) T.cl_BookSide T.mt_BookSide_first G_BookSide_first (hr.mono (by decide)) T.b_BookSide_first .nil pass0))
    (C8.pss_cut (ps_while PassesOwn.never (PW.pt (pw_and (pt_cmpR op_gt (pe_fld (pv 1) rfl) pe_int (nomark _)) (pw_and (pt_cmpR op_notN (pv 5) pe_non (nomark _)) (pw_and1 (pt_val (pe_meth (pv 1) T.cl_Order T.mt_Order_accepts_price G_Order_accepts_price (hr.mono (by decide)) T.b_Order_accepts_price .nil pass0 (pa_cons (pe_fld (pv 5) rfl) pa_nil)))))))
      (pss_cons (ps_if (pt_cmpR op_eq (pe_fld (pv 5) rfl) (pe_fld (pv 1) rfl) (nomark _))
        (pss_cons (ps_expr (pe_meth (pv 4) T.cl_BookSide T.mt_BookSide_leave G_BookSide_leave (hr.mono (by decide)) T.b_BookSide_leave .nil pass0 (pa_cons (pv 5) pa_nil)))
        (pss_one (ps_expr (pe_bm PySem.F.plainAttrs_list PySem.F.slot_list_append PySem.F.type_list_append mt_append (pe_fld (pv 3) rfl) (pa_cons (pe_fld (pv 5) rfl) pa_nil)))))
        (pss_cons (ps_set (i := 6) sc_Bookenter.nd rfl (Or.inl rfl) (pe_callB (call_min2 rfl) (by rfl) T.z_min (by decide +kernel) (pa_cons (pe_fld (pv 1) rfl) (pa_cons (pe_fld (pv 5) rfl) pa_nil))))
        (pss_cons (ps_fldaug (pv 1) (pv 6) in_sub)
        (pss_cons (ps_expr (pe_meth (pv 4) T.cl_BookSide T.mt_BookSide_trade_first G_BookSide_trade_first hr T.b_BookSide_trade_first .nil pass0 (pa_cons (pv 6) pa_nil)))
        (pss_cons (ps_expr (pe_bm PySem.F.plainAttrs_list PySem.F.slot_list_append PySem.F.type_list_append mt_append (pe_fld (pv 3) rfl) (pa_cons (pe_tup (pa_cons (pe_fld (pv 5) rfl) (pa_cons (pe_fld (pv 5) rfl) (pa_cons (pe_fld (pv 5) rfl) (pa_cons (pv 6) pa_nil))))) pa_nil)))
        (pss_one (ps_fld (pv 0) (pe_fld (pv 5) rfl) rfl)))))))
      (pss_one (ps_set (i := 5) sc_Bookenter.nd rfl (Or.inl rfl) (pe_meth0 (pv 4) T.cl_BookSide T.mt_BookSide_first G_BookSide_first (hr.mono (by decide)) T.b_BookSide_first .nil pass0)))))
    (pss_cons (ps_if (PW.pt (pw_and (pt_cmpR op_eq (pv 2) pe_str (nomark _)) (pw_and1 (pt_cmpR op_gt (pe_fld (pv 1) rfl) pe_int (nomark _)))))
      (pss_cons (ps_expr (pe_meth (pe_dget (hu_of hr) (pe_fld (pv 0) rfl) (pe_fld (pv 1) rfl) (fun _ _ => rfl)) T.cl_BookSide T.mt_BookSide_enter G_BookSide_enter (hr.mono (by decide)) T.b_BookSide_enter .nil pass0 (pa_cons (pv 1) pa_nil)))
      (pss_one (ps_fld (pv 3) (pe_fld (pv 1) rfl) rfl)))
      pss_nil)
    (pss_one (ps_ret (pv 3))))))))), ?_⟩
    have fact_BookSide_0 := T.cl_BookSide; have fact_BookSide_1 := T.na_BookSide__orders; have fact_Book_0 := T.cl_Book; have fact_Book_1 := T.na_Book_last; have fact_Book_2 := T.na_Book__next_number; have fact_Book_3 := T.na_Book__sides; have fact_Book_4 := T.na_Book__stops; have fact_Order_0 := T.cl_Order; have fact_Order_1 := T.na_Order_number; have fact_Order_2 := T.na_Order_house; have fact_Order_3 := T.na_Order_side; have fact_Order_4 := T.na_Order_price; have fact_Order_5 := T.na_Order_shown; have fact_Order_6 := T.na_Order_left; have fact_Order_7 := T.na_Order_visible; have fact_Report_0 := T.cl_Report; have fact_Report_1 := T.na_Report_number; have fact_Report_2 := T.na_Report_house; have fact_Report_3 := T.na_Report_side; have fact_Report_4 := T.na_Report_fills; have fact_Report_5 := T.na_Report_removed; have fact_Report_6 := T.na_Report_resting
    have hob := E.ob
    unfold bookO at hob
    have ho := E.ho
    unfold ordO at ho
    have hsd := E.sdo
    have hb := E.s1.ob
    walk_at "st"
    intro r dr nr ndr hne
    have nr' : upd H dr (.own r) r = none := by
      first
        | (rw [upd_ne hne]; exact nr)
        | (rw [upd_ne (Ne.symm hne)]; exact nr)
    have sx : Same H (upd (upd H dr (.own r)) r (.ins T.c_Report dr [])) := (same_upd ndr).trans (same_upd nr')
    refine ⟨r, dr, t.number, t.house, t.side, rfl, upd_same, fun fl rm H1 kx hr hfl hrm nfl nrm hfr => ?_⟩
    have fresh0 : ∀ {z : Addr}, upd (upd H dr (.own r)) r (.ins T.c_Report dr []) z = none → H z = none := fun {z} hz => by
      cases hh : H z with
      | none => rfl
      | some v =>
        have := sx z v hh
        rw [hz] at this
        cases this
    have nfl0 := fresh0 nfl
    have nrm0 := fresh0 nrm
    have e1 : Same H H1 := fun z v hz => kx z v (ne_of_none hz nr) (sx z v hz)
    have E1 := E.same e1
    have hob1 := E1.ob
    unfold bookO at hob1
    have ho1 := E1.ho
    unfold ordO at ho1
    have hsd1 := E1.sdo
    have hb1 := E1.s1.ob
    refine ⟨rfl, ?_⟩
    walk_at "st"
    refine ⟨fun σ' H' => σ' = [some (.ref x), some (.ref o), some (.str kind), some (.ref r), some (.ref b), none, none] ∧ Same H1 H' ∧ ¬ (V.str kind = V.str "all" ∧ availM t es < t.left), ?_, ?_⟩
    · walk_at "st"
      dsimp only
      refine iteB (fun h => ?_) (fun h => ⟨rfl, Same.refl H1, fun z => of_decide_eq_false h z.1⟩)
      walk_at "st"
      refine ⟨es, t, rfl, E1.s1, E1.ho, E1.r1.price, fun H2 e2 => ?_⟩
      have ho2 := e2 _ _ ho1
      have hr2 := e2 _ _ hr
      unfold repO at hr2
      walk_at "st"
      refine iteB (fun h2 => ?_) (fun h2 => ⟨rfl, e2, fun z => of_decide_eq_false h2 z.2⟩)
      walk_at "st"
      exact qall (of_decide_eq_true h) (of_decide_eq_true h2) r dr fl rm H2 (e1.trans e2) nr nfl0 nrm0 (e2 _ _ hr) (e2 _ _ hfl) (e2 _ _ hrm)
    · rintro σ H2 ⟨rfl, e2, hna⟩
      have E2 := E1.same e2
      have e02 := e1.trans e2
      have S2 := E2.s1
      have hb2 := S2.ob
      walk_at "st"
      refine ⟨es, rfl, S2, ?_⟩
      refine ⟨fun σ H' => ∃ (_ : Unit) (v6 : Option V) (m : Mt) (fs : List Addr), m = runM t (sizeM ⟨es, t.left, last, [], []⟩) ⟨es, t.left, last, [], []⟩ ∧ σ = [some (.ref x), some (.ref o), some (.str kind), some (.ref r), some (.ref b), some (firstV m.es), v6] ∧
          0 ≤ m.left ∧ Rank (otherS t.side) m.es ∧ (∀ e, e ∈ m.es → e.1 ∈ es.map (·.1)) ∧ sizeM m + m.fills.length + m.gone.length ≤ 2000000 ∧
          H' r = some (repO T.c_Report dr t.number t.house t.side fl rm 0) ∧ H' o = some (ordO T.c_Order dxo { t with left := m.left }) ∧ Tups encFill H' fl fs m.fills ∧ H' rm = some (.lst (m.gone.map V.int)) ∧ H' x = some (bookO T.c_Book dx m.last next sd st) ∧ SideAt T.c_Order T.c_BookSide H' b d l m.es ∧ (∀ f, f ∈ fs → True) ∧
          ∀ z v, z ∉ es.map (·.1) → z ≠ l → z ≠ o → z ≠ x → H z = some v → H' z = some v, ?_, ?_⟩
      · refine while_by (fun σ H' => ∃ (_ : Unit) (v6 : Option V) (m : Mt) (fs : List Addr), runM t (sizeM m) m = runM t (sizeM ⟨es, t.left, last, [], []⟩) ⟨es, t.left, last, [], []⟩ ∧ σ = [some (.ref x), some (.ref o), some (.str kind), some (.ref r), some (.ref b), some (firstV m.es), v6] ∧
          0 ≤ m.left ∧ Rank (otherS t.side) m.es ∧ (∀ e, e ∈ m.es → e.1 ∈ es.map (·.1)) ∧ sizeM m + m.fills.length + m.gone.length ≤ 2000000 ∧
          H' r = some (repO T.c_Report dr t.number t.house t.side fl rm 0) ∧ H' o = some (ordO T.c_Order dxo { t with left := m.left }) ∧ Tups encFill H' fl fs m.fills ∧ H' rm = some (.lst (m.gone.map V.int)) ∧ H' x = some (bookO T.c_Book dx m.last next sd st) ∧ SideAt T.c_Order T.c_BookSide H' b d l m.es ∧ (∀ f, f ∈ fs → True) ∧
          ∀ z v, z ∉ es.map (·.1) → z ≠ l → z ≠ o → z ≠ x → H z = some v → H' z = some v)
          (fun _ H' => muM o l H')
          ⟨(), none, ⟨es, t.left, last, [], []⟩, [], rfl, rfl, ?_, E.r1, fun e he => List.mem_map.mpr ⟨e, he, rfl⟩, ?_, e2 _ _ hr, E2.ho, .nil (e2 _ _ hfl), e2 _ _ hrm, E2.ob, S2, fun _ _ => trivial, fun z v _ _ _ _ hz => e02 z v hz⟩ ?_ ?_
        · have := E.l0
          show 0 ≤ t.left
          omega
        · show t.left.toNat + es.length + 0 + 0 ≤ 2000000
          omega
        · rintro σ H3 ⟨_, v6, m, fs, hrun, rfl, hl0, hrank, hmem, hsz3, hr3, ho3, hf3, hg3, hx3, S3, hfn, hfr3⟩
          have ho3' : H3 o = some (.ins T.c_Order dxo [("number", .int t.number), ("house", .str t.house), ("side", .str t.side), ("price", optV t.price), ("shown", .int t.shown), ("left", .int m.left), ("visible", .int t.visible)]) := ho3
          have stop : goesM t m = none → m = runM t (sizeM ⟨es, t.left, last, [], []⟩) ⟨es, t.left, last, [], []⟩ := fun z => by rw [← hrun, runM_stop z]
          cases hes : m.es with
          | nil =>
            have hg : goesM t m = none := by
              unfold goesM
              rw [hes]
            have hE := stop hg
            rw [show firstV [] = V.non from rfl]
            have hst : ([some (.ref x), some (.ref o), some (.str kind), some (.ref r), some (.ref b), some V.non, v6] : L2.St) = [some (.ref x), some (.ref o), some (.str kind), some (.ref r), some (.ref b), some (firstV m.es), v6] := by rw [hes]; rfl
            walk_at "st"
            dsimp only
            refine iteB (fun h => ?_) (fun h => ⟨(), v6, m, fs, hE, hst, hl0, hrank, hmem, hsz3, hr3, ho3, hf3, hg3, hx3, S3, hfn, hfr3⟩)
            walk_at "st"
            exact ⟨(), v6, m, fs, hE, hst, hl0, hrank, hmem, hsz3, hr3, ho3, hf3, hg3, hx3, S3, hfn, hfr3⟩
          | cons e rest =>
            have hst : ([some (.ref x), some (.ref o), some (.str kind), some (.ref r), some (.ref b), some (V.ref e.1), v6] : L2.St) = [some (.ref x), some (.ref o), some (.str kind), some (.ref r), some (.ref b), some (firstV m.es), v6] := by rw [hes]; rfl
            have exi : goesM t m = none → ∃ (_ : Unit) (v6' : Option V) (m' : Mt) (fs' : List Addr), m' = runM t (sizeM ⟨es, t.left, last, [], []⟩) ⟨es, t.left, last, [], []⟩ ∧ ([some (.ref x), some (.ref o), some (.str kind), some (.ref r), some (.ref b), some (V.ref e.1), v6] : L2.St) = [some (.ref x), some (.ref o), some (.str kind), some (.ref r), some (.ref b), some (firstV m'.es), v6'] ∧
          0 ≤ m'.left ∧ Rank (otherS t.side) m'.es ∧ (∀ e, e ∈ m'.es → e.1 ∈ es.map (·.1)) ∧ sizeM m' + m'.fills.length + m'.gone.length ≤ 2000000 ∧
          H3 r = some (repO T.c_Report dr t.number t.house t.side fl rm 0) ∧ H3 o = some (ordO T.c_Order dxo { t with left := m'.left }) ∧ Tups encFill H3 fl fs' m'.fills ∧ H3 rm = some (.lst (m'.gone.map V.int)) ∧ H3 x = some (bookO T.c_Book dx m'.last next sd st) ∧ SideAt T.c_Order T.c_BookSide H3 b d l m'.es ∧ (∀ f, f ∈ fs' → True) ∧
          ∀ z v, z ∉ es.map (·.1) → z ≠ l → z ≠ o → z ≠ x → H z = some v → H3 z = some v := fun z => ⟨(), v6, m, fs, stop z, hst, hl0, hrank, hmem, hsz3, hr3, ho3, hf3, hg3, hx3, S3, hfn, hfr3⟩
            rw [show firstV (e :: rest) = V.ref e.1 from rfl]
            have S4 := S3
            rw [hes] at S4
            have hr4 := hrank
            rw [hes] at hr4
            obtain ⟨p, hp⟩ := hr4.price e List.mem_cons_self
            have hv := hr4.vis e List.mem_cons_self
            have hpp : prcE e = p := by unfold prcE; rw [hp]; rfl
            have hee := S4.en e List.mem_cons_self
            unfold ordO at hee
            rw [hp, show optV (some p) = V.int p from rfl] at hee
            walk_at "st"
            dsimp only
            refine iteB (fun h => ?_) (fun h => exi (by
              have := of_decide_eq_false h
              unfold goesM
              rw [hes]
              exact if_neg fun z => this z.1))
            have hlp := of_decide_eq_true h
            walk_at "st"
            refine ⟨{ t with left := m.left }, p, rfl, ho3, ?_⟩
            walk_at "st"
            refine iteB (fun h2 => ?_) (fun h2 => exi (by
              unfold goesM
              rw [hes]
              refine if_neg fun z => ?_
              have z2 := z.2
              rw [hpp] at z2
              rw [show takes t.side t.price p = false from h2] at z2
              cases z2))
            have hg : goesM t m = some e := by
              unfold goesM
              rw [hes]
              exact if_pos ⟨hlp, by rw [hpp]; exact h2⟩
            have hnx := runM_next hrank hg
            have hsl := stepM_less hrank hg
            have hli3 := S4.li
            have hb3 := S4.ob
            have ndl := List.nodup_cons.mp S4.nd
            have oldl : H l ≠ none := fun z => by rw [E.s1.li] at z; cases z
            have nrl : r ≠ l := fun z => by rw [z, hli3] at hr3; cases hr3
            have nol : o ≠ l := fun z => by rw [z, hli3] at ho3; cases ho3
            have nxl : x ≠ l := fun z => by rw [z, hli3] at hx3; cases hx3
            have nfll : fl ≠ l := fun z => oldl (by rw [← z]; exact nfl0)
            have nrml : rm ≠ l := fun z => oldl (by rw [← z]; exact nrm0)
            have nrmr : rm ≠ r := fun z => by rw [z, hr3] at hg3; cases hg3
            have nrmo : rm ≠ o := fun z => by rw [z, ho3] at hg3; cases hg3
            have nrmx : rm ≠ x := fun z => by rw [z, hx3] at hg3; cases hg3
            have nel : e.1 ≠ l := S4.le List.mem_cons_self
            walk_at "st"
            dsimp only
            refine iteB (fun hh => ?_) (fun hh => ?_)
            · have hh := V.str.inj (of_decide_eq_true hh)
              have hm' : stepM t m e = ⟨rest, m.left, m.last, m.fills, m.gone ++ [e.2.2.number]⟩ := by
                unfold stepM
                rw [if_pos hh, hes]
                rfl
              rw [hm'] at hnx hsl
              have S5 : SideAt T.c_Order T.c_BookSide (upd H3 l (.lst (refs rest))) b d l rest := S4.put (fun y hy => S4.en y (List.mem_cons_of_mem _ hy)) ndl.2 (by have := S4.sm; rw [List.length_cons] at this; omega)
              have hr5 : upd H3 l (.lst (refs rest)) r = _ := (upd_ne nrl).trans hr3
              unfold repO at hr5
              have hg5 : upd H3 l (.lst (refs rest)) rm = _ := (upd_ne nrml).trans hg3
              have he5 : upd H3 l (.lst (refs rest)) e.1 = _ := (upd_ne nel).trans hee
              walk_at "st"
              refine ⟨[], e, rest, rfl, S4, ?_⟩
              rw [List.nil_append]
              walk_at "st"
              have nbr : b ≠ rm := fun z => by rw [z, hg3] at hb3; cases hb3
              have her : ∀ y, y ∈ rest → y.1 ≠ rm := fun y hy z => by
                have := S4.en y (List.mem_cons_of_mem _ hy)
                rw [z, hg3] at this
                unfold ordO at this
                cases this
              have S6 := S5.upd (o := .lst (m.gone.map V.int ++ [V.int e.2.2.number])) nbr nrml.symm her
              have hb6 := S6.ob
              have hgs : (m.gone.map V.int).length < sizeLine := smallM (by rw [List.length_map]; omega)
              walk_at "st"
              refine ⟨rest, rfl, S6, ?_⟩
              refine ⟨⟨(), v6, ⟨rest, m.left, m.last, m.fills, m.gone ++ [e.2.2.number]⟩, fs, by rw [← hnx]; exact hrun, rfl, hl0, hsl.2.2, fun y hy => hmem y (by rw [hes]; exact List.mem_cons_of_mem _ hy), ?_, (upd_ne nrmr.symm).trans ((upd_ne nrl).trans hr3), (upd_ne nrmo.symm).trans ((upd_ne nol).trans ho3), (hf3.other hli3 nfll).other hg5 hfr, ?_, (upd_ne nrmx.symm).trans ((upd_ne nxl).trans hx3), S6, hfn, fun z v h1 h2 h3 h4 hz => ?_⟩, ?_⟩
              · have h1 := hsl.1
                show sizeM _ + m.fills.length + (m.gone ++ [e.2.2.number]).length ≤ 2000000
                rw [List.length_append]
                show _ + _ + (_ + 1) ≤ 2000000
                omega
              · rw [upd_same, List.map_append]
                rfl
              · rw [upd_ne (fun y => by rw [y, nrm0] at hz; cases hz), upd_ne h2]
                exact hfr3 z v h1 h2 h3 h4 hz
              · show muM o l _ < muM o l H3
                rw [muM_eq (m := m) ho3 (by rw [hes]; exact hli3), muM_eq (m := ⟨rest, m.left, m.last, m.fills, m.gone ++ [e.2.2.number]⟩) ((upd_ne nrmo.symm).trans ((upd_ne nol).trans ho3)) S6.li]
                exact hsl.1
            · have hh : ¬ e.2.2.house = t.house := fun z => of_decide_eq_false hh (congrArg V.str z)
              obtain ⟨qt, eqt⟩ : ∃ z, qtyM m e = z := ⟨_, rfl⟩
              have hqt : (if e.2.2.visible < m.left then e.2.2.visible else m.left) = qt := eqt
              have hm' : stepM t m e = ⟨tradeF e rest qt p, m.left - qt, some p, m.fills ++ [(e.2.2.number, e.2.2.house, p, qt)], m.gone⟩ := by
                unfold stepM
                rw [if_neg hh, hes, eqt, hpp]
                rfl
              rw [hm'] at hnx hsl
              have nro : r ≠ o := fun z => by
                rw [z, ho3] at hr3
                unfold ordO repO at hr3
                injection hr3 with hr3
                injection hr3 with _ _ h3
                exact absurd (congrArg List.length h3) (show ¬ 7 = 6 by decide)
              have nxo : x ≠ o := fun z => by
                rw [z, ho3] at hx3
                unfold ordO bookO at hx3
                injection hx3 with hx3
                injection hx3 with _ _ h3
                exact absurd (congrArg List.length h3) (show ¬ 7 = 4 by decide)
              have neo : ∀ y, y ∈ e :: rest → y.1 ≠ o := fun y hy => by
                obtain ⟨y2, hy2, hy3⟩ := List.mem_map.mp (hmem y (by rw [hes]; exact hy))
                rw [← hy3]
                exact E.n1 y2 hy2
              obtain ⟨nbo, nlo⟩ := S4.ord_ne ho3
              have hbA : upd H3 o (.ins T.c_Order dxo (putF "left" (.int (m.left - (if e.2.2.visible < m.left then e.2.2.visible else m.left))) [("number", .int t.number), ("house", .str t.house), ("side", .str t.side), ("price", optV t.price), ("shown", .int t.shown), ("left", .int m.left), ("visible", .int t.visible)])) b = _ := (upd_ne nbo).trans hb3
              have eO : HO.ins T.c_Order dxo (putF "left" (.int (m.left - qt)) [("number", .int t.number), ("house", .str t.house), ("side", .str t.side), ("price", optV t.price), ("shown", .int t.shown), ("left", .int m.left), ("visible", .int t.visible)]) = ordO T.c_Order dxo { t with left := m.left - qt } := rfl
              have SA := S4.upd (o := ordO T.c_Order dxo { t with left := m.left - qt }) nbo nlo neo
              walk_at "st"
              dsimp only
              rw [hqt, eO]
              have neos := neo e List.mem_cons_self
              refine ⟨e, rest, qt, p, rfl, SA, hp, (hr4.tail).mono p, fun HB ob SB heB hn1 hn2 hn3 hn4 hfB => ?_⟩
              have ner : r ≠ e.1 := fun z => by
                rw [z, hee] at hr3
                unfold repO at hr3
                injection hr3 with hr3
                injection hr3 with _ _ h3
                exact absurd (congrArg List.length h3) (show ¬ 7 = 6 by decide)
              have nex : x ≠ e.1 := fun z => by
                rw [z, hee] at hx3
                unfold bookO at hx3
                injection hx3 with hx3
                injection hx3 with _ _ h3
                exact absurd (congrArg List.length h3) (show ¬ 7 = 4 by decide)
              have hfl3 := hf3.lst
              have nefl : fl ≠ e.1 := fun z => by rw [z, hee] at hfl3; cases hfl3
              have nerm : rm ≠ e.1 := fun z => by rw [z, hee] at hg3; cases hg3
              have nflo : fl ≠ o := fun z => by rw [z, ho3] at hfl3; cases hfl3
              have nflx : fl ≠ x := fun z => by rw [z, hx3] at hfl3; cases hfl3
              have nflr : fl ≠ r := fun z => by rw [z, hr3] at hfl3; cases hfl3
              have nxr : x ≠ r := fun z => by
                rw [z, hr3] at hx3
                unfold repO bookO at hx3
                injection hx3 with hx3
                injection hx3 with _ _ h3
                exact absurd (congrArg List.length h3) (show ¬ 6 = 4 by decide)
              have hrB : HB r = _ := (hfB r nrl ner).trans ((upd_ne nro).trans hr3)
              have hxB : HB x = _ := (hfB x nxl nex).trans ((upd_ne nxo).trans hx3)
              have hoB : HB o = _ := (hfB o nol neos.symm).trans upd_same
              have hgB : HB rm = _ := (hfB rm nrml nerm).trans ((upd_ne nrmo).trans hg3)
              have hfB3 : Tups encFill HB fl fs m.fills := hf3.frame ((hfB fl nfll nefl).trans (upd_ne nflo)) fun a ys ha => (hfB a (fun z => by rw [z, hli3] at ha; cases ha) (fun z => by rw [z, hee] at ha; cases ha)).trans ((upd_ne (fun z => by rw [z, ho3] at ha; cases ha)).trans ha)
              have heB2 : HB e.1 = some (.ins T.c_Order e.2.1 [("number", .int e.2.2.number), ("house", .str e.2.2.house), ("side", .str ob.side), ("price", .int p), ("shown", .int ob.shown), ("left", .int ob.left), ("visible", .int ob.visible)]) := by
                have z := heB
                unfold ordO at z
                rw [hn1, hn2, hn4, hp] at z
                exact z
              have hrB2 := hrB
              unfold repO at hrB2
              have hxB2 := hxB
              unfold bookO at hxB2
              have hflB := hfB3.lst
              walk_at "st"
              intro TT nTT
              have sTT := same_upd (o := .tup [.int e.2.2.number, .str e.2.2.house, .int p, .int qt]) nTT
              have hTT : upd HB TT (.tup [.int e.2.2.number, .str e.2.2.house, .int p, .int qt]) TT = some (.tup (encFill (e.2.2.number, e.2.2.house, p, qt))) := upd_same
              have hfC := hfB3.push sTT nTT hTT
              have hrC := sTT _ _ hrB2
              have hxC := sTT _ _ hxB2
              have hflC := sTT _ _ hflB
              have heC := sTT _ _ heB2
              have SC := SB.same sTT
              have hsfl : (fs.map V.ref).length < sizeLine := smallM (by rw [List.length_map, hf3.len]; omega)
              generalize upd HB TT _ = HC at *
              have hxD : upd HC fl (.lst (fs.map V.ref ++ [.ref TT])) x = _ := (upd_ne nflx.symm).trans hxC
              have heD : upd HC fl (.lst (fs.map V.ref ++ [.ref TT])) e.1 = _ := (upd_ne nefl.symm).trans heC
              have nbfl : b ≠ fl := fun z => by have := SC.ob; rw [z, hflC] at this; cases this
              have enf : ∀ y, y ∈ tradeF e rest qt p → y.1 ≠ fl := fun y hy z => by
                have := SC.en y hy
                rw [z, hflC] at this
                unfold ordO at this
                cases this
              have enx : ∀ y, y ∈ tradeF e rest qt p → y.1 ≠ x := fun y hy z => by
                have := SC.en y hy
                rw [z, hxC] at this
                unfold ordO at this
                injection this with this
                injection this with _ _ h3
                exact absurd (congrArg List.length h3) (show ¬ 4 = 7 by decide)
              have nbx : b ≠ x := fun z => by
                have := SC.ob
                rw [z, hxC] at this
                injection this with this
                injection this with _ _ h3
                exact absurd (congrArg List.length h3) (show ¬ 4 = 1 by decide)
              have SD := SC.upd (o := .lst (fs.map V.ref ++ [.ref TT])) nbfl nfll.symm enf
              have SE := SD.upd (o := bookO T.c_Book dx (some p) next sd st) nbx nxl.symm enx
              have hbE := SE.ob
              have eB : HO.ins T.c_Book dx (putF "last" (.int p) [("last", optV m.last), ("_next_number", .int next), ("_sides", .ref sd), ("_stops", .ref st)]) = bookO T.c_Book dx (some p) next sd st := rfl
              have hbE2 : upd (upd HC fl (.lst (fs.map V.ref ++ [.ref TT]))) x (HO.ins T.c_Book dx (putF "last" (.int p) [("last", optV m.last), ("_next_number", .int next), ("_sides", .ref sd), ("_stops", .ref st)])) b = _ := hbE
              walk_at "st"
              rw [eB]
              refine ⟨tradeF e rest qt p, rfl, SE, ?_⟩
              have hoE : upd (upd HC fl (.lst (fs.map V.ref ++ [.ref TT]))) x (bookO T.c_Book dx (some p) next sd st) o = some (ordO T.c_Order dxo { t with left := m.left - qt }) := (upd_ne nxo.symm).trans ((upd_ne nflo.symm).trans (sTT _ _ hoB))
              refine ⟨⟨(), some (.int qt), ⟨tradeF e rest qt p, m.left - qt, some p, m.fills ++ [(e.2.2.number, e.2.2.house, p, qt)], m.gone⟩, fs ++ [TT], by rw [← hnx]; exact hrun, rfl, hsl.2.1, hsl.2.2, fun y hy => ?_, ?_, (upd_ne nxr.symm).trans ((upd_ne nflr.symm).trans (sTT _ _ hrB)), hoE, hfC.frame (upd_ne nflx) (fun a ys ha => (upd_ne (fun z => by rw [z, hxD] at ha; cases ha)).trans ha), (upd_ne nrmx).trans ((upd_ne hfr.symm).trans (sTT _ _ hgB)), upd_same, SE, fun _ _ => trivial, fun z v h1 h2 h3 h4 hz => ?_⟩, ?_⟩
              · rcases tradeF_mem hy with z | z
                · rw [z]
                  exact hmem e (by rw [hes]; exact List.mem_cons_self)
                · exact hmem y (by rw [hes]; exact List.mem_cons_of_mem _ z)
              · have h1 := hsl.1
                show sizeM _ + (m.fills ++ [_]).length + m.gone.length ≤ 2000000
                rw [List.length_append]
                show _ + (_ + 1) + _ ≤ 2000000
                omega
              · rw [upd_ne h4, upd_ne (fun y => by rw [y, nfl0] at hz; cases hz)]
                refine sTT _ _ ((hfB z h2 fun y => h1 (by rw [y]; exact hmem e (by rw [hes]; exact List.mem_cons_self))).trans ((upd_ne h3).trans (hfr3 z v h1 h2 h3 h4 hz)))
              · show muM o l _ < muM o l H3
                rw [muM_eq (m := m) ho3 (by rw [hes]; exact hli3), muM_eq (m := ⟨tradeF e rest qt p, m.left - qt, some p, m.fills ++ [(e.2.2.number, e.2.2.house, p, qt)], m.gone⟩) hoE SE.li]
                exact hsl.1
        · rintro σ H Q Q' h ⟨v, e1, a, C, dx, fs, v2, e2, e3, e4, e5, e6, i, j, e7, e8, k, e9, q⟩
          refine ⟨v, e1, a, C, dx, fs, v2, e2, e3, e4, e5, e6, i, j, e7, e8, k, e9, ?_⟩
          cases k with
          | false => exact h _ _ q
          | true =>
            obtain ⟨v3, f1, f2, k2, f3, q⟩ := q
            refine ⟨v3, f1, f2, k2, f3, ?_⟩
            cases k2 with
            | false => exact h _ _ q
            | true =>
              obtain ⟨v4, g1, a4, dx4, fs4, g2, g3, g4, v5, g5, a5, C5, dx5, fs5, v6, g6, g7, g8, g9, g10, x6, dx6, o6, p6, g11, g12, c, g13, q⟩ := q
              exact ⟨v4, g1, a4, dx4, fs4, g2, g3, g4, v5, g5, a5, C5, dx5, fs5, v6, g6, g7, g8, g9, g10, x6, dx6, o6, p6, g11, g12, c, g13, h _ _ q⟩
      · rintro σ H3 ⟨_, v6, m, fs, hrun, rfl, hl0, hrank, hmem, hsz3, hr3, ho3, hf3, hg3, hx3, S3, hfn, hfr3⟩
        have ho3' : H3 o = some (.ins T.c_Order dxo [("number", .int t.number), ("house", .str t.house), ("side", .str t.side), ("price", optV t.price), ("shown", .int t.shown), ("left", .int m.left), ("visible", .int t.visible)]) := ho3
        have hr3' := hr3
        unfold repO at hr3'
        walk_at "st"
        dsimp only
        have notE : ∀ {z : Addr} {v : HO}, H z = some v → (∀ y : Ent, v ≠ ordO T.c_Order y.2.1 y.2.2) → z ∉ es.map (·.1) := fun {z v} hz hv hm => by
          obtain ⟨y, hy, e⟩ := List.mem_map.mp hm
          have := E.s1.en y hy
          rw [e, hz] at this
          exact hv y (Option.some.inj this)
        have sep : ∀ {z : Addr} {v : HO}, H z = some v → (∀ y : Ent, v ≠ ordO T.c_Order y.2.1 y.2.2) → v ≠ bookO T.c_Book dx last next sd st → z ≠ l → H3 z = some v := fun {z v} hz hv hb hl => hfr3 z v (notE hz hv) hl (fun e => by rw [e, E.ho] at hz; exact hv (o, dxo, t) (Option.some.inj hz).symm) (fun e => by rw [e, E.ob] at hz; exact hb (Option.some.inj hz).symm) hz
        have S2 : SideAt T.c_Order T.c_BookSide H3 b2 d2 l2 es2 := by
          refine ⟨sep E.s2.ob (fun y z => ?_) (fun z => ?_) (fun z => ?_), sep E.s2.li (fun y z => ?_) (fun z => ?_) E.nll.symm, fun y hy => hfr3 y.1 _ (fun hm => ?_) (fun z => ?_) (E.n2 y hy) (fun z => ?_) (E.s2.en y hy), E.s2.nd, E.s2.sm⟩
          · unfold ordO at z
            injection z with _ _ h3
            exact absurd (congrArg List.length h3) (show ¬ 1 = 7 by decide)
          · unfold bookO at z
            injection z with _ _ h3
            exact absurd (congrArg List.length h3) (show ¬ 1 = 4 by decide)
          · have h1 := E.s2.ob
            rw [z, E.s1.li] at h1
            cases h1
          · unfold ordO at z
            cases z
          · unfold bookO at z
            cases z
          · obtain ⟨y2, hy2, e⟩ := List.mem_map.mp hm
            exact E.dj y2 hy2 y hy e
          · have h1 := E.s2.en y hy
            rw [z, E.s1.li] at h1
            unfold ordO at h1
            cases h1
          · have h1 := E.s2.en y hy
            rw [z, E.ob] at h1
            unfold ordO bookO at h1
            injection h1 with h1
            injection h1 with _ _ h3
            exact absurd (congrArg List.length h3) (show ¬ 4 = 7 by decide)
        have hds : DGet H3 sd (.str t.side) (some (.ref b2)) := by
          obtain ⟨c1, c2, hsd⟩ := E.sdv
          have h1 := sep hsd (fun y z => by unfold ordO sidesO at z; cases z) (fun z => by unfold bookO sidesO at z; cases z) (fun z => by rw [z, E.s1.li] at hsd; unfold sidesO at hsd; cases hsd)
          exact dget_keep E.sds fun v hv => by rw [hsd] at hv; cases hv; exact h1
        have hb2o := S2.ob
        have qn : restsM kind m = false → Q (.ref r) H3 := fun hz => by
          refine qrun hna r dr fl rm fs m H3 hrun nr nfl0 nrm0 (by rw [hz]; exact hr3) hf3 hg3 hx3 S3 ?_ (fun z v h1 h2 _ h4 h5 h6 => hfr3 z v h1 h2 h4 h5 h6)
          rw [hz]
          exact S2
        refine iteB (fun h => ?_) (fun h => ?_)
        · walk_at "st"
          refine iteB (fun h2 => ?_) (fun h2 => ?_)
          · have hrm : restsM kind m = true := by
              unfold restsM
              rw [show decide (V.str kind = V.str "rest") = true from h, show decide (m.left > 0) = true from h2]
              rfl
            obtain ⟨p, hp⟩ := hkp (of_decide_eq_true h)
            walk_at "st"
            refine ⟨es2, { t with left := m.left }, p, rfl, S2, ho3, E.n2, hp, E.r2.mono p, ?_⟩
            obtain ⟨o', eo'⟩ : ∃ o' : Ord, Ord.showNext { t with left := m.left } = o' := ⟨_, rfl⟩
            have hol : o'.left = m.left := by rw [← eo']; rfl
            rw [eo']
            obtain ⟨nb2o, nl2o⟩ := S2.ord_ne ho3
            obtain ⟨nbo, nlo⟩ := S3.ord_ne ho3
            have alr : ∀ {z : Addr} {v : HO}, H z = some v → z ≠ r := fun hz => ne_of_none hz nr
            have nrl2 : r ≠ l2 := (alr E.s2.li).symm
            have nro : r ≠ o := (alr E.ho).symm
            have hl2 := S2.li
            have hoF : upd (upd H3 o (ordO T.c_Order dxo o')) l2 (.lst (refs (insE es2 (place es2 p) (o, dxo, o')))) o = some (.ins T.c_Order dxo [("number", .int o'.number), ("house", .str o'.house), ("side", .str o'.side), ("price", optV o'.price), ("shown", .int o'.shown), ("left", .int o'.left), ("visible", .int o'.visible)]) := (upd_ne nl2o.symm).trans upd_same
            rw [hol] at hoF
            have hrF : upd (upd H3 o (ordO T.c_Order dxo o')) l2 (.lst (refs (insE es2 (place es2 p) (o, dxo, o')))) r = _ := (upd_ne nrl2).trans ((upd_ne nro).trans hr3')
            have neo : ∀ y, y ∈ m.es → y.1 ≠ o := fun y hy => by
              obtain ⟨y2, hy2, hy3⟩ := List.mem_map.mp (hmem y hy)
              rw [← hy3]
              exact E.n1 y2 hy2
            have nel2 : ∀ y, y ∈ m.es → y.1 ≠ l2 := fun y hy z => by
              have := S3.en y hy
              rw [z, hl2] at this
              unfold ordO at this
              cases this
            have ner : ∀ y, y ∈ m.es → y.1 ≠ r := fun y hy => by
              obtain ⟨y2, hy2, hy3⟩ := List.mem_map.mp (hmem y hy)
              rw [← hy3]
              exact alr (E.s1.en y2 hy2)
            have nbl2 : b ≠ l2 := fun z => by
              have := S3.ob
              rw [z, hl2] at this
              cases this
            have nxl2 : x ≠ l2 := fun z => by rw [z, hl2] at hx3; unfold bookO at hx3; cases hx3
            have nxo : x ≠ o := fun z => by
              rw [z, ho3] at hx3
              unfold ordO bookO at hx3
              injection hx3 with hx3
              injection hx3 with _ _ h3
              exact absurd (congrArg List.length h3) (show ¬ 7 = 4 by decide)
            have alf : ∀ {z : Addr} {v : HO}, H z = some v → z ≠ fl := fun hz => ne_of_none hz nfl0
            have alm : ∀ {z : Addr} {v : HO}, H z = some v → z ≠ rm := fun hz => ne_of_none hz nrm0
            have nflr : fl ≠ r := fun z => by have := hf3.lst; rw [z, hr3] at this; unfold repO at this; cases this
            have nrmr : rm ≠ r := fun z => by rw [z, hr3] at hg3; unfold repO at hg3; cases hg3
            have SO := (S2.upd (o := ordO T.c_Order dxo o') nb2o nl2o E.n2).insert (k := place es2 p) (e := (o, dxo, o')) upd_same E.n2 (by omega)
            walk_at "st"
            have eR : HO.ins T.c_Report dr (putF "resting" (.int m.left) [("number", .int t.number), ("house", .str t.house), ("side", .str t.side), ("fills", .ref fl), ("removed", .ref rm), ("resting", .int 0)]) = repO T.c_Report dr t.number t.house t.side fl rm m.left := rfl
            rw [eR]
            have g1 : ∀ {z : Addr} {w : HO}, z ≠ r → z ≠ l2 → z ≠ o → upd (upd (upd H3 o (ordO T.c_Order dxo o')) l2 (.lst (refs (insE es2 (place es2 p) (o, dxo, o'))))) r w z = H3 z := fun h1 h2 h3 => (upd_ne h1).trans ((upd_ne h2).trans (upd_ne h3))
            refine qrun hna r dr fl rm fs m _ hrun nr nfl0 nrm0 (by rw [hrm, if_pos rfl]; exact upd_same) (hf3.frame (g1 nflr (alf E.s2.li).symm (alf E.ho).symm) fun z ys hz => (g1 (fun y => by rw [y, hr3] at hz; unfold repO at hz; cases hz) (fun y => by rw [y, hl2] at hz; cases hz) (fun y => by rw [y, ho3] at hz; unfold ordO at hz; cases hz)).trans hz) ((g1 nrmr (alm E.s2.li).symm (alm E.ho).symm).trans hg3) ((g1 (alr E.ob) nxl2 nxo).trans hx3) (((S3.upd nbo nlo neo).upd nbl2 E.nll nel2).upd (alr E.s1.ob) (alr E.s1.li) ner) ?_ fun z v h1 h2 h3 h4 h5 h6 => (g1 (alr h6) h3 h4).trans (hfr3 z v h1 h2 h4 h5 h6)
            rw [hrm, if_pos rfl, eo', show t.price.getD 0 = p by rw [hp]; rfl]
            refine SO.upd (alr E.s2.ob) (alr E.s2.li) fun y hy => ?_
            rcases insE_mem.mp hy with z | z
            · rw [z]
              exact nro.symm
            · exact alr (E.s2.en y z)
          · walk_at "st"
            exact qn (by unfold restsM; rw [show decide (m.left > 0) = false from h2, Bool.and_false])
        · walk_at "st"
          exact qn (by unfold restsM; rw [show decide (V.str kind = V.str "rest") = false from h]; rfl)

def sp_Booktrigger_stops (K : PySem.W.Frag) (CO CB CK CR : Addr) : Sp := fun vs H Q _ => ∃ (x dx sd st : Addr) (last : Option Int) (next : Int), vs = [.ref x] ∧ H x = some (bookO CK dx last next sd st) ∧ H st = some (.lst []) ∧ ∀ D H', Same H H' → H D = none → H' D = some (.lst []) → Q (.ref D) H'
set_option maxHeartbeats 0 in
theorem ok_Booktrigger_stops (T : Txt K mg) : FnOk P w K mg base CX0 7 T.f_Booktrigger_stops T.d_Booktrigger_stops ["self"] (sp_Booktrigger_stops K T.c_Order T.c_BookSide T.c_Book T.c_Report) := by
  refine T.F_Booktrigger_stops.ok sc_Booktrigger_stops (fun vs H Q E h => ?_) (fun cdv A outer s H vs Q E hr h => ?_)
  · obtain ⟨x, dx, sd, st, last, next, rfl, _⟩ := h
    rfl
  · obtain ⟨x, dx, sd, st, last, next, rfl, hob, hst, q⟩ := h
    have G_Bookfirst_reached : FnOk P w K mg base CX0 1 T.f_Bookfirst_reached T.d_Bookfirst_reached ["self"] (sp_Bookfirst_reached K T.c_Order T.c_BookSide T.c_Book) := ok_Bookfirst_reached T
    have G_Order_init : FnOk P w K mg base CX0 1 T.f_Order_init T.d_Order_init ["self", "number", "house", "side", "price", "quantity", "shown"] (sp_Order_init K T.c_Order) := ok_Order_init T
    have G_Bookenter : FnOk P w K mg base CX0 6 T.f_Bookenter T.d_Bookenter ["self", "order", "kind"] (sp_Bookenter K T.c_Order T.c_BookSide T.c_Book T.c_Report) := ok_Bookenter T
    refine ⟨_, (pss_cons (ps_set (i := 1) sc_Booktrigger_stops.nd rfl (Or.inl rfl) (pe_lst pa_nil))
    (pss_cons (ps_set (i := 2) sc_Booktrigger_stops.nd rfl (Or.inl rfl) (pe_meth0 (pv 0) T.cl_Book T.mt_Bookfirst_reached G_Bookfirst_reached (hr.mono (by decide)) T.b_Bookfirst_reached .nil pass0))
    (pss_cons (ps_while PassesOwn.never (pt_cmpR op_notN (pv 2) pe_non (nomark _))
      (pss_cons ps_never
      (pss_cons ps_never
      (pss_cons ps_never
      (pss_cons ps_never
      (pss_one (ps_set (i := 2) sc_Booktrigger_stops.nd rfl (Or.inl rfl) (pe_meth0 (pv 0) T.cl_Book T.mt_Bookfirst_reached G_Bookfirst_reached (hr.mono (by decide)) T.b_Bookfirst_reached .nil pass0))))))))
    (pss_one (ps_ret (pv 1)))))), ?_⟩
    have fact_BookSide_0 := T.cl_BookSide; have fact_BookSide_1 := T.na_BookSide__orders; have fact_Book_0 := T.cl_Book; have fact_Book_1 := T.na_Book_last; have fact_Book_2 := T.na_Book__next_number; have fact_Book_3 := T.na_Book__sides; have fact_Book_4 := T.na_Book__stops; have fact_Order_0 := T.cl_Order; have fact_Order_1 := T.na_Order_number; have fact_Order_2 := T.na_Order_house; have fact_Order_3 := T.na_Order_side; have fact_Order_4 := T.na_Order_price; have fact_Order_5 := T.na_Order_shown; have fact_Order_6 := T.na_Order_left; have fact_Order_7 := T.na_Order_visible; have fact_Report_0 := T.cl_Report; have fact_Report_1 := T.na_Report_number; have fact_Report_2 := T.na_Report_house; have fact_Report_3 := T.na_Report_side; have fact_Report_4 := T.na_Report_fills; have fact_Report_5 := T.na_Report_removed; have fact_Report_6 := T.na_Report_resting
    have hob0 := hob
    unfold bookO at hob
    walk_at "st"
    intro D nD
    have sD := same_upd (o := .lst []) nD
    have hD : upd H D (.lst []) D = some (.lst []) := upd_same
    have hob1 := sD _ _ hob0
    have hob2 := hob1
    unfold bookO at hob2
    have hst1 := sD _ _ hst
    generalize upd H D _ = H1 at *
    walk_at "st"
    refine ⟨last, next, rfl, hob1, hst1, ?_⟩
    refine while_by (fun σ H' => σ = [some (.ref x), some (.ref D), some .non, none, none] ∧ H' = H1) (fun _ _ => 0) ⟨rfl, rfl⟩ ?_ ?_
    · rintro σ H' ⟨rfl, rfl⟩
      walk_at "st"
      exact q D _ sD nD hD
    · rintro σ H Q Q' h ⟨v1, e1, e2, k, e3, q⟩
      exact ⟨v1, e1, e2, k, e3, h _ _ q⟩

/-- an order that may be handed in -/
structure GoodOrd (ho si : Str) (pr : Option Int) (qu : Int) (kd : Str) (sh : Int) : Prop where
  h1 : ¬ V.str ho = V.str ""
  h2 : V.str si = V.str "buy" ∨ V.str si = V.str "sell"
  h3 : V.str kd = V.str "rest" ∨ V.str kd = V.str "now" ∨ V.str kd = V.str "all"
  h4 : ∀ p, pr = some p → 1 ≤ p ∧ p ≤ 1000000
  h5 : pr = none → ¬ V.str kd = V.str "rest"
  h6 : 1 ≤ qu ∧ qu ≤ 1000000
  h7 : 0 ≤ sh ∧ sh ≤ qu
  h8 : 0 < sh → V.str kd = V.str "rest"
def sp_is_integral (K : PySem.W.Frag) : Sp := fun vs H Q _ => ∃ x : Int, vs = [.int x] ∧ Q (.bl true) H
set_option maxHeartbeats 0 in
theorem ok_is_integral (T : Txt K mg) : FnOk P w K mg base CX0 1 T.f_is_integral T.d_is_integral ["value"] (sp_is_integral K) := by
  refine T.F_is_integral.ok sc_is_integral (fun vs H Q E h => ?_) (fun cdv A outer s H vs Q E hr h => ?_)
  · obtain ⟨x, rfl, _⟩ := h
    rfl
  · obtain ⟨x, rfl, q⟩ := h
    refine ⟨_, (pss_one (ps_ret (pe_and (pe_callB call_isi (by rfl) T.z_isinstance (by decide +kernel) (pa_cons (pv 0) (pa_cons (pe_bltn (v := .ty "int") (u := .type "int") (by rfl) T.z_int (by decide +kernel) rfl) pa_nil))) (pe_one (pe_not (pe_callB call_isi (by rfl) T.z_isinstance (by decide +kernel) (pa_cons (pv 0) (pa_cons (pe_bltn (v := .ty "bool") (u := .type "bool") (by rfl) T.z_bool (by decide +kernel) rfl) pa_nil)))))))), ?_⟩
    refine ⟨_, rfl, ?_⟩
    refine ⟨_, _, _, _, true, rfl, .ty _, .base (.int _), kit_ty (by decide +kernel), ?_⟩
    refine ⟨true, rfl, iteT ?_⟩
    refine ⟨_, rfl, ?_⟩
    refine ⟨_, _, _, _, false, rfl, .ty _, .base (.int _), kit_ty (by decide +kernel), ?_⟩
    refine ⟨false, rfl, ?_⟩
    exact q
def sp_is_within (K : PySem.W.Frag) : Sp := fun vs H Q _ => ∃ a b x : Int, vs = [.int a, .int b, .int x] ∧ Q (.bl (decide (a ≤ x ∧ x ≤ b))) H
set_option maxHeartbeats 0 in
theorem ok_is_within (T : Txt K mg) : FnOk P w K mg base CX0 2 T.f_is_within T.d_is_within ["least", "most", "value"] (sp_is_within K) := by
  refine T.F_is_within.ok sc_is_within (fun vs H Q E h => ?_) (fun cdv A outer s H vs Q E hr h => ?_)
  · obtain ⟨a, b, x, rfl, _⟩ := h
    rfl
  · obtain ⟨a, b, x, rfl, q⟩ := h
    have G_is_integral : FnOk P w K mg base CX0 1 T.f_is_integral T.d_is_integral ["value"] (sp_is_integral K) := ok_is_integral T
    refine ⟨_, (pss_one (ps_ret (pe_and (pe_call G_is_integral hr (by rfl) T.m_is_integral T.F_is_integral.kp T.b_is_integral .nil pass0 (pa_cons (pv 2) pa_nil)) (pe_one (pe_chain op_le op_le (pv 0) (pv 2) (pv 1)))))), ?_⟩
    walk_at "st"
    refine iteB (fun h => ?_) (fun h => ?_)
    · walk_at "st"
      rw [show (decide (a ≤ x ∧ x ≤ b)) = decide (x ≤ b) from decide_eq_decide.mpr ⟨fun z => z.2, fun z => ⟨dec_t h, z⟩⟩] at q
      exact q
    · rw [decide_eq_false (fun z => dec_f h z.1)] at q
      exact q

def sp_check_house (K : PySem.W.Frag) : Sp := fun vs H Q _ => ∃ s : Str, vs = [.str s] ∧ ¬ V.str s = V.str "" ∧ Q .non H
set_option maxHeartbeats 0 in
theorem ok_check_house (T : Txt K mg) : FnOk P w K mg base CX0 1 T.f_check_house T.d_check_house ["house"] (sp_check_house K) := by
  refine T.F_check_house.ok sc_check_house (fun vs H Q E h => ?_) (fun cdv A outer s H vs Q E hr h => ?_)
  · obtain ⟨s, rfl, _⟩ := h
    rfl
  · obtain ⟨s, rfl, hs, q⟩ := h
    refine ⟨_, (pss_one (ps_if (pt_cmpR op_eq (pv 0) pe_str (nomark _))
      (pss_one ps_never)
      pss_nil)), ?_⟩
    walk_at "st"
    refine iteB (fun h => absurd (of_decide_eq_true h) hs) (fun _ => ?_)
    walk_at "st"
    exact q
def sp_check_side (K : PySem.W.Frag) : Sp := fun vs H Q _ => ∃ s : Str, vs = [.str s] ∧ (V.str s = V.str "buy" ∨ V.str s = V.str "sell") ∧ Q .non H
set_option maxHeartbeats 0 in
theorem ok_check_side (T : Txt K mg) : FnOk P w K mg base CX0 1 T.f_check_side T.d_check_side ["side"] (sp_check_side K) := by
  refine T.F_check_side.ok sc_check_side (fun vs H Q E h => ?_) (fun cdv A outer s H vs Q E hr h => ?_)
  · obtain ⟨s, rfl, _⟩ := h
    rfl
  · obtain ⟨s, rfl, hs, q⟩ := h
    
    refine ⟨_, (pss_one (ps_if (pt_cmpR op_notIn_seq (pv 0) (pe_glob (v := .ref T.c_SIDES) rfl T.m_SIDES rfl) rfl)
      (pss_one ps_never)
      pss_nil)), ?_⟩
    have hq := T.q_SIDES H
    have e0 : inV (V.str s) [.str "buy", .str "sell"] = true := by
      rcases hs with z | z
      · rw [z]
        rfl
      · rw [z]
        rfl
    walk_at "st"
    rw [if_pos (show true = true from rfl), e0]
    exact q
def sp_check_number (K : PySem.W.Frag) : Sp := fun vs H Q _ => ∃ n a b : Int, vs = [.int n, .int a, .int b] ∧ a ≤ n ∧ n ≤ b ∧ Q .non H
set_option maxHeartbeats 0 in
theorem ok_check_number (T : Txt K mg) : FnOk P w K mg base CX0 3 T.f_check_number T.d_check_number ["number", "least", "most"] (sp_check_number K) := by
  refine T.F_check_number.ok sc_check_number (fun vs H Q E h => ?_) (fun cdv A outer s H vs Q E hr h => ?_)
  · obtain ⟨n, a, b, rfl, _⟩ := h
    rfl
  · obtain ⟨n, a, b, rfl, h1, h2, q⟩ := h
    have G_is_within : FnOk P w K mg base CX0 2 T.f_is_within T.d_is_within ["least", "most", "value"] (sp_is_within K) := ok_is_within T
    refine ⟨_, (pss_one (ps_if (pt_not (pt_val (pe_call G_is_within hr (by rfl) T.m_is_within T.F_is_within.kp T.b_is_within .nil pass0 (pa_cons (pv 1) (pa_cons (pv 2) (pa_cons (pv 0) pa_nil))))))
      (pss_one ps_never)
      pss_nil)), ?_⟩
    have e0 : decide (a ≤ n ∧ n ≤ b) = true := decide_eq_true ⟨h1, h2⟩
    walk_at "st"
    rw [e0]
    walk_at "st"
    exact q
def sp_check_price (K : PySem.W.Frag) : Sp := fun vs H Q _ => ∃ n : Int, vs = [.int n] ∧ 1 ≤ n ∧ n ≤ 1000000 ∧ Q .non H
set_option maxHeartbeats 0 in
theorem ok_check_price (T : Txt K mg) : FnOk P w K mg base CX0 4 T.f_check_price T.d_check_price ["price"] (sp_check_price K) := by
  refine T.F_check_price.ok sc_check_price (fun vs H Q E h => ?_) (fun cdv A outer s H vs Q E hr h => ?_)
  · obtain ⟨n, rfl, _⟩ := h
    rfl
  · obtain ⟨n, rfl, h1, h2, q⟩ := h
    have G_check_number : FnOk P w K mg base CX0 3 T.f_check_number T.d_check_number ["number", "least", "most"] (sp_check_number K) := ok_check_number T
    refine ⟨_, (pss_one (ps_expr (pe_call G_check_number hr (by rfl) T.m_check_number T.F_check_number.kp T.b_check_number .nil pass0 (pa_cons (pv 0) (pa_cons pe_int (pa_cons (pe_glob (v := .int 1000000) rfl T.m_MOST ⟨_, rfl⟩) pa_nil)))))), ?_⟩
    walk_at "st"
    exact q
def sp_check_quantity (K : PySem.W.Frag) : Sp := fun vs H Q _ => ∃ n : Int, vs = [.int n] ∧ 1 ≤ n ∧ n ≤ 1000000 ∧ Q .non H
set_option maxHeartbeats 0 in
theorem ok_check_quantity (T : Txt K mg) : FnOk P w K mg base CX0 4 T.f_check_quantity T.d_check_quantity ["quantity"] (sp_check_quantity K) := by
  refine T.F_check_quantity.ok sc_check_quantity (fun vs H Q E h => ?_) (fun cdv A outer s H vs Q E hr h => ?_)
  · obtain ⟨n, rfl, _⟩ := h
    rfl
  · obtain ⟨n, rfl, h1, h2, q⟩ := h
    have G_check_number : FnOk P w K mg base CX0 3 T.f_check_number T.d_check_number ["number", "least", "most"] (sp_check_number K) := ok_check_number T
    refine ⟨_, (pss_one (ps_expr (pe_call G_check_number hr (by rfl) T.m_check_number T.F_check_number.kp T.b_check_number .nil pass0 (pa_cons (pv 0) (pa_cons pe_int (pa_cons (pe_glob (v := .int 1000000) rfl T.m_MOST ⟨_, rfl⟩) pa_nil)))))), ?_⟩
    walk_at "st"
    exact q
def sp_check_order (K : PySem.W.Frag) : Sp := fun vs H Q _ => ∃ (ho si : Str) (pr : Option Int) (qu : Int) (kd : Str) (sh : Int), vs = [.str ho, .str si, optV pr, .int qu, .str kd, .int sh] ∧ GoodOrd ho si pr qu kd sh ∧ Q .non H
set_option maxHeartbeats 0 in
theorem ok_check_order (T : Txt K mg) : FnOk P w K mg base CX0 5 T.f_check_order T.d_check_order ["house", "side", "price", "quantity", "kind", "shown"] (sp_check_order K) := by
  refine T.F_check_order.ok sc_check_order (fun vs H Q E h => ?_) (fun cdv A outer s H vs Q E hr h => ?_)
  · obtain ⟨ho, si, pr, qu, kd, sh, rfl, _⟩ := h
    rfl
  · obtain ⟨ho, si, pr, qu, kd, sh, rfl, hg, q⟩ := h
    have G_check_house : FnOk P w K mg base CX0 1 T.f_check_house T.d_check_house ["house"] (sp_check_house K) := ok_check_house T
    have G_check_side : FnOk P w K mg base CX0 1 T.f_check_side T.d_check_side ["side"] (sp_check_side K) := ok_check_side T
    have G_check_quantity : FnOk P w K mg base CX0 4 T.f_check_quantity T.d_check_quantity ["quantity"] (sp_check_quantity K) := ok_check_quantity T
    have G_check_number : FnOk P w K mg base CX0 3 T.f_check_number T.d_check_number ["number", "least", "most"] (sp_check_number K) := ok_check_number T
    have G_check_price : FnOk P w K mg base CX0 4 T.f_check_price T.d_check_price ["price"] (sp_check_price K) := ok_check_price T
    refine ⟨_, (pss_cons (ps_expr (pe_call G_check_house (hr.mono (by decide)) (by rfl) T.m_check_house T.F_check_house.kp T.b_check_house .nil pass0 (pa_cons (pv 0) pa_nil)))
    (pss_cons (ps_expr (pe_call G_check_side (hr.mono (by decide)) (by rfl) T.m_check_side T.F_check_side.kp T.b_check_side .nil pass0 (pa_cons (pv 1) pa_nil)))
    (pss_cons (ps_if (pt_cmpR op_notIn_seq (pv 4) (pe_glob (v := .ref T.c_KINDS) rfl T.m_KINDS rfl) rfl)
      (pss_one ps_never)
      pss_nil)
    (pss_cons (ps_if (pt_cmpR op_notN (pv 2) pe_non (nomark _))
      (pss_one (ps_expr (pe_call G_check_price hr (by rfl) T.m_check_price T.F_check_price.kp T.b_check_price .nil pass0 (pa_cons (pv 2) pa_nil))))
      (pss_one (ps_if (pt_cmpR op_eq (pv 4) pe_str (nomark _))
        (pss_one ps_never)
        pss_nil)))
    (pss_cons (ps_expr (pe_call G_check_quantity hr (by rfl) T.m_check_quantity T.F_check_quantity.kp T.b_check_quantity .nil pass0 (pa_cons (pv 3) pa_nil)))
    (pss_cons (ps_expr (pe_call G_check_number (hr.mono (by decide)) (by rfl) T.m_check_number T.F_check_number.kp T.b_check_number .nil pass0 (pa_cons (pv 5) (pa_cons pe_int (pa_cons (pv 3) pa_nil)))))
    (pss_one (ps_if (PW.pt (pw_and (pt_cmpR op_gt (pv 5) pe_int (nomark _)) (pw_and1 (pt_cmpR op_ne (pv 4) pe_str (nomark _)))))
      (pss_one ps_never)
      pss_nil)))))))), ?_⟩
    have hq := T.q_KINDS H
    have g1 := hg.h1
    have g2 := hg.h2
    have g6 := hg.h6
    have g7 := hg.h7
    have e0 : inV (V.str kd) [.str "rest", .str "now", .str "all"] = true := by
      rcases hg.h3 with z | z | z
      · rw [z]
        rfl
      · rw [z]
        rfl
      · rw [z]
        rfl
    obtain ⟨g6a, g6b⟩ := g6
    obtain ⟨g7a, g7b⟩ := g7
    walk_at "st"
    rw [if_pos (show true = true from rfl), e0]
    cases pr with
    | none =>
      have g5 := hg.h5 rfl
      walk_at "st"
      refine iteB (fun h => absurd (of_decide_eq_true h) g5) (fun _ => ?_)
      walk_at "st"
      dsimp only
      refine iteB (fun h => ?_) (fun _ => q)
      have g8 := hg.h8 (of_decide_eq_true h)
      walk_at "st"
      refine iteB (fun h2 => (ndec_t h2 g8).elim) (fun _ => ?_)
      walk_at "st"
      exact q
    | some p =>
      obtain ⟨g4a, g4b⟩ := hg.h4 p rfl
      walk_at "st"
      dsimp only
      refine iteB (fun h => ?_) (fun _ => q)
      have g8 := hg.h8 (of_decide_eq_true h)
      walk_at "st"
      refine iteB (fun h2 => (ndec_t h2 g8).elim) (fun _ => ?_)
      walk_at "st"
      exact q

/-- a book in its order where no stop waits -/
structure BookOk (CO CB CK : Addr) (H : Hp) (x dx sd st b1 d1 l1 b2 d2 l2 : Addr) (last : Option Int) (next : Int) (es1 es2 : List Ent) : Prop where
  at_ : BookAt CO CB CK H x dx sd st b1 d1 l1 b2 d2 l2 last next es1 es2
  r1 : Rank "buy" es1
  r2 : Rank "sell" es2
  dj : ∀ e, e ∈ es1 → ∀ y, y ∈ es2 → e.1 ≠ y.1
  nll : l1 ≠ l2
  nst : st ≠ l1 ∧ st ≠ l2
theorem buyS_buy : buyS "buy" = true := by decide +kernel
theorem buyS_sell : buyS "sell" = false := by decide +kernel
theorem BookOk.enter_buy {CO CB CK : Addr} {H : Hp} {x dx sd st b1 d1 l1 b2 d2 l2 o dxo : Addr} {last : Option Int} {next : Int} {es1 es2 : List Ent} {t : Ord} (B : BookOk CO CB CK H x dx sd st b1 d1 l1 b2 d2 l2 last next es1 es2) (hs : t.side = "buy") (ho : H o = some (ordO CO dxo t)) (n1 : ∀ e, e ∈ es1 → e.1 ≠ o) (n2 : ∀ e, e ∈ es2 → e.1 ≠ o) (h0 : 1 ≤ t.left) (h1 : 0 ≤ t.shown) :
    EnterIn CO CB CK H x dx sd st b2 d2 l2 b1 d1 l1 o dxo last next es2 es1 t := by
  have e1 : otherS t.side = "sell" := by rw [hs]; unfold otherS; rw [if_pos buyS_buy]
  refine ⟨B.at_.ob, ?_, ?_, B.at_.s2, B.at_.s1, ?_, ?_, ho, n2, n1, h0, h1, fun e he y hy z => B.dj y hy e he z.symm, B.nll.symm, ⟨b1, b2, B.at_.sd⟩⟩
  · rw [e1]
    exact sides_sell B.at_.sd
  · rw [hs]
    exact sides_buy B.at_.sd
  · rw [e1]
    exact B.r2
  · rw [hs]
    exact B.r1
theorem BookOk.enter_sell {CO CB CK : Addr} {H : Hp} {x dx sd st b1 d1 l1 b2 d2 l2 o dxo : Addr} {last : Option Int} {next : Int} {es1 es2 : List Ent} {t : Ord} (B : BookOk CO CB CK H x dx sd st b1 d1 l1 b2 d2 l2 last next es1 es2) (hs : t.side = "sell") (ho : H o = some (ordO CO dxo t)) (n1 : ∀ e, e ∈ es1 → e.1 ≠ o) (n2 : ∀ e, e ∈ es2 → e.1 ≠ o) (h0 : 1 ≤ t.left) (h1 : 0 ≤ t.shown) :
    EnterIn CO CB CK H x dx sd st b1 d1 l1 b2 d2 l2 o dxo last next es1 es2 t := by
  have e1 : otherS t.side = "buy" := by rw [hs]; unfold otherS; rw [if_neg (by rw [buyS_sell]; exact Bool.false_ne_true)]
  refine ⟨B.at_.ob, ?_, ?_, B.at_.s1, B.at_.s2, ?_, ?_, ho, n1, n2, h0, h1, B.dj, B.nll, ⟨b1, b2, B.at_.sd⟩⟩
  · rw [e1]
    exact sides_buy B.at_.sd
  · rw [hs]
    exact sides_sell B.at_.sd
  · rw [e1]
    exact B.r1
  · rw [hs]
    exact B.r2
theorem SideAt.keepX {CO CB CK : Addr} {H H2 : Hp} {x dx sd st b d l : Addr} {last : Option Int} {next : Int} {es : List Ent} (S : SideAt CO CB H b d l es) (hx : H x = some (bookO CK dx last next sd st)) (k : KeepX x H H2) : SideAt CO CB H2 b d l es := by
  refine ⟨k _ _ (fun z => ?_) S.ob, k _ _ (fun z => ?_) S.li, fun e he => k _ _ (fun z => ?_) (S.en e he), S.nd, S.sm⟩
  · have := S.ob
    rw [z, hx] at this
    unfold bookO at this
    injection this with this
    injection this with _ _ h3
    exact absurd (congrArg List.length h3) (show ¬ 4 = 1 by decide)
  · have := S.li
    rw [z, hx] at this
    unfold bookO at this
    cases this
  · have := S.en e he
    rw [z, hx] at this
    unfold ordO bookO at this
    injection this with this
    injection this with _ _ h3
    exact absurd (congrArg List.length h3) (show ¬ 4 = 7 by decide)
theorem BookOk.keep {CO CB CK : Addr} {H H2 : Hp} {x dx sd st b1 d1 l1 b2 d2 l2 : Addr} {last last' : Option Int} {next next' : Int} {es1 es2 : List Ent} (B : BookOk CO CB CK H x dx sd st b1 d1 l1 b2 d2 l2 last next es1 es2) (hx : H2 x = some (bookO CK dx last' next' sd st)) (k : KeepX x H H2) : BookOk CO CB CK H2 x dx sd st b1 d1 l1 b2 d2 l2 last' next' es1 es2 := by
  have hb := B.at_.ob
  refine ⟨⟨hx, k _ _ (fun z => ?_) B.at_.sd, k _ _ (fun z => ?_) B.at_.st, B.at_.s1.keepX hb k, B.at_.s2.keepX hb k⟩, B.r1, B.r2, B.dj, B.nll, B.nst⟩
  · have := B.at_.sd
    rw [z, hb] at this
    unfold bookO sidesO at this
    cases this
  · have := B.at_.st
    rw [z, hb] at this
    unfold bookO at this
    cases this

theorem none_upd {H : Hp} {a z : Addr} {o : HO} (h : upd H a o z = none) : H z = none := by
  unfold upd at h
  split at h
  · cases h
  · exact h

/-! ### what an order does to a book -/
structure SubR where
  oth : List Ent
  own : List Ent
  last : Option Int
  fills : List (Int × Str × Int × Int)
  gone : List Int
  rest : Int
def startM (t : Ord) (last : Option Int) (oth : List Ent) : Mt := ⟨oth, t.left, last, [], []⟩
def endM (t : Ord) (last : Option Int) (oth : List Ent) : Mt := runM t (sizeM (startM t last oth)) (startM t last oth)
def heldM (kd : Str) (t : Ord) (oth : List Ent) : Bool := decide (V.str kd = V.str "all") && decide (availM t oth < t.left)
def subF (kd : Str) (t : Ord) (o dxo : Addr) (last : Option Int) (oth own : List Ent) : SubR :=
  if heldM kd t oth = true then ⟨oth, own, last, [], [], 0⟩
  else ⟨(endM t last oth).es, if restsM kd (endM t last oth) = true then insE own (place own (t.price.getD 0)) (o, dxo, Ord.showNext { t with left := (endM t last oth).left }) else own,
    (endM t last oth).last, (endM t last oth).fills, (endM t last oth).gone, if restsM kd (endM t last oth) = true then (endM t last oth).left else 0⟩
theorem tradeF_addr {e y : Ent} {es : List Ent} {n p : Int} (h : y ∈ tradeF e es n p) : y.1 = e.1 ∨ ∃ z, z ∈ es ∧ z.1 = y.1 := by
  rcases tradeF_mem h with z | z
  · exact .inl z
  · exact .inr ⟨y, z, rfl⟩
theorem runM_keeps {s : Str} {t : Ord} : ∀ (k : Nat) {m : Mt}, Rank s m.es → 0 ≤ m.left → Rank s (runM t k m).es ∧ 0 ≤ (runM t k m).left ∧ (runM t k m).left ≤ m.left ∧ ∀ y, y ∈ (runM t k m).es → ∃ e, e ∈ m.es ∧ e.1 = y.1
  | 0, m, hr, h0 => ⟨hr, h0, Int.le_refl _, fun y hy => ⟨y, hy, rfl⟩⟩
  | k + 1, m, hr, h0 => by
    cases h : goesM t m with
    | none =>
      rw [runM_stop h]
      exact ⟨hr, h0, Int.le_refl _, fun y hy => ⟨y, hy, rfl⟩⟩
    | some e =>
      rw [runM_go h]
      have hs := stepM_less hr h
      obtain ⟨h1, h2, h3⟩ := goesM_some h
      have ih := runM_keeps (s := s) (t := t) k (m := stepM t m e) hs.2.2 hs.2.1
      have hl : (stepM t m e).left ≤ m.left := by
        unfold stepM
        split
        · exact Int.le_refl _
        · show m.left - qtyM m e ≤ m.left
          rw [h1] at hr
          have hv := hr.vis e List.mem_cons_self
          unfold qtyM
          split <;> omega
      refine ⟨ih.1, ih.2.1, Int.le_trans ih.2.2.1 hl, fun y hy => ?_⟩
      obtain ⟨z, hz, ez⟩ := ih.2.2.2 y hy
      have hz2 : ∃ e', e' ∈ m.es ∧ e'.1 = z.1 := by
        rw [h1]
        unfold stepM at hz
        split at hz
        · exact ⟨z, List.mem_cons_of_mem _ hz, rfl⟩
        · rcases tradeF_mem hz with q | q
          · exact ⟨e, List.mem_cons_self, q.symm⟩
          · exact ⟨z, List.mem_cons_of_mem _ q, rfl⟩
      obtain ⟨e', he', ee⟩ := hz2
      exact ⟨e', he', ee.trans ez⟩
theorem sub_rank {kd : Str} {t : Ord} {o dxo : Addr} {last : Option Int} {oth own : List Ent} (h1 : Rank (otherS t.side) oth) (h2 : Rank t.side own) (hl : 1 ≤ t.left) (hs : 0 ≤ t.shown) (hkp : V.str kd = V.str "rest" → ∃ p, t.price = some p) :
    Rank (otherS t.side) (subF kd t o dxo last oth own).oth ∧ Rank t.side (subF kd t o dxo last oth own).own ∧ (∀ y, y ∈ (subF kd t o dxo last oth own).oth → ∃ e, e ∈ oth ∧ e.1 = y.1) ∧ ∀ y, y ∈ (subF kd t o dxo last oth own).own → y.1 = o ∨ y ∈ own := by
  unfold subF
  split
  · exact ⟨h1, h2, fun y hy => ⟨y, hy, rfl⟩, fun y hy => .inr hy⟩
  · have k := runM_keeps (t := t) (sizeM (startM t last oth)) (m := startM t last oth) h1 (by show 0 ≤ t.left; omega)
    refine ⟨k.1, ?_, k.2.2.2, ?_⟩
    · split
      · next hr =>
        unfold restsM at hr
        rw [Bool.and_eq_true] at hr
        obtain ⟨p, hp⟩ := hkp (of_decide_eq_true hr.1)
        have hl2 := of_decide_eq_true hr.2
        rw [show t.price.getD 0 = p by rw [hp]; rfl]
        refine h2.insert (p := p) rfl hp ?_
        exact showNext_vis (o := { t with left := (endM t last oth).left }) (by show 1 ≤ (endM t last oth).left; omega) hs
      · exact h2
    · intro y hy
      split at hy
      · rcases insE_mem.mp hy with z | z
        · exact .inl (by rw [z])
        · exact .inr z
      · exact .inr hy
theorem BookOk.same {CO CB CK : Addr} {H H2 : Hp} {x dx sd st b1 d1 l1 b2 d2 l2 : Addr} {last : Option Int} {next : Int} {es1 es2 : List Ent} (B : BookOk CO CB CK H x dx sd st b1 d1 l1 b2 d2 l2 last next es1 es2) (e : Same H H2) : BookOk CO CB CK H2 x dx sd st b1 d1 l1 b2 d2 l2 last next es1 es2 :=
  ⟨⟨e _ _ B.at_.ob, e _ _ B.at_.sd, e _ _ B.at_.st, B.at_.s1.same e, B.at_.s2.same e⟩, B.r1, B.r2, B.dj, B.nll, B.nst⟩
def othE (si : Str) (es1 es2 : List Ent) : List Ent := if buyS si = true then es2 else es1
def ownE (si : Str) (es1 es2 : List Ent) : List Ent := if buyS si = true then es1 else es2
def FrB (H H' : Hp) (es1 es2 : List Ent) (l1 l2 x : Addr) : Prop := ∀ z v, z ∉ es1.map (·.1) → z ∉ es2.map (·.1) → z ≠ l1 → z ≠ l2 → z ≠ x → H z = some v → H' z = some v
def sp_Book_submit (K : PySem.W.Frag) (CO CB CK CR : Addr) : Sp := fun vs H Q _ => ∃ (x dx sd st b1 d1 l1 b2 d2 l2 : Addr) (last : Option Int) (next : Int) (es1 es2 : List Ent) (ho si : Str) (pr : Option Int) (qu : Int) (kd : Str) (sh : Int), vs = [.ref x, .str ho, .str si, optV pr, .int qu, .str kd, .int sh] ∧ BookOk CO CB CK H x dx sd st b1 d1 l1 b2 d2 l2 last next es1 es2 ∧ GoodOrd ho si pr qu kd sh ∧ es1.length + es2.length + qu.toNat ≤ 900 ∧
  ∀ (R : SubR) (p r dr fl rm o dxo : Addr) (fs : List Addr) (H' : Hp), R = subF kd ⟨next, ho, si, pr, sh, qu, 0⟩ o dxo last (othE si es1 es2) (ownE si es1 es2) → H o = none → H fl = none → H rm = none →
    H' p = some (.lst [.ref r]) → H' r = some (repO CR dr next ho si fl rm R.rest) → Tups encFill H' fl fs R.fills → H' rm = some (.lst (R.gone.map V.int)) →
    BookOk CO CB CK H' x dx sd st b1 d1 l1 b2 d2 l2 R.last (next + 1) (if buyS si = true then R.own else R.oth) (if buyS si = true then R.oth else R.own) → FrB H H' es1 es2 l1 l2 x → Q (.ref p) H'
set_option maxHeartbeats 0 in
theorem ok_Book_submit (T : Txt K mg) : FnOk P w K mg base CX0 8 T.f_Book_submit T.d_Book_submit ["self", "house", "side", "price", "quantity", "kind", "shown"] (sp_Book_submit K T.c_Order T.c_BookSide T.c_Book T.c_Report) := by
  refine T.F_Book_submit.ok sc_Book_submit (fun vs H Q E h => ?_) (fun cdv A outer s H vs Q E hr h => ?_)
  · obtain ⟨x, dx, sd, st, b1, d1, l1, b2, d2, l2, last, next, es1, es2, ho, si, pr, qu, kd, sh, rfl, _⟩ := h
    rfl
  · obtain ⟨x, dx, sd, st, b1, d1, l1, b2, d2, l2, last, next, es1, es2, ho, si, pr, qu, kd, sh, rfl, B, G, hsz, q⟩ := h
    have G_check_order : FnOk P w K mg base CX0 5 T.f_check_order T.d_check_order ["house", "side", "price", "quantity", "kind", "shown"] (sp_check_order K) := ok_check_order T
    have G_Order_init : FnOk P w K mg base CX0 1 T.f_Order_init T.d_Order_init ["self", "number", "house", "side", "price", "quantity", "shown"] (sp_Order_init K T.c_Order) := ok_Order_init T
    have G_Bookenter : FnOk P w K mg base CX0 6 T.f_Bookenter T.d_Bookenter ["self", "order", "kind"] (sp_Bookenter K T.c_Order T.c_BookSide T.c_Book T.c_Report) := ok_Bookenter T
    have G_Booktake_number : FnOk P w K mg base CX0 1 T.f_Booktake_number T.d_Booktake_number ["self"] (sp_Booktake_number K T.c_Order T.c_BookSide T.c_Book) := ok_Booktake_number T
    have G_Booktrigger_stops : FnOk P w K mg base CX0 7 T.f_Booktrigger_stops T.d_Booktrigger_stops ["self"] (sp_Booktrigger_stops K T.c_Order T.c_BookSide T.c_Book T.c_Report) := ok_Booktrigger_stops T
    refine ⟨_, (PSs.nox (pss_cons (ps_expr (pe_call G_check_order (hr.mono (by decide)) (by rfl) T.m_check_order T.F_check_order.kp T.b_check_order .nil pass0 (pa_cons (pv 1) (pa_cons (pv 2) (pa_cons (pv 3) (pa_cons (pv 4) (pa_cons (pv 5) (pa_cons (pv 6) pa_nil))))))))
    (pss_cons (ps_set (i := 7) sc_Book_submit.nd rfl (Or.inl rfl) (pe_make T.mk_Order G_Order_init (hr.mono (by decide)) (by rfl) T.m_Order T.b_Order_init .nil pass0 (pa_cons (pe_meth0 (pv 0) T.cl_Book T.mt_Booktake_number G_Booktake_number (hr.mono (by decide)) T.b_Booktake_number .nil pass0) (pa_cons (pv 1) (pa_cons (pv 2) (pa_cons (pv 3) (pa_cons (pv 4) (pa_cons (pv 6) pa_nil))))))))
    (pss_cons (ps_set (i := 8) sc_Book_submit.nd rfl (Or.inl rfl) (pe_meth (pv 0) T.cl_Book T.mt_Bookenter G_Bookenter (hr.mono (by decide)) T.b_Bookenter .nil pass0 (pa_cons (pv 7) (pa_cons (pv 5) pa_nil))))
    (pss_one (ps_ret (pe_op op_cat (pe_lst (pa_cons (pv 8) pa_nil)) (pe_meth0 (pv 0) T.cl_Book T.mt_Booktrigger_stops G_Booktrigger_stops hr T.b_Booktrigger_stops .nil pass0)))))))), ?_⟩
    have fact_BookSide_0 := T.cl_BookSide; have fact_BookSide_1 := T.na_BookSide__orders; have fact_Book_0 := T.cl_Book; have fact_Book_1 := T.na_Book_last; have fact_Book_2 := T.na_Book__next_number; have fact_Book_3 := T.na_Book__sides; have fact_Book_4 := T.na_Book__stops; have fact_Order_0 := T.cl_Order; have fact_Order_1 := T.na_Order_number; have fact_Order_2 := T.na_Order_house; have fact_Order_3 := T.na_Order_side; have fact_Order_4 := T.na_Order_price; have fact_Order_5 := T.na_Order_shown; have fact_Order_6 := T.na_Order_left; have fact_Order_7 := T.na_Order_visible; have fact_Report_0 := T.cl_Report; have fact_Report_1 := T.na_Report_number; have fact_Report_2 := T.na_Report_house; have fact_Report_3 := T.na_Report_side; have fact_Report_4 := T.na_Report_fills; have fact_Report_5 := T.na_Report_removed; have fact_Report_6 := T.na_Report_resting
    have hob := B.at_.ob
    have hob2 := hob
    unfold bookO at hob2
    walk_at "st"
    refine ⟨pr, qu, kd, sh, rfl, G, ?_⟩
    walk_at "st"
    refine ⟨last, next, rfl, hob, ?_⟩
    have hob3 : upd H x (bookO T.c_Book dx last (next + 1) sd st) x = some (bookO T.c_Book dx last (next + 1) sd st) := upd_same
    have k1 : KeepX x H (upd H x (bookO T.c_Book dx last (next + 1) sd st)) := (keepX_of (Same.refl H)).set
    have fr1 : ∀ z, z ≠ x → upd H x (bookO T.c_Book dx last (next + 1) sd st) z = H z := fun z hz => upd_ne hz
    generalize upd H x _ = H1 at *
    walk_at "st"
    intro o dxo no ndo hne
    have no' : upd H1 dxo (.own o) o = none := by
      first
        | (rw [upd_ne hne]; exact no)
        | (rw [upd_ne (Ne.symm hne)]; exact no)
    have so : Same H1 (upd (upd H1 dxo (.own o)) o (.ins T.c_Order dxo [])) := (same_upd ndo).trans (same_upd no')
    refine ⟨o, dxo, next, ho, si, pr, qu, sh, rfl, upd_same, ?_⟩
    rw [upd_upd]
    refine ⟨rfl, ?_⟩
    have so2 : Same H1 (upd (upd H1 dxo (.own o)) o (ordO T.c_Order dxo ⟨next, ho, si, pr, sh, qu, 0⟩)) := (same_upd ndo).trans (same_upd no')
    have hoo : upd (upd H1 dxo (.own o)) o (ordO T.c_Order dxo ⟨next, ho, si, pr, sh, qu, 0⟩) o = some (ordO T.c_Order dxo ⟨next, ho, si, pr, sh, qu, 0⟩) := upd_same
    have hob4 := so2 _ _ hob3
    unfold bookO at hob4
    have B1 := B.keep hob3 k1
    have B2 := B.keep (so2 _ _ hob3) (k1.then so2)
    have n1 : ∀ e, e ∈ es1 → e.1 ≠ o := fun e he => ne_of_none (B1.at_.s1.en e he) no
    have n2 : ∀ e, e ∈ es2 → e.1 ≠ o := fun e he => ne_of_none (B1.at_.s2.en e he) no
    have g6 := G.h6
    have g7 := G.h7
    have hkp : V.str kd = V.str "rest" → ∃ p, pr = some p := fun z => by
      cases pr with
      | none => exact absurd z (G.h5 rfl)
      | some p => exact ⟨p, rfl⟩
    have hox : o ≠ x := fun z => by rw [z, hob3] at no; cases no
    have no0 : H o = none := by rw [← fr1 o hox]; exact no
    have nf0 : ∀ z, upd (upd H1 dxo (.own o)) o (ordO T.c_Order dxo ⟨next, ho, si, pr, sh, qu, 0⟩) z = none → H z = none := fun z hz => by
      have h1 := none_upd (none_upd hz)
      have hzx : z ≠ x := fun k => by rw [k, hob3] at h1; cases h1
      rw [← fr1 z hzx]
      exact h1
    rcases G.h2 with hsi | hsi
    · have hsi := V.str.inj hsi
      subst hsi
      have hoth : othE "buy" es1 es2 = es2 := if_pos buyS_buy
      have hown : ownE "buy" es1 es2 = es1 := if_pos buyS_buy
      rw [hoth, hown] at q
      have q := fun (R : SubR) (p r dr fl rm : Addr) (fs : List Addr) (H' : Hp) => q R p r dr fl rm o dxo fs H'
      walk_at "st"
      refine ⟨(), x, dx, sd, st, b2, d2, l2, b1, d1, l1, o, dxo, last, next + 1, es2, es1, ⟨next, ho, "buy", pr, sh, qu, 0⟩, kd, rfl, B2.enter_buy rfl hoo n1 n2 g6.1 g7.1, hkp, (show es2.length + es1.length ≤ 900 by omega), g6.2, ?_, ?_⟩
      · intro hk ha r dr fl rm H3 e3 nr nfl nrm hr hfl hrm
        have B3 := B2.same e3
        have hheld : heldM kd ⟨next, ho, "buy", pr, sh, qu, 0⟩ es2 = true := by
          unfold heldM
          rw [decide_eq_true hk, decide_eq_true ha]
          rfl
        have hR : subF kd ⟨next, ho, "buy", pr, sh, qu, 0⟩ o dxo last es2 es1 = ⟨es2, es1, last, [], [], 0⟩ := if_pos hheld
        have hX3 := B3.at_.ob
        have hS3 := B3.at_.st
        have hinX3 := hX3
        unfold bookO at hinX3
        walk_at "st"
        intro p1 np1
        generalize hH4 : upd H3 p1 _ = H4
        have s4 : Same H3 H4 := hH4 ▸ same_upd np1
        have hp1 := (congrFun hH4 p1).symm.trans upd_same
        have hin4 := s4 _ _ hinX3
        walk_at "st"
        refine ⟨_, _, rfl, s4 _ _ hX3, s4 _ _ hS3, fun D H5 s5 nD hD => ?_⟩
        refine ⟨p1, D, [.ref r], [], rfl, rfl, s5 _ _ hp1, hD, len_le rfl, fun p np => ?_⟩
        have sE : Same H3 (upd H5 p (.lst ([.ref r] ++ []))) := (s4.trans s5).trans (same_upd np)
        rw [hR] at q
        refine q _ p r dr fl rm [] _ rfl no0 (nf0 fl nfl) (nf0 rm nrm) upd_same (sE _ _ hr) ⟨sE _ _ hfl, rfl, fun i p x h => by cases h⟩ (sE _ _ hrm) ?_ fun z v h1 h2 h3 h4 h5 h6 => sE _ _ (e3 _ _ (so2 _ _ (by rw [fr1 z h5]; exact h6)))
        rw [if_pos buyS_buy, if_pos buyS_buy]
        exact B3.same sE
      · intro hk r dr fl rm fs m H3 hm nr nfl nrm hr hfl hrm hx3 hs1 hs2 hfr
        have hheld : ¬ heldM kd ⟨next, ho, "buy", pr, sh, qu, 0⟩ es2 = true := fun z => by
          unfold heldM at z
          rw [Bool.and_eq_true] at z
          exact hk ⟨of_decide_eq_true z.1, of_decide_eq_true z.2⟩
        have hR : subF kd ⟨next, ho, "buy", pr, sh, qu, 0⟩ o dxo last es2 es1 = ⟨m.es, if restsM kd m = true then insE es1 (place es1 (pr.getD 0)) (o, dxo, Ord.showNext ⟨next, ho, "buy", pr, sh, m.left, 0⟩) else es1, m.last, m.fills, m.gone, if restsM kd m = true then m.left else 0⟩ := by
          rw [hm]
          exact if_neg hheld
        have hrk := sub_rank (kd := kd) (t := ⟨next, ho, "buy", pr, sh, qu, 0⟩) (o := o) (dxo := dxo) (last := last) (oth := es2) (own := es1) (by rw [show otherS "buy" = "sell" from if_pos buyS_buy]; exact B.r2) B.r1 g6.1 g7.1 hkp
        rw [hR] at hrk q
        obtain ⟨k1, k2, k3, k4⟩ := hrk
        have sdN : ∀ e, (e ∈ es1 ∨ e ∈ es2) → e.1 ≠ sd := fun e he z => by
          have h1 := B2.at_.sd
          rcases he with he | he
          · have h2 := B2.at_.s1.en e he
            rw [z, h1] at h2
            cases h2
          · have h2 := B2.at_.s2.en e he
            rw [z, h1] at h2
            cases h2
        have stN : ∀ e, (e ∈ es1 ∨ e ∈ es2) → e.1 ≠ st := fun e he z => by
          have h1 := B2.at_.st
          rcases he with he | he
          · have h2 := B2.at_.s1.en e he
            rw [z, h1] at h2
            cases h2
          · have h2 := B2.at_.s2.en e he
            rw [z, h1] at h2
            cases h2
        have sdo : sd ≠ o := fun z => by have h1 := B2.at_.sd; rw [z, hoo] at h1; cases h1
        have sto : st ≠ o := fun z => by have h1 := B2.at_.st; rw [z, hoo] at h1; cases h1
        have sdx : sd ≠ x := fun z => by have h1 := B2.at_.sd; rw [z, B2.at_.ob] at h1; cases h1
        have stx : st ≠ x := fun z => by have h1 := B2.at_.st; rw [z, B2.at_.ob] at h1; cases h1
        have sd1 : sd ≠ l1 := fun z => by have h1 := B2.at_.sd; rw [z, B2.at_.s1.li] at h1; cases h1
        have sd2 : sd ≠ l2 := fun z => by have h1 := B2.at_.sd; rw [z, B2.at_.s2.li] at h1; cases h1
        have nin : ∀ z : Addr, (∀ e, (e ∈ es1 ∨ e ∈ es2) → e.1 ≠ z) → z ∉ es2.map (·.1) := fun z h y => by
          obtain ⟨e, he, ez⟩ := List.mem_map.mp y
          exact h e (.inr he) ez
        have hsd3 := hfr sd _ (nin sd sdN) sd2 sd1 sdo sdx B2.at_.sd
        have hst3 := hfr st _ (nin st stN) B.nst.2 B.nst.1 sto stx B2.at_.st
        have hX3 := hx3
        have hS3 := hst3
        have hinX3 := hX3
        unfold bookO at hinX3
        walk_at "st"
        intro p1 np1
        generalize hH4 : upd H3 p1 _ = H4
        have s4 : Same H3 H4 := hH4 ▸ same_upd np1
        have hp1 := (congrFun hH4 p1).symm.trans upd_same
        have hin4 := s4 _ _ hinX3
        walk_at "st"
        refine ⟨_, _, rfl, s4 _ _ hX3, s4 _ _ hS3, fun D H5 s5 nD hD => ?_⟩
        refine ⟨p1, D, [.ref r], [], rfl, rfl, s5 _ _ hp1, hD, len_le rfl, fun p np => ?_⟩
        have sE : Same H3 (upd H5 p (.lst ([.ref r] ++ []))) := (s4.trans s5).trans (same_upd np)
        refine q _ p r dr fl rm fs _ rfl no0 (nf0 fl nfl) (nf0 rm nrm) upd_same (sE _ _ hr) (hfl.same sE) (sE _ _ hrm) ?_ fun z v h1 h2 h3 h4 h5 h6 => ?_
        · rw [if_pos buyS_buy, if_pos buyS_buy]
          have B3 : BookOk T.c_Order T.c_BookSide T.c_Book H3 x dx sd st b1 d1 l1 b2 d2 l2 m.last (next + 1) (if restsM kd m = true then insE es1 (place es1 (pr.getD 0)) (o, dxo, Ord.showNext ⟨next, ho, "buy", pr, sh, m.left, 0⟩) else es1) m.es := by
            refine ⟨⟨hx3, hsd3, hst3, hs2, hs1⟩, k2, k1, ?_, B.nll, B.nst⟩
            intro e he y hy z
            obtain ⟨e', he', ee⟩ := k3 y hy
            rcases k4 e he with h | h
            · exact n2 e' he' (ee.trans (z.symm.trans h))
            · exact B.dj e h e' he' (z.trans ee.symm)
          exact B3.same sE
        · refine sE _ _ (hfr z v h2 h4 h3 (ne_of_none h6 no0) h5 (so2 _ _ (by rw [fr1 z h5]; exact h6)))
    · have hsi := V.str.inj hsi
      subst hsi
      have hoth : othE "sell" es1 es2 = es1 := if_neg (by rw [buyS_sell]; exact Bool.false_ne_true)
      have hown : ownE "sell" es1 es2 = es2 := if_neg (by rw [buyS_sell]; exact Bool.false_ne_true)
      rw [hoth, hown] at q
      have q := fun (R : SubR) (p r dr fl rm : Addr) (fs : List Addr) (H' : Hp) => q R p r dr fl rm o dxo fs H'
      walk_at "st"
      refine ⟨(), x, dx, sd, st, b1, d1, l1, b2, d2, l2, o, dxo, last, next + 1, es1, es2, ⟨next, ho, "sell", pr, sh, qu, 0⟩, kd, rfl, B2.enter_sell rfl hoo n1 n2 g6.1 g7.1, hkp, (show es1.length + es2.length ≤ 900 by omega), g6.2, ?_, ?_⟩
      · intro hk ha r dr fl rm H3 e3 nr nfl nrm hr hfl hrm
        have B3 := B2.same e3
        have hheld : heldM kd ⟨next, ho, "sell", pr, sh, qu, 0⟩ es1 = true := by
          unfold heldM
          rw [decide_eq_true hk, decide_eq_true ha]
          rfl
        have hR : subF kd ⟨next, ho, "sell", pr, sh, qu, 0⟩ o dxo last es1 es2 = ⟨es1, es2, last, [], [], 0⟩ := if_pos hheld
        have hX3 := B3.at_.ob
        have hS3 := B3.at_.st
        have hinX3 := hX3
        unfold bookO at hinX3
        walk_at "st"
        intro p1 np1
        generalize hH4 : upd H3 p1 _ = H4
        have s4 : Same H3 H4 := hH4 ▸ same_upd np1
        have hp1 := (congrFun hH4 p1).symm.trans upd_same
        have hin4 := s4 _ _ hinX3
        walk_at "st"
        refine ⟨_, _, rfl, s4 _ _ hX3, s4 _ _ hS3, fun D H5 s5 nD hD => ?_⟩
        refine ⟨p1, D, [.ref r], [], rfl, rfl, s5 _ _ hp1, hD, len_le rfl, fun p np => ?_⟩
        have sE : Same H3 (upd H5 p (.lst ([.ref r] ++ []))) := (s4.trans s5).trans (same_upd np)
        rw [hR] at q
        refine q _ p r dr fl rm [] _ rfl no0 (nf0 fl nfl) (nf0 rm nrm) upd_same (sE _ _ hr) ⟨sE _ _ hfl, rfl, fun i p x h => by cases h⟩ (sE _ _ hrm) ?_ fun z v h1 h2 h3 h4 h5 h6 => sE _ _ (e3 _ _ (so2 _ _ (by rw [fr1 z h5]; exact h6)))
        rw [if_neg (c := buyS "sell" = true) (by rw [buyS_sell]; exact Bool.false_ne_true), if_neg (c := buyS "sell" = true) (by rw [buyS_sell]; exact Bool.false_ne_true)]
        exact B3.same sE
      · intro hk r dr fl rm fs m H3 hm nr nfl nrm hr hfl hrm hx3 hs1 hs2 hfr
        have hheld : ¬ heldM kd ⟨next, ho, "sell", pr, sh, qu, 0⟩ es1 = true := fun z => by
          unfold heldM at z
          rw [Bool.and_eq_true] at z
          exact hk ⟨of_decide_eq_true z.1, of_decide_eq_true z.2⟩
        have hR : subF kd ⟨next, ho, "sell", pr, sh, qu, 0⟩ o dxo last es1 es2 = ⟨m.es, if restsM kd m = true then insE es2 (place es2 (pr.getD 0)) (o, dxo, Ord.showNext ⟨next, ho, "sell", pr, sh, m.left, 0⟩) else es2, m.last, m.fills, m.gone, if restsM kd m = true then m.left else 0⟩ := by
          rw [hm]
          exact if_neg hheld
        have hrk := sub_rank (kd := kd) (t := ⟨next, ho, "sell", pr, sh, qu, 0⟩) (o := o) (dxo := dxo) (last := last) (oth := es1) (own := es2) (by rw [show otherS "sell" = "buy" from if_neg (by rw [buyS_sell]; exact Bool.false_ne_true)]; exact B.r1) B.r2 g6.1 g7.1 hkp
        rw [hR] at hrk q
        obtain ⟨k1, k2, k3, k4⟩ := hrk
        have sdN : ∀ e, (e ∈ es1 ∨ e ∈ es2) → e.1 ≠ sd := fun e he z => by
          have h1 := B2.at_.sd
          rcases he with he | he
          · have h2 := B2.at_.s1.en e he
            rw [z, h1] at h2
            cases h2
          · have h2 := B2.at_.s2.en e he
            rw [z, h1] at h2
            cases h2
        have stN : ∀ e, (e ∈ es1 ∨ e ∈ es2) → e.1 ≠ st := fun e he z => by
          have h1 := B2.at_.st
          rcases he with he | he
          · have h2 := B2.at_.s1.en e he
            rw [z, h1] at h2
            cases h2
          · have h2 := B2.at_.s2.en e he
            rw [z, h1] at h2
            cases h2
        have sdo : sd ≠ o := fun z => by have h1 := B2.at_.sd; rw [z, hoo] at h1; cases h1
        have sto : st ≠ o := fun z => by have h1 := B2.at_.st; rw [z, hoo] at h1; cases h1
        have sdx : sd ≠ x := fun z => by have h1 := B2.at_.sd; rw [z, B2.at_.ob] at h1; cases h1
        have stx : st ≠ x := fun z => by have h1 := B2.at_.st; rw [z, B2.at_.ob] at h1; cases h1
        have sd1 : sd ≠ l1 := fun z => by have h1 := B2.at_.sd; rw [z, B2.at_.s1.li] at h1; cases h1
        have sd2 : sd ≠ l2 := fun z => by have h1 := B2.at_.sd; rw [z, B2.at_.s2.li] at h1; cases h1
        have nin : ∀ z : Addr, (∀ e, (e ∈ es1 ∨ e ∈ es2) → e.1 ≠ z) → z ∉ es1.map (·.1) := fun z h y => by
          obtain ⟨e, he, ez⟩ := List.mem_map.mp y
          exact h e (.inl he) ez
        have hsd3 := hfr sd _ (nin sd sdN) sd1 sd2 sdo sdx B2.at_.sd
        have hst3 := hfr st _ (nin st stN) B.nst.1 B.nst.2 sto stx B2.at_.st
        have hX3 := hx3
        have hS3 := hst3
        have hinX3 := hX3
        unfold bookO at hinX3
        walk_at "st"
        intro p1 np1
        generalize hH4 : upd H3 p1 _ = H4
        have s4 : Same H3 H4 := hH4 ▸ same_upd np1
        have hp1 := (congrFun hH4 p1).symm.trans upd_same
        have hin4 := s4 _ _ hinX3
        walk_at "st"
        refine ⟨_, _, rfl, s4 _ _ hX3, s4 _ _ hS3, fun D H5 s5 nD hD => ?_⟩
        refine ⟨p1, D, [.ref r], [], rfl, rfl, s5 _ _ hp1, hD, len_le rfl, fun p np => ?_⟩
        have sE : Same H3 (upd H5 p (.lst ([.ref r] ++ []))) := (s4.trans s5).trans (same_upd np)
        refine q _ p r dr fl rm fs _ rfl no0 (nf0 fl nfl) (nf0 rm nrm) upd_same (sE _ _ hr) (hfl.same sE) (sE _ _ hrm) ?_ fun z v h1 h2 h3 h4 h5 h6 => ?_
        · rw [if_neg (c := buyS "sell" = true) (by rw [buyS_sell]; exact Bool.false_ne_true), if_neg (c := buyS "sell" = true) (by rw [buyS_sell]; exact Bool.false_ne_true)]
          have B3 : BookOk T.c_Order T.c_BookSide T.c_Book H3 x dx sd st b1 d1 l1 b2 d2 l2 m.last (next + 1) m.es (if restsM kd m = true then insE es2 (place es2 (pr.getD 0)) (o, dxo, Ord.showNext ⟨next, ho, "sell", pr, sh, m.left, 0⟩) else es2) := by
            refine ⟨⟨hx3, hsd3, hst3, hs1, hs2⟩, k1, k2, ?_, B.nll, B.nst⟩
            intro e he y hy z
            obtain ⟨e', he', ee⟩ := k3 e he
            rcases k4 y hy with h | h
            · exact n1 e' he' (ee.trans (z.trans h))
            · exact B.dj e' he' y h (ee.trans z)
          exact B3.same sE
        · refine sE _ _ (hfr z v h1 h3 h4 (ne_of_none h6 no0) h5 (so2 _ _ (by rw [fr1 z h5]; exact h6)))

/-! ### an order gets no better price from trade to trade -/
def betterB (s : Str) (p q : Int) : Bool := if buyS s = true then decide (p < q) else decide (q < p)
theorem buyS_other (s : Str) : buyS (otherS s) = !buyS s := by
  unfold otherS
  by_cases h : buyS s = true
  · rw [if_pos h, h, buyS_sell]
    rfl
  · rw [if_neg h, buyS_buy]
    cases e : buyS s with
    | true => exact absurd e h
    | false => rfl
theorem better_of {s : Str} {a p : Int} (h : takes (otherS s) (some a) p = true) : betterB s p a = false := by
  unfold takes at h
  dsimp only at h
  rw [buyS_other] at h
  unfold betterB
  cases e : buyS s with
  | true =>
    rw [e] at h
    rw [if_neg (by decide)] at h
    rw [if_pos rfl]
    have := of_decide_eq_true h
    exact decide_eq_false (by omega)
  | false =>
    rw [e] at h
    rw [if_pos (by decide)] at h
    rw [if_neg (by decide)]
    have := of_decide_eq_true h
    exact decide_eq_false (by omega)
theorem better_self (s : Str) (p : Int) : betterB s p p = false := by
  unfold betterB
  split <;> exact decide_eq_false (by omega)
theorem takes_up {s : Str} {lim : Option Int} {a p : Int} (h1 : takes s lim p = true) (h2 : takes (otherS s) (some a) p = true) : takes s lim a = true := by
  cases lim with
  | none => rfl
  | some l =>
    unfold takes at h1 h2 ⊢
    dsimp only at h1 h2 ⊢
    rw [buyS_other] at h2
    cases e : buyS s with
    | true =>
      rw [e] at h1 h2
      rw [if_neg (by decide)] at h2
      rw [if_pos rfl] at h1 ⊢
      have := of_decide_eq_true h1
      have := of_decide_eq_true h2
      exact decide_eq_true (by omega)
    | false =>
      rw [e] at h1 h2
      rw [if_pos (by decide)] at h2
      rw [if_neg (by decide)] at h1 ⊢
      have := of_decide_eq_true h1
      have := of_decide_eq_true h2
      exact decide_eq_true (by omega)
theorem prc_of {s : Str} {es : List Ent} (h : Rank s es) {e : Ent} (he : e ∈ es) : e.2.2.price = some (prcE e) := by
  obtain ⟨p, hp⟩ := h.price e he
  unfold prcE
  rw [hp]
  rfl
theorem rank_first {s : Str} {e : Ent} {es : List Ent} (h : Rank s (e :: es)) {y : Ent} (hy : y ∈ es) : takes s (some (prcE e)) (prcE y) = true := by
  have h1 := (List.pairwise_cons.mp (mono_iff.mp (h.mono (prcE y)))).1 y hy
  have e1 := prc_of h (List.mem_cons_self (a := e) (l := es))
  have e2 := prc_of h (List.mem_cons_of_mem e hy)
  rw [accE_of e2, accE_of e1, h.side e List.mem_cons_self, h.side y (List.mem_cons_of_mem e hy)] at h1
  exact h1 (takes_self s _)
theorem tradeF_price {e y : Ent} {es : List Ent} {n p : Int} (h : y ∈ tradeF e es n p) : y.2.2.price = e.2.2.price ∨ y ∈ es := by
  unfold tradeF at h
  dsimp only at h
  split at h
  · split at h
    · rcases insE_mem.mp h with z | z
      · exact .inl (by rw [z]; rfl)
      · exact .inr z
    · exact .inr h
  · rcases List.mem_cons.mp h with z | z
    · exact .inl (by rw [z])
    · exact .inr z
structure RightM (t : Ord) (m : Mt) : Prop where
  fills : ∀ f, f ∈ m.fills → takes t.side t.price f.2.2.1 = true ∧ ¬ f.2.1 = t.house
  steps : ∀ (i : Nat) a b, m.fills[i]? = some a → m.fills[i + 1]? = some b → betterB t.side b.2.2.1 a.2.2.1 = false
  lastb : ∀ f, m.fills.getLast? = some f → ∀ e, e ∈ m.es → betterB t.side (prcE e) f.2.2.1 = false
  sum : (m.fills.map (·.2.2.2)).sum + m.left = t.left
  qty : ∀ f, f ∈ m.fills → 1 ≤ f.2.2.2
theorem RightM.step {t : Ord} {m : Mt} {e : Ent} (R : RightM t m) (hr : Rank (otherS t.side) m.es) (h : goesM t m = some e) : RightM t (stepM t m e) := by
  obtain ⟨h1, h2, h3⟩ := goesM_some h
  have hr1 := hr
  rw [h1] at hr1
  unfold stepM
  split
  · refine ⟨R.fills, R.steps, fun f hf y hy => R.lastb f hf y ?_, R.sum, R.qty⟩
    rw [h1]
    exact List.mem_cons_of_mem _ hy
  · next hh =>
    have hq1 : 1 ≤ qtyM m e := by
      have hv := hr1.vis e List.mem_cons_self
      unfold qtyM
      split <;> omega
    refine ⟨fun f hf => ?_, fun i a b ha hb => ?_, fun f hf y hy => ?_, ?_, fun f hf => ?_⟩
    · rcases List.mem_append.mp hf with z | z
      · exact R.fills f z
      · rw [List.mem_singleton.mp z]
        exact ⟨h3, hh⟩
    · have hi := (List.getElem?_eq_some_iff.mp hb).1
      rw [List.length_append, List.length_singleton] at hi
      have hi2 : i < m.fills.length := by omega
      dsimp only at ha hb
      rw [List.getElem?_append_left hi2] at ha
      by_cases z : i + 1 < m.fills.length
      · rw [List.getElem?_append_left z] at hb
        exact R.steps i a b ha hb
      · rw [List.getElem?_append_right (by omega), show i + 1 - m.fills.length = 0 by omega] at hb
        have eb : ((e.2.2.number, e.2.2.house, prcE e, qtyM m e) : Int × Str × Int × Int) = b := Option.some.inj hb
        rw [← eb]
        refine R.lastb a ?_ e (by rw [h1]; exact List.mem_cons_self)
        rw [List.getLast?_eq_getElem?, show m.fills.length - 1 = i by omega]
        exact ha
    · dsimp only at hf hy
      rw [List.getLast?_append, List.getLast?_singleton] at hf
      have ef : ((e.2.2.number, e.2.2.house, prcE e, qtyM m e) : Int × Str × Int × Int) = f := Option.some.inj hf
      rw [← ef]
      show betterB t.side (prcE y) (prcE e) = false
      rcases tradeF_price hy with z | z
      · have : prcE y = prcE e := by unfold prcE; rw [z]
        rw [this]
        exact better_self _ _
      · exact better_of (rank_first hr1 z)
    · dsimp only
      rw [List.map_append, List.sum_append]
      have := R.sum
      show _ + (qtyM m e + 0) + (m.left - qtyM m e) = t.left
      omega
    · rcases List.mem_append.mp hf with z | z
      · exact R.qty f z
      · rw [List.mem_singleton.mp z]
        exact hq1
theorem RightM.run {t : Ord} : ∀ (k : Nat) {m : Mt}, RightM t m → Rank (otherS t.side) m.es → RightM t (runM t k m)
  | 0, m, R, _ => R
  | k + 1, m, R, hr => by
    cases h : goesM t m with
    | none => rw [runM_stop h]; exact R
    | some e =>
      rw [runM_go h]
      exact RightM.run k (R.step hr h) (stepM_less hr h).2.2
theorem runM_done {s : Str} {t : Ord} : ∀ (k : Nat) {m : Mt}, Rank s m.es → sizeM m ≤ k → goesM t (runM t k m) = none
  | 0, m, hr, hk => by
    cases h : goesM t m with
    | none => rw [runM_stop h]; exact h
    | some e =>
      have := stepM_less hr h
      omega
  | k + 1, m, hr, hk => by
    cases h : goesM t m with
    | none => rw [runM_stop h]; exact h
    | some e =>
      rw [runM_go h]
      have hs := stepM_less hr h
      exact runM_done k hs.2.2 (by omega)
theorem endM_right {t : Ord} {last : Option Int} {oth : List Ent} (hr : Rank (otherS t.side) oth) : RightM t (endM t last oth) :=
  RightM.run _ ⟨fun f h => (by cases h), fun i a b h => (by simp [startM] at h), fun f h => (by simp [startM] at h), by show ([] : List Int).sum + t.left = t.left; simp, fun f h => (by cases h)⟩ hr
theorem endM_stop {t : Ord} {last : Option Int} {oth : List Ent} (hr : Rank (otherS t.side) oth) (h0 : 0 ≤ t.left) (hl : 0 < (endM t last oth).left) : ∀ e, e ∈ (endM t last oth).es → takes t.side t.price (prcE e) = false := by
  have hd : goesM t (endM t last oth) = none := runM_done (s := otherS t.side) _ (m := startM t last oth) hr (Nat.le_refl _)
  have hk := (runM_keeps (s := otherS t.side) (t := t) (sizeM (startM t last oth)) (m := startM t last oth) hr h0).1
  change Rank _ (endM t last oth).es at hk
  generalize endM t last oth = m at *
  intro e he
  unfold goesM at hd
  split at hd
  · next z => rw [z] at he; cases he
  · next e' r hes =>
    rw [hes] at he hk
    split at hd
    · cases hd
    · next z =>
      have h1 : takes t.side t.price (prcE e') = false := by
        cases y : takes t.side t.price (prcE e') with
        | false => rfl
        | true => exact absurd ⟨hl, y⟩ z
      rcases List.mem_cons.mp he with y | y
      · rw [y]
        exact h1
      · cases q : takes t.side t.price (prcE e) with
        | false => rfl
        | true =>
          have := takes_up q (rank_first hk y)
          rw [h1] at this
          cases this
theorem runM_len {s : Str} {t : Ord} : ∀ (k : Nat) {m : Mt}, Rank s m.es → (runM t k m).es.length ≤ m.es.length
  | 0, m, _ => Nat.le_refl _
  | k + 1, m, hr => by
    cases h : goesM t m with
    | none => rw [runM_stop h]; exact Nat.le_refl _
    | some e =>
      rw [runM_go h]
      have hs := stepM_less hr h
      have ih := runM_len (s := s) (t := t) k (m := stepM t m e) hs.2.2
      obtain ⟨h1, _, _⟩ := goesM_some h
      have hl : m.es.length = m.es.tail.length + 1 := by rw [h1]; rfl
      have : (stepM t m e).es.length ≤ m.es.length := by
        unfold stepM
        split
        · show m.es.tail.length ≤ _
          omega
        · have := tradeF_len e m.es.tail (qtyM m e) (prcE e)
          show (tradeF e m.es.tail (qtyM m e) (prcE e)).length ≤ _
          omega
      omega
theorem sub_len {kd : Str} {t : Ord} {o dxo : Addr} {last : Option Int} {oth own : List Ent} (hr : Rank (otherS t.side) oth) : (subF kd t o dxo last oth own).oth.length + (subF kd t o dxo last oth own).own.length ≤ oth.length + own.length + 1 := by
  unfold subF
  split
  · show oth.length + own.length ≤ _
    omega
  · have h1 : (endM t last oth).es.length ≤ oth.length := runM_len (s := otherS t.side) _ (m := startM t last oth) hr
    dsimp only
    split
    · rw [(insE_perm _ _ _).length_eq, List.length_cons]
      omega
    · omega
theorem ones_le : ∀ fs : List (Int × Str × Int × Int), (∀ f, f ∈ fs → 1 ≤ f.2.2.2) → (fs.length : Int) ≤ (fs.map (·.2.2.2)).sum
  | [], _ => by simp
  | f :: fs, h => by
    rw [List.map_cons, List.sum_cons, List.length_cons]
    have h1 := h f List.mem_cons_self
    have h2 := ones_le fs fun z hz => h z (List.mem_cons_of_mem _ hz)
    omega

/-! ### an order is taken back -/
def sp_Bookorder_of (K : PySem.W.Frag) (CU CN CO CB CK : Addr) : Sp := fun vs H Q E => ∃ (x dx sd st b1 d1 l1 b2 d2 l2 : Addr) (last : Option Int) (next : Int) (es1 es2 : List Ent) (n : Int) (ho : Str), vs = [.ref x, .int n, .str ho] ∧ BookAt CO CB CK H x dx sd st b1 d1 l1 b2 d2 l2 last next es1 es2 ∧
  (∀ e : Ent, withNum es1 es2 n = some e → e.2.2.house = ho → Q (.ref e.1) H) ∧ (withNum es1 es2 n = none → E (.ref CU) none H) ∧ (∀ e : Ent, withNum es1 es2 n = some e → e.2.2.house ≠ ho → E (.ref CN) none H)
theorem with_mem {es1 es2 : List Ent} {n : Int} {e : Ent} (h : withNum es1 es2 n = some e) : e.2.2.number = n ∧ (e ∈ es1 ∨ e ∈ es2) := by
  unfold withNum at h
  cases hf : es1.find? (fun e => decide (e.2.2.number = n)) with
  | some z =>
    rw [hf] at h
    have h2 : z = e := Option.some.inj h
    subst h2
    have hq := List.find?_some (p := fun e : Ent => decide (e.2.2.number = n)) hf
    exact ⟨of_decide_eq_true hq, .inl (List.mem_of_find?_eq_some hf)⟩
  | none =>
    rw [hf] at h
    have h2 : es2.find? (fun e => decide (e.2.2.number = n)) = some e := h
    have hq := List.find?_some (p := fun e : Ent => decide (e.2.2.number = n)) h2
    exact ⟨of_decide_eq_true hq, .inr (List.mem_of_find?_eq_some h2)⟩
set_option maxHeartbeats 0 in
theorem ok_Bookorder_of (T : Txt K mg) : FnOk P w K mg base (L2.CX P w) 3 T.f_Bookorder_of T.d_Bookorder_of ["self", "number", "house"] (sp_Bookorder_of K T.c_UnknownOrder T.c_NotOwner T.c_Order T.c_BookSide T.c_Book) := by
  refine T.F_Bookorder_of.okX sc_Bookorder_of (fun vs H Q E h => ?_) (fun cdv A outer s H vs Q E hr h => ?_)
  · obtain ⟨x, dx, sd, st, b1, d1, l1, b2, d2, l2, last, next, es1, es2, n, ho, rfl, _⟩ := h
    rfl
  · obtain ⟨x, dx, sd, st, b1, d1, l1, b2, d2, l2, last, next, es1, es2, n, ho, rfl, B, q, qu, qn⟩ := h
    have G_Bookorder_with : FnOk P w K mg base CX0 2 T.f_Bookorder_with T.d_Bookorder_with ["self", "number"] (sp_Bookorder_with K T.c_Order T.c_BookSide T.c_Book) := ok_Bookorder_with T
    refine ⟨_, (pss_cons (ps_set (i := 3) sc_Bookorder_of.nd rfl (Or.inl rfl) (pe_meth (pv 0) T.cl_Book T.mt_Bookorder_with G_Bookorder_with hr T.b_Bookorder_with .nil pass0 (pa_cons (pv 1) pa_nil)))
    (pss_cons (ps_if (pt_cmpR op_isN (pv 3) pe_non (nomark _))
      (pss_one (ps_raise rfl (takes_of rfl rfl rfl rfl) (pmk_own PySem.F.excBase_ValueError T.x_UnknownOrder T.m_UnknownOrder T.k_UnknownOrder (raises_own T.b_UnknownOrder T.t_UnknownOrder) (by rfl))))
      pss_nil)
    (pss_cons (ps_if (pt_cmpR op_ne (pe_fld (pv 3) rfl) (pv 2) (nomark _))
      (pss_one (ps_raise rfl (takes_of rfl rfl rfl rfl) (pmk_own PySem.F.excBase_ValueError T.x_NotOwner T.m_NotOwner T.k_NotOwner (raises_own T.b_NotOwner T.t_NotOwner) (by rfl))))
      pss_nil)
    (pss_one (ps_ret (pv 3)))))), ?_⟩
    have fact_BookSide_0 := T.cl_BookSide; have fact_BookSide_1 := T.na_BookSide__orders; have fact_Book_0 := T.cl_Book; have fact_Book_1 := T.na_Book_last; have fact_Book_2 := T.na_Book__next_number; have fact_Book_3 := T.na_Book__sides; have fact_Book_4 := T.na_Book__stops; have fact_Order_0 := T.cl_Order; have fact_Order_1 := T.na_Order_number; have fact_Order_2 := T.na_Order_house; have fact_Order_3 := T.na_Order_side; have fact_Order_4 := T.na_Order_price; have fact_Order_5 := T.na_Order_shown; have fact_Order_6 := T.na_Order_left; have fact_Order_7 := T.na_Order_visible
    have hob := B.ob
    unfold bookO at hob
    walk_at "st"
    refine ⟨last, next, es1, es2, n, rfl, B, ?_⟩
    cases hw : withNum es1 es2 n with
    | none =>
      walk_at "st"
      exact qu hw
    | some e =>
      have hen : H e.1 = some (ordO T.c_Order e.2.1 e.2.2) := (with_mem hw).2.elim (fun z => B.s1.en e z) fun z => B.s2.en e z
      unfold ordO at hen
      walk_at "st"
      refine iteB (fun h => ?_) (fun h => ?_)
      · walk_at "st"
        exact qn e hw fun z => dec_f (by simpa using h) (congrArg V.str z)
      · walk_at "st"
        exact q e hw (V.str.inj (dec_t (by simpa using h)))
/-- without the order at a -/
def dropE (a : Addr) (es : List Ent) : List Ent := es.filter fun y => decide (y.1 ≠ a)
theorem drop_mem {a : Addr} {es : List Ent} {y : Ent} (h : y ∈ dropE a es) : y ∈ es ∧ y.1 ≠ a := ⟨(List.mem_filter.mp h).1, of_decide_eq_true (List.mem_filter.mp h).2⟩
theorem drop_none {a : Addr} {es : List Ent} (h : ∀ y, y ∈ es → y.1 ≠ a) : dropE a es = es := List.filter_eq_self.mpr fun y hy => decide_eq_true (h y hy)
theorem drop_mid {pre post : List Ent} {e : Ent} (nd : ((pre ++ e :: post).map (·.1)).Nodup) : dropE e.1 (pre ++ e :: post) = pre ++ post := by
  rw [List.map_append, List.map_cons] at nd
  obtain ⟨_, n2, n3⟩ := List.nodup_append.mp nd
  have h1 : dropE e.1 pre = pre := drop_none fun y hy z => n3 _ (List.mem_map.mpr ⟨y, hy, rfl⟩) _ List.mem_cons_self z
  have h2 : dropE e.1 post = post := drop_none fun y hy z => (List.nodup_cons.mp n2).1 (List.mem_map.mpr ⟨y, hy, z⟩)
  unfold dropE at h1 h2 ⊢
  rw [List.filter_append, List.filter_cons, if_neg (by simp), h1, h2]
theorem Rank.sub {s : Str} {es es' : List Ent} (h : Rank s es) (hs : es'.Sublist es) : Rank s es' :=
  ⟨fun x hx => h.side x (hs.subset hx), fun x hx => h.price x (hs.subset hx), fun x hx => h.vis x (hs.subset hx), fun p => mono_iff.mpr ((mono_iff.mp (h.mono p)).sublist hs)⟩
theorem SideAt.drop {CO CB : Addr} {H : Hp} {b db l : Addr} {es : List Ent} (S : SideAt CO CB H b db l es) (a : Addr) : SideAt CO CB (L2.upd H l (.lst (refs (dropE a es)))) b db l (dropE a es) :=
  S.put (fun d hd => S.en d (drop_mem hd).1) ((List.filter_sublist.map _).nodup S.nd) (Nat.le_trans (List.length_filter_le _ _) S.sm)
theorem BookOk.drop1 {CO CB CK : Addr} {H : Hp} {x dx sd st b1 d1 l1 b2 d2 l2 : Addr} {last : Option Int} {next : Int} {es1 es2 : List Ent} (B : BookOk CO CB CK H x dx sd st b1 d1 l1 b2 d2 l2 last next es1 es2) {e : Ent} (he : e ∈ es1) :
    BookOk CO CB CK (upd H l1 (.lst (refs (dropE e.1 es1)))) x dx sd st b1 d1 l1 b2 d2 l2 last next (dropE e.1 es1) (dropE e.1 es2) := by
  have h2 : dropE e.1 es2 = es2 := drop_none fun y hy z => B.dj e he y hy z.symm
  rw [h2]
  have hx : x ≠ l1 := fun z => by have := B.at_.ob; rw [z, B.at_.s1.li] at this; unfold bookO at this; cases this
  have hs : sd ≠ l1 := fun z => by have := B.at_.sd; rw [z, B.at_.s1.li] at this; unfold sidesO at this; cases this
  have hb : b2 ≠ l1 := fun z => by have := B.at_.s2.ob; rw [z, B.at_.s1.li] at this; cases this
  have hen : ∀ y, y ∈ es2 → y.1 ≠ l1 := fun y hy z => by have := B.at_.s2.en y hy; rw [z, B.at_.s1.li] at this; unfold ordO at this; cases this
  exact ⟨⟨(upd_ne hx).trans B.at_.ob, (upd_ne hs).trans B.at_.sd, (upd_ne B.nst.1).trans B.at_.st, B.at_.s1.drop e.1, B.at_.s2.upd hb B.nll.symm hen⟩, B.r1.sub List.filter_sublist, B.r2, fun y hy z hz => B.dj y (drop_mem hy).1 z hz, B.nll, B.nst⟩
theorem BookOk.drop2 {CO CB CK : Addr} {H : Hp} {x dx sd st b1 d1 l1 b2 d2 l2 : Addr} {last : Option Int} {next : Int} {es1 es2 : List Ent} (B : BookOk CO CB CK H x dx sd st b1 d1 l1 b2 d2 l2 last next es1 es2) {e : Ent} (he : e ∈ es2) :
    BookOk CO CB CK (upd H l2 (.lst (refs (dropE e.1 es2)))) x dx sd st b1 d1 l1 b2 d2 l2 last next (dropE e.1 es1) (dropE e.1 es2) := by
  have h2 : dropE e.1 es1 = es1 := drop_none fun y hy z => B.dj y hy e he z
  rw [h2]
  have hx : x ≠ l2 := fun z => by have := B.at_.ob; rw [z, B.at_.s2.li] at this; unfold bookO at this; cases this
  have hs : sd ≠ l2 := fun z => by have := B.at_.sd; rw [z, B.at_.s2.li] at this; unfold sidesO at this; cases this
  have hb : b1 ≠ l2 := fun z => by have := B.at_.s1.ob; rw [z, B.at_.s2.li] at this; cases this
  have hen : ∀ y, y ∈ es1 → y.1 ≠ l2 := fun y hy z => by have := B.at_.s1.en y hy; rw [z, B.at_.s2.li] at this; unfold ordO at this; cases this
  exact ⟨⟨(upd_ne hx).trans B.at_.ob, (upd_ne hs).trans B.at_.sd, (upd_ne B.nst.2).trans B.at_.st, B.at_.s1.upd hb B.nll hen, B.at_.s2.drop e.1⟩, B.r1, B.r2.sub List.filter_sublist, fun y hy z hz => B.dj y hy z (drop_mem hz).1, B.nll, B.nst⟩
def sp_Book_cancel (K : PySem.W.Frag) (CU CN CO CB CK : Addr) : Sp := fun vs H Q E => ∃ (x dx sd st b1 d1 l1 b2 d2 l2 : Addr) (last : Option Int) (next : Int) (es1 es2 : List Ent) (n : Int) (ho : Str), vs = [.ref x, .int n, .str ho] ∧ BookOk CO CB CK H x dx sd st b1 d1 l1 b2 d2 l2 last next es1 es2 ∧
  (∀ (e : Ent) (H' : Hp), withNum es1 es2 n = some e → e.2.2.house = ho → BookOk CO CB CK H' x dx sd st b1 d1 l1 b2 d2 l2 last next (dropE e.1 es1) (dropE e.1 es2) → (∀ z, z ≠ l1 → z ≠ l2 → H' z = H z) → Q (.int e.2.2.left) H') ∧
  (withNum es1 es2 n = none → E (.ref CU) none H) ∧ (∀ e : Ent, withNum es1 es2 n = some e → e.2.2.house ≠ ho → E (.ref CN) none H)
set_option maxHeartbeats 0 in
theorem ok_Book_cancel (T : Txt K mg) : FnOk P w K mg base (L2.CX P w) 4 T.f_Book_cancel T.d_Book_cancel ["self", "number", "house"] (sp_Book_cancel K T.c_UnknownOrder T.c_NotOwner T.c_Order T.c_BookSide T.c_Book) := by
  refine T.F_Book_cancel.okX sc_Book_cancel (fun vs H Q E h => ?_) (fun cdv A outer s H vs Q E hr h => ?_)
  · obtain ⟨x, dx, sd, st, b1, d1, l1, b2, d2, l2, last, next, es1, es2, n, ho, rfl, _⟩ := h
    rfl
  · obtain ⟨x, dx, sd, st, b1, d1, l1, b2, d2, l2, last, next, es1, es2, n, ho, rfl, B, q, qu, qn⟩ := h
    have G_Bookstop_with : FnOk P w K mg base CX0 1 T.f_Bookstop_with T.d_Bookstop_with ["self", "number"] (sp_Bookstop_with K T.c_Order T.c_BookSide T.c_Book) := ok_Bookstop_with T
    have G_Bookorder_of : FnOk P w K mg base (L2.CX P w) 3 T.f_Bookorder_of T.d_Bookorder_of ["self", "number", "house"] (sp_Bookorder_of K T.c_UnknownOrder T.c_NotOwner T.c_Order T.c_BookSide T.c_Book) := ok_Bookorder_of T
    have G_BookSide_leave : FnOk P w K mg base CX0 1 T.f_BookSide_leave T.d_BookSide_leave ["self", "order"] (sp_BookSide_leave K T.c_Order T.c_BookSide) := ok_BookSide_leave T
    refine ⟨_, (pss_cons (ps_set (i := 3) sc_Book_cancel.nd rfl (Or.inl rfl) (pe_meth (pv 0) T.cl_Book T.mt_Bookstop_with G_Bookstop_with (hr.mono (by decide)) T.b_Bookstop_with .nil pass0 (pa_cons (pv 1) pa_nil)))
    (pss_cons (ps_if (pt_cmpR op_isN (pv 3) pe_non (nomark _))
      (pss_cons (ps_set (i := 4) sc_Book_cancel.nd rfl (Or.inl rfl) (pe_mx (pv 0) T.cl_Book T.mt_Bookorder_of G_Bookorder_of hr T.b_Bookorder_of .nil (fun σ => passAt (takes_of rfl rfl rfl rfl) σ) (pa_cons (pv 1) (pa_cons (pv 2) pa_nil))))
      (pss_cons (ps_expr (pe_meth (pe_dget (hu_of hr) (pe_fld (pv 0) rfl) (pe_fld (pv 4) rfl) (fun _ _ => rfl)) T.cl_BookSide T.mt_BookSide_leave G_BookSide_leave (hr.mono (by decide)) T.b_BookSide_leave .nil pass0 (pa_cons (pv 4) pa_nil)))
      (pss_one (ps_ret (pe_fld (pv 4) rfl)))))
      pss_nil)
    (pss_cons ps_never
    (pss_cons ps_never
    (pss_one ps_never))))), ?_⟩
    have fact_BookSide_0 := T.cl_BookSide; have fact_BookSide_1 := T.na_BookSide__orders; have fact_Book_0 := T.cl_Book; have fact_Book_1 := T.na_Book_last; have fact_Book_2 := T.na_Book__next_number; have fact_Book_3 := T.na_Book__sides; have fact_Book_4 := T.na_Book__stops; have fact_Order_0 := T.cl_Order; have fact_Order_1 := T.na_Order_number; have fact_Order_2 := T.na_Order_house; have fact_Order_3 := T.na_Order_side; have fact_Order_4 := T.na_Order_price; have fact_Order_5 := T.na_Order_shown; have fact_Order_6 := T.na_Order_left; have fact_Order_7 := T.na_Order_visible
    have hob := B.at_.ob
    have hob2 := hob
    unfold bookO at hob2
    have hst := B.at_.st
    walk_at "st"
    refine ⟨last, next, n, rfl, hob, hst, ?_⟩
    walk_at "st"
    refine ⟨last, next, es1, es2, n, ho, rfl, B.at_, fun e hw hho => ?_, qu, qn⟩
    have hen : H e.1 = some (ordO T.c_Order e.2.1 e.2.2) := (with_mem hw).2.elim (fun z => B.at_.s1.en e z) fun z => B.at_.s2.en e z
    have hen2 := hen
    unfold ordO at hen2
    rcases (with_mem hw).2 with hm | hm
    · have hsi := B.r1.side e hm
      have hsd := sides_buy B.at_.sd
      rw [← hsi] at hsd
      have hb := B.at_.s1.ob
      obtain ⟨pre, post, hpp⟩ := List.append_of_mem hm
      have S := B.at_.s1
      have B2 := B.drop1 hm
      have hd : dropE e.1 es1 = pre ++ post := by rw [hpp]; exact drop_mid (by rw [← hpp]; exact S.nd)
      rw [hpp] at S
      rw [show refs (dropE e.1 es1) = refs (pre ++ post) by rw [hd]] at B2
      have hle : e.1 ≠ l1 := B.at_.s1.le hm
      walk_at "st"
      refine ⟨pre, e, post, rfl, S, ?_⟩
      have hen3 := (upd_ne (o := HO.lst (refs (pre ++ post))) hle).trans hen2
      have fr : ∀ z, z ≠ l1 → z ≠ l2 → (upd H l1 (.lst (refs (pre ++ post)))) z = H z := fun z h1 _ => upd_ne h1
      walk_at "st"
      exact q e _ hw hho B2 fr
    · have hsi := B.r2.side e hm
      have hsd := sides_sell B.at_.sd
      rw [← hsi] at hsd
      have hb := B.at_.s2.ob
      obtain ⟨pre, post, hpp⟩ := List.append_of_mem hm
      have S := B.at_.s2
      have B2 := B.drop2 hm
      have hd : dropE e.1 es2 = pre ++ post := by rw [hpp]; exact drop_mid (by rw [← hpp]; exact S.nd)
      rw [hpp] at S
      rw [show refs (dropE e.1 es2) = refs (pre ++ post) by rw [hd]] at B2
      have hle : e.1 ≠ l2 := B.at_.s2.le hm
      walk_at "st"
      refine ⟨pre, e, post, rfl, S, ?_⟩
      have hen3 := (upd_ne (o := HO.lst (refs (pre ++ post))) hle).trans hen2
      have fr : ∀ z, z ≠ l1 → z ≠ l2 → (upd H l2 (.lst (refs (pre ++ post)))) z = H z := fun z _ h2 => upd_ne h2
      walk_at "st"
      exact q e _ hw hho B2 fr

/-! ### an order enters a book in its order -/
def FrE (H H' : Hp) (es1 es2 : List Ent) (l1 l2 x o : Addr) : Prop := ∀ z v, z ∉ es1.map (·.1) → z ∉ es2.map (·.1) → z ≠ l1 → z ≠ l2 → z ≠ x → z ≠ o → H z = some v → H' z = some v
def EnterQ (CO CB CK CR : Addr) (H : Hp) (x dx sd st b1 d1 l1 b2 d2 l2 o dxo : Addr) (last : Option Int) (next : Int) (es1 es2 : List Ent) (t : Ord) (kd : Str) (Q : VK) : Prop :=
  ∀ (R : SubR) (r dr fl rm : Addr) (fs : List Addr) (H' : Hp), R = subF kd t o dxo last (othE t.side es1 es2) (ownE t.side es1 es2) → H r = none → H' r = some (repO CR dr t.number t.house t.side fl rm R.rest) → Tups encFill H' fl fs R.fills → H' rm = some (.lst (R.gone.map V.int)) →
    BookOk CO CB CK H' x dx sd st b1 d1 l1 b2 d2 l2 R.last next (if buyS t.side = true then R.own else R.oth) (if buyS t.side = true then R.oth else R.own) → FrE H H' es1 es2 l1 l2 x o → Q (.ref r) H'
theorem enter_of {CO CB CK CR : Addr} {H : Hp} {x dx sd st b1 d1 l1 b2 d2 l2 o dxo : Addr} {last : Option Int} {next : Int} {es1 es2 : List Ent} {t : Ord} {kd : Str} {Q} {E} (B : BookOk CO CB CK H x dx sd st b1 d1 l1 b2 d2 l2 last next es1 es2) (hs : t.side = "buy" ∨ t.side = "sell") (ho : H o = some (ordO CO dxo t))
    (n1 : ∀ e, e ∈ es1 → e.1 ≠ o) (n2 : ∀ e, e ∈ es2 → e.1 ≠ o) (g6 : 1 ≤ t.left) (g7 : 0 ≤ t.shown) (hkp : V.str kd = V.str "rest" → ∃ p, t.price = some p) (hsz : es1.length + es2.length + t.left.toNat ≤ 900)
    (q : EnterQ CO CB CK CR H x dx sd st b1 d1 l1 b2 d2 l2 o dxo last next es1 es2 t kd Q) : sp_Bookenter K CO CB CK CR [.ref x, .ref o, .str kd] H Q E := by
  have sdN : ∀ e, (e ∈ es1 ∨ e ∈ es2) → e.1 ≠ sd := fun e he z => by
    have h1 := B.at_.sd
    rcases he with he | he
    · have h2 := B.at_.s1.en e he
      rw [z, h1] at h2
      cases h2
    · have h2 := B.at_.s2.en e he
      rw [z, h1] at h2
      cases h2
  have stN : ∀ e, (e ∈ es1 ∨ e ∈ es2) → e.1 ≠ st := fun e he z => by
    have h1 := B.at_.st
    rcases he with he | he
    · have h2 := B.at_.s1.en e he
      rw [z, h1] at h2
      cases h2
    · have h2 := B.at_.s2.en e he
      rw [z, h1] at h2
      cases h2
  have sdo : sd ≠ o := fun z => by have h1 := B.at_.sd; rw [z, ho] at h1; cases h1
  have sto : st ≠ o := fun z => by have h1 := B.at_.st; rw [z, ho] at h1; cases h1
  have sdx : sd ≠ x := fun z => by have h1 := B.at_.sd; rw [z, B.at_.ob] at h1; cases h1
  have stx : st ≠ x := fun z => by have h1 := B.at_.st; rw [z, B.at_.ob] at h1; cases h1
  have sd1 : sd ≠ l1 := fun z => by have h1 := B.at_.sd; rw [z, B.at_.s1.li] at h1; cases h1
  have sd2 : sd ≠ l2 := fun z => by have h1 := B.at_.sd; rw [z, B.at_.s2.li] at h1; cases h1
  have nin : ∀ z : Addr, (∀ e, (e ∈ es1 ∨ e ∈ es2) → e.1 ≠ z) → z ∉ es1.map (·.1) ∧ z ∉ es2.map (·.1) := fun z h => by
    refine ⟨fun y => ?_, fun y => ?_⟩
    · obtain ⟨e, he, ez⟩ := List.mem_map.mp y
      exact h e (.inl he) ez
    · obtain ⟨e, he, ez⟩ := List.mem_map.mp y
      exact h e (.inr he) ez
  unfold EnterQ at q
  rcases hs with hs | hs
  · have hoth : othE t.side es1 es2 = es2 := by rw [hs]; exact if_pos buyS_buy
    have hown : ownE t.side es1 es2 = es1 := by rw [hs]; exact if_pos buyS_buy
    have hb : buyS t.side = true := by rw [hs]; exact buyS_buy
    have hos : otherS t.side = "sell" := by rw [hs]; exact if_pos buyS_buy
    rw [hoth, hown] at q
    simp only [if_pos hb] at q
    refine ⟨(), x, dx, sd, st, b2, d2, l2, b1, d1, l1, o, dxo, last, next, es2, es1, t, kd, rfl, B.enter_buy hs ho n1 n2 g6 g7, hkp, by omega, by omega, ?_, ?_⟩
    · intro hk ha r dr fl rm H3 e3 nr _ _ hr hfl hrm
      have hheld : heldM kd t es2 = true := by
        unfold heldM
        rw [decide_eq_true hk, decide_eq_true ha]
        rfl
      have hR : subF kd t o dxo last es2 es1 = ⟨es2, es1, last, [], [], 0⟩ := if_pos hheld
      rw [hR] at q
      refine q _ r dr fl rm [] H3 rfl nr hr ⟨hfl, rfl, fun i p x h => by cases h⟩ hrm ?_ fun z v _ _ _ _ _ _ h => e3 _ _ h
      exact B.same e3
    · intro hk r dr fl rm fs m H3 hm nr _ _ hr hfl hrm hx3 hs1 hs2 hfr
      have hheld : ¬ heldM kd t es2 = true := fun z => by
        unfold heldM at z
        rw [Bool.and_eq_true] at z
        exact hk ⟨of_decide_eq_true z.1, of_decide_eq_true z.2⟩
      have hR : subF kd t o dxo last es2 es1 = ⟨m.es, if restsM kd m = true then insE es1 (place es1 (t.price.getD 0)) (o, dxo, Ord.showNext { t with left := m.left }) else es1, m.last, m.fills, m.gone, if restsM kd m = true then m.left else 0⟩ := by
        rw [hm]
        exact if_neg hheld
      have hrk := sub_rank (kd := kd) (t := t) (o := o) (dxo := dxo) (last := last) (oth := es2) (own := es1) (by rw [hos]; exact B.r2) (by rw [hs]; exact B.r1) g6 g7 hkp
      rw [hR] at hrk q
      obtain ⟨k1, k2, k3, k4⟩ := hrk
      rw [hos] at k1
      have hsd3 := hfr sd _ (nin sd sdN).2 sd2 sd1 sdo sdx B.at_.sd
      have hst3 := hfr st _ (nin st stN).2 B.nst.2 B.nst.1 sto stx B.at_.st
      refine q _ r dr fl rm fs H3 rfl nr hr hfl hrm ?_ fun z v h1 h2 h3 h4 h5 h6 h7 => hfr z v h2 h4 h3 h6 h5 h7
      refine ⟨⟨hx3, hsd3, hst3, hs2, hs1⟩, by rw [← hs]; exact k2, k1, ?_, B.nll, B.nst⟩
      intro e he y hy z
      obtain ⟨e', he', ee⟩ := k3 y hy
      rcases k4 e he with h | h
      · exact n2 e' he' (ee.trans (z.symm.trans h))
      · exact B.dj e h e' he' (z.trans ee.symm)
  · have hb : ¬ buyS t.side = true := by rw [hs, buyS_sell]; exact Bool.false_ne_true
    have hoth : othE t.side es1 es2 = es1 := if_neg hb
    have hown : ownE t.side es1 es2 = es2 := if_neg hb
    have hos : otherS t.side = "buy" := if_neg hb
    rw [hoth, hown] at q
    simp only [if_neg hb] at q
    refine ⟨(), x, dx, sd, st, b1, d1, l1, b2, d2, l2, o, dxo, last, next, es1, es2, t, kd, rfl, B.enter_sell hs ho n1 n2 g6 g7, hkp, by omega, by omega, ?_, ?_⟩
    · intro hk ha r dr fl rm H3 e3 nr _ _ hr hfl hrm
      have hheld : heldM kd t es1 = true := by
        unfold heldM
        rw [decide_eq_true hk, decide_eq_true ha]
        rfl
      have hR : subF kd t o dxo last es1 es2 = ⟨es1, es2, last, [], [], 0⟩ := if_pos hheld
      rw [hR] at q
      refine q _ r dr fl rm [] H3 rfl nr hr ⟨hfl, rfl, fun i p x h => by cases h⟩ hrm ?_ fun z v _ _ _ _ _ _ h => e3 _ _ h
      exact B.same e3
    · intro hk r dr fl rm fs m H3 hm nr _ _ hr hfl hrm hx3 hs1 hs2 hfr
      have hheld : ¬ heldM kd t es1 = true := fun z => by
        unfold heldM at z
        rw [Bool.and_eq_true] at z
        exact hk ⟨of_decide_eq_true z.1, of_decide_eq_true z.2⟩
      have hR : subF kd t o dxo last es1 es2 = ⟨m.es, if restsM kd m = true then insE es2 (place es2 (t.price.getD 0)) (o, dxo, Ord.showNext { t with left := m.left }) else es2, m.last, m.fills, m.gone, if restsM kd m = true then m.left else 0⟩ := by
        rw [hm]
        exact if_neg hheld
      have hrk := sub_rank (kd := kd) (t := t) (o := o) (dxo := dxo) (last := last) (oth := es1) (own := es2) (by rw [hos]; exact B.r1) (by rw [hs]; exact B.r2) g6 g7 hkp
      rw [hR] at hrk q
      obtain ⟨k1, k2, k3, k4⟩ := hrk
      rw [hos] at k1
      have hsd3 := hfr sd _ (nin sd sdN).1 sd1 sd2 sdo sdx B.at_.sd
      have hst3 := hfr st _ (nin st stN).1 B.nst.1 B.nst.2 sto stx B.at_.st
      refine q _ r dr fl rm fs H3 rfl nr hr hfl hrm ?_ fun z v h1 h2 h3 h4 h5 h6 h7 => hfr z v h1 h3 h4 h6 h5 h7
      refine ⟨⟨hx3, hsd3, hst3, hs1, hs2⟩, k1, by rw [← hs]; exact k2, ?_, B.nll, B.nst⟩
      intro e he y hy z
      obtain ⟨e', he', ee⟩ := k3 e he
      rcases k4 y hy with h | h
      · exact n1 e' he' (ee.trans (z.trans h))
      · exact B.dj e' he' y h (ee.trans z)

/-! ### an open order is changed -/
def Ord.cut (o : Ord) (n : Int) : Ord := { o with left := n, visible := if n < o.visible then n else o.visible }
def sp_Order_reduce (K : PySem.W.Frag) (C : Addr) : Sp := fun vs H Q _ => ∃ (x dx : Addr) (o : Ord) (n : Int), vs = [.ref x, .int n] ∧ H x = some (ordO C dx o) ∧ Q .non (upd H x (ordO C dx (o.cut n)))
set_option maxHeartbeats 0 in
theorem ok_Order_reduce (T : Txt K mg) : FnOk P w K mg base CX0 1 T.f_Order_reduce T.d_Order_reduce ["self", "quantity"] (sp_Order_reduce K T.c_Order) := by
  refine T.F_Order_reduce.ok sc_Order_reduce (fun vs H Q E h => ?_) (fun cdv A outer s H vs Q E hr h => ?_)
  · obtain ⟨x, dx, o, n, rfl, _⟩ := h
    rfl
  · obtain ⟨x, dx, o, n, rfl, hx, q⟩ := h
    refine ⟨_, (pss_cons (ps_fld (pv 0) (pv 1) rfl)
    (pss_one (ps_fld (pv 0) (pe_callB (call_min2 rfl) (by rfl) T.z_min (by decide +kernel) (pa_cons (pe_fld (pv 0) rfl) (pa_cons (pv 1) pa_nil))) rfl))), ?_⟩
    have fact_Order_0 := T.cl_Order; have fact_Order_1 := T.na_Order_number; have fact_Order_2 := T.na_Order_house; have fact_Order_3 := T.na_Order_side; have fact_Order_4 := T.na_Order_price; have fact_Order_5 := T.na_Order_shown; have fact_Order_6 := T.na_Order_left; have fact_Order_7 := T.na_Order_visible
    walk_at "st"
    rw [upd_upd]
    exact q
/-- the order at a gets what f says -/
def setE (a : Addr) (f : Ord → Ord) (es : List Ent) : List Ent := es.map fun y => if y.1 = a then (y.1, y.2.1, f y.2.2) else y
theorem setE_addr (a : Addr) (f : Ord → Ord) (es : List Ent) : (setE a f es).map (·.1) = es.map (·.1) := by
  unfold setE
  rw [List.map_map]
  refine List.map_congr_left fun y _ => ?_
  show (if y.1 = a then (y.1, y.2.1, f y.2.2) else y).1 = y.1
  split <;> rfl
theorem setE_refs (a : Addr) (f : Ord → Ord) (es : List Ent) : refs (setE a f es) = refs es := by
  have := congrArg (List.map V.ref) (setE_addr a f es)
  rw [List.map_map, List.map_map] at this
  exact this
theorem setE_mem {a : Addr} {f : Ord → Ord} {es : List Ent} {y : Ent} (h : y ∈ setE a f es) : ∃ e, e ∈ es ∧ y = if e.1 = a then (e.1, e.2.1, f e.2.2) else e := by
  unfold setE at h
  obtain ⟨e, he, ez⟩ := List.mem_map.mp h
  exact ⟨e, he, ez.symm⟩
theorem setE_none {a : Addr} {f : Ord → Ord} {es : List Ent} (h : ∀ y, y ∈ es → y.1 ≠ a) : setE a f es = es := by
  unfold setE
  conv => rhs; rw [← List.map_id es]
  refine List.map_congr_left fun y hy => ?_
  rw [if_neg (h y hy)]
  rfl
theorem nodup_addr : ∀ {es : List Ent} {a b : Ent}, (es.map (·.1)).Nodup → a ∈ es → b ∈ es → a.1 = b.1 → a = b
  | y :: r, a, b, h, ha, hb, e => by
    rw [List.map_cons] at h
    obtain ⟨n1, n2⟩ := List.nodup_cons.mp h
    rcases List.mem_cons.mp ha with za | za
    · rcases List.mem_cons.mp hb with zb | zb
      · rw [za, zb]
      · exact absurd (List.mem_map.mpr ⟨b, zb, by rw [← e, za]⟩) n1
    · rcases List.mem_cons.mp hb with zb | zb
      · exact absurd (List.mem_map.mpr ⟨a, za, by rw [e, zb]⟩) n1
      · exact nodup_addr n2 za zb e
theorem SideAt.set {CO CB : Addr} {H : Hp} {b db l : Addr} {es : List Ent} (S : SideAt CO CB H b db l es) {e : Ent} (he : e ∈ es) (f : Ord → Ord) : SideAt CO CB (L2.upd H e.1 (ordO CO e.2.1 (f e.2.2))) b db l (setE e.1 f es) := by
  have hb : b ≠ e.1 := fun z => by
    have h1 := S.ob
    rw [z, S.en e he] at h1
    unfold ordO at h1
    injection h1 with h1
    injection h1 with _ _ h3
    exact absurd (congrArg List.length h3) (show ¬ 7 = 1 by decide)
  have hl : l ≠ e.1 := fun z => by
    have h1 := S.li
    rw [z, S.en e he] at h1
    unfold ordO at h1
    cases h1
  refine ⟨(upd_ne hb).trans S.ob, ?_, fun y hy => ?_, ?_, ?_⟩
  · rw [setE_refs]
    exact (upd_ne hl).trans S.li
  · obtain ⟨z, hz, ez⟩ := setE_mem hy
    subst ez
    by_cases h : z.1 = e.1
    · have : z = e := nodup_addr S.nd hz he h
      subst this
      rw [if_pos rfl]
      exact upd_same
    · rw [if_neg h, upd_ne h]
      exact S.en z hz
  · rw [setE_addr]
    exact S.nd
  · unfold setE
    rw [List.length_map]
    exact S.sm
theorem Rank.set {s : Str} {es : List Ent} (h : Rank s es) (a : Addr) (f : Ord → Ord) (hf : ∀ e, e ∈ es → e.1 = a → (f e.2.2).side = e.2.2.side ∧ (f e.2.2).price = e.2.2.price ∧ (1 ≤ (f e.2.2).visible ∧ (f e.2.2).visible ≤ (f e.2.2).left ∧ 0 ≤ (f e.2.2).shown)) : Rank s (setE a f es) := by
  refine ⟨fun y hy => ?_, fun y hy => ?_, fun y hy => ?_, fun p => ?_⟩
  · obtain ⟨z, hz, ez⟩ := setE_mem hy
    subst ez
    by_cases g : z.1 = a
    · rw [if_pos g]
      exact ((hf z hz g).1).trans (h.side z hz)
    · rw [if_neg g]
      exact h.side z hz
  · obtain ⟨z, hz, ez⟩ := setE_mem hy
    subst ez
    by_cases g : z.1 = a
    · rw [if_pos g]
      obtain ⟨p, hp⟩ := h.price z hz
      exact ⟨p, (hf z hz g).2.1.trans hp⟩
    · rw [if_neg g]
      exact h.price z hz
  · obtain ⟨z, hz, ez⟩ := setE_mem hy
    subst ez
    by_cases g : z.1 = a
    · rw [if_pos g]
      exact (hf z hz g).2.2
    · rw [if_neg g]
      exact h.vis z hz
  · have hac : ∀ z, z ∈ es → accE p (if z.1 = a then (z.1, z.2.1, f z.2.2) else z) = accE p z := fun z hz => by
      by_cases g : z.1 = a
      · rw [if_pos g]
        unfold accE
        show takes (f z.2.2).side (f z.2.2).price p = _
        rw [(hf z hz g).1, (hf z hz g).2.1]
      · rw [if_neg g]
    refine mono_iff.mpr ?_
    unfold setE
    rw [List.pairwise_map]
    refine List.Pairwise.imp_of_mem ?_ (mono_iff.mp (h.mono p))
    intro u v hu hv k
    rw [hac u hu, hac v hv]
    exact k
theorem BookOk.set1 {CO CB CK : Addr} {H : Hp} {x dx sd st b1 d1 l1 b2 d2 l2 : Addr} {last : Option Int} {next : Int} {es1 es2 : List Ent} (B : BookOk CO CB CK H x dx sd st b1 d1 l1 b2 d2 l2 last next es1 es2) {e : Ent} (he : e ∈ es1 ∨ e ∈ es2) {f : Ord → Ord}
    (hf : (f e.2.2).side = e.2.2.side ∧ (f e.2.2).price = e.2.2.price ∧ (1 ≤ (f e.2.2).visible ∧ (f e.2.2).visible ≤ (f e.2.2).left ∧ 0 ≤ (f e.2.2).shown)) :
    BookOk CO CB CK (upd H e.1 (ordO CO e.2.1 (f e.2.2))) x dx sd st b1 d1 l1 b2 d2 l2 last next (setE e.1 f es1) (setE e.1 f es2) := by
  have hen : H e.1 = some (ordO CO e.2.1 e.2.2) := he.elim (fun z => B.at_.s1.en e z) fun z => B.at_.s2.en e z
  have hx : x ≠ e.1 := fun z => by
    have h1 := B.at_.ob
    rw [z, hen] at h1
    unfold ordO bookO at h1
    injection h1 with h1
    injection h1 with _ _ h3
    exact absurd (congrArg List.length h3) (show ¬ 7 = 4 by decide)
  have hs : sd ≠ e.1 := fun z => by have h1 := B.at_.sd; rw [z, hen] at h1; unfold ordO sidesO at h1; cases h1
  have ht : st ≠ e.1 := fun z => by have h1 := B.at_.st; rw [z, hen] at h1; unfold ordO at h1; cases h1
  have key : ∀ {s : Str} {b db l b' db' l' : Addr} {es es' : List Ent}, SideAt CO CB H b db l es → SideAt CO CB H b' db' l' es' → Rank s es → e ∈ es → (∀ y, y ∈ es' → y.1 ≠ e.1) →
      SideAt CO CB (upd H e.1 (ordO CO e.2.1 (f e.2.2))) b db l (setE e.1 f es) ∧ SideAt CO CB (upd H e.1 (ordO CO e.2.1 (f e.2.2))) b' db' l' (setE e.1 f es') ∧ Rank s (setE e.1 f es) := fun {s b db l b' db' l' es es'} S S' r hm hn => by
    refine ⟨S.set hm f, ?_, r.set e.1 f fun y hy hye => ?_⟩
    · rw [setE_none hn]
      refine S'.upd (fun z => ?_) (fun z => ?_) hn
      · have h1 := S'.ob
        rw [z, hen] at h1
        unfold ordO at h1
        injection h1 with h1
        injection h1 with _ _ h3
        exact absurd (congrArg List.length h3) (show ¬ 7 = 1 by decide)
      · have h1 := S'.li
        rw [z, hen] at h1
        unfold ordO at h1
        cases h1
    · rw [nodup_addr S.nd hy hm hye]
      exact hf
  have dj : ∀ y, y ∈ setE e.1 f es1 → ∀ z, z ∈ setE e.1 f es2 → y.1 ≠ z.1 := fun y hy z hz => by
    have h1 : y.1 ∈ es1.map (·.1) := by rw [← setE_addr e.1 f]; exact List.mem_map.mpr ⟨y, hy, rfl⟩
    have h2 : z.1 ∈ es2.map (·.1) := by rw [← setE_addr e.1 f]; exact List.mem_map.mpr ⟨z, hz, rfl⟩
    obtain ⟨y', hy', ey⟩ := List.mem_map.mp h1
    obtain ⟨z', hz', ez⟩ := List.mem_map.mp h2
    rw [← ey, ← ez]
    exact B.dj y' hy' z' hz'
  rcases he with he | he
  · have hn : ∀ y, y ∈ es2 → y.1 ≠ e.1 := fun y hy z => B.dj e he y hy z.symm
    obtain ⟨k1, k2, k3⟩ := key B.at_.s1 B.at_.s2 B.r1 he hn
    exact ⟨⟨(upd_ne hx).trans B.at_.ob, (upd_ne hs).trans B.at_.sd, (upd_ne ht).trans B.at_.st, k1, k2⟩, k3, by rw [setE_none hn]; exact B.r2, dj, B.nll, B.nst⟩
  · have hn : ∀ y, y ∈ es1 → y.1 ≠ e.1 := fun y hy => B.dj y hy e he
    obtain ⟨k1, k2, k3⟩ := key B.at_.s2 B.at_.s1 B.r2 he hn
    exact ⟨⟨(upd_ne hx).trans B.at_.ob, (upd_ne hs).trans B.at_.sd, (upd_ne ht).trans B.at_.st, k2, k1⟩, by rw [setE_none hn]; exact B.r1, k3, dj, B.nll, B.nst⟩
def sp_Bookreduce (K : PySem.W.Frag) (CO CR : Addr) : Sp := fun vs H Q _ => ∃ (x o dxo : Addr) (t : Ord) (n : Int), vs = [.ref x, .ref o, .int n] ∧ H o = some (ordO CO dxo t) ∧
  ∀ r dr fl rm H', Same (upd H o (ordO CO dxo (t.cut n))) H' → H r = none → H' r = some (repO CR dr t.number t.house t.side fl rm n) → H' fl = some (.lst []) → H' rm = some (.lst []) → Q (.ref r) H'
set_option maxHeartbeats 0 in
theorem ok_Bookreduce (T : Txt K mg) : FnOk P w K mg base CX0 3 T.f_Bookreduce T.d_Bookreduce ["self", "order", "quantity"] (sp_Bookreduce K T.c_Order T.c_Report) := by
  refine T.F_Bookreduce.ok sc_Bookreduce (fun vs H Q E h => ?_) (fun cdv A outer s H vs Q E hr h => ?_)
  · obtain ⟨x, o, dxo, t, n, rfl, _⟩ := h
    rfl
  · obtain ⟨x, o, dxo, t, n, rfl, ho, q⟩ := h
    have G_Order_reduce : FnOk P w K mg base CX0 1 T.f_Order_reduce T.d_Order_reduce ["self", "quantity"] (sp_Order_reduce K T.c_Order) := ok_Order_reduce T
    have G_Report_init : FnOk P w K mg base CX0 1 T.f_Report_init T.d_Report_init ["self", "number", "house", "side"] (sp_Report_init K T.c_Report) := ok_Report_init T
    refine ⟨_, (pss_cons (ps_expr (pe_meth (pv 1) T.cl_Order T.mt_Order_reduce G_Order_reduce (hr.mono (by decide)) T.b_Order_reduce .nil pass0 (pa_cons (pv 2) pa_nil)))
    (pss_cons (ps_set (i := 3) sc_Bookreduce.nd rfl (Or.inl rfl) (pe_make T.mk_Report G_Report_init hr (by rfl) T.m_Report T.b_Report_init .nil pass0 (pa_cons (pe_fld (pv 1) rfl) (pa_cons (pe_fld (pv 1) rfl) (pa_cons (pe_fld (pv 1) rfl) pa_nil)))))
    (pss_cons (ps_fld (pv 3) (pv 2) rfl)
    (pss_one (ps_ret (pv 3)))))), ?_⟩
    have fact_Order_0 := T.cl_Order; have fact_Order_1 := T.na_Order_number; have fact_Order_2 := T.na_Order_house; have fact_Order_3 := T.na_Order_side; have fact_Order_4 := T.na_Order_price; have fact_Order_5 := T.na_Order_shown; have fact_Order_6 := T.na_Order_left; have fact_Order_7 := T.na_Order_visible; have fact_Report_0 := T.cl_Report; have fact_Report_1 := T.na_Report_number; have fact_Report_2 := T.na_Report_house; have fact_Report_3 := T.na_Report_side; have fact_Report_4 := T.na_Report_fills; have fact_Report_5 := T.na_Report_removed; have fact_Report_6 := T.na_Report_resting
    walk_at "st"
    refine ⟨t, n, rfl, ho, ?_⟩
    generalize hH1 : upd H o _ = H1
    rw [hH1] at q
    have ho1 := (congrFun hH1 o).symm.trans upd_same
    have ho2 := ho1
    unfold ordO at ho2
    walk_at "st"
    intro r dr nr ndr hne
    have nr' : upd H1 dr (.own r) r = none := by
      first
        | (rw [upd_ne hne]; exact nr)
        | (rw [upd_ne (Ne.symm hne)]; exact nr)
    have sx : Same H1 (upd (upd H1 dr (.own r)) r (.ins T.c_Report dr [])) := (same_upd ndr).trans (same_upd nr')
    refine ⟨r, dr, t.number, t.house, t.side, rfl, upd_same, fun fl rm H2 kx hr hfl hrm nfl nrm hfr => ?_⟩
    have e1 : Same H1 H2 := fun z v hz => kx z v (ne_of_none hz nr) (sx z v hz)
    have nr0 : H r = none := by
      have hro : r ≠ o := fun z => by rw [z, ho1] at nr; cases nr
      rw [← hH1, upd_ne hro] at nr
      exact nr
    refine ⟨rfl, ?_⟩
    unfold repO at hr
    walk_at "st"
    refine q r dr fl rm _ (fun z v hz => ?_) nr0 upd_same ?_ ?_
    · rw [upd_ne (ne_of_none hz nr)]
      exact e1 z v hz
    · rw [upd_ne (fun z => by rw [z, hr] at hfl; cases hfl)]
      exact hfl
    · rw [upd_ne (fun z => by rw [z, hr] at hrm; cases hrm)]
      exact hrm
def sp_Bookenter_again (K : PySem.W.Frag) (CO CB CK CR : Addr) : Sp := fun vs H Q _ => ∃ (x dx sd st b1 d1 l1 b2 d2 l2 : Addr) (last : Option Int) (next : Int) (es1 es2 : List Ent) (e : Ent) (pr qu : Int), vs = [.ref x, .ref e.1, .int pr, .int qu] ∧ BookOk CO CB CK H x dx sd st b1 d1 l1 b2 d2 l2 last next es1 es2 ∧ (e ∈ es1 ∨ e ∈ es2) ∧ 1 ≤ qu ∧ es1.length + es2.length + qu.toNat ≤ 900 ∧
  ∀ (R : SubR) (r dr fl rm o dxo : Addr) (fs : List Addr) (H' : Hp), R = subF "rest" ⟨e.2.2.number, e.2.2.house, e.2.2.side, some pr, if qu < e.2.2.shown then qu else e.2.2.shown, qu, 0⟩ o dxo last (othE e.2.2.side (dropE e.1 es1) (dropE e.1 es2)) (ownE e.2.2.side (dropE e.1 es1) (dropE e.1 es2)) → H o = none → H r = none →
    H' r = some (repO CR dr e.2.2.number e.2.2.house e.2.2.side fl rm R.rest) → Tups encFill H' fl fs R.fills → H' rm = some (.lst (R.gone.map V.int)) →
    BookOk CO CB CK H' x dx sd st b1 d1 l1 b2 d2 l2 R.last next (if buyS e.2.2.side = true then R.own else R.oth) (if buyS e.2.2.side = true then R.oth else R.own) → FrB H H' es1 es2 l1 l2 x → Q (.ref r) H'
set_option maxHeartbeats 0 in
theorem ok_Bookenter_again (T : Txt K mg) : FnOk P w K mg base CX0 7 T.f_Bookenter_again T.d_Bookenter_again ["self", "order", "price", "quantity"] (sp_Bookenter_again K T.c_Order T.c_BookSide T.c_Book T.c_Report) := by
  refine T.F_Bookenter_again.ok sc_Bookenter_again (fun vs H Q E h => ?_) (fun cdv A outer s H vs Q E hr h => ?_)
  · obtain ⟨x, dx, sd, st, b1, d1, l1, b2, d2, l2, last, next, es1, es2, e, pr, qu, rfl, _⟩ := h
    rfl
  · obtain ⟨x, dx, sd, st, b1, d1, l1, b2, d2, l2, last, next, es1, es2, e, pr, qu, rfl, B, hm, hq, hsz, q⟩ := h
    have G_BookSide_leave : FnOk P w K mg base CX0 1 T.f_BookSide_leave T.d_BookSide_leave ["self", "order"] (sp_BookSide_leave K T.c_Order T.c_BookSide) := ok_BookSide_leave T
    have G_Bookenter : FnOk P w K mg base CX0 6 T.f_Bookenter T.d_Bookenter ["self", "order", "kind"] (sp_Bookenter K T.c_Order T.c_BookSide T.c_Book T.c_Report) := ok_Bookenter T
    have G_Order_init : FnOk P w K mg base CX0 1 T.f_Order_init T.d_Order_init ["self", "number", "house", "side", "price", "quantity", "shown"] (sp_Order_init K T.c_Order) := ok_Order_init T
    refine ⟨_, (pss_cons (ps_expr (pe_meth (pe_dget (hu_of hr) (pe_fld (pv 0) rfl) (pe_fld (pv 1) rfl) (fun _ _ => rfl)) T.cl_BookSide T.mt_BookSide_leave G_BookSide_leave (hr.mono (by decide)) T.b_BookSide_leave .nil pass0 (pa_cons (pv 1) pa_nil)))
    (pss_cons (ps_set (i := 4) sc_Bookenter_again.nd rfl (Or.inl rfl) (pe_callB (call_min2 rfl) (by rfl) T.z_min (by decide +kernel) (pa_cons (pe_fld (pv 1) rfl) (pa_cons (pv 3) pa_nil))))
    (pss_one (ps_ret (pe_meth (pv 0) T.cl_Book T.mt_Bookenter G_Bookenter hr T.b_Bookenter .nil pass0 (pa_cons (pe_make T.mk_Order G_Order_init (hr.mono (by decide)) (by rfl) T.m_Order T.b_Order_init .nil pass0 (pa_cons (pe_fld (pv 1) rfl) (pa_cons (pe_fld (pv 1) rfl) (pa_cons (pe_fld (pv 1) rfl) (pa_cons (pv 2) (pa_cons (pv 3) (pa_cons (pv 4) pa_nil))))))) (pa_cons pe_str pa_nil))))))), ?_⟩
    have fact_BookSide_0 := T.cl_BookSide; have fact_BookSide_1 := T.na_BookSide__orders; have fact_Book_0 := T.cl_Book; have fact_Book_1 := T.na_Book_last; have fact_Book_2 := T.na_Book__next_number; have fact_Book_3 := T.na_Book__sides; have fact_Book_4 := T.na_Book__stops; have fact_Order_0 := T.cl_Order; have fact_Order_1 := T.na_Order_number; have fact_Order_2 := T.na_Order_house; have fact_Order_3 := T.na_Order_side; have fact_Order_4 := T.na_Order_price; have fact_Order_5 := T.na_Order_shown; have fact_Order_6 := T.na_Order_left; have fact_Order_7 := T.na_Order_visible; have fact_Report_0 := T.cl_Report; have fact_Report_1 := T.na_Report_number; have fact_Report_2 := T.na_Report_house; have fact_Report_3 := T.na_Report_side; have fact_Report_4 := T.na_Report_fills; have fact_Report_5 := T.na_Report_removed; have fact_Report_6 := T.na_Report_resting
    have hob := B.at_.ob
    unfold bookO at hob
    have hen : H e.1 = some (ordO T.c_Order e.2.1 e.2.2) := hm.elim (fun z => B.at_.s1.en e z) fun z => B.at_.s2.en e z
    have hen2 := hen
    unfold ordO at hen2
    have hvis := hm.elim (fun z => B.r1.vis e z) fun z => B.r2.vis e z
    have hsi : e.2.2.side = "buy" ∨ e.2.2.side = "sell" := hm.elim (fun z => .inl (B.r1.side e z)) fun z => .inr (B.r2.side e z)
    obtain ⟨b, db, l, pre, post, hsd, S, B2, hl, hel⟩ : ∃ b db l pre post, DGet H sd (.str e.2.2.side) (some (.ref b)) ∧ SideAt T.c_Order T.c_BookSide H b db l (pre ++ e :: post) ∧ BookOk T.c_Order T.c_BookSide T.c_Book (upd H l (.lst (refs (pre ++ post)))) x dx sd st b1 d1 l1 b2 d2 l2 last next (dropE e.1 es1) (dropE e.1 es2) ∧ (l = l1 ∨ l = l2) ∧ e.1 ≠ l := by
      rcases hm with hm | hm
      · have hs := B.r1.side e hm
        have hsd := sides_buy B.at_.sd
        rw [← hs] at hsd
        obtain ⟨pre, post, hpp⟩ := List.append_of_mem hm
        have S := B.at_.s1
        have B2 := B.drop1 hm
        have hd : dropE e.1 es1 = pre ++ post := by rw [hpp]; exact drop_mid (by rw [← hpp]; exact S.nd)
        rw [hpp] at S
        rw [show refs (dropE e.1 es1) = refs (pre ++ post) by rw [hd]] at B2
        exact ⟨b1, d1, l1, pre, post, hsd, S, B2, .inl rfl, B.at_.s1.le hm⟩
      · have hs := B.r2.side e hm
        have hsd := sides_sell B.at_.sd
        rw [← hs] at hsd
        obtain ⟨pre, post, hpp⟩ := List.append_of_mem hm
        have S := B.at_.s2
        have B2 := B.drop2 hm
        have hd : dropE e.1 es2 = pre ++ post := by rw [hpp]; exact drop_mid (by rw [← hpp]; exact S.nd)
        rw [hpp] at S
        rw [show refs (dropE e.1 es2) = refs (pre ++ post) by rw [hd]] at B2
        exact ⟨b2, d2, l2, pre, post, hsd, S, B2, .inr rfl, B.at_.s2.le hm⟩
    have hb := S.ob
    walk_at "st"
    refine ⟨pre, e, post, rfl, S, ?_⟩
    have hen3 := (upd_ne (o := HO.lst (refs (pre ++ post))) hel).trans hen2
    have hob3 := B2.at_.ob
    unfold bookO at hob3
    have hlk : ([("last", optV last), ("_next_number", V.int next), ("_sides", .ref sd), ("_stops", .ref st)] : List (Str × V)).lookup ("_enter" : Str) = none := rfl
    walk_at "st"
    generalize hH1 : upd H l _ = H1 at *
    intro o dxo no ndo hne
    have no' : upd H1 dxo (.own o) o = none := by
      first
        | (rw [upd_ne hne]; exact no)
        | (rw [upd_ne (Ne.symm hne)]; exact no)
    have so2 : ∀ v, Same H1 (upd (upd H1 dxo (.own o)) o v) := fun v => (same_upd ndo).trans (same_upd no')
    refine ⟨o, dxo, e.2.2.number, e.2.2.house, e.2.2.side, some pr, qu, if qu < e.2.2.shown then qu else e.2.2.shown, rfl, upd_same, ?_⟩
    rw [upd_upd]
    refine ⟨rfl, ?_⟩
    generalize hH2 : upd (upd H1 dxo _) o _ = H2
    have s2 : Same H1 H2 := hH2 ▸ so2 _
    have ho2 := (congrFun hH2 o).symm.trans upd_same
    have hob4 := s2 _ _ hob3
    have B3 := B2.same s2
    have hdl1 : (dropE e.1 es1).length ≤ es1.length := List.length_filter_le _ _
    have hdl2 : (dropE e.1 es2).length ≤ es2.length := List.length_filter_le _ _
    have hol : o ≠ l := fun z => by rw [z, ← hH1, upd_same] at no; cases no
    have no0 : H o = none := by rw [← hH1, upd_ne hol] at no; exact no
    walk_at "st"
    refine enter_of (K := K) (E := E0) (t := ⟨e.2.2.number, e.2.2.house, e.2.2.side, some pr, if qu < e.2.2.shown then qu else e.2.2.shown, qu, 0⟩) B3 hsi ho2 (fun y hy => ?_) (fun y hy => ?_) hq ?_ (fun _ => ⟨pr, rfl⟩) ?_ ?_
    · exact ne_of_none (B2.at_.s1.en y hy) no
    · exact ne_of_none (B2.at_.s2.en y hy) no
    · show 0 ≤ if qu < e.2.2.shown then qu else e.2.2.shown
      split <;> omega
    · show _ + qu.toNat ≤ 900
      omega
    · intro R r dr fl rm fs H3 hR nr hr hfl hrm B4 fr
      walk_at "st"
      refine q R r dr fl rm o dxo fs H3 hR no0 ?_ hr hfl hrm B4 fun z v h1 h2 h3 h4 h5 h6 => fr z v ?_ ?_ h3 h4 h5 (ne_of_none h6 no0) (s2 _ _ ?_)
      · cases hh : H r with
        | none => rfl
        | some w =>
          have hrl : r ≠ l := fun z => by
            have := s2 l _ ((congrFun hH1 l).symm.trans upd_same)
            rw [← z, nr] at this
            cases this
          have := s2 r w (by rw [← hH1, upd_ne hrl]; exact hh)
          rw [nr] at this
          cases this
      · exact fun y => h1 ((List.filter_sublist.map _).subset y)
      · exact fun y => h2 ((List.filter_sublist.map _).subset y)
      · rw [← hH1, upd_ne (by rcases hl with z | z <;> rw [z] <;> assumption)]
        exact h6
def sp_Book_amend (K : PySem.W.Frag) (CU CN CO CB CK CR : Addr) : Sp := fun vs H Q E => ∃ (x dx sd st b1 d1 l1 b2 d2 l2 : Addr) (last : Option Int) (next : Int) (es1 es2 : List Ent) (n : Int) (ho : Str) (pr qu : Int), vs = [.ref x, .int n, .str ho, .int pr, .int qu] ∧ BookOk CO CB CK H x dx sd st b1 d1 l1 b2 d2 l2 last next es1 es2 ∧ 1 ≤ pr ∧ pr ≤ 1000000 ∧ 1 ≤ qu ∧ qu ≤ 1000000 ∧ es1.length + es2.length + qu.toNat ≤ 900 ∧
  (∀ (e : Ent) (p r dr fl rm : Addr) (H' : Hp), withNum es1 es2 n = some e → e.2.2.house = ho → e.2.2.price = some pr → qu ≤ e.2.2.left → H' p = some (.lst [.ref r]) → H' r = some (repO CR dr e.2.2.number e.2.2.house e.2.2.side fl rm qu) → H' fl = some (.lst []) → H' rm = some (.lst []) →
    BookOk CO CB CK H' x dx sd st b1 d1 l1 b2 d2 l2 last next (setE e.1 (fun o => o.cut qu) es1) (setE e.1 (fun o => o.cut qu) es2) → FrB H H' es1 es2 l1 l2 x → Q (.ref p) H') ∧
  (∀ (e : Ent) (R : SubR) (p r dr fl rm o dxo : Addr) (fs : List Addr) (H' : Hp), withNum es1 es2 n = some e → e.2.2.house = ho → ¬ (e.2.2.price = some pr ∧ qu ≤ e.2.2.left) → R = subF "rest" ⟨e.2.2.number, e.2.2.house, e.2.2.side, some pr, if qu < e.2.2.shown then qu else e.2.2.shown, qu, 0⟩ o dxo last (othE e.2.2.side (dropE e.1 es1) (dropE e.1 es2)) (ownE e.2.2.side (dropE e.1 es1) (dropE e.1 es2)) → H o = none →
    H' p = some (.lst [.ref r]) → H' r = some (repO CR dr e.2.2.number e.2.2.house e.2.2.side fl rm R.rest) → Tups encFill H' fl fs R.fills → H' rm = some (.lst (R.gone.map V.int)) →
    BookOk CO CB CK H' x dx sd st b1 d1 l1 b2 d2 l2 R.last next (if buyS e.2.2.side = true then R.own else R.oth) (if buyS e.2.2.side = true then R.oth else R.own) → FrB H H' es1 es2 l1 l2 x → Q (.ref p) H') ∧
  (withNum es1 es2 n = none → E (.ref CU) none H) ∧ (∀ e : Ent, withNum es1 es2 n = some e → e.2.2.house ≠ ho → E (.ref CN) none H)
set_option maxHeartbeats 0 in
theorem ok_Book_amend (T : Txt K mg) : FnOk P w K mg base (L2.CX P w) 8 T.f_Book_amend T.d_Book_amend ["self", "number", "house", "price", "quantity"] (sp_Book_amend K T.c_UnknownOrder T.c_NotOwner T.c_Order T.c_BookSide T.c_Book T.c_Report) := by
  refine T.F_Book_amend.okX sc_Book_amend (fun vs H Q E h => ?_) (fun cdv A outer s H vs Q E hr h => ?_)
  · obtain ⟨x, dx, sd, st, b1, d1, l1, b2, d2, l2, last, next, es1, es2, n, ho, pr, qu, rfl, _⟩ := h
    rfl
  · obtain ⟨x, dx, sd, st, b1, d1, l1, b2, d2, l2, last, next, es1, es2, n, ho, pr, qu, rfl, B, p0, p1, q0, q1, hsz, qr, qe, qu', qn⟩ := h
    have G_check_price : FnOk P w K mg base CX0 4 T.f_check_price T.d_check_price ["price"] (sp_check_price K) := ok_check_price T
    have G_check_quantity : FnOk P w K mg base CX0 4 T.f_check_quantity T.d_check_quantity ["quantity"] (sp_check_quantity K) := ok_check_quantity T
    have G_Bookorder_of : FnOk P w K mg base (L2.CX P w) 3 T.f_Bookorder_of T.d_Bookorder_of ["self", "number", "house"] (sp_Bookorder_of K T.c_UnknownOrder T.c_NotOwner T.c_Order T.c_BookSide T.c_Book) := ok_Bookorder_of T
    have G_Bookreduce : FnOk P w K mg base CX0 3 T.f_Bookreduce T.d_Bookreduce ["self", "order", "quantity"] (sp_Bookreduce K T.c_Order T.c_Report) := ok_Bookreduce T
    have G_Bookenter_again : FnOk P w K mg base CX0 7 T.f_Bookenter_again T.d_Bookenter_again ["self", "order", "price", "quantity"] (sp_Bookenter_again K T.c_Order T.c_BookSide T.c_Book T.c_Report) := ok_Bookenter_again T
    have G_Booktrigger_stops : FnOk P w K mg base CX0 7 T.f_Booktrigger_stops T.d_Booktrigger_stops ["self"] (sp_Booktrigger_stops K T.c_Order T.c_BookSide T.c_Book T.c_Report) := ok_Booktrigger_stops T
    refine ⟨_, (pss_cons (ps_expr (pe_call G_check_price (hr.mono (by decide)) (by rfl) T.m_check_price T.F_check_price.kp T.b_check_price .nil pass0 (pa_cons (pv 3) pa_nil)))
    (pss_cons (ps_expr (pe_call G_check_quantity (hr.mono (by decide)) (by rfl) T.m_check_quantity T.F_check_quantity.kp T.b_check_quantity .nil pass0 (pa_cons (pv 4) pa_nil)))
    (pss_cons (ps_set (i := 5) sc_Book_amend.nd rfl (Or.inl rfl) (pe_mx (pv 0) T.cl_Book T.mt_Bookorder_of G_Bookorder_of (hr.mono (by decide)) T.b_Bookorder_of .nil (fun σ => passAt (takes_of rfl rfl rfl rfl) σ) (pa_cons (pv 1) (pa_cons (pv 2) pa_nil))))
    (pss_cons (ps_if (PW.pt (pw_and (pt_cmpR op_eq (pv 3) (pe_fld (pv 5) rfl) (nomark _)) (pw_and1 (pt_cmpR op_le (pv 4) (pe_fld (pv 5) rfl) (nomark _)))))
      (pss_one (ps_set (i := 6) sc_Book_amend.nd rfl (Or.inl rfl) (pe_meth (pv 0) T.cl_Book T.mt_Bookreduce G_Bookreduce (hr.mono (by decide)) T.b_Bookreduce .nil pass0 (pa_cons (pv 5) (pa_cons (pv 4) pa_nil)))))
      (pss_one (ps_set (i := 6) sc_Book_amend.nd rfl (Or.inl rfl) (pe_meth (pv 0) T.cl_Book T.mt_Bookenter_again G_Bookenter_again hr T.b_Bookenter_again .nil pass0 (pa_cons (pv 5) (pa_cons (pv 3) (pa_cons (pv 4) pa_nil)))))))
    (pss_one (ps_ret (pe_op op_cat (pe_lst (pa_cons (pv 6) pa_nil)) (pe_meth0 (pv 0) T.cl_Book T.mt_Booktrigger_stops G_Booktrigger_stops hr T.b_Booktrigger_stops .nil pass0)))))))), ?_⟩
    have fact_BookSide_0 := T.cl_BookSide; have fact_BookSide_1 := T.na_BookSide__orders; have fact_Book_0 := T.cl_Book; have fact_Book_1 := T.na_Book_last; have fact_Book_2 := T.na_Book__next_number; have fact_Book_3 := T.na_Book__sides; have fact_Book_4 := T.na_Book__stops; have fact_Order_0 := T.cl_Order; have fact_Order_1 := T.na_Order_number; have fact_Order_2 := T.na_Order_house; have fact_Order_3 := T.na_Order_side; have fact_Order_4 := T.na_Order_price; have fact_Order_5 := T.na_Order_shown; have fact_Order_6 := T.na_Order_left; have fact_Order_7 := T.na_Order_visible; have fact_Report_0 := T.cl_Report; have fact_Report_1 := T.na_Report_number; have fact_Report_2 := T.na_Report_house; have fact_Report_3 := T.na_Report_side; have fact_Report_4 := T.na_Report_fills; have fact_Report_5 := T.na_Report_removed; have fact_Report_6 := T.na_Report_resting
    have hob := B.at_.ob
    have hob2 := hob
    unfold bookO at hob2
    walk_at "st"
    refine ⟨last, next, es1, es2, n, ho, rfl, B.at_, fun e hw hho => ?_, qu', qn⟩
    have hm := (with_mem hw).2
    have hen : H e.1 = some (ordO T.c_Order e.2.1 e.2.2) := hm.elim (fun z => B.at_.s1.en e z) fun z => B.at_.s2.en e z
    have hen2 := hen
    unfold ordO at hen2
    have hvis := hm.elim (fun z => B.r1.vis e z) fun z => B.r2.vis e z
    obtain ⟨pe, hpe⟩ : ∃ p, e.2.2.price = some p := hm.elim (fun z => B.r1.price e z) fun z => B.r2.price e z
    have hlk1 : ([("last", optV last), ("_next_number", V.int next), ("_sides", .ref sd), ("_stops", .ref st)] : List (Str × V)).lookup ("_reduce" : Str) = none := rfl
    have hlk2 : ([("last", optV last), ("_next_number", V.int next), ("_sides", .ref sd), ("_stops", .ref st)] : List (Str × V)).lookup ("_enter_again" : Str) = none := rfl
    rw [hpe] at hen2
    walk_at "st"
    refine iteB (fun h => ?_) (fun h => ?_)
    · have hpr : e.2.2.price = some pr := by
        have := V.int.inj (dec_t h)
        rw [hpe, this]
      walk_at "st"
      refine iteB (fun h2 => ?_) (fun h2 => ?_)
      · have hle := dec_t h2
        walk_at "st"
        refine ⟨e.2.2, qu, rfl, hen, fun r dr fl rm H3 s3 nr hr hfl hrm => ?_⟩
        have hcut : (e.2.2.cut qu).side = e.2.2.side ∧ (e.2.2.cut qu).price = e.2.2.price ∧ (1 ≤ (e.2.2.cut qu).visible ∧ (e.2.2.cut qu).visible ≤ (e.2.2.cut qu).left ∧ 0 ≤ (e.2.2.cut qu).shown) := by
          unfold Ord.cut
          refine ⟨rfl, rfl, ?_, ?_, hvis.2.2⟩
          · show 1 ≤ if qu < e.2.2.visible then qu else e.2.2.visible
            split <;> omega
          · show (if qu < e.2.2.visible then qu else e.2.2.visible) ≤ qu
            split <;> omega
        have B3 := (B.set1 hm (f := fun o => o.cut qu) hcut).same s3
        have hX3 := B3.at_.ob
        have hS3 := B3.at_.st
        have hinX3 := hX3
        unfold bookO at hinX3
        walk_at "st"
        intro p1 np1
        generalize hH4 : upd H3 p1 _ = H4
        have s4 : Same H3 H4 := hH4 ▸ same_upd np1
        have hp1 := (congrFun hH4 p1).symm.trans upd_same
        have hin4 := s4 _ _ hinX3
        walk_at "st"
        refine ⟨_, _, rfl, s4 _ _ hX3, s4 _ _ hS3, fun D H5 s5 nD hD => ?_⟩
        refine ⟨p1, D, [.ref r], [], rfl, rfl, s5 _ _ hp1, hD, len_le rfl, fun p np => ?_⟩
        have sE : Same H3 (upd H5 p (.lst ([.ref r] ++ []))) := (s4.trans s5).trans (same_upd np)
        refine qr e p r dr fl rm _ hw hho hpr hle upd_same (sE _ _ hr) (sE _ _ hfl) (sE _ _ hrm) (B3.same sE) fun z v h1 h2 h3 h4 h5 h6 => sE _ _ (s3 _ _ ?_)
        rw [upd_ne ?_]
        · exact h6
        · intro y
          exact hm.elim (fun q => h1 (List.mem_map.mpr ⟨e, q, y.symm⟩)) fun q => h2 (List.mem_map.mpr ⟨e, q, y.symm⟩)
      · have hno : ¬ (e.2.2.price = some pr ∧ qu ≤ e.2.2.left) := fun z => dec_f h2 z.2
        walk_at "st"
        refine ⟨last, next, es1, es2, e, pr, qu, rfl, B, hm, q0, hsz, fun R r dr fl rm o dxo fs H3 hR no nr hr hfl hrm B3 fr => ?_⟩
        have hX3 := B3.at_.ob
        have hS3 := B3.at_.st
        have hinX3 := hX3
        unfold bookO at hinX3
        walk_at "st"
        intro p1 np1
        generalize hH4 : upd H3 p1 _ = H4
        have s4 : Same H3 H4 := hH4 ▸ same_upd np1
        have hp1 := (congrFun hH4 p1).symm.trans upd_same
        have hin4 := s4 _ _ hinX3
        walk_at "st"
        refine ⟨_, _, rfl, s4 _ _ hX3, s4 _ _ hS3, fun D H5 s5 nD hD => ?_⟩
        refine ⟨p1, D, [.ref r], [], rfl, rfl, s5 _ _ hp1, hD, len_le rfl, fun p np => ?_⟩
        have sE : Same H3 (upd H5 p (.lst ([.ref r] ++ []))) := (s4.trans s5).trans (same_upd np)
        exact qe e R p r dr fl rm o dxo fs _ hw hho hno hR no upd_same (sE _ _ hr) (hfl.same sE) (sE _ _ hrm) (B3.same sE) fun z v h1 h2 h3 h4 h5 h6 => sE _ _ (fr z v h1 h2 h3 h4 h5 h6)
    · have hno : ¬ (e.2.2.price = some pr ∧ qu ≤ e.2.2.left) := fun z => dec_f h (by
        have := z.1
        rw [hpe] at this
        rw [Option.some.inj this]
        rfl)
      walk_at "st"
      refine ⟨last, next, es1, es2, e, pr, qu, rfl, B, hm, q0, hsz, fun R r dr fl rm o dxo fs H3 hR no nr hr hfl hrm B3 fr => ?_⟩
      have hX3 := B3.at_.ob
      have hS3 := B3.at_.st
      have hinX3 := hX3
      unfold bookO at hinX3
      walk_at "st"
      intro p1 np1
      generalize hH4 : upd H3 p1 _ = H4
      have s4 : Same H3 H4 := hH4 ▸ same_upd np1
      have hp1 := (congrFun hH4 p1).symm.trans upd_same
      have hin4 := s4 _ _ hinX3
      walk_at "st"
      refine ⟨_, _, rfl, s4 _ _ hX3, s4 _ _ hS3, fun D H5 s5 nD hD => ?_⟩
      refine ⟨p1, D, [.ref r], [], rfl, rfl, s5 _ _ hp1, hD, len_le rfl, fun p np => ?_⟩
      have sE : Same H3 (upd H5 p (.lst ([.ref r] ++ []))) := (s4.trans s5).trans (same_upd np)
      exact qe e R p r dr fl rm o dxo fs _ hw hho hno hR no upd_same (sE _ _ hr) (hfl.same sE) (sE _ _ hrm) (B3.same sE) fun z v h1 h2 h3 h4 h5 h6 => sE _ _ (fr z v h1 h2 h3 h4 h5 h6)

theorem drop_len (z : Addr) (es : List Ent) : (dropE z es).length ≤ es.length := List.length_filter_le _ _
theorem drop_less {e : Ent} {es : List Ent} (h : e ∈ es) : (dropE e.1 es).length + 1 ≤ es.length :=
  List.length_filter_lt_length_iff_exists (p := fun y : Ent => decide (y.1 ≠ e.1)) (l := es) |>.mpr ⟨e, h, by simp⟩
theorem setE_len (z : Addr) (f : Ord → Ord) (es : List Ent) : (setE z f es).length = es.length := List.length_map ..

/-! ### told rows -/
abbrev RowT := Int × Str × Option Int × Int × Int
def rowT (o : Ord) : RowT := (o.number, o.house, o.price, o.left, o.visible)
def layP : Option Int → PyData
  | none => .none
  | some k => .int k
theorem layD_P : LayD layP 0 (fun _ => True) := by
  refine ⟨fun x _ => ?_, fun x => ?_, fun x y => ?_⟩
  · cases x <;> rfl
  · cases x <;> exact Nat.le_refl _
  · cases x with
    | none => cases y with
      | none => simp [layP, PyData.eqv]
      | some y => simp [layP, PyData.eqv]
    | some x => cases y with
      | none => simp [layP, PyData.eqv]
      | some y =>
        simp only [layP, PyData.eqv, Option.some.injEq]
        rw [Bool.beq_eq_decide_eq]
def layRow (x : RowT) : PyData := .tuple [.int x.1, .str x.2.1, layP x.2.2.1, .int x.2.2.2.1, .int x.2.2.2.2]
theorem layD_Row : LayD layRow 1 (fun x => PyData.strOk x.2.1 = true) := by
  refine ⟨fun x a => ?_, fun x => ?_, fun x y => ?_⟩
  · unfold layRow
    simp only [PyData.canLay0, PyData.canLayAll0, layD_P.lay _ trivial, Bool.and_true, Bool.true_and]
    exact a
  · unfold layRow
    simp only [PyData.depth, PyData.depthAll]
    have := layD_P.dep x.2.2.1
    omega
  · unfold layRow
    simp only [PyData.eqv, PyData.eqvAll, layD_P.eqv, Bool.and_true, Bool.beq_eq_decide_eq]
    rw [decide_and2 (r := x.2.2.2 = y.2.2.2) (by rw [Prod.ext_iff]), decide_and2 (r := x.2.2 = y.2.2) (by rw [Prod.ext_iff]), decide_and2 (r := x.2 = y.2) (by rw [Prod.ext_iff])]
    exact decide_and2 (by rw [Prod.ext_iff])
theorem dpP {K : PySem.W.Frag} {H : Hp} : ∀ x : Option Int, Dp K H (optV x) (layP x)
  | none => .non
  | some k => .int _
theorem rows_dp {K : PySem.W.Frag} {H : Hp} {D : Addr} {ts : List (Addr × Ord)} {es : List Ent} (hD : H D = some (.lst (ts.map fun t => V.ref t.1))) (hts : ts.map (·.2) = es.map (·.2.2)) (hrow : ∀ t, t ∈ ts → H t.1 = some (.tup (rowV t.2))) :
    Dp K H (.ref D) (.list ((es.map fun e => rowT e.2.2).map layRow)) := by
  have e1 : (ts.map fun t => V.ref t.1) = (ts.map (·.1)).map V.ref := by rw [List.map_map]; rfl
  have e2 : (es.map fun e => rowT e.2.2) = ts.map fun t => rowT t.2 := by
    have := congrArg (List.map rowT) hts
    rw [List.map_map, List.map_map] at this
    exact this.symm
  rw [e1] at hD
  rw [e2]
  refine .lst (SqL.of hD) (dpAll_refs (by rw [List.length_map, List.length_map]) fun i p x h1 h2 => ?_)
  rw [List.getElem?_map] at h1 h2
  cases het : ts[i]? with
  | none => rw [het] at h1; cases h1
  | some t =>
    rw [het] at h1 h2
    have ep : t.1 = p := Option.some.inj h1
    have ex : rowT t.2 = x := Option.some.inj h2
    rw [← ep, ← ex]
    have hr := hrow t (List.mem_of_getElem? het)
    unfold rowV at hr
    exact .tup (SqT.of hr) (.cons (.int _) (.cons (.str _) (.cons (dpP _) (.cons (.int _) (.cons (.int _) .nil)))))
theorem rows_eq {K : PySem.W.Frag} {H : Hp} {D D' : Addr} {ts ts' : List (Addr × Ord)} {es : List Ent} {Q : VK} (hok : ∀ e, e ∈ es → PyData.strOk e.2.2.house = true) (hD : H D = some (.lst (ts.map fun t => V.ref t.1))) (hts : ts.map (·.2) = es.map (·.2.2)) (hrow : ∀ t, t ∈ ts → H t.1 = some (.tup (rowV t.2)))
    (hD' : H D' = some (.lst (ts'.map fun t => V.ref t.1))) (hts' : ts'.map (·.2) = es.map (·.2.2)) (hrow' : ∀ t, t ∈ ts' → H t.1 = some (.tup (rowV t.2))) (q : Q (.bl true) H) : rEqD K (.ref D) (.ref D') H Q := by
  have hG : ∀ x, x ∈ (es.map fun e => rowT e.2.2) → PyData.strOk x.2.1 = true := fun x hx => by
    obtain ⟨e, he, rfl⟩ := List.mem_map.mp hx
    exact hok e he
  refine eqL layD_Row.list (by decide) (a := es.map fun e => rowT e.2.2) (b := es.map fun e => rowT e.2.2) hG hG (rows_dp hD hts hrow) (rows_dp hD' hts' hrow') ?_
  rw [decide_eq_true rfl]
  exact q

/-! ### a plain book: one list of orders in the order of their coming -/
def ordE (e : Ent) : Ord := e.2.2
theorem place_filter {es : List Ent} {p : Int} (h : Mono es p) : es.filter (accE p) = es.take (place es p) ∧ es.filter (fun x => !accE p x) = es.drop (place es p) := by
  obtain ⟨h1, h2⟩ := place_split h
  constructor
  · conv => lhs; rw [← List.take_append_drop (place es p) es]
    rw [List.filter_append, List.filter_eq_self.mpr h1, List.filter_eq_nil_iff.mpr (fun x hx => by rw [h2 x hx]; exact Bool.false_ne_true), List.append_nil]
  · conv => lhs; rw [← List.take_append_drop (place es p) es]
    rw [List.filter_append, List.filter_eq_nil_iff.mpr (fun x hx => by rw [h1 x hx]; exact Bool.false_ne_true), List.nil_append, List.filter_eq_self.mpr (fun x hx => by rw [h2 x hx]; rfl)]
theorem ins_filter {es : List Ent} {p : Int} {e : Ent} (h : Mono es p) : insE es (place es p) e = es.filter (accE p) ++ e :: es.filter (fun x => !accE p x) := by
  rw [(place_filter h).1, (place_filter h).2]
  unfold insE
  rw [List.append_assoc]
  rfl
/-- the orders of one side by price, the elder ones first -/
def addE (es : List Ent) (e : Ent) : List Ent := insE es (place es (prcE e)) e
def bldE (es L : List Ent) : List Ent := L.foldl addE es
def selE (s : Str) (L : List Ent) : List Ent := L.filter fun e => decide (e.2.2.side = s)
def BL (s : Str) (L : List Ent) : List Ent := bldE [] (selE s L)
structure GoodE (e : Ent) : Prop where
  side : e.2.2.side = "buy" ∨ e.2.2.side = "sell"
  price : ∃ p, e.2.2.price = some p
  vis : 1 ≤ e.2.2.visible ∧ e.2.2.visible ≤ e.2.2.left ∧ 0 ≤ e.2.2.shown
  ok : PyData.strOk e.2.2.house = true
theorem add_rank {s : Str} {es : List Ent} {e : Ent} (h : Rank s es) (g : GoodE e) (hs : e.2.2.side = s) : Rank s (addE es e) := by
  obtain ⟨p, hp⟩ := g.price
  have hpp : prcE e = p := by unfold prcE; rw [hp]; rfl
  unfold addE
  rw [hpp]
  exact h.insert hs hp g.vis
theorem bld_rank {s : Str} : ∀ {L es : List Ent}, Rank s es → (∀ e, e ∈ L → GoodE e ∧ e.2.2.side = s) → Rank s (bldE es L)
  | [], es, h, _ => h
  | e :: L, es, h, g => bld_rank (L := L) (add_rank h (g e List.mem_cons_self).1 (g e List.mem_cons_self).2) fun x hx => g x (List.mem_cons_of_mem _ hx)
theorem sel_mem {s : Str} {L : List Ent} {e : Ent} (h : e ∈ selE s L) : e ∈ L ∧ e.2.2.side = s := ⟨(List.mem_filter.mp h).1, of_decide_eq_true (List.mem_filter.mp h).2⟩
theorem BL_rank {s : Str} {L : List Ent} (g : ∀ e, e ∈ L → GoodE e) : Rank s (BL s L) := bld_rank (Rank.nil s) fun e he => ⟨g e (sel_mem he).1, (sel_mem he).2⟩
theorem bld_snoc (es L : List Ent) (e : Ent) : bldE es (L ++ [e]) = addE (bldE es L) e := by
  unfold bldE
  rw [List.foldl_append]
  rfl
theorem BL_snoc {s : Str} {L : List Ent} {e : Ent} (h : e.2.2.side = s) : BL s (L ++ [e]) = addE (BL s L) e := by
  unfold BL selE
  rw [List.filter_append, List.filter_cons, if_pos (decide_eq_true h)]
  exact bld_snoc _ _ _
theorem BL_other {s : Str} {L : List Ent} {e : Ent} (h : e.2.2.side ≠ s) : BL s (L ++ [e]) = BL s L := by
  unfold BL selE
  rw [List.filter_append, List.filter_cons, if_neg (by simpa using h), List.filter_nil, List.append_nil]
theorem add_perm (es : List Ent) (e : Ent) : (addE es e).Perm (e :: es) := insE_perm _ _ _
theorem bld_perm : ∀ (L es : List Ent), (bldE es L).Perm (L ++ es)
  | [], es => List.Perm.refl _
  | e :: L, es => by
    have h1 := bld_perm L (addE es e)
    refine h1.trans ?_
    refine ((add_perm es e).append_left L).trans ?_
    exact List.perm_middle
theorem BL_perm (s : Str) (L : List Ent) : (BL s L).Perm (selE s L) := by
  have := bld_perm (selE s L) []
  rw [List.append_nil] at this
  exact this
/-- what is left out beforehand is left out behind -/
theorem add_filter {s : Str} {es : List Ent} {e : Ent} {q : Ent → Bool} (h : Rank s es) : (addE es e).filter q = if q e = true then addE (es.filter q) e else es.filter q := by
  have hm2 : Mono (es.filter q) (prcE e) := (h.sub List.filter_sublist).mono _
  unfold addE
  rw [ins_filter (h.mono _), ins_filter hm2, List.filter_append, List.filter_cons]
  have c1 : (es.filter (accE (prcE e))).filter q = (es.filter q).filter (accE (prcE e)) := by rw [List.filter_filter, List.filter_filter]; congr 1; funext x; exact Bool.and_comm _ _
  have c2 : (es.filter (fun x => !accE (prcE e) x)).filter q = (es.filter q).filter (fun x => !accE (prcE e) x) := by rw [List.filter_filter, List.filter_filter]; congr 1; funext x; exact Bool.and_comm _ _
  rw [c1, c2]
  split
  · rfl
  · rw [(place_filter hm2).1, (place_filter hm2).2, List.take_append_drop]
theorem bld_filter {s : Str} {q : Ent → Bool} : ∀ {L es : List Ent}, Rank s es → (∀ e, e ∈ L → GoodE e ∧ e.2.2.side = s) → (bldE es L).filter q = bldE (es.filter q) (L.filter q)
  | [], es, _, _ => rfl
  | e :: L, es, h, g => by
    have h1 := add_rank h (g e List.mem_cons_self).1 (g e List.mem_cons_self).2
    have ih := bld_filter (q := q) (L := L) h1 fun x hx => g x (List.mem_cons_of_mem _ hx)
    show (bldE (addE es e) L).filter q = _
    rw [ih, add_filter h, List.filter_cons]
    split <;> rfl
theorem BL_filter {s : Str} {L : List Ent} {q : Ent → Bool} (g : ∀ e, e ∈ L → GoodE e) : BL s (L.filter q) = (BL s L).filter q := by
  have h := bld_filter (q := q) (L := selE s L) (Rank.nil s) fun e he => ⟨g e (sel_mem he).1, (sel_mem he).2⟩
  unfold BL
  rw [h]
  show bldE [] (selE s (L.filter q)) = bldE [] ((selE s L).filter q)
  congr 1
  unfold selE
  rw [List.filter_filter, List.filter_filter]
  congr 1
  funext x
  exact Bool.and_comm _ _
/-- what changes neither side nor price changes no place -/
theorem place_map {f : Ent → Ent} (hf : ∀ e, (f e).2.2.side = e.2.2.side ∧ (f e).2.2.price = e.2.2.price) {p : Int} : ∀ es : List Ent, place (es.map f) p = place es p
  | [] => rfl
  | e :: es => by
    have ha : accE p (f e) = accE p e := by unfold accE; rw [(hf e).1, (hf e).2]
    have ih := place_map hf (p := p) es
    unfold place at ih ⊢
    rw [List.map_cons, List.takeWhile_cons, List.takeWhile_cons, ha]
    split
    · rw [List.length_cons, List.length_cons, ih]
    · rfl
theorem add_map {f : Ent → Ent} (hf : ∀ e, (f e).2.2.side = e.2.2.side ∧ (f e).2.2.price = e.2.2.price) (es : List Ent) (e : Ent) : (addE es e).map f = addE (es.map f) (f e) := by
  have hp : prcE (f e) = prcE e := by unfold prcE; rw [(hf e).2]
  unfold addE insE
  rw [hp, place_map hf, List.map_append, List.map_append, List.map_take, List.map_drop]
  rfl
theorem bld_map {f : Ent → Ent} (hf : ∀ e, (f e).2.2.side = e.2.2.side ∧ (f e).2.2.price = e.2.2.price) : ∀ L es : List Ent, (bldE es L).map f = bldE (es.map f) (L.map f)
  | [], _ => rfl
  | e :: L, es => by
    show (bldE (addE es e) L).map f = _
    rw [bld_map hf L, add_map hf]
    rfl
theorem BL_map {f : Ent → Ent} (hf : ∀ e, (f e).2.2.side = e.2.2.side ∧ (f e).2.2.price = e.2.2.price) (s : Str) (L : List Ent) : BL s (L.map f) = (BL s L).map f := by
  unfold BL selE
  rw [List.filter_map, bld_map hf]
  show bldE [] _ = bldE [] _
  congr 2
  refine List.filter_congr fun x _ => ?_
  show decide ((f x).2.2.side = s) = decide (x.2.2.side = s)
  rw [(hf x).1]

def fitsF (s : Str) (lim : Option Int) (p : Int) : Bool := match lim with
  | none => true
  | some l => if V.str s = V.str "sell" then decide (p ≤ l) else decide (l ≤ p)
def bestF (s : Str) (lim : Option Int) : List Ent → Option Ent
  | [] => none
  | h :: _ => if fitsF s lim (prcE h) = true then some h else none
def betterF (s : Str) (p q : Int) : Bool := if V.str s = V.str "sell" then decide (p < q) else decide (q < p)
theorem sell_ne_buy : ¬ V.str "buy" = V.str "sell" := by decide +kernel
theorem fits_takes {ts : Str} (h : ts = "buy" ∨ ts = "sell") (lim : Option Int) (p : Int) : fitsF (otherS ts) lim p = takes ts lim p := by
  cases lim with
  | none => rfl
  | some l =>
    rcases h with rfl | rfl
    · have : otherS "buy" = "sell" := if_pos buyS_buy
      rw [this]
      show (if V.str "sell" = V.str "sell" then decide (p ≤ l) else decide (l ≤ p)) = if buyS "buy" = true then decide (p ≤ l) else decide (l ≤ p)
      rw [if_pos rfl, if_pos buyS_buy]
    · have : otherS "sell" = "buy" := if_neg (by rw [buyS_sell]; exact Bool.false_ne_true)
      rw [this]
      show (if V.str "buy" = V.str "sell" then decide (p ≤ l) else decide (l ≤ p)) = if buyS "sell" = true then decide (p ≤ l) else decide (l ≤ p)
      rw [if_neg sell_ne_buy, if_neg (by rw [buyS_sell]; exact Bool.false_ne_true)]
theorem acc_better {s : Str} {e : Ent} {p : Int} (hs : s = "buy" ∨ s = "sell") (h1 : e.2.2.side = s) (h2 : ∃ q, e.2.2.price = some q) : accE p e = !betterF s p (prcE e) := by
  obtain ⟨q, hq⟩ := h2
  have hp : prcE e = q := by unfold prcE; rw [hq]; rfl
  rw [hp, accE_of hq, h1]
  rcases hs with rfl | rfl
  · show (if buyS "buy" = true then decide (p ≤ q) else decide (q ≤ p)) = !(if V.str "buy" = V.str "sell" then decide (p < q) else decide (q < p))
    rw [if_pos buyS_buy, if_neg sell_ne_buy]
    by_cases h : p ≤ q
    · rw [decide_eq_true h, decide_eq_false (by omega)]; rfl
    · rw [decide_eq_false h, decide_eq_true (by omega)]; rfl
  · show (if buyS "sell" = true then decide (p ≤ q) else decide (q ≤ p)) = !(if V.str "sell" = V.str "sell" then decide (p < q) else decide (q < p))
    rw [if_neg (by rw [buyS_sell]; exact Bool.false_ne_true), if_pos rfl]
    by_cases h : q ≤ p
    · rw [decide_eq_true h, decide_eq_false (by omega)]; rfl
    · rw [decide_eq_false h, decide_eq_true (by omega)]; rfl
theorem fits_mono {s : Str} {lim : Option Int} {p q : Int} (h : betterF s p q = true) (hq : fitsF s lim q = true) : fitsF s lim p = true := by
  cases lim with
  | none => rfl
  | some l =>
    unfold fitsF betterF at *
    dsimp only at *
    split at h
    · next z =>
      rw [if_pos z] at hq ⊢
      have := of_decide_eq_true h
      have := of_decide_eq_true hq
      exact decide_eq_true (by omega)
    · next z =>
      rw [if_neg z] at hq ⊢
      have := of_decide_eq_true h
      have := of_decide_eq_true hq
      exact decide_eq_true (by omega)
theorem add_head {h e : Ent} {t : List Ent} : ∃ r, addE (h :: t) e = (if accE (prcE e) h = true then h else e) :: r := by
  unfold addE insE place
  rw [List.takeWhile_cons]
  split
  · rw [List.length_cons, List.take_succ_cons]
    exact ⟨_, rfl⟩
  · rw [List.length_nil, List.take_zero]
    exact ⟨_, rfl⟩
theorem best_cons {s : Str} {lim : Option Int} {x : Ent} {t : List Ent} : bestF s lim (x :: t) = if fitsF s lim (prcE x) = true then some x else none := rfl
theorem best_add {s : Str} {lim : Option Int} {es : List Ent} {e : Ent} (hs : s = "buy" ∨ s = "sell") (h : Rank s es) :
    bestF s lim (addE es e) = if fitsF s lim (prcE e) = true ∧ (∀ b, bestF s lim es = some b → betterF s (prcE e) (prcE b) = true) then some e else bestF s lim es := by
  cases es with
  | nil =>
    show (if fitsF s lim (prcE e) = true then some e else none) = _
    by_cases f : fitsF s lim (prcE e) = true
    · rw [if_pos f, if_pos ⟨f, fun b hb => by cases hb⟩]
    · rw [if_neg f, if_neg fun z => f z.1]
      rfl
  | cons x t =>
    obtain ⟨r, hr⟩ := add_head (h := x) (e := e) (t := t)
    have ha := acc_better (p := prcE e) hs (h.side x List.mem_cons_self) (h.price x List.mem_cons_self)
    rw [hr, ha]
    by_cases b : betterF s (prcE e) (prcE x) = true
    · rw [if_neg (by rw [b]; exact Bool.false_ne_true)]
      show (if fitsF s lim (prcE e) = true then some e else none) = _
      by_cases f : fitsF s lim (prcE e) = true
      · have hz : ∀ b', bestF s lim (x :: t) = some b' → betterF s (prcE e) (prcE b') = true := fun b' hb => by
          rw [best_cons] at hb
          split at hb
          · cases hb
            exact b
          · cases hb
        rw [if_pos f, if_pos ⟨f, hz⟩]
      · rw [if_neg f, if_neg fun z => f z.1]
        rw [best_cons, if_neg fun z => f (fits_mono b z)]
    · have b2 : betterF s (prcE e) (prcE x) = false := by cases hb : betterF s (prcE e) (prcE x) with
        | false => rfl
        | true => exact absurd hb b
      rw [if_pos (by rw [b2]; rfl)]
      show (if fitsF s lim (prcE x) = true then some x else none) = _
      by_cases f : fitsF s lim (prcE x) = true
      · rw [if_pos f, if_neg fun z => b (z.2 x (by rw [best_cons, if_pos f])), best_cons, if_pos f]
      · have hz : ¬ (fitsF s lim (prcE e) = true ∧ ∀ b', bestF s lim (x :: t) = some b' → betterF s (prcE e) (prcE b') = true) := fun z => by
          have h1 := z.1
          have : betterF s (prcE x) (prcE e) = true ∨ prcE x = prcE e := by
            unfold betterF at b2 ⊢
            by_cases z : V.str s = V.str "sell"
            · rw [if_pos z] at b2 ⊢
              have := of_decide_eq_false b2
              by_cases k : prcE x < prcE e
              · exact .inl (decide_eq_true k)
              · exact .inr (by omega)
            · rw [if_neg z] at b2 ⊢
              have := of_decide_eq_false b2
              by_cases k : prcE e < prcE x
              · exact .inl (decide_eq_true k)
              · exact .inr (by omega)
          rcases this with k | k
          · exact f (fits_mono k h1)
          · rw [k] at f; exact f h1
        rw [if_neg f, if_neg hz, best_cons, if_neg f]
/-- the law's list: its rows are orders, none twice -/
structure LawL (L : List Ent) : Prop where
  good : ∀ e, e ∈ L → GoodE e
  nda : (L.map (·.1)).Nodup
  ndn : (L.map fun e => e.2.2.number).Nodup
theorem BL_mem {s : Str} {L : List Ent} {e : Ent} (h : e ∈ BL s L) : e ∈ L ∧ e.2.2.side = s := sel_mem ((BL_perm s L).mem_iff.mp h)
theorem BL_nd {s : Str} {L : List Ent} (h : (L.map (·.1)).Nodup) : ((BL s L).map (·.1)).Nodup := ((BL_perm s L).map _).nodup_iff.mpr ((List.filter_sublist.map _).nodup h)
theorem drop_head {e : Ent} {rest : List Ent} (h : ((e :: rest).map (·.1)).Nodup) : dropE e.1 (e :: rest) = rest := drop_mid (pre := []) h
theorem BL_drop {s : Str} {L : List Ent} {e : Ent} {rest : List Ent} (h : LawL L) (hb : BL s L = e :: rest) : BL s (dropE e.1 L) = rest := by
  unfold dropE
  rw [BL_filter h.good, hb]
  exact drop_head (by rw [← hb]; exact BL_nd h.nda)
theorem BL_drop_other {s : Str} {L : List Ent} {e : Ent} (h : LawL L) (he : e ∈ L) (hs : e.2.2.side ≠ s) : BL s (dropE e.1 L) = BL s L := by
  unfold dropE
  rw [BL_filter h.good]
  refine drop_none fun y hy z => hs ?_
  obtain ⟨y1, y2⟩ := BL_mem hy
  rw [← nodup_addr h.nda y1 he z]
  exact y2
theorem LawL.drop {L : List Ent} (h : LawL L) (a : Addr) : LawL (dropE a L) := ⟨fun e he => h.good e (drop_mem he).1, (List.filter_sublist.map _).nodup h.nda, (List.filter_sublist.map _).nodup h.ndn⟩
def decO (q : Int) (o : Ord) : Ord := { o with left := o.left - q, visible := o.visible - q }
theorem BL_set {s : Str} {L : List Ent} (a : Addr) (q : Int) : BL s (setE a (decO q) L) = setE a (decO q) (BL s L) := by
  unfold setE
  refine BL_map (fun e => ?_) s L
  split <;> exact ⟨rfl, rfl⟩
theorem set_head {e : Ent} {rest : List Ent} {f : Ord → Ord} (h : ((e :: rest).map (·.1)).Nodup) : setE e.1 f (e :: rest) = (e.1, e.2.1, f e.2.2) :: rest := by
  have h1 : setE e.1 f rest = rest := setE_none fun y hy z => (List.nodup_cons.mp h).1 (List.mem_map.mpr ⟨y, hy, z⟩)
  have h2 : setE e.1 f (e :: rest) = (if e.1 = e.1 then (e.1, e.2.1, f e.2.2) else e) :: setE e.1 f rest := rfl
  rw [h2, if_pos rfl, h1]
theorem LawL.set {L : List Ent} {e : Ent} {q : Int} (h : LawL L) (he : e ∈ L) (hq : 1 ≤ e.2.2.visible - q) (hq0 : 0 ≤ q) : LawL (setE e.1 (decO q) L) := by
  refine ⟨fun y hy => ?_, by rw [setE_addr]; exact h.nda, ?_⟩
  · obtain ⟨x, hx, rfl⟩ := setE_mem hy
    split
    · next z =>
      have hxe := nodup_addr h.nda hx he z
      subst hxe
      have g := h.good x hx
      exact ⟨g.side, g.price, ⟨by show 1 ≤ x.2.2.visible - q; exact hq, by show x.2.2.visible - q ≤ x.2.2.left - q; have := g.vis; omega, g.vis.2.2⟩, g.ok⟩
    · exact h.good x hx
  · have : (setE e.1 (decO q) L).map (fun e => e.2.2.number) = L.map fun e => e.2.2.number := by
      unfold setE
      rw [List.map_map]
      refine List.map_congr_left fun y _ => ?_
      show (if y.1 = e.1 then _ else y).2.2.number = y.2.2.number
      split <;> rfl
    rw [this]
    exact h.ndn
theorem LawL.snoc {L : List Ent} {e : Ent} (h : LawL L) (g : GoodE e) (ha : e.1 ∉ L.map (·.1)) (hn : e.2.2.number ∉ L.map fun e => e.2.2.number) : LawL (L ++ [e]) := by
  refine ⟨fun y hy => ?_, ?_, ?_⟩
  · rcases List.mem_append.mp hy with z | z
    · exact h.good y z
    · rw [List.mem_singleton.mp z]; exact g
  · rw [List.map_append]
    refine List.nodup_append.mpr ⟨h.nda, List.nodup_cons.mpr ⟨List.not_mem_nil, List.nodup_nil⟩, fun a h1 b h2 e => ?_⟩
    rw [List.mem_singleton.mp h2] at e
    rw [e] at h1
    exact ha h1
  · rw [List.map_append]
    refine List.nodup_append.mpr ⟨h.ndn, List.nodup_cons.mpr ⟨List.not_mem_nil, List.nodup_nil⟩, fun a h1 b h2 e => ?_⟩
    rw [List.mem_singleton.mp h2] at e
    rw [e] at h1
    exact hn h1

/-! ### the law's trade, step by step, beside the book's -/
def stepL (t : Ord) (m : Mt) (e : Ent) (L : List Ent) : List Ent :=
  if e.2.2.house = t.house then dropE e.1 L
  else if e.2.2.visible - qtyM m e = 0 then dropE e.1 L ++ (if 0 < e.2.2.left - qtyM m e then [(e.1, e.2.1, (decO (qtyM m e) e.2.2).showNext)] else [])
  else setE e.1 (decO (qtyM m e)) L
theorem trade_is (e : Ent) (es : List Ent) (n p : Int) : tradeF e es n p = if e.2.2.visible - n = 0 then (if 0 < e.2.2.left - n then insE es (place es p) (e.1, e.2.1, (decO n e.2.2).showNext) else es) else (e.1, e.2.1, decO n e.2.2) :: es := rfl
theorem qty_in {m : Mt} {e : Ent} (h0 : 0 < m.left) (hv : 1 ≤ e.2.2.visible) : 1 ≤ qtyM m e ∧ qtyM m e ≤ e.2.2.visible ∧ qtyM m e ≤ m.left := by
  unfold qtyM
  split <;> omega
theorem drop_out {e : Ent} {L : List Ent} : e.1 ∉ (dropE e.1 L).map (·.1) := fun h => by
  obtain ⟨y, hy, z⟩ := List.mem_map.mp h
  exact (drop_mem hy).2 z
theorem drop_num {e : Ent} {L : List Ent} (h : LawL L) (he : e ∈ L) : e.2.2.number ∉ (dropE e.1 L).map fun e => e.2.2.number := fun k => by
  obtain ⟨y, hy, z⟩ := List.mem_map.mp k
  obtain ⟨y1, y2⟩ := drop_mem hy
  obtain ⟨i, hi, ei⟩ := List.getElem_of_mem y1
  obtain ⟨j, hj, ej⟩ := List.getElem_of_mem he
  have h1 := List.pairwise_iff_getElem.mp h.ndn
  have n1 : ∀ k (hk : k < L.length), (L.map fun e => e.2.2.number)[k]'(by rw [List.length_map]; exact hk) = L[k].2.2.number := fun k hk => by rw [List.getElem_map]
  rcases Nat.lt_trichotomy i j with c | c | c
  · have := h1 i j (by rw [List.length_map]; exact hi) (by rw [List.length_map]; exact hj) c
    rw [n1 i hi, n1 j hj, ei, ej] at this
    exact this z
  · subst c
    rw [ei] at ej
    rw [ej] at y2
    exact y2 rfl
  · have := h1 j i (by rw [List.length_map]; exact hj) (by rw [List.length_map]; exact hi) c
    rw [n1 i hi, n1 j hj, ei, ej] at this
    exact this z.symm
theorem stepL_ok {t : Ord} {m : Mt} {e : Ent} {L : List Ent} {so : Str} (h : LawL L) (hm : m.es = BL so L) (hg : goesM t m = some e) :
    (stepM t m e).es = BL so (stepL t m e L) ∧ (∀ s, s ≠ so → BL s (stepL t m e L) = BL s L) ∧ LawL (stepL t m e L) ∧ (stepL t m e L).length ≤ L.length := by
  obtain ⟨h1, h2, h3⟩ := goesM_some hg
  generalize hr : m.es.tail = rest at h1
  have hb : BL so L = e :: rest := by rw [← hm, h1]
  have hem : e ∈ BL so L := by rw [hb]; exact List.mem_cons_self
  obtain ⟨heL, hes⟩ := BL_mem hem
  have g := h.good e heL
  have hq := qty_in h2 g.vis.1
  have hdl : (dropE e.1 L).length + 1 ≤ L.length := drop_less heL
  have oth : ∀ s, s ≠ so → BL s (dropE e.1 L) = BL s L := fun s hs => BL_drop_other h heL (fun z => hs (by rw [← z, hes]))
  unfold stepM stepL
  by_cases hh : e.2.2.house = t.house
  · rw [if_pos hh, if_pos hh]
    refine ⟨?_, oth, h.drop _, by omega⟩
    show m.es.tail = _
    rw [hr, BL_drop h hb]
  · rw [if_neg hh, if_neg hh]
    show tradeF e m.es.tail (qtyM m e) (prcE e) = _ ∧ _
    rw [trade_is, hr]
    by_cases hv : e.2.2.visible - qtyM m e = 0
    · rw [if_pos hv, if_pos hv]
      by_cases hl : 0 < e.2.2.left - qtyM m e
      · rw [if_pos hl, if_pos hl]
        have hvis := showNext_vis (o := decO (qtyM m e) e.2.2) (by show 1 ≤ e.2.2.left - qtyM m e; omega) g.vis.2.2
        have gn : GoodE (e.1, e.2.1, (decO (qtyM m e) e.2.2).showNext) := ⟨g.side, g.price, hvis, g.ok⟩
        refine ⟨?_, fun s hs => ?_, (h.drop _).snoc gn drop_out (drop_num h heL), ?_⟩
        · rw [BL_snoc (by exact hes), BL_drop h hb]
          rfl
        · rw [BL_other (by show e.2.2.side ≠ s; rw [hes]; exact fun z => hs z.symm)]
          exact oth s hs
        · rw [List.length_append, List.length_singleton]
          omega
      · rw [if_neg hl, if_neg hl, List.append_nil]
        exact ⟨(BL_drop h hb).symm, oth, h.drop _, by omega⟩
    · rw [if_neg hv, if_neg hv]
      refine ⟨?_, fun s hs => ?_, h.set heL (by omega) (by omega), by rw [setE_len]; exact Nat.le_refl _⟩
      · rw [BL_set, hb, set_head (by rw [← hb]; exact BL_nd h.nda)]
      · rw [BL_set]
        refine setE_none fun y hy z => ?_
        obtain ⟨y1, y2⟩ := BL_mem hy
        have := nodup_addr h.nda y1 heL z
        subst this
        exact hs (y2.symm.trans hes)
def ordsE (es : List Ent) : List Ord := es.map fun e => e.2.2
structure SimM (m n : Mt) : Prop where
  es : ordsE m.es = ordsE n.es
  left : m.left = n.left
  last : m.last = n.last
  fills : m.fills = n.fills
  gone : m.gone = n.gone
theorem place_ords {p : Int} : ∀ {a b : List Ent}, ordsE a = ordsE b → place a p = place b p
  | [], [], _ => rfl
  | [], y :: b, h => by cases h
  | x :: a, [], h => by cases h
  | x :: a, y :: b, h => by
    obtain ⟨h1, h2⟩ := List.cons.inj (show x.2.2 :: ordsE a = y.2.2 :: ordsE b from h)
    have ha : accE p x = accE p y := by unfold accE; rw [h1]
    have ih := place_ords (p := p) h2
    unfold place at ih ⊢
    rw [List.takeWhile_cons, List.takeWhile_cons, ha]
    split
    · rw [List.length_cons, List.length_cons, ih]
    · rfl
theorem ins_ords {a b : List Ent} {x y : Ent} {k : Nat} (h : ordsE a = ordsE b) (hx : x.2.2 = y.2.2) : ordsE (insE a k x) = ordsE (insE b k y) := by
  unfold ordsE insE at *
  rw [List.map_append, List.map_append, List.map_append, List.map_append, List.map_take, List.map_take, List.map_drop, List.map_drop, h]
  show _ ++ [x.2.2] ++ _ = _ ++ [y.2.2] ++ _
  rw [hx]
theorem trade_ords {a b : List Ent} {x y : Ent} {n p : Int} (h : ordsE a = ordsE b) (hx : x.2.2 = y.2.2) : ordsE (tradeF x a n p) = ordsE (tradeF y b n p) := by
  rw [trade_is, trade_is, hx]
  split
  · split
    · rw [place_ords h]
      exact ins_ords h rfl
    · exact h
  · show decO n y.2.2 :: ordsE a = decO n y.2.2 :: ordsE b
    rw [h]
theorem sim_goes {t : Ord} {m n : Mt} (h : SimM m n) : (goesM t m = none → goesM t n = none) ∧ ∀ e, goesM t m = some e → ∃ e', goesM t n = some e' ∧ SimM (stepM t m e) (stepM t n e') := by
  have h1 := h.es
  have h2 := h.left
  cases hm : m.es with
  | nil =>
    rw [hm] at h1
    have hn : n.es = [] := by
      cases hn : n.es with
      | nil => rfl
      | cons a b => rw [hn] at h1; cases h1
    unfold goesM
    rw [hm, hn]
    exact ⟨fun _ => rfl, fun e he => by cases he⟩
  | cons x a =>
    rw [hm] at h1
    cases hn : n.es with
    | nil => rw [hn] at h1; cases h1
    | cons y b =>
      rw [hn] at h1
      obtain ⟨k1, k2⟩ := List.cons.inj (show x.2.2 :: ordsE a = y.2.2 :: ordsE b from h1)
      have hp : prcE x = prcE y := by unfold prcE; rw [k1]
      have e1 : goesM t m = if 0 < m.left ∧ takes t.side t.price (prcE x) = true then some x else none := by unfold goesM; rw [hm]
      have e2 : goesM t n = if 0 < m.left ∧ takes t.side t.price (prcE x) = true then some y else none := by unfold goesM; rw [hn, h2, hp]
      rw [e1, e2]
      by_cases c : 0 < m.left ∧ takes t.side t.price (prcE x) = true
      · rw [if_pos c, if_pos c]
        refine ⟨(fun z => by cases z), fun e he => ⟨y, rfl, ?_⟩⟩
        cases he
        have hq : qtyM m x = qtyM n y := by unfold qtyM; rw [k1, h2]
        unfold stepM
        rw [k1]
        by_cases hh : y.2.2.house = t.house
        · rw [if_pos hh, if_pos hh]
          refine ⟨?_, h2, h.last, h.fills, by show m.gone ++ _ = n.gone ++ _; rw [h.gone]⟩
          show ordsE m.es.tail = ordsE n.es.tail
          rw [hm, hn]
          exact k2
        · rw [if_neg hh, if_neg hh]
          refine ⟨?_, by show m.left - _ = n.left - _; rw [h2, hq], by show some (prcE x) = some (prcE y); rw [hp], by show m.fills ++ _ = n.fills ++ _; rw [h.fills, hq, hp], h.gone⟩
          show ordsE (tradeF x m.es.tail (qtyM m x) (prcE x)) = ordsE (tradeF y n.es.tail (qtyM n y) (prcE y))
          rw [hm, hn, hq, hp]
          exact trade_ords k2 k1
      · rw [if_neg c, if_neg c]
        exact ⟨fun _ => rfl, fun e he => by cases he⟩
theorem sim_run {t : Ord} : ∀ (k : Nat) {m n : Mt}, SimM m n → SimM (runM t k m) (runM t k n)
  | 0, _, _, h => h
  | k + 1, m, n, h => by
    obtain ⟨h1, h2⟩ := sim_goes (t := t) h
    cases hg : goesM t m with
    | none => rw [runM_stop hg, runM_stop (h1 hg)]; exact h
    | some e =>
      obtain ⟨e', he, hs⟩ := h2 e hg
      rw [runM_go hg, runM_go he]
      exact sim_run k hs
theorem sim_end {t : Ord} {last : Option Int} {a b : List Ent} (h : ordsE a = ordsE b) : SimM (endM t last a) (endM t last b) := by
  have hl : a.length = b.length := by
    have := congrArg List.length h
    unfold ordsE at this
    rw [List.length_map, List.length_map] at this
    exact this
  have hsz : sizeM (startM t last a) = sizeM (startM t last b) := by unfold sizeM startM; dsimp only; rw [hl]
  unfold endM
  rw [hsz]
  exact sim_run _ ⟨h, rfl, rfl, rfl, rfl⟩
def sumL (t : Ord) : List Ord → Int
  | [] => 0
  | o :: os => if canT t (0, 0, o) = true then o.left + sumL t os else sumL t os
theorem avail_sum (t : Ord) : ∀ es : List Ent, availM t es = sumL t (ordsE es)
  | [] => rfl
  | e :: es => by
    have ih := avail_sum t es
    unfold availM at ih ⊢
    rw [List.filter_cons]
    show _ = if canT t e = true then e.2.2.left + sumL t (ordsE es) else sumL t (ordsE es)
    split
    · rw [List.map_cons, List.sum_cons, ih]
    · exact ih
theorem avail_ords {t : Ord} {a b : List Ent} (h : ordsE a = ordsE b) : availM t a = availM t b := by rw [avail_sum, avail_sum, h]

/-! ### the law's own rows -/
def housesL : List Str := ["ash", "bay", "elm", "oak"]
def houseF (c : Int) : Str := housesL.getD (c % 4).toNat ""
theorem houseF_at (c : Int) : atI (housesL.map V.str) (c % 4) = some (.str (houseF c)) := by
  have h0 := Int.emod_nonneg c (by decide : (4 : Int) ≠ 0)
  have h1 := Int.emod_lt_of_pos c (by decide : (0 : Int) < 4)
  obtain ⟨n, hn⟩ := Int.eq_ofNat_of_zero_le h0
  unfold houseF
  rw [hn, Int.toNat_natCast]
  refine at_of (j := n) rfl ?_
  have hl : n < housesL.length := by show n < 4; omega
  rw [List.getElem?_map, List.getD_eq_getElem?_getD, List.getElem?_eq_getElem hl]
  rfl
theorem houseF_ne (c : Int) : ¬ V.str (houseF c) = V.str "" := by
  have h0 := Int.emod_nonneg c (by decide : (4 : Int) ≠ 0)
  have h1 := Int.emod_lt_of_pos c (by decide : (0 : Int) < 4)
  have h2 : ∀ n : Nat, n < 4 → ¬ V.str (housesL.getD n "") = V.str "" := by decide +kernel
  exact h2 _ (by omega)
theorem houseF_sok (c : Int) : PyData.strOk (houseF c) = true := by
  have h0 := Int.emod_nonneg c (by decide : (4 : Int) ≠ 0)
  have h1 := Int.emod_lt_of_pos c (by decide : (0 : Int) < 4)
  have h2 : ∀ n : Nat, n < 4 → PyData.strOk (housesL.getD n "") = true := by decide +kernel
  exact h2 _ (by omega)
def sp_law_house (K : PySem.W.Frag) : Sp := fun vs H Q _ => ∃ c : Int, vs = [.int c] ∧ ∀ H', Same H H' → Q (.str (houseF c)) H'
set_option maxHeartbeats 0 in
theorem ok_law_house (T : Txt K mg) : FnOk P w K mg base CX0 1 T.f_law_house T.d_law_house ["cell"] (sp_law_house K) := by
  refine T.F_law_house.ok sc_law_house (fun vs H Q E h => ?_) (fun cdv A outer s H vs Q E hr h => ?_)
  · obtain ⟨c, rfl, _⟩ := h
    rfl
  · obtain ⟨c, rfl, q⟩ := h
    refine ⟨_, (pss_one (ps_ret (pe_ix ix_list (pe_lst (pa_cons pe_str (pa_cons pe_str (pa_cons pe_str (pa_cons pe_str pa_nil))))) (pe_op op_mod (pe_callTy call_int_i (by rfl) T.z_int (by decide +kernel) (pa_cons (pv 0) pa_nil)) pe_int) (fun _ _ => rfl)))), ?_⟩
    walk_at "st"
    intro p np
    have hp : SqL K (upd H p (.lst [V.str "ash", V.str "bay", V.str "elm", V.str "oak"])) p (housesL.map V.str) := SqL.of upd_same
    have hat := houseF_at c
    walk_at "st"
    exact q _ (same_upd np)

def rowL (o : Ord) : List V := [.int o.number, .str o.house, .str o.side, optV o.price, .int o.left, .int o.visible, .int o.shown]
structure LoAt (H : Hp) (D : Addr) (L : List Ent) : Prop where
  li : H D = some (.lst (refs L))
  row : ∀ e, e ∈ L → H e.1 = some (.lst (rowL e.2.2))
  nd : (L.map (·.1)).Nodup
  out : D ∉ L.map (·.1)
theorem LoAt.same {H H' : Hp} {D : Addr} {L : List Ent} (h : LoAt H D L) (e : Same H H') : LoAt H' D L := ⟨e _ _ h.li, fun x hx => e _ _ (h.row x hx), h.nd, h.out⟩
def sp_law_resting_side (K : PySem.W.Frag) : Sp := fun vs H Q _ => ∃ s : Str, vs = [.str s] ∧ Q (.str (otherS s)) H
set_option maxHeartbeats 0 in
theorem ok_law_resting_side (T : Txt K mg) : FnOk P w K mg base CX0 1 T.f_law_resting_side T.d_law_resting_side ["side"] (sp_law_resting_side K) := by
  refine T.F_law_resting_side.ok sc_law_resting_side (fun vs H Q E h => ?_) (fun cdv A outer s H vs Q E hr h => ?_)
  · obtain ⟨s, rfl, _⟩ := h
    rfl
  · obtain ⟨s, rfl, q⟩ := h
    refine ⟨_, (pss_cons (ps_if (pt_cmpR op_eq (pv 0) pe_str (nomark _))
      (pss_one (ps_ret pe_str))
      pss_nil)
    (pss_one (ps_ret pe_str))), ?_⟩
    unfold otherS at q
    walk_at "st"
    refine iteB (fun h => ?_) (fun h => ?_)
    · rw [if_pos (show buyS s = true from h)] at q
      walk_at "st"
      exact q
    · rw [if_neg (by rw [show buyS s = false from h]; exact Bool.false_ne_true)] at q
      exact q
def sp_law_fits (K : PySem.W.Frag) : Sp := fun vs H Q _ => ∃ (s : Str) (lim : Option Int) (p : Int), vs = [.str s, optV lim, .int p] ∧ Q (.bl (fitsF s lim p)) H
set_option maxHeartbeats 0 in
theorem ok_law_fits (T : Txt K mg) : FnOk P w K mg base CX0 1 T.f_law_fits T.d_law_fits ["side", "limit", "price"] (sp_law_fits K) := by
  refine T.F_law_fits.ok sc_law_fits (fun vs H Q E h => ?_) (fun cdv A outer s H vs Q E hr h => ?_)
  · obtain ⟨s, lim, p, rfl, _⟩ := h
    rfl
  · obtain ⟨s, lim, p, rfl, q⟩ := h
    refine ⟨_, (pss_cons (ps_if (pt_cmpR op_isN (pv 1) pe_non (nomark _))
      (pss_one (ps_ret pe_bl))
      pss_nil)
    (pss_cons (ps_if (pt_cmpR op_eq (pv 0) pe_str (nomark _))
      (pss_one (ps_ret (pe_cmpR op_le (pv 2) (pv 1) (nomark _))))
      pss_nil)
    (pss_one (ps_ret (pe_cmpR op_ge (pv 2) (pv 1) (nomark _)))))), ?_⟩
    cases lim with
    | none =>
      walk_at "st"
      exact q
    | some l =>
      have e : fitsF s (some l) p = if V.str s = V.str "sell" then decide (p ≤ l) else decide (l ≤ p) := rfl
      rw [e] at q
      walk_at "st"
      refine iteB (fun h => ?_) (fun h => ?_)
      · rw [if_pos (dec_t h)] at q
        walk_at "st"
        exact q
      · rw [if_neg (dec_f h)] at q
        walk_at "st"
        exact q
theorem BL_take {s : Str} {L : List Ent} {i : Nat} {e : Ent} (h : L[i]? = some e) : BL s (L.take (i + 1)) = if e.2.2.side = s then addE (BL s (L.take i)) e else BL s (L.take i) := by
  rw [take_succ h]
  split
  · next z => exact BL_snoc z
  · next z => exact BL_other z
theorem best_mem {s : Str} {lim : Option Int} {L : List Ent} {b : Ent} (h : bestF s lim (BL s L) = some b) : b ∈ L ∧ b.2.2.side = s := by
  cases hb : BL s L with
  | nil => rw [hb] at h; cases h
  | cons x t =>
    rw [hb, best_cons] at h
    split at h
    · cases h
      exact BL_mem (by rw [hb]; exact List.mem_cons_self)
    · cases h
def sp_law_first (K : PySem.W.Frag) : Sp := fun vs H Q _ => ∃ (_ : Unit) (D : Addr) (L : List Ent) (s : Str) (lim : Option Int), vs = [.ref D, .str s, optV lim] ∧ LoAt H D L ∧ (s = "buy" ∨ s = "sell") ∧ (∀ e, e ∈ L → GoodE e) ∧ Q (entV (bestF s lim (BL s L))) H
set_option maxHeartbeats 0 in
theorem ok_law_first (T : Txt K mg) : FnOk P w K mg base CX0 2 T.f_law_first T.d_law_first ["orders", "side", "limit"] (sp_law_first K) := by
  refine T.F_law_first.ok sc_law_first (fun vs H Q E h => ?_) (fun cdv A outer s H vs Q E hr h => ?_)
  · obtain ⟨_, D, L, s, lim, rfl, _⟩ := h
    rfl
  · obtain ⟨_, D, L, s, lim, rfl, hL, hs, hg, q⟩ := h
    have G_law_fits : FnOk P w K mg base CX0 1 T.f_law_fits T.d_law_fits ["side", "limit", "price"] (sp_law_fits K) := ok_law_fits T
    refine ⟨_, (pss_cons (ps_set (i := 3) sc_law_first.nd rfl (Or.inl rfl) pe_non)
    (pss_cons (ps_for PassesOwn.never rfl (pi_list (pv 0)) (pg_name (i := 4) sc_law_first.nd rfl (Or.inl rfl))
      (pss_one (ps_if (PW.pt (pw_and (pt_cmpR op_eq (pe_ix ix_list (pv 4) pe_int (fun _ _ => rfl)) (pv 1) (nomark _)) (pw_and1 (pt_val (pe_call G_law_fits hr (by rfl) T.m_law_fits T.F_law_fits.kp T.b_law_fits .nil pass0 (pa_cons (pv 1) (pa_cons (pv 2) (pa_cons (pe_ix ix_list (pv 4) pe_int (fun _ _ => rfl)) pa_nil))))))))
        (pss_one (ps_if (pt_cmpR op_isN (pv 3) pe_non (nomark _))
          (pss_one (ps_set (i := 3) sc_law_first.nd rfl (Or.inl rfl) (pv 4)))
          (pss_one (ps_if (PW.pt (pw_and (pt_cmpR op_eq (pv 1) pe_str (nomark _)) (pw_and1 (pt_cmpR op_lt (pe_ix ix_list (pv 4) pe_int (fun _ _ => rfl)) (pe_ix ix_list (pv 3) pe_int (fun _ _ => rfl)) (nomark _)))))
            (pss_one (ps_set (i := 3) sc_law_first.nd rfl (Or.inl rfl) (pv 4)))
            (pss_one (ps_if (PW.pt (pw_and (pt_cmpR op_eq (pv 1) pe_str (nomark _)) (pw_and1 (pt_cmpR op_gt (pe_ix ix_list (pv 4) pe_int (fun _ _ => rfl)) (pe_ix ix_list (pv 3) pe_int (fun _ _ => rfl)) (nomark _)))))
              (pss_one (ps_set (i := 3) sc_law_first.nd rfl (Or.inl rfl) (pv 4)))
              pss_nil))))))
        pss_nil)))
    (pss_one (ps_ret (pv 3))))), ?_⟩
    have hq := SqL.of (K := K) hL.li
    have hlen : (refs L).length = L.length := List.length_map ..
    walk_at "st"
    refine for_list (K := K) (a := D) (xs := refs L) (fun i σ H' => H' = H ∧ ∃ v4 : Option V, σ = [some (.ref D), some (.str s), some (optV lim), some (entV (bestF s lim (BL s (L.take i)))), v4]) ⟨rfl, none, rfl⟩ (fun i σ H' _ ⟨e, _⟩ => by rw [e]; exact hq) ?_ ?_
    · rintro i v σ H' hv ⟨rfl, v4, rfl⟩
      obtain ⟨e, he, rfl⟩ := ents_at hv
      have hmem := List.mem_of_getElem? he
      have g := hg e hmem
      obtain ⟨p, hp⟩ := g.price
      have hpe : prcE e = p := by unfold prcE; rw [hp]; rfl
      have hrow := SqL.of (K := K) (hL.row e hmem)
      have h2 : atI (rowL e.2.2) 2 = some (.str e.2.2.side) := rfl
      have h3 : atI (rowL e.2.2) 3 = some (.int p) := by
        show some (optV e.2.2.price) = _
        rw [hp]
        rfl
      have hrk : Rank s (BL s (L.take i)) := BL_rank fun y hy => hg y (List.mem_of_mem_take hy)
      have hba := best_add (e := e) (lim := lim) hs hrk
      rw [hpe] at hba
      have hbm : ∀ b, bestF s lim (BL s (L.take i)) = some b → b ∈ L := fun b hb => List.mem_of_mem_take (best_mem hb).1
      have hnx : bestF s lim (BL s (L.take (i + 1))) = if e.2.2.side = s then (if fitsF s lim p = true ∧ (∀ b, bestF s lim (BL s (L.take i)) = some b → betterF s p (prcE b) = true) then some e else bestF s lim (BL s (L.take i))) else bestF s lim (BL s (L.take i)) := by
        rw [BL_take he]
        split
        · exact hba
        · rfl
      rw [hnx]
      clear hba hnx hrk
      generalize bestF s lim (BL s (L.take i)) = ob at hbm
      walk_at "st"
      refine iteB (fun h => ?_) (fun h => ?_)
      · have hside : e.2.2.side = s := V.str.inj (dec_t h)
        rw [if_pos hside]
        walk_at "st"
        refine ⟨lim, p, rfl, ?_⟩
        walk_at "st"
        refine iteB (fun hf => ?_) (fun hf => ?_)
        · cases ob with
          | none =>
            rw [if_pos ⟨hf, fun b hb => by cases hb⟩]
            walk_at "st"
            exact ⟨_, rfl⟩
          | some b =>
            have gb := hg b (hbm b rfl)
            obtain ⟨pb, hpb⟩ := gb.price
            have hpbe : prcE b = pb := by unfold prcE; rw [hpb]; rfl
            have hrowb := SqL.of (K := K) (hL.row b (hbm b rfl))
            have hb3 : atI (rowL b.2.2) 3 = some (.int pb) := by
              show some (optV b.2.2.price) = _
              rw [hpb]
              rfl
            have yes : betterF s p pb = true → (if fitsF s lim p = true ∧ (∀ b', some b = some b' → betterF s p (prcE b') = true) then some e else some b) = some e := fun hb => if_pos ⟨hf, fun b' hb' => by cases hb'; rw [hpbe]; exact hb⟩
            have no : betterF s p pb = false → (if fitsF s lim p = true ∧ (∀ b', some b = some b' → betterF s p (prcE b') = true) then some e else some b) = some b := fun hb => if_neg fun z => by
              have := z.2 b rfl
              rw [hpbe, hb] at this
              cases this
            rcases hs with rfl | rfl
            · have hbt : betterF "buy" p pb = decide (pb < p) := if_neg sell_ne_buy
              walk_at "st"
              refine iteB (fun hx => ?_) (fun hx => ?_)
              · rw [yes (hbt.trans hx)]
                walk_at "st"
                exact ⟨_, rfl⟩
              · rw [no (hbt.trans hx)]
                exact ⟨rfl, _, rfl⟩
            · have hbt : betterF "sell" p pb = decide (p < pb) := if_pos rfl
              walk_at "st"
              refine iteB (fun hx => ?_) (fun hx => ?_)
              · rw [yes (hbt.trans hx)]
                walk_at "st"
                exact ⟨_, rfl⟩
              · rw [no (hbt.trans hx)]
                walk_at "st"
                exact ⟨_, rfl⟩
        · rw [if_neg fun z => by rw [z.1] at hf; cases hf]
          exact ⟨rfl, _, rfl⟩
      · have hside : ¬ e.2.2.side = s := fun z => dec_f h (congrArg V.str z)
        rw [if_neg hside]
        exact ⟨rfl, _, rfl⟩
    · rintro σ H' ⟨rfl, v4, rfl⟩
      rw [hlen, List.take_of_length_le (Nat.le_refl _)]
      walk_at "st"
      exact q
def sp_law_visible (K : PySem.W.Frag) : Sp := fun vs H Q _ => ∃ (l sh : Int), vs = [.int l, .int sh] ∧ Q (.int (if sh = 0 then l else if l < sh then l else sh)) H
set_option maxHeartbeats 0 in
theorem ok_law_visible (T : Txt K mg) : FnOk P w K mg base CX0 1 T.f_law_visible T.d_law_visible ["left", "shown"] (sp_law_visible K) := by
  refine T.F_law_visible.ok sc_law_visible (fun vs H Q E h => ?_) (fun cdv A outer s H vs Q E hr h => ?_)
  · obtain ⟨l, sh, rfl, _⟩ := h
    rfl
  · obtain ⟨l, sh, rfl, q⟩ := h
    refine ⟨_, (pss_cons (ps_if (pt_cmpR op_eq (pv 1) pe_int (nomark _))
      (pss_one (ps_ret (pv 0)))
      pss_nil)
    (pss_one (ps_ret (pe_callB (call_min2 rfl) (by rfl) T.z_min (by decide +kernel) (pa_cons (pv 0) (pa_cons (pv 1) pa_nil)))))), ?_⟩
    walk_at "st"
    refine iteB (fun h => ?_) (fun h => ?_)
    · rw [if_pos (V.int.inj (dec_t h))] at q
      walk_at "st"
      exact q
    · rw [if_neg (fun z => dec_f h (by rw [z]))] at q
      have e : (if l < sh then l else sh) = if sh < l then sh else l := by split <;> split <;> omega
      rw [e] at q
      walk_at "st"
      exact q

/-! ### the law's list of orders in the heap -/
theorem ord_ext {a b : Ord} : (a.number = b.number ∧ a.house = b.house ∧ a.side = b.side ∧ a.price = b.price ∧ a.left = b.left ∧ a.visible = b.visible ∧ a.shown = b.shown) ↔ a = b := by
  cases a
  cases b
  simp only [Ord.mk.injEq]
  constructor
  · rintro ⟨h1, h2, h3, h4, h5, h6, h7⟩
    exact ⟨h1, h2, h3, h4, h7, h5, h6⟩
  · rintro ⟨h1, h2, h3, h4, h7, h5, h6⟩
    exact ⟨h1, h2, h3, h4, h5, h6, h7⟩
instance ordEq : DecidableEq Ord := fun _ _ => decidable_of_iff _ ord_ext
def layO (o : Ord) : PyData := .list [.int o.number, .str o.house, .str o.side, layP o.price, .int o.left, .int o.visible, .int o.shown]
theorem layD_O : LayD layO 1 (fun o => PyData.strOk o.house = true ∧ PyData.strOk o.side = true) := by
  refine ⟨fun x a => ?_, fun x => ?_, fun x y => ?_⟩
  · unfold layO
    simp only [PyData.canLay0, PyData.canLayAll0, layD_P.lay _ trivial, Bool.and_true, Bool.true_and]
    rw [a.1, a.2]
    rfl
  · unfold layO
    simp only [PyData.depth, PyData.depthAll]
    have := layD_P.dep x.price
    omega
  · unfold layO
    simp only [PyData.eqv, PyData.eqvAll, layD_P.eqv, Bool.and_true, Bool.beq_eq_decide_eq]
    rw [decide_and2 (p := x.visible = y.visible) (q := x.shown = y.shown) Iff.rfl, decide_and2 (p := x.left = y.left) Iff.rfl, decide_and2 (p := x.price = y.price) Iff.rfl, decide_and2 (p := x.side = y.side) Iff.rfl, decide_and2 (p := x.house = y.house) Iff.rfl]
    exact decide_and2 ord_ext.symm
theorem rowL_dp {K : PySem.W.Frag} {H : Hp} {p : Addr} {o : Ord} (h : H p = some (.lst (rowL o))) : Dp K H (.ref p) (layO o) :=
  .lst (SqL.of h) (.cons (.int _) (.cons (.str _) (.cons (.str _) (.cons (dpP _) (.cons (.int _) (.cons (.int _) (.cons (.int _) .nil)))))))
theorem LoAt.dp {K : PySem.W.Frag} {H : Hp} : ∀ {L : List Ent}, (∀ e, e ∈ L → H e.1 = some (.lst (rowL e.2.2))) → DpAll K H (refs L) (L.map fun e => layO e.2.2)
  | [], _ => .nil
  | e :: L, h => .cons (rowL_dp (h e List.mem_cons_self)) (LoAt.dp fun x hx => h x (List.mem_cons_of_mem _ hx))
theorem LoAt.set {H : Hp} {D : Addr} {L : List Ent} (h : LoAt H D L) {e : Ent} (he : e ∈ L) (f : Ord → Ord) : LoAt (upd H e.1 (.lst (rowL (f e.2.2)))) D (setE e.1 f L) := by
  have hD : D ≠ e.1 := fun z => h.out (List.mem_map.mpr ⟨e, he, z.symm⟩)
  refine ⟨?_, fun y hy => ?_, by rw [setE_addr]; exact h.nd, by rw [setE_addr]; exact h.out⟩
  · rw [upd_ne hD, setE_refs]
    exact h.li
  · obtain ⟨x, hx, rfl⟩ := setE_mem hy
    by_cases z : x.1 = e.1
    · have := nodup_addr h.nd hx he z
      subst this
      rw [if_pos rfl]
      exact upd_same
    · rw [if_neg z]
      exact (upd_ne z).trans (h.row x hx)
theorem LoAt.cut {H : Hp} {D : Addr} {L : List Ent} (h : LoAt H D L) (a : Addr) : LoAt (upd H D (.lst (refs (dropE a L)))) D (dropE a L) := by
  refine ⟨upd_same, fun e he => (upd_ne fun z => h.out (List.mem_map.mpr ⟨e, (drop_mem he).1, z⟩)).trans (h.row e (drop_mem he).1), (List.filter_sublist.map _).nodup h.nd, fun z => h.out ((List.filter_sublist.map _).subset z)⟩
theorem LoAt.push {H : Hp} {D : Addr} {L : List Ent} (h : LoAt H D L) {e : Ent} (hr : H e.1 = some (.lst (rowL e.2.2))) (hn : e.1 ∉ L.map (·.1)) (hD : D ≠ e.1) : LoAt (upd H D (.lst (refs L ++ [.ref e.1]))) D (L ++ [e]) := by
  refine ⟨?_, fun y hy => ?_, ?_, fun z => ?_⟩
  · rw [upd_same]
    unfold refs
    rw [List.map_append]
    rfl
  · rcases List.mem_append.mp hy with k | k
    · exact (upd_ne fun z => h.out (List.mem_map.mpr ⟨y, k, z⟩)).trans (h.row y k)
    · rw [List.mem_singleton.mp k]
      exact (upd_ne hD.symm).trans hr
  · rw [List.map_append]
    refine List.nodup_append.mpr ⟨h.nd, List.nodup_cons.mpr ⟨List.not_mem_nil, List.nodup_nil⟩, fun u hu v hv q => ?_⟩
    rw [List.mem_singleton.mp hv] at q
    rw [q] at hu
    exact hn hu
  · rw [List.map_append] at z
    rcases List.mem_append.mp z with k | k
    · exact h.out k
    · exact hD (List.mem_singleton.mp k)
theorem drop_set {a : Addr} {f : Ord → Ord} : ∀ L : List Ent, dropE a (setE a f L) = dropE a L
  | [] => rfl
  | y :: L => by
    have ih := drop_set (a := a) (f := f) L
    unfold dropE setE at ih ⊢
    rw [List.map_cons, List.filter_cons, List.filter_cons, ih]
    by_cases z : y.1 = a
    · rw [if_pos z]
      simp [z]
    · rw [if_neg z]
/-- what the removal of a row asks -/
theorem rem_of0 {K : PySem.W.Frag} {H : Hp} {D : Addr} {L : List Ent} {e : Ent} {Q : VK} (h : LoAt H D L) (hG : ∀ y, y ∈ L → PyData.strOk y.2.2.house = true ∧ PyData.strOk y.2.2.side = true) (hn : (L.map fun e => e.2.2.number).Nodup) (he : e ∈ L) (q : Q .non (upd H D (.lst (refs (dropE e.1 L))))) : rRemD K (.ref D) [.ref e.1] H Q := by
  obtain ⟨pre, post, hpp⟩ := List.append_of_mem he
  have hd : dropE e.1 L = pre ++ post := by rw [hpp]; exact drop_mid (by rw [← hpp]; exact h.nd)
  have hsh : SeqAt.shaped (.list (L.map fun y => layO y.2.2)) = true := by
    have := (layD_O.list).shaped (by decide) (x := L.map fun y => y.2.2) (fun o ho => by
      obtain ⟨y, hy, rfl⟩ := List.mem_map.mp ho
      exact hG y hy)
    rw [List.map_map] at this
    exact this
  refine ⟨(), D, refs L, .ref e.1, layO e.2.2, L.map fun y => layO y.2.2, pre.length, layO e.2.2, rfl, rfl, h.li, LoAt.dp h.row, rowL_dp (h.row e he), hsh, layD_O.shaped (by decide) (hG e he), ?_, ?_, fun m z' hm hz => ?_, ?_⟩
  · rw [hpp, List.map_append, List.getElem?_append_right (by rw [List.length_map]; exact Nat.le_refl _), List.length_map, Nat.sub_self]
    rfl
  · rw [layD_O.eqv]
    exact decide_eq_true rfl
  · rw [hpp, List.map_append, List.getElem?_append_left (by rw [List.length_map]; exact hm), List.getElem?_map] at hz
    obtain ⟨y, hy, rfl⟩ := Option.map_eq_some_iff.mp hz
    rw [layD_O.eqv]
    refine decide_eq_false fun z => ?_
    have hyp := List.mem_of_getElem? hy
    rw [hpp, List.map_append] at hn
    exact (List.nodup_append.mp hn).2.2 _ (List.mem_map.mpr ⟨y, hyp, rfl⟩) _ (List.mem_map.mpr ⟨e, List.mem_cons_self, rfl⟩) (by rw [z])
  · have e1 : (refs L).eraseIdx pre.length = refs (dropE e.1 L) := by
      rw [hd, hpp]
      unfold refs
      rw [List.map_append, List.map_cons, List.eraseIdx_append_of_length_le (by rw [List.length_map]; exact Nat.le_refl _), List.length_map, Nat.sub_self, List.map_append]
      rfl
    rw [e1]
    exact q
theorem LawL.strs {L : List Ent} (l : LawL L) : ∀ y, y ∈ L → PyData.strOk y.2.2.house = true ∧ PyData.strOk y.2.2.side = true := fun y hy => by
  refine ⟨(l.good y hy).ok, ?_⟩
  rcases (l.good y hy).side with z | z <;> rw [z] <;> decide +kernel
theorem rem_of {K : PySem.W.Frag} {H : Hp} {D : Addr} {L : List Ent} {e : Ent} {Q : VK} (h : LoAt H D L) (l : LawL L) (he : e ∈ L) (q : Q .non (upd H D (.lst (refs (dropE e.1 L))))) : rRemD K (.ref D) [.ref e.1] H Q := rem_of0 h l.strs l.ndn he q
theorem set_strs {a : Addr} {n : Int} {L : List Ent} (l : LawL L) : ∀ y, y ∈ setE a (decO n) L → PyData.strOk y.2.2.house = true ∧ PyData.strOk y.2.2.side = true := fun y hy => by
  obtain ⟨x, hx, rfl⟩ := setE_mem hy
  split <;> exact l.strs x hx
theorem set_nums {a : Addr} {n : Int} {L : List Ent} : (setE a (decO n) L).map (fun e => e.2.2.number) = L.map fun e => e.2.2.number := by
  unfold setE
  rw [List.map_map]
  refine List.map_congr_left fun y _ => ?_
  show (if y.1 = a then _ else y).2.2.number = y.2.2.number
  split <;> rfl
theorem set_self {e : Ent} {f : Ord → Ord} {L : List Ent} (he : e ∈ L) : (e.1, e.2.1, f e.2.2) ∈ setE e.1 f L := by
  unfold setE
  exact List.mem_map.mpr ⟨e, he, if_pos rfl⟩

theorem LoAt.other {H : Hp} {D z : Addr} {o : HO} {L : List Ent} (h : LoAt H D L) (h1 : D ≠ z) (h2 : ∀ e, e ∈ L → e.1 ≠ z) : LoAt (upd H z o) D L :=
  ⟨(upd_ne h1).trans h.li, fun e he => (upd_ne (h2 e he)).trans (h.row e he), h.nd, h.out⟩
def sp_law_trade (K : PySem.W.Frag) : Sp := fun vs H Q _ => ∃ (_ : Unit) (D : Addr) (L : List Ent) (t : Ord) (last : Option Int), vs = [.ref D, .str t.house, .str t.side, optV t.price, .int t.left] ∧ LoAt H D L ∧ LawL L ∧ (t.side = "buy" ∨ t.side = "sell") ∧ L.length ≤ 400 ∧ 0 ≤ t.left ∧ t.left ≤ 400 ∧
  ∀ (p fl rm : Addr) (fs : List Addr) (L' : List Ent) (H' : Hp), H' p = some (.tup [.ref fl, .ref rm, .int (endM t last (BL (otherS t.side) L)).left]) → Tups encFill H' fl fs (endM t last (BL (otherS t.side) L)).fills → H' rm = some (.lst ((endM t last (BL (otherS t.side) L)).gone.map V.int)) →
    LoAt H' D L' → LawL L' → (endM t last (BL (otherS t.side) L)).es = BL (otherS t.side) L' → (∀ s, s ≠ otherS t.side → BL s L' = BL s L) → L'.length ≤ L.length → (∀ e, e ∈ L' → ∃ x, x ∈ L ∧ x.1 = e.1 ∧ x.2.2.number = e.2.2.number ∧ x.2.2.price = e.2.2.price) → H fl = none → H rm = none →
    (∀ z v, z ≠ D → z ∉ L.map (·.1) → H z = some v → H' z = some v) → (∀ z, H' z = none → H z = none) → Q (.ref p) H'
set_option maxHeartbeats 0 in
theorem ok_law_trade (T : Txt K mg) : FnOk P w K mg base CX0 3 T.f_law_trade T.d_law_trade ["orders", "house", "side", "limit", "quantity"] (sp_law_trade K) := by
  refine T.F_law_trade.ok sc_law_trade (fun vs H Q E h => ?_) (fun cdv A outer s H vs Q E hr h => ?_)
  · obtain ⟨_, D, L, t, last, rfl, _⟩ := h
    rfl
  · obtain ⟨_, D, L, t, last, rfl, hL, hlaw, hts, hlen, h0, h9, q⟩ := h
    have G_law_first : FnOk P w K mg base CX0 2 T.f_law_first T.d_law_first ["orders", "side", "limit"] (sp_law_first K) := ok_law_first T
    have G_law_resting_side : FnOk P w K mg base CX0 1 T.f_law_resting_side T.d_law_resting_side ["side"] (sp_law_resting_side K) := ok_law_resting_side T
    have G_law_visible : FnOk P w K mg base CX0 1 T.f_law_visible T.d_law_visible ["left", "shown"] (sp_law_visible K) := ok_law_visible T
    refine ⟨_, (pss_cons (ps_set (i := 5) sc_law_trade.nd rfl (Or.inl rfl) (pe_lst pa_nil))
    (pss_cons (ps_set (i := 6) sc_law_trade.nd rfl (Or.inl rfl) (pe_lst pa_nil))
    (pss_cons (ps_set (i := 7) sc_law_trade.nd rfl (Or.inl rfl) (pv 4))
    (pss_cons (ps_for PassesOwn.never rfl (pi_range1 (by rfl) T.z_range (pa_cons pe_int pa_nil)) (pg_name (i := 8) sc_law_trade.nd rfl (Or.inl rfl))
      (pss_cons (ps_set (i := 9) sc_law_trade.nd rfl (Or.inl rfl) (pe_call G_law_first hr (by rfl) T.m_law_first T.F_law_first.kp T.b_law_first .nil pass0 (pa_cons (pv 0) (pa_cons (pe_call G_law_resting_side (hr.mono (by decide)) (by rfl) T.m_law_resting_side T.F_law_resting_side.kp T.b_law_resting_side .nil pass0 (pa_cons (pv 2) pa_nil)) (pa_cons (pv 3) pa_nil)))))
      (pss_cons (ps_if (PW.pt (pw_or (pt_cmpR op_eq (pv 7) pe_int (nomark _)) (pw_or1 (pt_cmpR op_isN (pv 9) pe_non (nomark _)))))
        (pss_one (ps_ret (pe_tup (pa_cons (pv 5) (pa_cons (pv 6) (pa_cons (pv 7) pa_nil))))))
        pss_nil)
      (pss_one (ps_if (pt_cmpR op_eq (pe_ix ix_list (pv 9) pe_int (fun _ _ => rfl)) (pv 1) (nomark _))
        (pss_cons (ps_expr (pe_bm PySem.F.plainAttrs_list PySem.F.slot_list_append PySem.F.type_list_append mt_append (pv 6) (pa_cons (pe_ix ix_list (pv 9) pe_int (fun _ _ => rfl)) pa_nil)))
        (pss_one (ps_expr (pe_bm PySem.F.plainAttrs_list PySem.F.slot_list_remove PySem.F.type_list_remove (mt_removeD (hu65 hr)) (pv 0) (pa_cons (pv 9) pa_nil)))))
        (pss_cons (ps_set (i := 10) sc_law_trade.nd rfl (Or.inl rfl) (pe_callB (call_min2 rfl) (by rfl) T.z_min (by decide +kernel) (pa_cons (pv 7) (pa_cons (pe_ix ix_list (pv 9) pe_int (fun _ _ => rfl)) pa_nil))))
        (pss_cons (ps_expr (pe_bm PySem.F.plainAttrs_list PySem.F.slot_list_append PySem.F.type_list_append mt_append (pv 5) (pa_cons (pe_tup (pa_cons (pe_ix ix_list (pv 9) pe_int (fun _ _ => rfl)) (pa_cons (pe_ix ix_list (pv 9) pe_int (fun _ _ => rfl)) (pa_cons (pe_ix ix_list (pv 9) pe_int (fun _ _ => rfl)) (pa_cons (pv 10) pa_nil))))) pa_nil)))
        (pss_cons (ps_set (i := 7) sc_law_trade.nd rfl (Or.inl rfl) (pe_op op_sub (pv 7) (pv 10)))
        (pss_cons (ps_asg (pe_op op_sub (pe_ix ix_list (pv 9) pe_int (fun _ _ => rfl)) (pv 10)) (pg_sub (pv 9) pe_int set_list))
        (pss_cons (ps_asg (pe_op op_sub (pe_ix ix_list (pv 9) pe_int (fun _ _ => rfl)) (pv 10)) (pg_sub (pv 9) pe_int set_list))
        (pss_one (ps_if (pt_cmpR op_eq (pe_ix ix_list (pv 9) pe_int (fun _ _ => rfl)) pe_int (nomark _))
          (pss_cons (ps_expr (pe_bm PySem.F.plainAttrs_list PySem.F.slot_list_remove PySem.F.type_list_remove (mt_removeD (hu65 hr)) (pv 0) (pa_cons (pv 9) pa_nil)))
          (pss_one (ps_if (pt_cmpR op_gt (pe_ix ix_list (pv 9) pe_int (fun _ _ => rfl)) pe_int (nomark _))
            (pss_cons (ps_asg (pe_call G_law_visible (hr.mono (by decide)) (by rfl) T.m_law_visible T.F_law_visible.kp T.b_law_visible .nil pass0 (pa_cons (pe_ix ix_list (pv 9) pe_int (fun _ _ => rfl)) (pa_cons (pe_ix ix_list (pv 9) pe_int (fun _ _ => rfl)) pa_nil))) (pg_sub (pv 9) pe_int set_list))
            (pss_one (ps_expr (pe_bm PySem.F.plainAttrs_list PySem.F.slot_list_append PySem.F.type_list_append mt_append (pv 0) (pa_cons (pv 9) pa_nil)))))
            pss_nil)))
          pss_nil))))))))))))
    (pss_one (ps_ret (pe_tup (pa_cons (pv 5) (pa_cons (pv 6) (pa_cons (pv 7) pa_nil)))))))))), ?_⟩
    generalize hso : otherS t.side = so at q
    have hsob : so = "buy" ∨ so = "sell" := by
      rw [← hso]
      rcases hts with z | z
      · rw [z]; exact .inr (if_pos buyS_buy)
      · rw [z]; exact .inl (if_neg (by rw [buyS_sell]; exact Bool.false_ne_true))
    walk_at "st"
    intro fl nfl
    generalize hH1 : upd H fl _ = H1
    have s1 : Same H H1 := hH1 ▸ same_upd nfl
    have hfl1 := (congrFun hH1 fl).symm.trans upd_same
    walk_at "st"
    intro rm nrm
    generalize hH2 : upd H1 rm _ = H2
    have s2 : Same H1 H2 := hH2 ▸ same_upd nrm
    have hrm2 := (congrFun hH2 rm).symm.trans upd_same
    have hfl2 := s2 _ _ hfl1
    have nrm0 : H rm = none := by
      cases e : H rm with
      | none => rfl
      | some v => rw [s1 _ _ e] at nrm; cases nrm
    have nfr : fl ≠ rm := fun e => by rw [e, nrm] at hfl1; cases hfl1
    have sH := s1.trans s2
    have old : ∀ {z : Addr} {v : HO}, H z = some v → z ≠ fl ∧ z ≠ rm := fun hz => ⟨ne_of_none hz nfl, ne_of_none hz nrm0⟩
    have hfD : D ≠ fl ∧ D ≠ rm := old hL.li
    have hfR : ∀ e, e ∈ L → e.1 ≠ fl ∧ e.1 ≠ rm := fun e he => old (hL.row e he)
    walk_at "st"
    refine for_range (lo := 0) (n := (2000 : Int).toNat) (fun i σ H' => ∃ (v8 v9 v10 : Option V) (m : Mt) (Li : List Ent) (fs : List Addr), σ = [some (.ref D), some (.str t.house), some (.str t.side), some (optV t.price), some (.int t.left), some (.ref fl), some (.ref rm), some (.int m.left), v8, v9, v10] ∧
        runM t (sizeM m) m = endM t last (BL so L) ∧ sizeM m + i ≤ 800 ∧ 0 ≤ m.left ∧ m.es = BL so Li ∧ (∀ s, s ≠ so → BL s Li = BL s L) ∧ LawL Li ∧ Li.length ≤ L.length ∧ (∀ e, e ∈ Li → ∃ x, x ∈ L ∧ x.1 = e.1 ∧ x.2.2.number = e.2.2.number ∧ x.2.2.price = e.2.2.price) ∧
        LoAt H' D Li ∧ Tups encFill H' fl fs m.fills ∧ H' rm = some (.lst (m.gone.map V.int)) ∧ m.fills.length + m.gone.length ≤ i ∧ (∀ z v, z ≠ D → z ∉ L.map (·.1) → H z = some v → H' z = some v) ∧ (∀ z, H' z = none → H z = none)) ?_ ?_ ?_
    · refine ⟨none, none, none, startM t last (BL so L), L, [], rfl, rfl, ?_, h0, rfl, (fun _ _ => rfl), hlaw, Nat.le_refl _, (fun e he => ⟨e, he, rfl, rfl, rfl⟩), hL.same sH, Tups.nil hfl2, hrm2, Nat.le_refl _, (fun z v _ _ hz => sH _ _ hz), fun z hz => by rw [← hH2, ← hH1] at hz; exact none_upd (none_upd hz)⟩
      have h1 := (BL_perm so L).length_eq
      have h2 : (selE so L).length ≤ L.length := List.length_filter_le _ _
      show t.left.toNat + (BL so L).length + 0 ≤ 800
      omega
    · rintro i σ H' hi ⟨v8, v9, v10, m, Li, fs, rfl, hrun, hsz, hl0, hes, hoth, hlaw', hlen', hsub, hLo, hT, hG, hfg, hfr, hmo⟩
      have hrk : Rank so m.es := by rw [hes]; exact BL_rank hlaw'.good
      have hret : goesM t m = none → ∀ {p : Addr}, H' p = none → Q (.ref p) (upd H' p (.tup [.ref fl, .ref rm, .int m.left])) := fun hg {p} np => by
        have hm : endM t last (BL so L) = m := by rw [← hrun, runM_stop hg]
        have sp := same_upd (o := .tup [.ref fl, .ref rm, .int m.left]) np
        refine q p fl rm fs Li _ (by rw [hm]; exact upd_same) (by rw [hm]; exact hT.same sp) (by rw [hm]; exact sp _ _ hG) (hLo.same sp) hlaw' (by rw [hm]; exact hes) hoth hlen' hsub nfl nrm0 (fun z v h1 h2 hz => sp _ _ (hfr z v h1 h2 hz)) (fun z hz => hmo z (none_upd hz))
      walk_at "st"
      rw [hso]
      refine ⟨(), D, Li, so, t.price, rfl, hLo, hsob, hlaw'.good, ?_⟩
      have hbest : bestF so t.price (BL so Li) = (match m.es with | [] => none | e :: _ => if takes t.side t.price (prcE e) = true then some e else none) := by
        rw [← hes]
        cases m.es with
        | nil => rfl
        | cons e r =>
          rw [best_cons, ← hso, fits_takes hts]
      cases hg : goesM t m with
      | none =>
        by_cases hz : m.left = 0
        · walk_at "st"
          refine iteB (fun hx => ?_) (fun hx => ?_)
          · walk_at "st"
            intro p np
            exact hret hg np
          · exact absurd (congrArg V.int hz) (dec_f hx)
        · have hb : bestF so t.price (BL so Li) = none := by
            rw [hbest]
            unfold goesM at hg
            cases hme : m.es with
            | nil => rfl
            | cons e r =>
              rw [hme] at hg
              dsimp only at hg
              show (if takes t.side t.price (prcE e) = true then some e else none) = none
              split at hg
              · cases hg
              · next z => exact if_neg fun k => z ⟨by omega, k⟩
          rw [hb]
          walk_at "st"
          refine iteB (fun hx => ?_) (fun hx => ?_)
          · walk_at "st"
            intro p np
            exact hret hg np
          · walk_at "st"
            intro p np
            exact hret hg np
      | some e =>
        obtain ⟨g1, g2, g3⟩ := goesM_some hg
        have hb : bestF so t.price (BL so Li) = some e := by
          rw [hbest, g1]
          exact if_pos g3
        rw [hb]
        have heLs : e ∈ Li ∧ e.2.2.side = so := BL_mem (by rw [← hes, g1]; exact List.mem_cons_self)
        obtain ⟨heL, heside⟩ := heLs
        have ge := hlaw'.good e heL
        obtain ⟨pe, hpe⟩ := ge.price
        have hprc : prcE e = pe := by unfold prcE; rw [hpe]; rfl
        have hrow := hLo.row e heL
        have hst := stepL_ok hlaw' hes hg
        have hless := stepM_less hrk hg
        have hnx := runM_next hrk hg
        have hqt := qty_in g2 ge.vis.1
        rw [hrun] at hnx
        have hrowS := SqL.of (K := K) hrow
        have a1 : atI (rowL e.2.2) 1 = some (.str e.2.2.house) := rfl
        have a0 : atI (rowL e.2.2) 0 = some (.int e.2.2.number) := rfl
        have hRx : ∀ y, y ∈ Li → y.1 ≠ fl ∧ y.1 ≠ rm := fun y hy => by
          obtain ⟨x, hx, k, _⟩ := hsub y hy
          rw [← k]
          exact hfR x hx
        have hRm : ∀ y, y ∈ Li → y.1 ≠ rm := fun y hy => (hRx y hy).2
        walk_at "st"
        refine iteB (fun hx => absurd (V.int.inj (dec_t hx)) (by omega)) (fun hx => ?_)
        walk_at "st"
        refine iteB (fun hh => ?_) (fun hh => ?_)
        · have hhs : e.2.2.house = t.house := V.str.inj (dec_t hh)
          have hsG : (m.gone.map V.int).length < sizeLine := small1000 (by rw [List.length_map]; omega)
          have hm' : stepM t m e = { m with es := m.es.tail, gone := m.gone ++ [e.2.2.number] } := if_pos hhs
          have hL' : stepL t m e Li = dropE e.1 Li := if_pos hhs
          rw [hL'] at hst
          rw [hm'] at hst hless hnx
          have hLG := hLo.other (z := rm) (o := .lst (m.gone.map V.int ++ [V.int e.2.2.number])) hfD.2 hRm
          have hLGi := hLG.li
          walk_at "st"
          delta tNil
          refine rem_of hLG hlaw' heL ?_
          have hTG : Tups encFill (upd H' rm (.lst (m.gone.map V.int ++ [V.int e.2.2.number]))) fl fs m.fills := hT.other hG nfr
          refine ⟨_, _, _, { m with es := m.es.tail, gone := m.gone ++ [e.2.2.number] }, dropE e.1 Li, fs, rfl, hnx.symm, ?_, hl0, hst.1, fun s hs => (hst.2.1 s hs).trans (hoth s hs), hst.2.2.1, Nat.le_trans hst.2.2.2 hlen', fun y hy => hsub y (drop_mem hy).1, hLG.cut e.1, hTG.other hLG.li hfD.1.symm, ?_, ?_, fun z v h1 h2 hz => ?_, fun z hz => hmo z (none_upd (none_upd hz))⟩
          · have := hless.1
            omega
          · rw [upd_ne hfD.2.symm, upd_same, List.map_append]
            rfl
          · show m.fills.length + (m.gone ++ [_]).length ≤ _
            rw [List.length_append, List.length_singleton]
            omega
          · rw [upd_ne h1, upd_ne (fun y => by rw [y, nrm0] at hz; cases hz)]
            exact hfr z v h1 h2 hz
        · have hhs : ¬ e.2.2.house = t.house := fun z => dec_f hh (congrArg V.str z)
          have hsF : (fs.map V.ref).length < sizeLine := small1000 (by rw [List.length_map, hT.len]; omega)
          have hm' : stepM t m e = ⟨tradeF e m.es.tail (qtyM m e) (prcE e), m.left - qtyM m e, some (prcE e), m.fills ++ [(e.2.2.number, e.2.2.house, prcE e, qtyM m e)], m.gone⟩ := if_neg hhs
          have hL' : stepL t m e Li = if e.2.2.visible - qtyM m e = 0 then dropE e.1 Li ++ (if 0 < e.2.2.left - qtyM m e then [(e.1, e.2.1, (decO (qtyM m e) e.2.2).showNext)] else []) else setE e.1 (decO (qtyM m e)) Li := if_neg hhs
          rw [hL'] at hst
          rw [hm', hprc] at hst hless hnx
          have a3 : atI (rowL e.2.2) 3 = some (.int pe) := by
            show some (optV e.2.2.price) = _
            rw [hpe]
            rfl
          have a4 : atI (rowL e.2.2) 4 = some (.int e.2.2.left) := rfl
          have a5 : atI (rowL e.2.2) 5 = some (.int e.2.2.visible) := rfl
          have hTl := hT.lst
          have hqq : (if e.2.2.visible < m.left then e.2.2.visible else m.left) = qtyM m e := rfl
          generalize qtyM m e = qt at hqq hqt hst hless hnx
          walk_at "st"
          rw [hqq]
          intro p np
          generalize hHT : upd H' p _ = HT
          have sT : Same H' HT := hHT ▸ same_upd np
          have hpT := (congrFun hHT p).symm.trans upd_same
          have hTlT := sT _ _ hTl
          have hTT := hT.push sT np (x := (e.2.2.number, e.2.2.house, pe, qt)) hpT
          have hLoT := hLo.same sT
          have hrA : upd HT fl (.lst (fs.map V.ref ++ [V.ref p])) e.1 = some (.lst (rowL e.2.2)) := (upd_ne (hRx e heL).1).trans (sT _ _ hrow)
          have hrAS := SqL.of (K := K) hrA
          have x4 : ixN (rowL e.2.2).length 4 = some 4 := rfl
          have hrow1 : upd (upd HT fl (.lst (fs.map V.ref ++ [V.ref p]))) e.1 (.lst ((rowL e.2.2).set 4 (.int (e.2.2.left - qt)))) e.1 = some (.lst (rowL { e.2.2 with left := e.2.2.left - qt })) := upd_same
          have hrow1S := SqL.of (K := K) hrow1
          have y5 : atI (rowL { e.2.2 with left := e.2.2.left - qt }) 5 = some (.int e.2.2.visible) := rfl
          have x5 : ixN (rowL { e.2.2 with left := e.2.2.left - qt }).length 5 = some 5 := rfl
          walk_at "st"
          have hrow2 : upd (upd (upd HT fl (.lst (fs.map V.ref ++ [V.ref p]))) e.1 (.lst ((rowL e.2.2).set 4 (.int (e.2.2.left - qt))))) e.1 (.lst ((rowL { e.2.2 with left := e.2.2.left - qt }).set 5 (.int (e.2.2.visible - qt)))) e.1 = some (.lst (rowL (decO qt e.2.2))) := upd_same
          have hLo2 : LoAt (upd (upd (upd HT fl (.lst (fs.map V.ref ++ [V.ref p]))) e.1 (.lst ((rowL e.2.2).set 4 (.int (e.2.2.left - qt))))) e.1 (.lst ((rowL { e.2.2 with left := e.2.2.left - qt }).set 5 (.int (e.2.2.visible - qt))))) D (setE e.1 (decO qt) Li) := by
            have := (hLoT.other (o := .lst (fs.map V.ref ++ [V.ref p])) hfD.1 (fun y hy => (hRx y hy).1)).set heL (decO qt)
            rw [upd_upd]
            exact this
          have hT2 : Tups encFill (upd (upd (upd HT fl (.lst (fs.map V.ref ++ [V.ref p]))) e.1 (.lst ((rowL e.2.2).set 4 (.int (e.2.2.left - qt))))) e.1 (.lst ((rowL { e.2.2 with left := e.2.2.left - qt }).set 5 (.int (e.2.2.visible - qt))))) fl (fs ++ [p]) (m.fills ++ [(e.2.2.number, e.2.2.house, pe, qt)]) :=
            (hTT.other hrA (hRx e heL).1.symm).other upd_same (hRx e heL).1.symm
          have hG2 : upd (upd (upd HT fl (.lst (fs.map V.ref ++ [V.ref p]))) e.1 (.lst ((rowL e.2.2).set 4 (.int (e.2.2.left - qt))))) e.1 (.lst ((rowL { e.2.2 with left := e.2.2.left - qt }).set 5 (.int (e.2.2.visible - qt)))) rm = some (.lst (m.gone.map V.int)) :=
            (upd_ne (hRm e heL).symm).trans ((upd_ne (hRm e heL).symm).trans ((upd_ne nfr.symm).trans (sT _ _ hG)))
          have hfr2 : ∀ z v, z ≠ D → z ∉ L.map (·.1) → H z = some v → upd (upd (upd HT fl (.lst (fs.map V.ref ++ [V.ref p]))) e.1 (.lst ((rowL e.2.2).set 4 (.int (e.2.2.left - qt))))) e.1 (.lst ((rowL { e.2.2 with left := e.2.2.left - qt }).set 5 (.int (e.2.2.visible - qt)))) z = some v := fun z v h1 h2 hz => by
            have hze : z ≠ e.1 := fun k => by
              obtain ⟨x, hx, k2, _⟩ := hsub e heL
              exact h2 (List.mem_map.mpr ⟨x, hx, k2.trans k.symm⟩)
            rw [upd_ne hze, upd_ne hze, upd_ne (fun k => by rw [k, nfl] at hz; cases hz)]
            exact sT _ _ (hfr z v h1 h2 hz)
          have hmo2 : ∀ z, upd (upd (upd HT fl (.lst (fs.map V.ref ++ [V.ref p]))) e.1 (.lst ((rowL e.2.2).set 4 (.int (e.2.2.left - qt))))) e.1 (.lst ((rowL { e.2.2 with left := e.2.2.left - qt }).set 5 (.int (e.2.2.visible - qt)))) z = none → H z = none := fun z hz => by
            have h1 := none_upd (none_upd (none_upd hz))
            rw [← hHT] at h1
            exact hmo z (none_upd h1)
          generalize upd (upd (upd HT fl (.lst (fs.map V.ref ++ [V.ref p]))) e.1 (.lst ((rowL e.2.2).set 4 (.int (e.2.2.left - qt))))) e.1 (.lst ((rowL { e.2.2 with left := e.2.2.left - qt }).set 5 (.int (e.2.2.visible - qt)))) = HB at hrow2 hLo2 hT2 hG2 hfr2 hmo2 ⊢
          have hLo2i := hLo2.li
          have hrow2S := SqL.of (K := K) hrow2
          have z4 : atI (rowL (decO qt e.2.2)) 4 = some (.int (e.2.2.left - qt)) := rfl
          have z6 : atI (rowL (decO qt e.2.2)) 6 = some (.int e.2.2.shown) := rfl
          have z5 : ixN (rowL (decO qt e.2.2)).length 5 = some 5 := rfl
          refine iteB (fun hv => ?_) (fun hv => ?_)
          · have hvz : e.2.2.visible - qt = 0 := V.int.inj (dec_t hv)
            rw [if_pos hvz] at hst
            walk_at "st"
            delta tNil
            refine rem_of0 (e := (e.1, e.2.1, decO qt e.2.2)) hLo2 (set_strs hlaw') (by rw [set_nums]; exact hlaw'.ndn) (set_self heL) ?_
            have hLo3 := hLo2.cut e.1
            rw [drop_set] at hLo3
            rw [drop_set]
            have hrow3 : upd HB D (.lst (refs (dropE e.1 Li))) e.1 = some (.lst (rowL (decO qt e.2.2))) := (upd_ne fun z => hLo.out (List.mem_map.mpr ⟨e, heL, z⟩)).trans hrow2
            have hT3 := hT2.other (zs := refs (dropE e.1 Li)) hLo2i hfD.1.symm
            have hG3 : upd HB D (.lst (refs (dropE e.1 Li))) rm = some (.lst (m.gone.map V.int)) := (upd_ne hfD.2.symm).trans hG2
            have hfr3 : ∀ z v, z ≠ D → z ∉ L.map (·.1) → H z = some v → upd HB D (.lst (refs (dropE e.1 Li))) z = some v := fun z v h1 h2 hz => (upd_ne h1).trans (hfr2 z v h1 h2 hz)
            have hmo3 : ∀ z, upd HB D (.lst (refs (dropE e.1 Li))) z = none → H z = none := fun z hz => hmo2 z (none_upd hz)
            generalize upd HB D (.lst (refs (dropE e.1 Li))) = HC at hLo3 hrow3 hT3 hG3 hfr3 hmo3 ⊢
            have hrow3S := SqL.of (K := K) hrow3
            have hLo3i := hLo3.li
            walk_at "st"
            refine iteB (fun hl => ?_) (fun hl => ?_)
            · have hlp : 0 < e.2.2.left - qt := of_decide_eq_true hl
              rw [if_pos hlp] at hst
              have hne3 : ∀ y, y ∈ dropE e.1 Li → y.1 ≠ e.1 := fun y hy => (drop_mem hy).2
              have hDe : D ≠ e.1 := fun z => hLo.out (List.mem_map.mpr ⟨e, heL, z.symm⟩)
              have hrow4 : upd HC e.1 (.lst ((rowL (decO qt e.2.2)).set 5 (.int (if e.2.2.shown = 0 then e.2.2.left - qt else if e.2.2.left - qt < e.2.2.shown then e.2.2.left - qt else e.2.2.shown)))) e.1 = some (.lst (rowL (decO qt e.2.2).showNext)) := upd_same
              have hLo4 := hLo3.other (o := .lst ((rowL (decO qt e.2.2)).set 5 (.int (if e.2.2.shown = 0 then e.2.2.left - qt else if e.2.2.left - qt < e.2.2.shown then e.2.2.left - qt else e.2.2.shown)))) hDe hne3
              have hLo4i := hLo4.li
              have hlen3 : (refs (dropE e.1 Li)).length < sizeLine := small1000 (by
                have := drop_less heL
                show (List.map _ _).length ≤ _
                rw [List.length_map]
                omega)
              walk_at "st"
              have hLo5 := hLo4.push (e := (e.1, e.2.1, (decO qt e.2.2).showNext)) hrow4 (drop_out (e := e)) hDe
              have hT4 := hT3.other (zs := (rowL (decO qt e.2.2)).set 5 (.int (if e.2.2.shown = 0 then e.2.2.left - qt else if e.2.2.left - qt < e.2.2.shown then e.2.2.left - qt else e.2.2.shown))) hrow3 (hRx e heL).1.symm
              refine ⟨_, _, _, ⟨tradeF e m.es.tail qt pe, m.left - qt, some pe, m.fills ++ [(e.2.2.number, e.2.2.house, pe, qt)], m.gone⟩, dropE e.1 Li ++ [(e.1, e.2.1, (decO qt e.2.2).showNext)], fs ++ [p], rfl, hnx.symm, ?_, hless.2.1, hst.1, fun s hs => (hst.2.1 s hs).trans (hoth s hs), hst.2.2.1, Nat.le_trans hst.2.2.2 hlen', fun y hy => ?_, hLo5, hT4.other hLo4i hfD.1.symm, (upd_ne hfD.2.symm).trans ((upd_ne (hRm e heL).symm).trans hG3), ?_, fun z v h1 h2 hz => ?_, fun z hz => hmo3 z (none_upd (none_upd hz))⟩
              · have := hless.1
                omega
              · rcases List.mem_append.mp hy with k | k
                · exact hsub y (drop_mem k).1
                · rw [List.mem_singleton.mp k]
                  exact hsub e heL
              · show (m.fills ++ [_]).length + m.gone.length ≤ _
                rw [List.length_append, List.length_singleton]
                omega
              · rw [upd_ne h1, upd_ne fun k => by
                  obtain ⟨x, hx, k2, _⟩ := hsub e heL
                  exact h2 (List.mem_map.mpr ⟨x, hx, k2.trans k.symm⟩)]
                exact hfr3 z v h1 h2 hz
            · have hlp : ¬ 0 < e.2.2.left - qt := of_decide_eq_false hl
              rw [if_neg hlp, List.append_nil] at hst
              refine ⟨_, _, _, ⟨tradeF e m.es.tail qt pe, m.left - qt, some pe, m.fills ++ [(e.2.2.number, e.2.2.house, pe, qt)], m.gone⟩, dropE e.1 Li, fs ++ [p], rfl, hnx.symm, ?_, hless.2.1, hst.1, fun s hs => (hst.2.1 s hs).trans (hoth s hs), hst.2.2.1, Nat.le_trans hst.2.2.2 hlen', fun y hy => hsub y (drop_mem hy).1, hLo3, hT3, hG3, ?_, hfr3, hmo3⟩
              · have := hless.1
                omega
              · show (m.fills ++ [_]).length + m.gone.length ≤ _
                rw [List.length_append, List.length_singleton]
                omega
          · have hvz : ¬ e.2.2.visible - qt = 0 := fun z => dec_f hv (congrArg V.int z)
            rw [if_neg hvz] at hst
            refine ⟨_, _, _, ⟨tradeF e m.es.tail qt pe, m.left - qt, some pe, m.fills ++ [(e.2.2.number, e.2.2.house, pe, qt)], m.gone⟩, setE e.1 (decO qt) Li, fs ++ [p], rfl, hnx.symm, ?_, hless.2.1, hst.1, fun s hs => (hst.2.1 s hs).trans (hoth s hs), hst.2.2.1, Nat.le_trans hst.2.2.2 hlen', fun y hy => ?_, hLo2, hT2, hG2, ?_, hfr2, hmo2⟩
            · have := hless.1
              omega
            · obtain ⟨x, hx, rfl⟩ := setE_mem hy
              obtain ⟨x', hx', k1, k2, k3⟩ := hsub x hx
              refine ⟨x', hx', ?_, ?_, ?_⟩ <;> (split <;> assumption)
            · show (m.fills ++ [_]).length + m.gone.length ≤ _
              rw [List.length_append, List.length_singleton]
              omega
    · rintro σ H' ⟨v8, v9, v10, m, Li, fs, rfl, hrun, hsz, _⟩
      omega

theorem avM_cons (t : Ord) (e : Ent) (es : List Ent) : availM t (e :: es) = (if canT t e = true then e.2.2.left else 0) + availM t es := by
  unfold availM
  rw [List.filter_cons]
  split
  · rw [List.map_cons, List.sum_cons]
  · rw [Int.zero_add]
theorem avM_perm {t : Ord} {a b : List Ent} (h : a.Perm b) : availM t a = availM t b := by
  induction h with
  | nil => rfl
  | cons x _ ih => rw [avM_cons, avM_cons, ih]
  | swap x y l => rw [avM_cons, avM_cons, avM_cons, avM_cons]; omega
  | trans _ _ h1 h2 => rw [h1, h2]
theorem avM_snoc (t : Ord) (e : Ent) (es : List Ent) : availM t (es ++ [e]) = availM t es + (if canT t e = true then e.2.2.left else 0) := by
  rw [avM_perm (List.perm_append_comm (l₁ := es) (l₂ := [e]))]
  show availM t (e :: es) = _
  rw [avM_cons]
  omega
theorem sel_take {s : Str} {L : List Ent} {i : Nat} {e : Ent} (h : L[i]? = some e) : selE s (L.take (i + 1)) = selE s (L.take i) ++ if e.2.2.side = s then [e] else [] := by
  rw [take_succ h]
  unfold selE
  rw [List.filter_append, List.filter_cons, List.filter_nil]
  by_cases z : e.2.2.side = s
  · rw [if_pos (decide_eq_true z), if_pos z]
  · rw [if_neg (by simpa using z), if_neg z]
def sp_law_available (K : PySem.W.Frag) : Sp := fun vs H Q _ => ∃ (_ : Unit) (D : Addr) (L : List Ent) (t : Ord), vs = [.ref D, .str t.house, .str t.side, optV t.price] ∧ LoAt H D L ∧ (t.side = "buy" ∨ t.side = "sell") ∧ (∀ e, e ∈ L → GoodE e) ∧ Q (.int (availM t (BL (otherS t.side) L))) H
set_option maxHeartbeats 0 in
theorem ok_law_available (T : Txt K mg) : FnOk P w K mg base CX0 2 T.f_law_available T.d_law_available ["orders", "house", "side", "limit"] (sp_law_available K) := by
  refine T.F_law_available.ok sc_law_available (fun vs H Q E h => ?_) (fun cdv A outer s H vs Q E hr h => ?_)
  · obtain ⟨_, D, L, t, rfl, _⟩ := h
    rfl
  · obtain ⟨_, D, L, t, rfl, hL, hts, hg, q⟩ := h
    have G_law_fits : FnOk P w K mg base CX0 1 T.f_law_fits T.d_law_fits ["side", "limit", "price"] (sp_law_fits K) := ok_law_fits T
    have G_law_resting_side : FnOk P w K mg base CX0 1 T.f_law_resting_side T.d_law_resting_side ["side"] (sp_law_resting_side K) := ok_law_resting_side T
    refine ⟨_, (pss_cons (ps_set (i := 4) sc_law_available.nd rfl (Or.inl rfl) pe_int)
    (pss_cons (ps_for PassesOwn.never rfl (pi_list (pv 0)) (pg_name (i := 5) sc_law_available.nd rfl (Or.inl rfl))
      (pss_one (ps_if (PW.pt (pw_and (pt_cmpR op_eq (pe_ix ix_list (pv 5) pe_int (fun _ _ => rfl)) (pe_call G_law_resting_side hr (by rfl) T.m_law_resting_side T.F_law_resting_side.kp T.b_law_resting_side .nil pass0 (pa_cons (pv 2) pa_nil)) (nomark _)) (pw_and (pt_cmpR op_ne (pe_ix ix_list (pv 5) pe_int (fun _ _ => rfl)) (pv 1) (nomark _)) (pw_and1 (pt_val (pe_call G_law_fits hr (by rfl) T.m_law_fits T.F_law_fits.kp T.b_law_fits .nil pass0 (pa_cons (pe_ix ix_list (pv 5) pe_int (fun _ _ => rfl)) (pa_cons (pv 3) (pa_cons (pe_ix ix_list (pv 5) pe_int (fun _ _ => rfl)) pa_nil)))))))))
        (pss_one (ps_set (i := 4) sc_law_available.nd rfl (Or.inl rfl) (pe_op op_add (pv 4) (pe_ix ix_list (pv 5) pe_int (fun _ _ => rfl)))))
        pss_nil)))
    (pss_one (ps_ret (pv 4))))), ?_⟩
    have hq := SqL.of (K := K) hL.li
    have hlen : (refs L).length = L.length := List.length_map ..
    have hLi := hL.li
    walk_at "st"
    refine for_list (K := K) (a := D) (xs := refs L) (fun i σ H' => H' = H ∧ ∃ v5 : Option V, σ = [some (.ref D), some (.str t.house), some (.str t.side), some (optV t.price), some (.int (availM t (selE (otherS t.side) (L.take i)))), v5]) ⟨rfl, none, rfl⟩ (fun i σ H' _ ⟨e, _⟩ => by rw [e]; exact hq) ?_ ?_
    · rintro i v σ H' hv ⟨rfl, v5, rfl⟩
      obtain ⟨e, he, rfl⟩ := ents_at hv
      have hmem := List.mem_of_getElem? he
      have g := hg e hmem
      obtain ⟨p, hp⟩ := g.price
      have hpe : prcE e = p := by unfold prcE; rw [hp]; rfl
      have hrow := SqL.of (K := K) (hL.row e hmem)
      have h1 : atI (rowL e.2.2) 1 = some (.str e.2.2.house) := rfl
      have h2 : atI (rowL e.2.2) 2 = some (.str e.2.2.side) := rfl
      have h3 : atI (rowL e.2.2) 3 = some (.int p) := by
        show some (optV e.2.2.price) = _
        rw [hp]
        rfl
      have h4 : atI (rowL e.2.2) 4 = some (.int e.2.2.left) := rfl
      have hav : availM t (selE (otherS t.side) (L.take (i + 1))) = availM t (selE (otherS t.side) (L.take i)) + if e.2.2.side = otherS t.side ∧ canT t e = true then e.2.2.left else 0 := by
        rw [sel_take he]
        by_cases z : e.2.2.side = otherS t.side
        · rw [if_pos z, avM_snoc]
          by_cases c : canT t e = true
          · rw [if_pos c, if_pos ⟨z, c⟩]
          · rw [if_neg c, if_neg fun k => c k.2]
        · rw [if_neg z, List.append_nil, if_neg (fun k => z k.1), Int.add_zero]
      have hcan : canT t e = (decide (e.2.2.house ≠ t.house) && takes t.side t.price p) := by
        unfold canT
        rw [hp]
      have hft : fitsF (otherS t.side) t.price p = takes t.side t.price p := fits_takes hts _ _
      have no : ¬ (e.2.2.side = otherS t.side ∧ canT t e = true) → availM t (selE (otherS t.side) (L.take (i + 1))) = availM t (selE (otherS t.side) (L.take i)) := fun z => by rw [hav, if_neg z, Int.add_zero]
      walk_at "st"
      refine iteB (fun hs => ?_) (fun hs => ?_)
      · have hside : e.2.2.side = otherS t.side := V.str.inj (dec_t hs)
        walk_at "st"
        refine iteDN (fun hne => ?_) (fun heq => ?_)
        · have hh : decide (e.2.2.house ≠ t.house) = true := decide_eq_true fun z => hne (by rw [z])
          walk_at "st"
          refine ⟨t.price, p, rfl, ?_⟩
          rw [hside, hft]
          rw [hh, Bool.true_and] at hcan
          walk_at "st"
          refine iteB (fun hx => ?_) (fun hx => ?_)
          · rw [hav, if_pos ⟨hside, by rw [hcan, hx]⟩]
            walk_at "st"
            exact ⟨_, rfl⟩
          · rw [no fun z => by rw [hcan, hx] at z; cases z.2]
            walk_at "st"
            exact ⟨_, rfl⟩
        · have hh : e.2.2.house = t.house := V.str.inj heq
          rw [no fun z => by rw [hcan, decide_eq_false (fun k => k hh)] at z; cases z.2]
          walk_at "st"
          exact ⟨_, rfl⟩
      · have hside : ¬ e.2.2.side = otherS t.side := fun z => dec_f hs (congrArg V.str z)
        rw [no fun z => hside z.1]
        walk_at "st"
        exact ⟨_, rfl⟩
    · rintro σ H' ⟨rfl, v5, rfl⟩
      rw [hlen, List.take_of_length_le (Nat.le_refl _), ← avM_perm (BL_perm _ _)]
      walk_at "st"
      exact q

def sp_law_enter (K : PySem.W.Frag) : Sp := fun vs H Q _ => ∃ (_ : Unit) (D : Addr) (L : List Ent) (t : Ord) (kd : Str) (last : Option Int), vs = [.ref D, .int t.number, .str t.house, .str t.side, optV t.price, .int t.left, .str kd, .int t.shown] ∧ LoAt H D L ∧ LawL L ∧ (t.side = "buy" ∨ t.side = "sell") ∧ L.length ≤ 399 ∧ 1 ≤ t.left ∧ t.left ≤ 400 ∧ 0 ≤ t.shown ∧ (V.str kd = V.str "rest" → ∃ p, t.price = some p) ∧ PyData.strOk t.house = true ∧ (t.number ∉ L.map fun e => e.2.2.number) ∧
  ∀ (R : SubR) (p fl rm : Addr) (fs : List Addr) (o : Addr) (L' : List Ent) (H' : Hp), R = subF kd t o 0 last (BL (otherS t.side) L) (BL t.side L) → H' p = some (.tup [.ref fl, .ref rm, .int R.rest]) → Tups encFill H' fl fs R.fills → H' rm = some (.lst (R.gone.map V.int)) →
    LoAt H' D L' → LawL L' → R.oth = BL (otherS t.side) L' → R.own = BL t.side L' → L'.length ≤ L.length + 1 → (∀ e, e ∈ L' → (∃ x, x ∈ L ∧ x.1 = e.1 ∧ x.2.2.number = e.2.2.number ∧ x.2.2.price = e.2.2.price) ∨ (e.2.2.number = t.number ∧ H e.1 = none ∧ e.2.2.price = t.price)) → H fl = none → H rm = none → H p = none →
    (∀ z v, z ≠ D → z ∉ L.map (·.1) → H z = some v → H' z = some v) → Q (.ref p) H'
theorem oth_ne {s : Str} (h : s = "buy" ∨ s = "sell") : s ≠ otherS s := by
  unfold otherS
  rcases h with z | z
  · rw [z, if_pos buyS_buy]
    exact fun k => absurd (congrArg buyS k) (by rw [buyS_buy, buyS_sell]; exact Bool.noConfusion)
  · rw [z, if_neg (by rw [buyS_sell]; exact Bool.false_ne_true)]
    exact fun k => absurd (congrArg buyS k) (by rw [buyS_buy, buyS_sell]; exact Bool.noConfusion)
set_option maxHeartbeats 0 in
theorem ok_law_enter (T : Txt K mg) : FnOk P w K mg base CX0 4 T.f_law_enter T.d_law_enter ["orders", "number", "house", "side", "limit", "quantity", "kind", "shown"] (sp_law_enter K) := by
  refine T.F_law_enter.ok sc_law_enter (fun vs H Q E h => ?_) (fun cdv A outer s H vs Q E hr h => ?_)
  · obtain ⟨_, D, L, t, kd, last, rfl, _⟩ := h
    rfl
  · obtain ⟨_, D, L, t, kd, last, rfl, hL, hlaw, hts, hlen, h1, h4, hsh, hpr, hok, hnum, q⟩ := h
    have G_law_trade : FnOk P w K mg base CX0 3 T.f_law_trade T.d_law_trade ["orders", "house", "side", "limit", "quantity"] (sp_law_trade K) := ok_law_trade T
    have G_law_available : FnOk P w K mg base CX0 2 T.f_law_available T.d_law_available ["orders", "house", "side", "limit"] (sp_law_available K) := ok_law_available T
    have G_law_visible : FnOk P w K mg base CX0 1 T.f_law_visible T.d_law_visible ["left", "shown"] (sp_law_visible K) := ok_law_visible T
    refine ⟨_, (pss_cons (ps_if (PW.pt (pw_and (pt_cmpR op_eq (pv 6) pe_str (nomark _)) (pw_and1 (pt_cmpR op_lt (pe_call G_law_available (hr.mono (by decide)) (by rfl) T.m_law_available T.F_law_available.kp T.b_law_available .nil pass0 (pa_cons (pv 0) (pa_cons (pv 2) (pa_cons (pv 3) (pa_cons (pv 4) pa_nil))))) (pv 5) (nomark _)))))
      (pss_one (ps_ret (pe_tup (pa_cons (pe_lst pa_nil) (pa_cons (pe_lst pa_nil) (pa_cons pe_int pa_nil))))))
      pss_nil)
    (pss_cons (ps_asg (pe_call G_law_trade hr (by rfl) T.m_law_trade T.F_law_trade.kp T.b_law_trade .nil pass0 (pa_cons (pv 0) (pa_cons (pv 2) (pa_cons (pv 3) (pa_cons (pv 4) (pa_cons (pv 5) pa_nil)))))) (pg_tup rfl (pgs_cons (pg_name (i := 8) sc_law_enter.nd rfl (Or.inl rfl)) (pgs_cons (pg_name (i := 9) sc_law_enter.nd rfl (Or.inl rfl)) (pgs_cons (pg_name (i := 10) sc_law_enter.nd rfl (Or.inl rfl)) pgs_nil)))))
    (pss_cons (ps_if (PW.pt (pw_and (pt_cmpR op_eq (pv 6) pe_str (nomark _)) (pw_and1 (pt_cmpR op_gt (pv 10) pe_int (nomark _)))))
      (pss_cons (ps_expr (pe_bm PySem.F.plainAttrs_list PySem.F.slot_list_append PySem.F.type_list_append mt_append (pv 0) (pa_cons (pe_lst (pa_cons (pv 1) (pa_cons (pv 2) (pa_cons (pv 3) (pa_cons (pv 4) (pa_cons (pv 10) (pa_cons (pe_call G_law_visible (hr.mono (by decide)) (by rfl) T.m_law_visible T.F_law_visible.kp T.b_law_visible .nil pass0 (pa_cons (pv 10) (pa_cons (pv 7) pa_nil))) (pa_cons (pv 7) pa_nil)))))))) pa_nil)))
      (pss_one (ps_ret (pe_tup (pa_cons (pv 8) (pa_cons (pv 9) (pa_cons (pv 10) pa_nil)))))))
      pss_nil)
    (pss_one (ps_ret (pe_tup (pa_cons (pv 8) (pa_cons (pv 9) (pa_cons pe_int pa_nil))))))))), ?_⟩
    have hLi := hL.li
    have hone := oth_ne hts
    have heldI : heldM kd t (BL (otherS t.side) L) = (decide (V.str kd = V.str "all") && decide (availM t (BL (otherS t.side) L) < t.left)) := rfl
    have go : ¬ heldM kd t (BL (otherS t.side) L) = true → True := fun _ => trivial
    walk_at "st"
    refine iteB (fun hk => ?_) (fun hk => ?_)
    · walk_at "st"
      refine ⟨(), D, L, t, rfl, hL, hts, hlaw.good, ?_⟩
      walk_at "st"
      refine iteB (fun hx => ?_) (fun hx => ?_)
      · have hheld : heldM kd t (BL (otherS t.side) L) = true := by rw [heldI, hk, hx]; rfl
        walk_at "st"
        intro fl nfl
        walk_at "st"
        intro rm nrm
        walk_at "st"
        intro p np
        have s1 : Same H (upd H fl (.lst [])) := same_upd nfl
        have s2 := same_upd (o := .lst []) nrm
        have s3 := same_upd (o := .tup [.ref fl, .ref rm, .int 0]) np
        have sA := (s1.trans s2).trans s3
        have nrm0 : H rm = none := by
          cases e : H rm with
          | none => rfl
          | some v => rw [s1 _ _ e] at nrm; cases nrm
        have np0 : H p = none := by
          cases e : H p with
          | none => rfl
          | some v => rw [(s1.trans s2) _ _ e] at np; cases np
        exact q _ p fl rm [] 0 L _ rfl (by unfold subF; rw [if_pos hheld]; exact upd_same) (by unfold subF; rw [if_pos hheld]; exact Tups.nil (s3 _ _ (s2 _ _ upd_same))) (by unfold subF; rw [if_pos hheld]; exact s3 _ _ upd_same) (hL.same sA) hlaw (by unfold subF; rw [if_pos hheld]) (by unfold subF; rw [if_pos hheld]) (Nat.le_succ _) (fun e he => .inl ⟨e, he, rfl, rfl, rfl⟩) nfl nrm0 np0 fun z v _ _ hz => sA _ _ hz
      · have hheld : ¬ heldM kd t (BL (otherS t.side) L) = true := by rw [heldI, hk, hx]; exact Bool.false_ne_true
        walk_at "st"
        refine ⟨(), D, L, t, last, rfl, hL, hlaw, hts, by omega, by omega, h4, ?_⟩
        intro pt fl rm fs L' H' hpt hT hG hLo' hlaw' hoth hbls hlen' hsub nfl nrm hfr hmo
        have hptS := SqT.of (K := K) hpt
        have hsubF : ∀ o, subF kd t o 0 last (BL (otherS t.side) L) (BL t.side L) = ⟨(endM t last (BL (otherS t.side) L)).es, if restsM kd (endM t last (BL (otherS t.side) L)) = true then insE (BL t.side L) (place (BL t.side L) (t.price.getD 0)) (o, 0, Ord.showNext { t with left := (endM t last (BL (otherS t.side) L)).left }) else (BL t.side L), (endM t last (BL (otherS t.side) L)).last, (endM t last (BL (otherS t.side) L)).fills, (endM t last (BL (otherS t.side) L)).gone, if restsM kd (endM t last (BL (otherS t.side) L)) = true then (endM t last (BL (otherS t.side) L)).left else 0⟩ := fun o => if_neg hheld
        have hbl := hbls t.side hone
        generalize endM t last (BL (otherS t.side) L) = m at hpt hptS hT hG hoth hsubF
        have hres : restsM kd m = (decide (V.str kd = V.str "rest") && decide (m.left > 0)) := rfl
        walk_at "st"
        have fin0 : restsM kd m = false → ∀ {p : Addr}, H' p = none → Q (.ref p) (upd H' p (.tup [.ref fl, .ref rm, .int 0])) := fun hr0 {p} np => by
          have sp := same_upd (o := .tup [.ref fl, .ref rm, .int 0]) np
          have hR : subF kd t 0 0 last (BL (otherS t.side) L) (BL t.side L) = ⟨m.es, BL t.side L, m.last, m.fills, m.gone, 0⟩ := by
            rw [hsubF, hr0, if_neg Bool.false_ne_true, if_neg Bool.false_ne_true]
          have np0 := hmo p np
          exact q _ p fl rm fs 0 L' _ rfl (by rw [hR]; exact upd_same) (by rw [hR]; exact hT.same sp) (by rw [hR]; exact sp _ _ hG) (hLo'.same sp) hlaw' (by rw [hR]; exact hoth) (by rw [hR]; exact hbl.symm) (by omega) (fun e he => .inl (hsub e he)) nfl nrm np0 fun z v h1 h2 hz => sp _ _ (hfr z v h1 h2 hz)
        refine iteB (fun hk2 => ?_) (fun hk2 => ?_)
        · walk_at "st"
          refine iteB (fun hx2 => ?_) (fun hx2 => ?_)
          · have hlenD : (refs L').length < sizeLine := small1000 (by
              show (List.map _ _).length ≤ _
              rw [List.length_map]
              omega)
            have hLi' := hLo'.li
            walk_at "st"
            refine ⟨len_le rfl, fun o no => ?_⟩
            have no0 := hmo o no
            have hpx : 0 < m.left := of_decide_eq_true hx2
            obtain ⟨pr, hpr2⟩ := hpr (of_decide_eq_true hk2)
            have hrow0 : upd H' o (.lst [.int t.number, .str t.house, .str t.side, optV t.price, .int m.left, .int (if t.shown = 0 then m.left else if m.left < t.shown then m.left else t.shown), .int t.shown]) o = some (.lst (rowL (Ord.showNext { t with left := m.left }))) := upd_same
            have so := same_upd (o := .lst [.int t.number, .str t.house, .str t.side, optV t.price, .int m.left, .int (if t.shown = 0 then m.left else if m.left < t.shown then m.left else t.shown), .int t.shown]) no
            have hLo0 := hLo'.same so
            have hLo0i := hLo0.li
            have hno : o ∉ L'.map (·.1) := fun z => by
              obtain ⟨y, hy, k⟩ := List.mem_map.mp z
              have := hLo'.row y hy
              rw [k, no] at this
              cases this
            have hDo : D ≠ o := fun z => by rw [← z, hLo'.li] at no; cases no
            have hT0 := hT.same so
            have hG0 := so _ _ hG
            have hfr0 : ∀ z v, z ≠ D → z ∉ L.map (·.1) → H z = some v → upd H' o (.lst [.int t.number, .str t.house, .str t.side, optV t.price, .int m.left, .int (if t.shown = 0 then m.left else if m.left < t.shown then m.left else t.shown), .int t.shown]) z = some v := fun z v h1 h2 hz => so _ _ (hfr z v h1 h2 hz)
            have hmo0 : ∀ z, upd H' o (.lst [.int t.number, .str t.house, .str t.side, optV t.price, .int m.left, .int (if t.shown = 0 then m.left else if m.left < t.shown then m.left else t.shown), .int t.shown]) z = none → H z = none := fun z hz => hmo z (none_upd hz)
            generalize upd H' o (.lst [.int t.number, .str t.house, .str t.side, optV t.price, .int m.left, .int (if t.shown = 0 then m.left else if m.left < t.shown then m.left else t.shown), .int t.shown]) = HA at hrow0 hLo0 hLo0i hT0 hG0 hfr0 hmo0 ⊢
            walk_at "st"
            have hLo1 := hLo0.push (e := (o, 0, Ord.showNext { t with left := m.left })) hrow0 hno hDo
            have hfD : D ≠ fl ∧ D ≠ rm := ⟨ne_of_none hLi nfl, ne_of_none hLi nrm⟩
            have hT1 := hT0.other (zs := refs L' ++ [.ref o]) hLo0i hfD.1.symm
            have hG1 : upd HA D (.lst (refs L' ++ [.ref o])) rm = some (.lst (m.gone.map V.int)) := (upd_ne hfD.2.symm).trans hG0
            have gn : GoodE (o, 0, Ord.showNext { t with left := m.left }) := ⟨hts, ⟨pr, hpr2⟩, showNext_vis (o := { t with left := m.left }) (by show 1 ≤ m.left; omega) hsh, hok⟩
            have hnum' : t.number ∉ L'.map fun e => e.2.2.number := fun z => by
              obtain ⟨y, hy, k⟩ := List.mem_map.mp z
              obtain ⟨x, hx, _, k2, _⟩ := hsub y hy
              exact hnum (List.mem_map.mpr ⟨x, hx, k2.trans k⟩)
            have hlaw1 := hlaw'.snoc gn hno hnum'
            intro p np
            have sp := same_upd (o := .tup [.ref fl, .ref rm, .int m.left]) np
            have hrt : restsM kd m = true := by rw [hres, hk2, hx2]; rfl
            have hR : subF kd t o 0 last (BL (otherS t.side) L) (BL t.side L) = ⟨m.es, insE (BL t.side L) (place (BL t.side L) (t.price.getD 0)) (o, 0, Ord.showNext { t with left := m.left }), m.last, m.fills, m.gone, m.left⟩ := by
              rw [hsubF, if_pos hrt, if_pos hrt]
            refine q _ p fl rm fs o (L' ++ [(o, 0, Ord.showNext { t with left := m.left })]) _ rfl (by rw [hR]; exact upd_same) (by rw [hR]; exact hT1.same sp) (by rw [hR]; exact sp _ _ hG1) (hLo1.same sp) hlaw1 ?_ ?_ ?_ (fun e he => ?_) nfl nrm (hmo0 p (none_upd np)) fun z v h1 h2 hz => sp _ _ ((upd_ne h1).trans (hfr0 z v h1 h2 hz))
            · rw [hR, BL_other (e := (o, 0, Ord.showNext { t with left := m.left })) (fun z => hone z)]
              exact hoth
            · rw [hR, BL_snoc (s := t.side) (e := (o, 0, Ord.showNext { t with left := m.left })) rfl, hbl]
              rfl
            · rw [List.length_append, List.length_singleton]
              omega
            · rcases List.mem_append.mp he with k | k
              · exact .inl (hsub e k)
              · rw [List.mem_singleton.mp k]
                exact .inr ⟨rfl, no0, rfl⟩
          · walk_at "st"
            intro p np
            exact fin0 (by rw [hres, hk2, hx2]; rfl) np
        · walk_at "st"
          intro p np
          exact fin0 (by rw [hres, hk2]; rfl) np
    · have hheld : ¬ heldM kd t (BL (otherS t.side) L) = true := by rw [heldI, hk]; exact Bool.false_ne_true
      walk_at "st"
      refine ⟨(), D, L, t, last, rfl, hL, hlaw, hts, by omega, by omega, h4, ?_⟩
      intro pt fl rm fs L' H' hpt hT hG hLo' hlaw' hoth hbls hlen' hsub nfl nrm hfr hmo
      have hptS := SqT.of (K := K) hpt
      have hsubF : ∀ o, subF kd t o 0 last (BL (otherS t.side) L) (BL t.side L) = ⟨(endM t last (BL (otherS t.side) L)).es, if restsM kd (endM t last (BL (otherS t.side) L)) = true then insE (BL t.side L) (place (BL t.side L) (t.price.getD 0)) (o, 0, Ord.showNext { t with left := (endM t last (BL (otherS t.side) L)).left }) else (BL t.side L), (endM t last (BL (otherS t.side) L)).last, (endM t last (BL (otherS t.side) L)).fills, (endM t last (BL (otherS t.side) L)).gone, if restsM kd (endM t last (BL (otherS t.side) L)) = true then (endM t last (BL (otherS t.side) L)).left else 0⟩ := fun o => if_neg hheld
      have hbl := hbls t.side hone
      generalize endM t last (BL (otherS t.side) L) = m at hpt hptS hT hG hoth hsubF
      have hres : restsM kd m = (decide (V.str kd = V.str "rest") && decide (m.left > 0)) := rfl
      walk_at "st"
      have fin0 : restsM kd m = false → ∀ {p : Addr}, H' p = none → Q (.ref p) (upd H' p (.tup [.ref fl, .ref rm, .int 0])) := fun hr0 {p} np => by
        have sp := same_upd (o := .tup [.ref fl, .ref rm, .int 0]) np
        have hR : subF kd t 0 0 last (BL (otherS t.side) L) (BL t.side L) = ⟨m.es, BL t.side L, m.last, m.fills, m.gone, 0⟩ := by
          rw [hsubF, hr0, if_neg Bool.false_ne_true, if_neg Bool.false_ne_true]
        have np0 := hmo p np
        exact q _ p fl rm fs 0 L' _ rfl (by rw [hR]; exact upd_same) (by rw [hR]; exact hT.same sp) (by rw [hR]; exact sp _ _ hG) (hLo'.same sp) hlaw' (by rw [hR]; exact hoth) (by rw [hR]; exact hbl.symm) (by omega) (fun e he => .inl (hsub e he)) nfl nrm np0 fun z v h1 h2 hz => sp _ _ (hfr z v h1 h2 hz)
      refine iteB (fun hk2 => ?_) (fun hk2 => ?_)
      · walk_at "st"
        refine iteB (fun hx2 => ?_) (fun hx2 => ?_)
        · have hlenD : (refs L').length < sizeLine := small1000 (by
            show (List.map _ _).length ≤ _
            rw [List.length_map]
            omega)
          have hLi' := hLo'.li
          walk_at "st"
          refine ⟨len_le rfl, fun o no => ?_⟩
          have no0 := hmo o no
          have hpx : 0 < m.left := of_decide_eq_true hx2
          obtain ⟨pr, hpr2⟩ := hpr (of_decide_eq_true hk2)
          have hrow0 : upd H' o (.lst [.int t.number, .str t.house, .str t.side, optV t.price, .int m.left, .int (if t.shown = 0 then m.left else if m.left < t.shown then m.left else t.shown), .int t.shown]) o = some (.lst (rowL (Ord.showNext { t with left := m.left }))) := upd_same
          have so := same_upd (o := .lst [.int t.number, .str t.house, .str t.side, optV t.price, .int m.left, .int (if t.shown = 0 then m.left else if m.left < t.shown then m.left else t.shown), .int t.shown]) no
          have hLo0 := hLo'.same so
          have hLo0i := hLo0.li
          have hno : o ∉ L'.map (·.1) := fun z => by
            obtain ⟨y, hy, k⟩ := List.mem_map.mp z
            have := hLo'.row y hy
            rw [k, no] at this
            cases this
          have hDo : D ≠ o := fun z => by rw [← z, hLo'.li] at no; cases no
          have hT0 := hT.same so
          have hG0 := so _ _ hG
          have hfr0 : ∀ z v, z ≠ D → z ∉ L.map (·.1) → H z = some v → upd H' o (.lst [.int t.number, .str t.house, .str t.side, optV t.price, .int m.left, .int (if t.shown = 0 then m.left else if m.left < t.shown then m.left else t.shown), .int t.shown]) z = some v := fun z v h1 h2 hz => so _ _ (hfr z v h1 h2 hz)
          have hmo0 : ∀ z, upd H' o (.lst [.int t.number, .str t.house, .str t.side, optV t.price, .int m.left, .int (if t.shown = 0 then m.left else if m.left < t.shown then m.left else t.shown), .int t.shown]) z = none → H z = none := fun z hz => hmo z (none_upd hz)
          generalize upd H' o (.lst [.int t.number, .str t.house, .str t.side, optV t.price, .int m.left, .int (if t.shown = 0 then m.left else if m.left < t.shown then m.left else t.shown), .int t.shown]) = HA at hrow0 hLo0 hLo0i hT0 hG0 hfr0 hmo0 ⊢
          walk_at "st"
          have hLo1 := hLo0.push (e := (o, 0, Ord.showNext { t with left := m.left })) hrow0 hno hDo
          have hfD : D ≠ fl ∧ D ≠ rm := ⟨ne_of_none hLi nfl, ne_of_none hLi nrm⟩
          have hT1 := hT0.other (zs := refs L' ++ [.ref o]) hLo0i hfD.1.symm
          have hG1 : upd HA D (.lst (refs L' ++ [.ref o])) rm = some (.lst (m.gone.map V.int)) := (upd_ne hfD.2.symm).trans hG0
          have gn : GoodE (o, 0, Ord.showNext { t with left := m.left }) := ⟨hts, ⟨pr, hpr2⟩, showNext_vis (o := { t with left := m.left }) (by show 1 ≤ m.left; omega) hsh, hok⟩
          have hnum' : t.number ∉ L'.map fun e => e.2.2.number := fun z => by
            obtain ⟨y, hy, k⟩ := List.mem_map.mp z
            obtain ⟨x, hx, _, k2, _⟩ := hsub y hy
            exact hnum (List.mem_map.mpr ⟨x, hx, k2.trans k⟩)
          have hlaw1 := hlaw'.snoc gn hno hnum'
          intro p np
          have sp := same_upd (o := .tup [.ref fl, .ref rm, .int m.left]) np
          have hrt : restsM kd m = true := by rw [hres, hk2, hx2]; rfl
          have hR : subF kd t o 0 last (BL (otherS t.side) L) (BL t.side L) = ⟨m.es, insE (BL t.side L) (place (BL t.side L) (t.price.getD 0)) (o, 0, Ord.showNext { t with left := m.left }), m.last, m.fills, m.gone, m.left⟩ := by
            rw [hsubF, if_pos hrt, if_pos hrt]
          refine q _ p fl rm fs o (L' ++ [(o, 0, Ord.showNext { t with left := m.left })]) _ rfl (by rw [hR]; exact upd_same) (by rw [hR]; exact hT1.same sp) (by rw [hR]; exact sp _ _ hG1) (hLo1.same sp) hlaw1 ?_ ?_ ?_ (fun e he => ?_) nfl nrm (hmo0 p (none_upd np)) fun z v h1 h2 hz => sp _ _ ((upd_ne h1).trans (hfr0 z v h1 h2 hz))
          · rw [hR, BL_other (e := (o, 0, Ord.showNext { t with left := m.left })) (fun z => hone z)]
            exact hoth
          · rw [hR, BL_snoc (s := t.side) (e := (o, 0, Ord.showNext { t with left := m.left })) rfl, hbl]
            rfl
          · rw [List.length_append, List.length_singleton]
            omega
          · rcases List.mem_append.mp he with k | k
            · exact .inl (hsub e k)
            · rw [List.mem_singleton.mp k]
              exact .inr ⟨rfl, no0, rfl⟩
        · walk_at "st"
          intro p np
          exact fin0 (by rw [hres, hk2, hx2]; rfl) np
      · walk_at "st"
        intro p np
        exact fin0 (by rw [hres, hk2]; rfl) np

theorem same_over {H H' : Hp} {a : Addr} {o : HO} (e : Same H H') (n : H a = none) : Same H (upd H' a o) := fun z v hz => (upd_ne (fun k => by rw [k, n] at hz; cases hz)).trans (e z v hz)
theorem best_none (s : Str) (es : List Ent) : bestF s none es = es.head? := by
  cases es with
  | nil => rfl
  | cons e r => rfl
theorem LawL.sel {L : List Ent} (h : LawL L) (s : Str) : LawL (selE s L) := ⟨fun e he => h.good e (sel_mem he).1, (List.filter_sublist.map _).nodup h.nda, (List.filter_sublist.map _).nodup h.ndn⟩
theorem BL_sel (s : Str) (L : List Ent) : BL s (selE s L) = BL s L := by
  unfold BL
  congr 1
  unfold selE
  rw [List.filter_filter]
  refine List.filter_congr fun x _ => ?_
  exact Bool.and_self _
theorem refs_app (a b : List Ent) : refs (a ++ b) = refs a ++ refs b := List.map_append ..
def sp_law_listed (K : PySem.W.Frag) : Sp := fun vs H Q _ => ∃ (_ : Unit) (D : Addr) (L : List Ent) (s : Str), vs = [.ref D, .str s] ∧ LoAt H D L ∧ LawL L ∧ (s = "buy" ∨ s = "sell") ∧ L.length ≤ 400 ∧
  ∀ D' H' (ts : List (Addr × Ord)), Same H H' → H D' = none → H' D' = some (.lst (ts.map fun t => V.ref t.1)) → ts.map (·.2) = (BL s L).map (·.2.2) → (∀ t, t ∈ ts → H' t.1 = some (.tup (rowV t.2))) → Q (.ref D') H'
set_option maxHeartbeats 0 in
theorem ok_law_listed (T : Txt K mg) : FnOk P w K mg base CX0 3 T.f_law_listed T.d_law_listed ["orders", "side"] (sp_law_listed K) := by
  refine T.F_law_listed.ok sc_law_listed (fun vs H Q E h => ?_) (fun cdv A outer s H vs Q E hr h => ?_)
  · obtain ⟨_, D, L, s, rfl, _⟩ := h
    rfl
  · obtain ⟨_, D, L, s, rfl, hL, hlaw, hs, hlen, q⟩ := h
    have G_law_first : FnOk P w K mg base CX0 2 T.f_law_first T.d_law_first ["orders", "side", "limit"] (sp_law_first K) := ok_law_first T
    refine ⟨_, (pss_cons (ps_setLc (i := 2) (own := [("order", 3)]) (g := gName 3) rfl sc_law_listed.nd rfl rfl (sw_true rfl rfl rfl (by decide +kernel)) (pi_list (pv 0)) (blkOk_by (own := [("order", 3)]) (N := N_law_listed) (sc := defScope s_law_listed) (by decide +kernel)) (fun _ _ _ _ _ => (pg_name (i := 3) sc_law_listed.nd rfl (Or.inl rfl))) (fun _ _ _ _ _ => pts_one (pt_cmpR op_eq (pe_ix (show IxR _ (rIxL K) from ix_list) (pv 3) pe_int (fun _ _ => rfl)) (pv 1) (nomark _))) (fun _ _ _ _ _ => (pv 3)))
    (pss_cons (ps_set (i := 4) sc_law_listed.nd rfl (Or.inl rfl) (pe_lst pa_nil))
    (pss_cons (ps_for PassesOwn.never rfl (pi_range1 (by rfl) T.z_range (pa_cons (pe_callB call_len_seq (by rfl) T.z_len PySem.boot_len (pa_cons (pv 2) pa_nil)) pa_nil)) (pg_name (i := 5) sc_law_listed.nd rfl (Or.inl rfl))
      (pss_cons (ps_set (i := 6) sc_law_listed.nd rfl (Or.inl rfl) (pe_call G_law_first hr (by rfl) T.m_law_first T.F_law_first.kp T.b_law_first .nil pass0 (pa_cons (pv 2) (pa_cons (pv 1) (pa_cons pe_non pa_nil)))))
      (pss_cons (ps_expr (pe_bm PySem.F.plainAttrs_list PySem.F.slot_list_append PySem.F.type_list_append mt_append (pv 4) (pa_cons (pe_tup (pa_cons (pe_ix ix_list (pv 6) pe_int (fun _ _ => rfl)) (pa_cons (pe_ix ix_list (pv 6) pe_int (fun _ _ => rfl)) (pa_cons (pe_ix ix_list (pv 6) pe_int (fun _ _ => rfl)) (pa_cons (pe_ix ix_list (pv 6) pe_int (fun _ _ => rfl)) (pa_cons (pe_ix ix_list (pv 6) pe_int (fun _ _ => rfl)) pa_nil)))))) pa_nil)))
      (pss_one (ps_expr (pe_bm PySem.F.plainAttrs_list PySem.F.slot_list_remove PySem.F.type_list_remove (mt_removeD (hu65 hr)) (pv 2) (pa_cons (pv 6) pa_nil)))))))
    (pss_one (ps_ret (pv 4)))))), ?_⟩
    have hLi := hL.li
    have hLS := SqL.of (K := K) hL.li
    walk_at "st"
    intro KD nKD
    refine lc_list (K := K) (a := D) (xs := refs L) (fun i H' => H' KD = some (.lst (refs (selE s (L.take i)))) ∧ Same H H') ⟨upd_same, same_upd nKD⟩ (fun i H' _ ⟨_, e⟩ => SqL.of (e _ _ hLi)) ?_ ?_
    · rintro i v H2 hv ⟨hk, e2⟩
      obtain ⟨e, he, rfl⟩ := ents_at hv
      have hmem := List.mem_of_getElem? he
      have hrow := SqL.of (K := K) (e2 _ _ (hL.row e hmem))
      have h2 : atI (rowL e.2.2) 2 = some (.str e.2.2.side) := rfl
      have hl : (refs (selE s (L.take i))).length < sizeLine := small1000 (by
        show (List.map _ _).length ≤ _
        rw [List.length_map]
        have := List.length_filter_le (fun e : Ent => decide (e.2.2.side = s)) (L.take i)
        rw [List.length_take] at this
        show (selE s (L.take i)).length ≤ _
        unfold selE
        omega)
      have hst := sel_take (s := s) he
      rw [hst]
      walk_at "st"
      refine iteB (fun hx => ?_) (fun hx => ?_)
      · have hsd : e.2.2.side = s := V.str.inj (dec_t hx)
        rw [if_pos hsd, refs_app]
        walk_at "st"
        exact same_over e2 nKD
      · have hsd : ¬ e.2.2.side = s := fun z => dec_f hx (congrArg V.str z)
        rw [if_neg hsd, List.append_nil]
        exact ⟨hk, e2⟩
    · rintro H1 ⟨hk, e1⟩
      have hll : (refs L).length = L.length := List.length_map ..
      rw [hll, List.take_of_length_le (Nat.le_refl _)] at hk
      have hKrow : ∀ e, e ∈ selE s L → H1 e.1 = some (.lst (rowL e.2.2)) := fun e he => e1 _ _ (hL.row e (sel_mem he).1)
      have hKL : LoAt H1 KD (selE s L) := ⟨hk, hKrow, (List.filter_sublist.map _).nodup hL.nd, fun z => by
        obtain ⟨y, hy, k⟩ := List.mem_map.mp z
        have := hL.row y (sel_mem hy).1
        rw [k, nKD] at this
        cases this⟩
      have hlk := hlaw.sel s
      have hbk := BL_sel s L
      have hlen2 : (selE s L).length ≤ 400 := by
        have := List.length_filter_le (fun e : Ent => decide (e.2.2.side = s)) L
        unfold selE
        omega
      have hbl : (BL s L).length = (selE s L).length := (BL_perm s L).length_eq
      generalize selE s L = L0 at hk hKrow hKL hlk hbk hlen2 hbl
      have hkS := SqL.of (K := K) hk
      walk_at "st"
      intro R nR
      have nR0 : H R = none := by
        cases e : H R with
        | none => rfl
        | some v => rw [e1 _ _ e] at nR; cases nR
      have sR := same_upd (o := .lst []) nR
      have hkR := SqL.of (K := K) (sR _ _ hk)
      have hnk : KD ≠ R := fun z => by rw [← z, hk] at nR; cases nR
      have hRr : ∀ e, e ∈ L0 → e.1 ≠ R := fun e he z => by
        have := hKrow e he
        rw [z, nR] at this
        cases this
      have hl0 : (refs L0).length = L0.length := List.length_map ..
      walk_at "st"
      refine for_range (lo := 0) (n := ((refs L0).length : Int).toNat) (fun i σ H' => ∃ (v5 v6 : Option V) (Lk : List Ent) (ts : List (Addr × Ord)), σ = [some (.ref D), some (.str s), some (.ref KD), none, some (.ref R), v5, v6] ∧ LoAt H' KD Lk ∧ LawL Lk ∧ BL s Lk = (BL s L).drop i ∧ (∀ e, e ∈ Lk → e ∈ L0) ∧ H' R = some (.lst (ts.map fun t => V.ref t.1)) ∧ ts.map (·.2) = ((BL s L).take i).map (·.2.2) ∧ (∀ t, t ∈ ts → H' t.1 = some (.tup (rowV t.2))) ∧ Same H H') ?_ ?_ ?_
      · exact ⟨none, none, L0, [], rfl, hKL.same sR, hlk, hbk, fun e he => he, upd_same, rfl, fun t ht => (by cases ht), e1.trans sR⟩
      · rintro i σ H' hi ⟨v5, v6, Lk, ts, rfl, hLk, hlawk, hb, hmem, hR, hts, hrow, e2⟩
        have hi2 : i < (BL s L).length := by omega
        obtain ⟨e, he⟩ : ∃ e, (BL s L)[i]? = some e := ⟨_, List.getElem?_eq_getElem hi2⟩
        have hbe : BL s Lk = e :: (BL s L).drop (i + 1) := by
          rw [hb, List.drop_eq_getElem_cons hi2]
          congr 1
          rw [List.getElem?_eq_getElem hi2] at he
          exact Option.some.inj he
        have hef : bestF s none (BL s Lk) = some e := by rw [best_none, hbe]; rfl
        have heL : e ∈ Lk := (BL_mem (by rw [hbe]; exact List.mem_cons_self)).1
        have hre := hLk.row e heL
        have hreS := SqL.of (K := K) hre
        have a0 : atI (rowL e.2.2) 0 = some (.int e.2.2.number) := rfl
        have a1 : atI (rowL e.2.2) 1 = some (.str e.2.2.house) := rfl
        have a3 : atI (rowL e.2.2) 3 = some (optV e.2.2.price) := rfl
        have a4 : atI (rowL e.2.2) 4 = some (.int e.2.2.left) := rfl
        have a5 : atI (rowL e.2.2) 5 = some (.int e.2.2.visible) := rfl
        walk_at "st"
        refine ⟨(), KD, Lk, s, none, rfl, hLk, hs, hlawk.good, ?_⟩
        rw [hef]
        have htl : ts.length ≤ 400 := by
          have := congrArg List.length hts
          rw [List.length_map, List.length_map, List.length_take] at this
          omega
        have hRl : (ts.map fun t => V.ref t.1).length < sizeLine := small1000 (by rw [List.length_map]; omega)
        walk_at "st"
        intro p np
        generalize hHP : upd H' p _ = HP
        have sP : Same H' HP := hHP ▸ same_upd np
        have hpP := (congrFun hHP p).symm.trans upd_same
        have hRP := sP _ _ hR
        have hLkP := hLk.same sP
        have hnp : R ≠ p := ne_of_none hR np
        have hLk2 := hLkP.other (z := R) (o := .lst ((ts.map fun t => V.ref t.1) ++ [V.ref p])) hnk (fun y hy => hRr y (hmem y hy))
        have hLk2i := hLk2.li
        walk_at "st"
        delta tNil
        refine rem_of hLk2 hlawk heL ?_
        have hHfin : upd (upd HP R (.lst ((ts.map fun t => V.ref t.1) ++ [V.ref p]))) KD (.lst (refs (dropE e.1 Lk))) R = some (.lst ((ts ++ [(p, e.2.2)]).map fun t => V.ref t.1)) := by
          rw [upd_ne hnk.symm, upd_same, List.map_append]
          rfl
        refine ⟨_, _, dropE e.1 Lk, ts ++ [(p, e.2.2)], rfl, hLk2.cut e.1, hlawk.drop e.1, BL_drop hlawk hbe, fun y hy => hmem y (drop_mem hy).1, hHfin, ?_, fun t ht => ?_, same_over (same_over (e2.trans sP) nR0) nKD⟩
        · rw [take_succ he, List.map_append, List.map_append, hts]
          rfl
        · have key : ∀ a ys, HP a = some (.tup ys) → upd (upd HP R (.lst ((ts.map fun t => V.ref t.1) ++ [V.ref p]))) KD (.lst (refs (dropE e.1 Lk))) a = some (.tup ys) := fun a ys ha => by
            rw [upd_ne (fun z => by rw [z, hLkP.li] at ha; cases ha), upd_ne (fun z => by rw [z, hRP] at ha; cases ha)]
            exact ha
          rcases List.mem_append.mp ht with k | k
          · exact key _ _ (sP _ _ (hrow t k))
          · rw [List.mem_singleton.mp k]
            exact key _ _ hpP
      · rintro σ H' ⟨v5, v6, Lk, ts, rfl, hLk, hlawk, hb, hmem, hR, hts, hrow, e2⟩
        walk_at "st"
        rw [List.take_of_length_le (by omega)] at hts
        exact q R H' ts e2 nR0 hR hts hrow

def layFill (x : Int × Str × Int × Int) : PyData := .tuple [.int x.1, .str x.2.1, .int x.2.2.1, .int x.2.2.2]
theorem layD_F : LayD layFill 1 (fun x => True ∧ PyData.strOk x.2.1 = true ∧ True ∧ True) := layD_int.tup4 layD_str layD_int layD_int
theorem dpFill {K : PySem.W.Frag} {H : Hp} (x : Int × Str × Int × Int) (p : Addr) (h : H p = some (.tup (encFill x))) : Dp K H (.ref p) (layFill x) :=
  .tup (SqT.of h) (.cons (.int _) (.cons (.str _) (.cons (.int _) (.cons (.int _) .nil))))
theorem trade_house {e y : Ent} {es : List Ent} {n p : Int} (h : y ∈ tradeF e es n p) : y.2.2.house = e.2.2.house ∨ ∃ z, z ∈ es ∧ z.2.2.house = y.2.2.house := by
  rw [trade_is] at h
  split at h
  · split at h
    · rcases List.mem_cons.mp ((insE_perm _ _ _).mem_iff.mp h) with z | z
      · rw [z]; exact .inl rfl
      · exact .inr ⟨y, z, rfl⟩
    · exact .inr ⟨y, h, rfl⟩
  · rcases List.mem_cons.mp h with z | z
    · rw [z]; exact .inl rfl
    · exact .inr ⟨y, z, rfl⟩
theorem fills_ok {t : Ord} : ∀ (k : Nat) {m : Mt}, (∀ e, e ∈ m.es → PyData.strOk e.2.2.house = true) → (∀ f, f ∈ m.fills → PyData.strOk f.2.1 = true) → ∀ f, f ∈ (runM t k m).fills → PyData.strOk f.2.1 = true
  | 0, _, _, h => h
  | k + 1, m, g, h => by
    cases hg : goesM t m with
    | none => rw [runM_stop hg]; exact h
    | some e =>
      rw [runM_go hg]
      obtain ⟨h1, _, _⟩ := goesM_some hg
      have he : e ∈ m.es := by rw [h1]; exact List.mem_cons_self
      have ht : ∀ y, y ∈ m.es.tail → PyData.strOk y.2.2.house = true := fun y hy => g y (by rw [h1]; exact List.mem_cons_of_mem _ hy)
      refine fills_ok k (m := stepM t m e) ?_ ?_
      · unfold stepM
        split
        · exact ht
        · intro y hy
          rcases trade_house (show y ∈ tradeF e m.es.tail (qtyM m e) (prcE e) from hy) with z | ⟨x, hx, z⟩
          · rw [z]; exact g e he
          · rw [← z]; exact ht x hx
      · unfold stepM
        split
        · exact h
        · intro f hf
          rcases List.mem_append.mp (show f ∈ m.fills ++ [_] from hf) with z | z
          · exact h f z
          · rw [List.mem_singleton.mp z]; exact g e he
theorem end_fills_ok {t : Ord} {last : Option Int} {es : List Ent} (g : ∀ e, e ∈ es → PyData.strOk e.2.2.house = true) : ∀ f, f ∈ (endM t last es).fills → PyData.strOk f.2.1 = true := fills_ok _ (m := startM t last es) g fun f hf => by cases hf
theorem ords_rows {a b : List Ent} (h : ordsE a = ordsE b) : a.map (·.2.2) = b.map (·.2.2) := h
theorem ords_ok {a b : List Ent} (h : ordsE a = ordsE b) (g : ∀ e, e ∈ b → PyData.strOk e.2.2.house = true) : ∀ e, e ∈ a → PyData.strOk e.2.2.house = true := fun e he => by
  have h1 : e.2.2 ∈ ordsE a := List.mem_map.mpr ⟨e, he, rfl⟩
  rw [h] at h1
  obtain ⟨y, hy, z⟩ := List.mem_map.mp h1
  rw [← z]
  exact g y hy
def sp_law_same (K : PySem.W.Frag) (CO CB CK CR : Addr) : Sp := fun vs H Q _ => ∃ (_ : Unit) (x dx sd st b1 d1 l1 b2 d2 l2 D rp r dr fl rm p fl' rm' : Addr) (last : Option Int) (next n rest : Int) (ho si : Str) (es1 es2 L : List Ent) (fills : List (Int × Str × Int × Int)) (gone : List Int) (fs fs' : List Addr), vs = [.ref x, .ref D, .ref rp, .ref p, .int n] ∧
  BookOk CO CB CK H x dx sd st b1 d1 l1 b2 d2 l2 last next es1 es2 ∧ LoAt H D L ∧ LawL L ∧ L.length ≤ 400 ∧ H rp = some (.lst [.ref r]) ∧ H r = some (repO CR dr n ho si fl rm rest) ∧ Tups encFill H fl fs fills ∧ H rm = some (.lst (gone.map V.int)) ∧
  H p = some (.tup [.ref fl', .ref rm', .int rest]) ∧ Tups encFill H fl' fs' fills ∧ H rm' = some (.lst (gone.map V.int)) ∧ (∀ f, f ∈ fills → PyData.strOk f.2.1 = true) ∧ ordsE es1 = ordsE (BL "buy" L) ∧ ordsE es2 = ordsE (BL "sell" L) ∧ ∀ H', Same H H' → Q (.bl true) H'
set_option maxHeartbeats 0 in
theorem ok_law_same (T : Txt K mg) : FnOk P w K mg base CX0 4 T.f_law_same T.d_law_same ["book", "orders", "reports", "due", "number"] (sp_law_same K T.c_Order T.c_BookSide T.c_Book T.c_Report) := by
  refine T.F_law_same.ok sc_law_same (fun vs H Q E h => ?_) (fun cdv A outer s H vs Q E hr h => ?_)
  · obtain ⟨_, x, dx, sd, st, b1, d1, l1, b2, d2, l2, D, rp, r, dr, fl, rm, p, fl', rm', last, next, n, rest, ho, si, es1, es2, L, fills, gone, fs, fs', rfl, _⟩ := h
    rfl
  · obtain ⟨_, x, dx, sd, st, b1, d1, l1, b2, d2, l2, D, rp, r, dr, fl, rm, p, fl', rm', last, next, n, rest, ho, si, es1, es2, L, fills, gone, fs, fs', rfl, B, hL, hlaw, hlen, hrp, hr2, hT, hG, hp, hT', hG', hok, he1, he2, q⟩ := h
    have G_Book_orders : FnOk P w K mg base CX0 2 T.f_Book_orders T.d_Book_orders ["self", "side"] (sp_Book_orders K T.c_Order T.c_BookSide T.c_Book) := ok_Book_orders T
    have G_law_listed : FnOk P w K mg base CX0 3 T.f_law_listed T.d_law_listed ["orders", "side"] (sp_law_listed K) := ok_law_listed T
    refine ⟨_, (pss_cons (ps_if (PW.pt (pw_or (pt_cmpR op_ne (pe_callB call_len_seq (by rfl) T.z_len PySem.boot_len (pa_cons (pv 2) pa_nil)) pe_int (nomark _)) (pw_or1 (pt_cmpR op_ne (pe_fld (pe_ix ix_list (pv 2) pe_int (fun _ _ => rfl)) rfl) (pv 4) (nomark _)))))
      (pss_one (ps_ret pe_bl))
      pss_nil)
    (pss_cons (ps_set (i := 5) sc_law_same.nd rfl (Or.inl rfl) (pe_ix ix_list (pv 2) pe_int (fun _ _ => rfl)))
    (pss_cons (ps_if (PW.pt (pw_or (pt_cmpR (op_neD hr.units) (pe_fld (pv 5) rfl) (pe_ix ix_tup (pv 3) pe_int (fun _ _ => rfl)) (nomark _)) (pw_or (pt_cmpR (op_neD hr.units) (pe_fld (pv 5) rfl) (pe_ix ix_tup (pv 3) pe_int (fun _ _ => rfl)) (nomark _)) (pw_or1 (pt_cmpR op_ne (pe_fld (pv 5) rfl) (pe_ix ix_tup (pv 3) pe_int (fun _ _ => rfl)) (nomark _))))))
      (pss_one (ps_ret pe_bl))
      pss_nil)
    (pss_one (ps_ret (pe_and (pe_cmpR (op_eqD hr.units) (pe_meth (pv 0) T.cl_Book T.mt_Book_orders G_Book_orders (hr.mono (by decide)) T.b_Book_orders .nil pass0 (pa_cons pe_str pa_nil)) (pe_call G_law_listed hr (by rfl) T.m_law_listed T.F_law_listed.kp T.b_law_listed .nil pass0 (pa_cons (pv 1) (pa_cons pe_str pa_nil))) (nomark _)) (pe_one (pe_cmpR (op_eqD hr.units) (pe_meth (pv 0) T.cl_Book T.mt_Book_orders G_Book_orders (hr.mono (by decide)) T.b_Book_orders .nil pass0 (pa_cons pe_str pa_nil)) (pe_call G_law_listed hr (by rfl) T.m_law_listed T.F_law_listed.kp T.b_law_listed .nil pass0 (pa_cons (pv 1) (pa_cons pe_str pa_nil))) (nomark _))))))))), ?_⟩
    have fact_BookSide_0 := T.cl_BookSide; have fact_BookSide_1 := T.na_BookSide__orders; have fact_Book_0 := T.cl_Book; have fact_Book_1 := T.na_Book_last; have fact_Book_2 := T.na_Book__next_number; have fact_Book_3 := T.na_Book__sides; have fact_Book_4 := T.na_Book__stops; have fact_Order_0 := T.cl_Order; have fact_Order_1 := T.na_Order_number; have fact_Order_2 := T.na_Order_house; have fact_Order_3 := T.na_Order_side; have fact_Order_4 := T.na_Order_price; have fact_Order_5 := T.na_Order_shown; have fact_Order_6 := T.na_Order_left; have fact_Order_7 := T.na_Order_visible; have fact_Report_0 := T.cl_Report; have fact_Report_1 := T.na_Report_number; have fact_Report_2 := T.na_Report_house; have fact_Report_3 := T.na_Report_side; have fact_Report_4 := T.na_Report_fills; have fact_Report_5 := T.na_Report_removed; have fact_Report_6 := T.na_Report_resting
    have hob := B.at_.ob
    unfold bookO at hob
    unfold repO at hr2
    have hlo : ([("last", optV last), ("_next_number", V.int next), ("_sides", .ref sd), ("_stops", .ref st)] : List (Str × V)).lookup ("orders" : Str) = none := rfl
    have hrpS := SqL.of (K := K) hrp
    have hpS := SqT.of (K := K) hp
    have a0 : atI [V.ref r] 0 = some (.ref r) := rfl
    walk_at "st"
    refine iteDN (fun h => (h rfl).elim) (fun _ => ?_)
    have c0 : atI [V.ref fl', V.ref rm', V.int rest] 0 = some (.ref fl') := rfl
    have c1 : atI [V.ref fl', V.ref rm', V.int rest] 1 = some (.ref rm') := rfl
    have c2 : atI [V.ref fl', V.ref rm', V.int rest] 2 = some (.int rest) := rfl
    have hGS := SqL.of (K := K) hG
    have hGS' := SqL.of (K := K) hG'
    walk_at "st"
    refine neL layD_F.list (by decide) (a := fills) (b := fills) (fun f hf => ⟨trivial, hok f hf, trivial, trivial⟩) (fun f hf => ⟨trivial, hok f hf, trivial, trivial⟩) (hT.dp fun f p hp => dpFill f p hp) (hT'.dp fun f p hp => dpFill f p hp) ?_
    rw [decide_eq_true rfl]
    walk_at "st"
    refine neD_ints hGS hGS' ?_
    rw [decide_eq_true rfl]
    walk_at "st"
    refine iteDN (fun h => (h rfl).elim) (fun _ => ?_)
    have hBb : BookSideAt T.c_Order T.c_BookSide T.c_Book H x dx sd st last next "buy" b1 d1 l1 es1 := ⟨B.at_.ob, sides_buy B.at_.sd, B.at_.s1⟩
    walk_at "st"
    refine ⟨last, next, es1, "buy", rfl, hBb, fun D1 H1 t1 s1 nD1 hD1 ht1 hr1 => ?_⟩
    walk_at "st"
    refine ⟨(), D, L, "buy", rfl, hL.same s1, hlaw, .inl rfl, hlen, fun D2 H2 t2 s2 nD2 hD2 ht2 hr2 => ?_⟩
    have hokL : ∀ s, ∀ e, e ∈ BL s L → PyData.strOk e.2.2.house = true := fun s e he => (hlaw.good e (BL_mem he).1).ok
    walk_at "st"
    refine rows_eq (es := es1) (ords_ok he1 (hokL _)) (s2 _ _ hD1) ht1 (fun t ht => s2 _ _ (hr1 t ht)) hD2 (ht2.trans (ords_rows he1).symm) hr2 ?_
    have s02 := s1.trans s2
    have B2 := B.same s02
    have hob2 := s02 _ _ hob
    have hBs : BookSideAt T.c_Order T.c_BookSide T.c_Book H2 x dx sd st last next "sell" b2 d2 l2 es2 := ⟨B2.at_.ob, sides_sell B2.at_.sd, B2.at_.s2⟩
    walk_at "st"
    refine ⟨last, next, es2, "sell", rfl, hBs, fun D3 H3 t3 s3 nD3 hD3 ht3 hr3 => ?_⟩
    walk_at "st"
    refine ⟨(), D, L, "sell", rfl, hL.same (s02.trans s3), hlaw, .inr rfl, hlen, fun D4 H4 t4 s4 nD4 hD4 ht4 hr4 => ?_⟩
    walk_at "st"
    refine rows_eq (es := es2) (ords_ok he2 (hokL _)) (s4 _ _ hD3) ht3 (fun t ht => s4 _ _ (hr3 t ht)) hD4 (ht4.trans (ords_rows he2).symm) hr4 ?_
    exact q H4 (s02.trans (s3.trans s4))

theorem sub_ords {kd : Str} {t : Ord} {o dxo o' dxo' : Addr} {last : Option Int} {oth own oth' own' : List Ent} (h1 : ordsE oth = ordsE oth') (h2 : ordsE own = ordsE own') :
    ordsE (subF kd t o dxo last oth own).oth = ordsE (subF kd t o' dxo' last oth' own').oth ∧ ordsE (subF kd t o dxo last oth own).own = ordsE (subF kd t o' dxo' last oth' own').own ∧
    (subF kd t o dxo last oth own).fills = (subF kd t o' dxo' last oth' own').fills ∧ (subF kd t o dxo last oth own).gone = (subF kd t o' dxo' last oth' own').gone ∧ (subF kd t o dxo last oth own).rest = (subF kd t o' dxo' last oth' own').rest := by
  have S := sim_end (t := t) (last := last) h1
  have hh : heldM kd t oth = heldM kd t oth' := by unfold heldM; rw [avail_ords h1]
  have hr : restsM kd (endM t last oth) = restsM kd (endM t last oth') := by unfold restsM; rw [S.left]
  unfold subF
  rw [hh]
  split
  · exact ⟨h1, h2, rfl, rfl, rfl⟩
  · rw [hr]
    refine ⟨S.es, ?_, S.fills, S.gone, ?_⟩
    · show ordsE (if _ then _ else own) = ordsE (if _ then _ else own')
      split
      · rw [place_ords h2]
        exact ins_ords h2 (by rw [S.left])
      · exact h2
    · show (if _ then _ else (0 : Int)) = if _ then _ else 0
      rw [S.left]
theorem sub_fills_ok {kd : Str} {t : Ord} {o dxo : Addr} {last : Option Int} {oth own : List Ent} (g : ∀ e, e ∈ oth → PyData.strOk e.2.2.house = true) : ∀ f, f ∈ (subF kd t o dxo last oth own).fills → PyData.strOk f.2.1 = true := by
  unfold subF
  split
  · exact fun f hf => by cases hf
  · exact end_fills_ok g
structure SimB (CO CB CK : Addr) (H : Hp) (x dx sd st b1 d1 l1 b2 d2 l2 : Addr) (last : Option Int) (next : Int) (es1 es2 : List Ent) (D : Addr) (L : List Ent) : Prop where
  B : BookOk CO CB CK H x dx sd st b1 d1 l1 b2 d2 l2 last next es1 es2
  A : LoAt H D L
  W : LawL L
  e1 : ordsE es1 = ordsE (BL "buy" L)
  e2 : ordsE es2 = ordsE (BL "sell" L)
  nD : D ≠ l1 ∧ D ≠ l2 ∧ D ≠ st
  nR : ∀ e, e ∈ L → e.1 ≠ l1 ∧ e.1 ≠ l2 ∧ e.1 ≠ st
  num : ∀ e, e ∈ L → e.2.2.number < next
  prc : ∀ e, e ∈ L → ∀ p, e.2.2.price = some p → 1 ≤ p ∧ p ≤ 1000000
theorem FrB.lst {CO CB CK : Addr} {H H' : Hp} {x dx sd st b1 d1 l1 b2 d2 l2 : Addr} {last : Option Int} {next : Int} {es1 es2 : List Ent} (B : BookOk CO CB CK H x dx sd st b1 d1 l1 b2 d2 l2 last next es1 es2) (h : FrB H H' es1 es2 l1 l2 x) {C : Addr} {ys : List V} (c1 : C ≠ l1) (c2 : C ≠ l2) (e : H C = some (.lst ys)) : H' C = some (.lst ys) := by
  refine h C _ (fun y => ?_) (fun y => ?_) c1 c2 (fun z => ?_) e
  · obtain ⟨u, hu, ez⟩ := List.mem_map.mp y
    have := B.at_.s1.en u hu
    rw [ez, e] at this
    unfold ordO at this
    cases this
  · obtain ⟨u, hu, ez⟩ := List.mem_map.mp y
    have := B.at_.s2.en u hu
    rw [ez, e] at this
    unfold ordO at this
    cases this
  · have := B.at_.ob
    rw [← z, e] at this
    unfold bookO at this
    cases this
theorem SimB.lo {CO CB CK : Addr} {H H' : Hp} {x dx sd st b1 d1 l1 b2 d2 l2 D : Addr} {last : Option Int} {next : Int} {es1 es2 L : List Ent} (S : SimB CO CB CK H x dx sd st b1 d1 l1 b2 d2 l2 last next es1 es2 D L) (h : FrB H H' es1 es2 l1 l2 x) : LoAt H' D L :=
  ⟨h.lst S.B S.nD.1 S.nD.2.1 S.A.li, fun e he => h.lst S.B (S.nR e he).1 (S.nR e he).2.1 (S.A.row e he), S.A.nd, S.A.out⟩
theorem BookOk.move {CO CB CK : Addr} {H H' : Hp} {x dx sd st b1 d1 l1 b2 d2 l2 D : Addr} {last : Option Int} {next : Int} {es1 es2 L : List Ent} (B : BookOk CO CB CK H x dx sd st b1 d1 l1 b2 d2 l2 last next es1 es2) (A : LoAt H D L)
    (nD : D ≠ l1 ∧ D ≠ l2 ∧ D ≠ st) (nR : ∀ e, e ∈ L → e.1 ≠ l1 ∧ e.1 ≠ l2 ∧ e.1 ≠ st) (h : ∀ z v, z ≠ D → z ∉ L.map (·.1) → H z = some v → H' z = some v) : BookOk CO CB CK H' x dx sd st b1 d1 l1 b2 d2 l2 last next es1 es2 := by
  have k : ∀ z v, H z = some v → (∀ ys, v ≠ .lst ys) → H' z = some v := fun z v hz hv => by
    refine h z v (fun e => ?_) (fun e => ?_) hz
    · rw [e, A.li] at hz
      exact hv _ (Option.some.inj hz).symm
    · obtain ⟨u, hu, eu⟩ := List.mem_map.mp e
      rw [← eu, A.row u hu] at hz
      exact hv _ (Option.some.inj hz).symm
  have kl : ∀ z v, z ≠ D → (∀ e, e ∈ L → e.1 ≠ z) → H z = some v → H' z = some v := fun z v h1 h2 hz => h z v h1 (fun e => by
    obtain ⟨u, hu, eu⟩ := List.mem_map.mp e
    exact h2 u hu eu) hz
  have ks : ∀ {b d l : Addr} {es : List Ent}, l ≠ D → (∀ e, e ∈ L → e.1 ≠ l) → SideAt CO CB H b d l es → SideAt CO CB H' b d l es := fun h1 h2 S =>
    ⟨k _ _ S.ob (fun ys e => by cases e), kl _ _ h1 h2 S.li, fun y hy => k _ _ (S.en y hy) (fun ys e => by unfold ordO at e; cases e), S.nd, S.sm⟩
  exact ⟨⟨k _ _ B.at_.ob (fun ys e => by unfold bookO at e; cases e), k _ _ B.at_.sd (fun ys e => by unfold sidesO at e; cases e), kl _ _ nD.2.2.symm (fun e he => (nR e he).2.2) B.at_.st,
    ks nD.1.symm (fun e he => (nR e he).1) B.at_.s1, ks nD.2.1.symm (fun e he => (nR e he).2.1) B.at_.s2⟩, B.r1, B.r2, B.dj, B.nll, B.nst⟩

def KeepC (H H' : Hp) (l1 l2 D : Addr) (L L' : List Ent) : Prop := ∀ C cs, H C = some (.lst cs) → C ≠ l1 → C ≠ l2 → C ≠ D → C ∉ L.map (·.1) → H' C = some (.lst cs) ∧ C ∉ L'.map (·.1)
def sp_law_submit (K : PySem.W.Frag) (CO CB CK CR : Addr) : Sp := fun vs H Q _ => ∃ (_ : Unit) (x dx sd st b1 d1 l1 b2 d2 l2 D : Addr) (last : Option Int) (next : Int) (es1 es2 L : List Ent) (cell : Int), vs = [.ref x, .ref D, .int cell, .int next] ∧
  SimB CO CB CK H x dx sd st b1 d1 l1 b2 d2 l2 last next es1 es2 D L ∧ L.length ≤ 200 ∧
  ∀ (H' : Hp) (es1' es2' L' : List Ent) (last' : Option Int), SimB CO CB CK H' x dx sd st b1 d1 l1 b2 d2 l2 last' (next + 1) es1' es2' D L' → L'.length ≤ L.length + 1 → KeepC H H' l1 l2 D L L' → Q (.bl true) H'
theorem ords_len {a b : List Ent} (h : ordsE a = ordsE b) : a.length = b.length := by
  have := congrArg List.length h
  unfold ordsE at this
  rwa [List.length_map, List.length_map] at this
theorem BL_len (s : Str) (L : List Ent) : (BL s L).length ≤ L.length := by
  rw [(BL_perm s L).length_eq]
  exact List.length_filter_le _ _
set_option maxHeartbeats 0 in
theorem ok_law_submit (T : Txt K mg) : FnOk P w K mg base CX0 9 T.f_law_submit T.d_law_submit ["book", "orders", "cell", "number"] (sp_law_submit K T.c_Order T.c_BookSide T.c_Book T.c_Report) := by
  refine T.F_law_submit.ok sc_law_submit (fun vs H Q E h => ?_) (fun cdv A outer s H vs Q E hr h => ?_)
  · obtain ⟨_, x, dx, sd, st, b1, d1, l1, b2, d2, l2, D, last, next, es1, es2, L, cell, rfl, _⟩ := h
    rfl
  · obtain ⟨_, x, dx, sd, st, b1, d1, l1, b2, d2, l2, D, last, next, es1, es2, L, cell, rfl, S, hlen, q⟩ := h
    have G_law_house : FnOk P w K mg base CX0 1 T.f_law_house T.d_law_house ["cell"] (sp_law_house K) := ok_law_house T
    have G_Book_submit : FnOk P w K mg base CX0 8 T.f_Book_submit T.d_Book_submit ["self", "house", "side", "price", "quantity", "kind", "shown"] (sp_Book_submit K T.c_Order T.c_BookSide T.c_Book T.c_Report) := ok_Book_submit T
    have G_law_enter : FnOk P w K mg base CX0 4 T.f_law_enter T.d_law_enter ["orders", "number", "house", "side", "limit", "quantity", "kind", "shown"] (sp_law_enter K) := ok_law_enter T
    have G_law_same : FnOk P w K mg base CX0 4 T.f_law_same T.d_law_same ["book", "orders", "reports", "due", "number"] (sp_law_same K T.c_Order T.c_BookSide T.c_Book T.c_Report) := ok_law_same T
    refine ⟨_, (pss_cons (ps_set (i := 4) sc_law_submit.nd rfl (Or.inl rfl) (pe_call G_law_house (hr.mono (by decide)) (by rfl) T.m_law_house T.F_law_house.kp T.b_law_house .nil pass0 (pa_cons (pv 2) pa_nil)))
    (pss_cons (ps_set (i := 5) sc_law_submit.nd rfl (Or.inl rfl) (pe_ix ix_list (pe_lst (pa_cons pe_str (pa_cons pe_str pa_nil))) (pe_op op_mod (pe_op op_fdiv (pe_callTy call_int_i (by rfl) T.z_int (by decide +kernel) (pa_cons (pv 2) pa_nil)) pe_int) pe_int) (fun _ _ => rfl)))
    (pss_cons (ps_set (i := 6) sc_law_submit.nd rfl (Or.inl rfl) (pe_op op_add pe_int (pe_op op_mod (pe_op op_fdiv (pe_callTy call_int_i (by rfl) T.z_int (by decide +kernel) (pa_cons (pv 2) pa_nil)) pe_int) pe_int)))
    (pss_cons (ps_set (i := 7) sc_law_submit.nd rfl (Or.inl rfl) (pe_op op_add pe_int (pe_op op_mod (pe_op op_fdiv (pe_callTy call_int_i (by rfl) T.z_int (by decide +kernel) (pa_cons (pv 2) pa_nil)) pe_int) pe_int)))
    (pss_cons (ps_set (i := 8) sc_law_submit.nd rfl (Or.inl rfl) (pe_ix ix_list (pe_lst (pa_cons pe_str (pa_cons pe_str (pa_cons pe_str (pa_cons pe_str (pa_cons pe_str pa_nil)))))) (pe_op op_mod (pe_op op_fdiv (pe_callTy call_int_i (by rfl) T.z_int (by decide +kernel) (pa_cons (pv 2) pa_nil)) pe_int) pe_int) (fun _ _ => rfl)))
    (pss_cons (ps_set (i := 9) sc_law_submit.nd rfl (Or.inl rfl) pe_int)
    (C8.pss_cut (ps_if (pt_cmpR op_eq (pv 8) pe_str (nomark _))
      (pss_one (ps_set (i := 9) sc_law_submit.nd rfl (Or.inl rfl) (pe_op op_mod (pe_op op_fdiv (pe_callTy call_int_i (by rfl) T.z_int (by decide +kernel) (pa_cons (pv 2) pa_nil)) pe_int) (pe_op op_add (pv 7) pe_int))))
      (pss_one (ps_if (pt_cmpR op_eq (pe_op op_mod (pe_op op_fdiv (pe_callTy call_int_i (by rfl) T.z_int (by decide +kernel) (pa_cons (pv 2) pa_nil)) pe_int) pe_int) pe_int (nomark _))
        (pss_one (ps_set (i := 6) sc_law_submit.nd rfl (Or.inl rfl) pe_non))
        pss_nil)))
    (pss_cons (ps_set (i := 10) sc_law_submit.nd rfl (Or.inl rfl) (pe_mk (pv 0) T.cl_Book T.mt_Book_submit G_Book_submit hr T.kb_Book_submit_kind_shown.choose_spec (fun _ => pass0at) (pa_cons (pv 4) (pa_cons (pv 5) (pa_cons (pv 6) (pa_cons (pv 7) pa_nil)))) (pk_cons (pv 8) (pk_cons (pv 9) pk_nil))))
    (pss_cons (ps_set (i := 11) sc_law_submit.nd rfl (Or.inl rfl) (pe_call G_law_enter (hr.mono (by decide)) (by rfl) T.m_law_enter T.F_law_enter.kp T.b_law_enter .nil pass0 (pa_cons (pv 1) (pa_cons (pv 3) (pa_cons (pv 4) (pa_cons (pv 5) (pa_cons (pv 6) (pa_cons (pv 7) (pa_cons (pv 8) (pa_cons (pv 9) pa_nil))))))))))
    (pss_one (ps_ret (pe_call G_law_same (hr.mono (by decide)) (by rfl) T.m_law_same T.F_law_same.kp T.b_law_same .nil pass0 (pa_cons (pv 0) (pa_cons (pv 1) (pa_cons (pv 10) (pa_cons (pv 11) (pa_cons (pv 3) pa_nil))))))))))))))))), ?_⟩
    have fact_BookSide_0 := T.cl_BookSide; have fact_BookSide_1 := T.na_BookSide__orders; have fact_Book_0 := T.cl_Book; have fact_Book_1 := T.na_Book_last; have fact_Book_2 := T.na_Book__next_number; have fact_Book_3 := T.na_Book__sides; have fact_Book_4 := T.na_Book__stops; have fact_Order_0 := T.cl_Order; have fact_Order_1 := T.na_Order_number; have fact_Order_2 := T.na_Order_house; have fact_Order_3 := T.na_Order_side; have fact_Order_4 := T.na_Order_price; have fact_Order_5 := T.na_Order_shown; have fact_Order_6 := T.na_Order_left; have fact_Order_7 := T.na_Order_visible; have fact_Report_0 := T.cl_Report; have fact_Report_1 := T.na_Report_number; have fact_Report_2 := T.na_Report_house; have fact_Report_3 := T.na_Report_side; have fact_Report_4 := T.na_Report_fills; have fact_Report_5 := T.na_Report_removed; have fact_Report_6 := T.na_Report_resting
    have hob := S.B.at_.ob
    unfold bookO at hob
    have hq1 : 0 < 1 + cell / 56 % 12 + 1 := by omega
    have hsa : 0 ≤ cell / 3360 % (1 + cell / 56 % 12 + 1) := Int.emod_nonneg _ (by omega)
    have hsb : cell / 3360 % (1 + cell / 56 % 12 + 1) ≤ 1 + cell / 56 % 12 := by have := Int.emod_lt_of_pos (cell / 3360) (show 0 < 1 + cell / 56 % 12 + 1 by omega); omega
    obtain ⟨kd, hkd, hka⟩ : ∃ kd : Str, (kd = "rest" ∨ kd = "now" ∨ kd = "all") ∧ atI [V.str "rest", V.str "rest", V.str "rest", V.str "now", V.str "all"] (cell / 672 % 5) = some (.str kd) := by
      rcases (show cell / 672 % 5 = 0 ∨ cell / 672 % 5 = 1 ∨ cell / 672 % 5 = 2 ∨ cell / 672 % 5 = 3 ∨ cell / 672 % 5 = 4 by omega) with e | e | e | e | e
      · rw [e]; exact ⟨"rest", .inl rfl, rfl⟩
      · rw [e]; exact ⟨"rest", .inl rfl, rfl⟩
      · rw [e]; exact ⟨"rest", .inl rfl, rfl⟩
      · rw [e]; exact ⟨"now", .inr (.inl rfl), rfl⟩
      · rw [e]; exact ⟨"all", .inr (.inr rfl), rfl⟩
    obtain ⟨si, hsi, hia⟩ : ∃ si : Str, (si = "buy" ∨ si = "sell") ∧ atI [V.str "buy", V.str "sell"] (cell / 4 % 2) = some (.str si) := by
      rcases (show cell / 4 % 2 = 0 ∨ cell / 4 % 2 = 1 by omega) with e | e
      · rw [e]
        exact ⟨"buy", .inl rfl, rfl⟩
      · rw [e]
        exact ⟨"sell", .inr rfl, rfl⟩
    walk_at "st"
    intro H1 s1
    have hne := houseF_ne cell
    have hsok := houseF_sok cell
    generalize houseF cell = ho at hne hsok
    walk_at "st"
    intro p2 np2
    generalize hH2 : upd H1 p2 _ = H2
    have s2 : Same H1 H2 := hH2 ▸ same_upd np2
    have hp2S := SqL.of (K := K) ((congrFun hH2 p2).symm.trans upd_same)
    walk_at "st"
    intro p3 np3
    generalize hH3 : upd H2 p3 _ = H3
    have s3 : Same H2 H3 := hH3 ▸ same_upd np3
    have hp3S := SqL.of (K := K) ((congrFun hH3 p3).symm.trans upd_same)
    walk_at "st"
    have s03 : Same H H3 := (s1.trans s2).trans s3
    refine ⟨fun σ' H4 => Same H H4 ∧ ∃ (lim : Option Int) (sh : Int), σ' = [some (.ref x), some (.ref D), some (.int cell), some (.int next), some (.str ho), some (.str si), some (optV lim), some (.int (1 + cell / 56 % 12)), some (.str kd), some (.int sh), none, none] ∧ (∀ p, lim = some p → 97 ≤ p ∧ p ≤ 103) ∧ (lim = none → ¬ V.str kd = V.str "rest") ∧ 0 ≤ sh ∧ sh ≤ 1 + cell / 56 % 12 ∧ (0 < sh → kd = "rest"), ?_, ?_⟩
    · walk_at "st"
      refine iteB (fun h => ?_) (fun h => ?_)
      · have hkr : kd = "rest" := V.str.inj (dec_t h)
        walk_at "st"
        exact ⟨some (97 + cell / 8 % 7), _, rfl, fun p hp => by cases hp; omega, fun z => (by cases z), hsa, hsb, fun _ => hkr⟩
      · walk_at "st"
        refine iteB (fun h2 => ?_) (fun h2 => ?_)
        · walk_at "st"
          exact ⟨none, 0, rfl, fun p hp => (by cases hp), fun _ => dec_f h, Int.le_refl _, by omega, fun z => absurd z (by decide)⟩
        · exact ⟨s03, some (97 + cell / 8 % 7), 0, rfl, fun p hp => by cases hp; omega, fun z => (by cases z), Int.le_refl _, by omega, fun z => absurd z (by decide)⟩
    · rintro σ' H4 ⟨s4, lim, sh, rfl, hlim, hln, hs0, hs1, hsr⟩
      have S4 := S.B.same s4
      have hob4 := s4 _ _ hob
      have hlk : ([("last", optV last), ("_next_number", V.int next), ("_sides", .ref sd), ("_stops", .ref st)] : List (Str × V)).lookup ("submit" : Str) = none := rfl
      have hG : GoodOrd ho si lim (1 + cell / 56 % 12) kd sh := by
        refine ⟨hne, ?_, ?_, fun p h => ?_, hln, by omega, by omega, fun h => congrArg V.str (hsr h)⟩
        · rcases hsi with e | e <;> rw [e] <;> simp
        · rcases hkd with e | e | e <;> rw [e] <;> simp
        · have := hlim p h
          omega
      have hl1 := Nat.le_trans (Nat.le_of_eq (ords_len S.e1)) (BL_len _ _)
      have hl2 := Nat.le_trans (Nat.le_of_eq (ords_len S.e2)) (BL_len _ _)
      walk_at "st"
      refine ⟨last, next, es1, es2, ho, si, lim, 1 + cell / 56 % 12, kd, sh, rfl, S4, hG, by omega, fun R p r dr fl rm o dxo fs H7 hR ho7 nfl nrm hp7 hr7 hfl7 hrm7 B7 hfr7 => ?_⟩
      have S4b : SimB T.c_Order T.c_BookSide T.c_Book H4 x dx sd st b1 d1 l1 b2 d2 l2 last next es1 es2 D L := ⟨S4, S.A.same s4, S.W, S.e1, S.e2, S.nD, S.nR, S.num, S.prc⟩
      have A7 := S4b.lo hfr7
      have hp7S := SqL.of (K := K) hp7
      have hnumL : next ∉ L.map fun e => e.2.2.number := fun z => by
        obtain ⟨y, hy, k⟩ := List.mem_map.mp z
        have := S.num y hy
        omega
      walk_at "st"
      refine ⟨(), D, L, ⟨next, ho, si, lim, sh, 1 + cell / 56 % 12, 0⟩, kd, last, rfl, A7, S.W, hsi, by omega, by show 1 ≤ 1 + cell / 56 % 12; omega, by show 1 + cell / 56 % 12 ≤ 400; omega, hs0, ?_, hsok, hnumL, ?_⟩
      · intro hk
        cases lim with
        | none => exact absurd hk (hln rfl)
        | some p => exact ⟨p, rfl⟩
      intro R' pt fl' rm' fs' o' L' H8 hR' hpt hT' hG' hLo' hlaw' hoth hown hlen' hsub nfl' nrm' npt hfr
      have hso := sub_ords (kd := kd) (t := ⟨next, ho, si, lim, sh, 1 + cell / 56 % 12, 0⟩) (o := o) (dxo := dxo) (o' := o') (dxo' := 0) (last := last) (oth := othE si es1 es2) (own := ownE si es1 es2) (oth' := BL (otherS si) L) (own' := BL si L)
        (by rcases hsi with e | e
            · rw [e]; exact S.e2
            · rw [e]; exact S.e1)
        (by rcases hsi with e | e
            · rw [e]; exact S.e1
            · rw [e]; exact S.e2)
      rw [← hR, ← hR'] at hso
      have hfok : ∀ f, f ∈ R'.fills → PyData.strOk f.2.1 = true := by
        rw [hR']
        exact sub_fills_ok fun e he => (S.W.good e (BL_mem he).1).ok
      have nin : ∀ z v, H7 z = some v → (∀ ys, v ≠ .lst ys) → z ≠ D ∧ z ∉ L.map (·.1) := fun z v hz hv => by
        refine ⟨fun e => ?_, fun e => ?_⟩
        · rw [e, A7.li] at hz
          exact hv _ (Option.some.inj hz).symm
        · obtain ⟨u, hu, eu⟩ := List.mem_map.mp e
          rw [← eu, A7.row u hu] at hz
          exact hv _ (Option.some.inj hz).symm
      have ninF : ∀ z, H4 z = none → z ≠ D ∧ z ∉ L.map (·.1) := fun z hz => by
        refine ⟨fun e => ?_, fun e => ?_⟩
        · rw [e, S4b.A.li] at hz
          cases hz
        · obtain ⟨u, hu, eu⟩ := List.mem_map.mp e
          rw [← eu, S4b.A.row u hu] at hz
          cases hz
      have hr7n : ∀ ys, repO T.c_Report dr next ho si fl rm R.rest ≠ .lst ys := fun ys e => by unfold repO at e; cases e
      have hr8 := hfr _ _ (nin _ _ hr7 hr7n).1 (nin _ _ hr7 hr7n).2 hr7
      have hp8 : H8 p = some (.lst [.ref r]) := by
        refine hfr _ _ (fun e => ?_) (fun e => ?_) hp7
        · have h1 := hp7
          rw [e, A7.li] at h1
          have h2 := HO.lst.inj (Option.some.inj h1)
          have h3 : V.ref r ∈ refs L := by rw [h2]; exact List.mem_cons_self
          obtain ⟨u, hu, eu⟩ := List.mem_map.mp h3
          have h4 := A7.row u hu
          rw [V.ref.inj eu, hr7] at h4
          exact hr7n _ (Option.some.inj h4)
        · obtain ⟨u, hu, eu⟩ := List.mem_map.mp e
          have h1 := hp7
          rw [← eu, A7.row u hu] at h1
          have h2 := congrArg List.length (HO.lst.inj (Option.some.inj h1))
          exact absurd h2 (show ¬ 7 = 1 by decide)
      have hT8 : Tups encFill H8 fl fs R.fills := ⟨hfr _ _ (ninF _ nfl).1 (ninF _ nfl).2 hfl7.lst, hfl7.len, fun i q f h1 h2 => by
        have h3 := hfl7.row i q f h1 h2
        have h4 : ∀ ys, HO.tup (encFill f) ≠ .lst ys := fun ys e => by cases e
        exact hfr _ _ (nin _ _ h3 h4).1 (nin _ _ h3 h4).2 h3⟩
      have hG8 := hfr _ _ (ninF _ nrm).1 (ninF _ nrm).2 hrm7
      have B8 := B7.move A7 S.nD S.nR hfr
      have nR' : ∀ e, e ∈ L' → e.1 ≠ l1 ∧ e.1 ≠ l2 ∧ e.1 ≠ st := fun e he => by
        rcases hsub e he with ⟨y, hy, k, _⟩ | ⟨_, k, _⟩
        · rw [← k]; exact S.nR y hy
        · exact ⟨fun z => (by rw [z, B7.at_.s1.li] at k; cases k), fun z => (by rw [z, B7.at_.s2.li] at k; cases k), fun z => (by rw [z, B7.at_.st] at k; cases k)⟩
      have num' : ∀ e, e ∈ L' → e.2.2.number < next + 1 := fun e he => by
        rcases hsub e he with ⟨y, hy, _, k, _⟩ | ⟨k, _⟩
        · have := S.num y hy
          omega
        · rw [k]; show next < next + 1; omega
      have prc' : ∀ e, e ∈ L' → ∀ p, e.2.2.price = some p → 1 ≤ p ∧ p ≤ 1000000 := fun e he p hp => by
        rcases hsub e he with ⟨y, hy, _, _, k⟩ | ⟨_, _, k⟩
        · exact S.prc y hy p (k.trans hp)
        · have := hlim p (k.symm.trans hp)
          omega
      have o1 : ordsE (if buyS si = true then R.own else R.oth) = ordsE (BL "buy" L') := by
        rcases hsi with e | e
        · rw [e, if_pos buyS_buy, hso.2.1, hown, e]
        · rw [e, if_neg (by rw [buyS_sell]; exact Bool.false_ne_true), hso.1, hoth, show otherS (Ord.side ⟨next, ho, si, lim, sh, 1 + cell / 56 % 12, 0⟩) = "buy" by (show otherS si = _; rw [e]; exact if_neg (by rw [buyS_sell]; exact Bool.false_ne_true))]
      have o2 : ordsE (if buyS si = true then R.oth else R.own) = ordsE (BL "sell" L') := by
        rcases hsi with e | e
        · rw [e, if_pos buyS_buy, hso.1, hoth, show otherS (Ord.side ⟨next, ho, si, lim, sh, 1 + cell / 56 % 12, 0⟩) = "sell" by (show otherS si = _; rw [e]; exact if_pos buyS_buy)]
        · rw [e, if_neg (by rw [buyS_sell]; exact Bool.false_ne_true), hso.2.1, hown, e]
      have S8 : SimB T.c_Order T.c_BookSide T.c_Book H8 x dx sd st b1 d1 l1 b2 d2 l2 R.last (next + 1) (if buyS si = true then R.own else R.oth) (if buyS si = true then R.oth else R.own) D L' := ⟨B8, hLo', hlaw', o1, o2, S.nD, nR', num', prc'⟩
      rw [hso.2.2.2.2] at hr8
      rw [hso.2.2.1] at hT8
      rw [hso.2.2.2.1] at hG8
      walk_at "st"
      refine ⟨(), x, dx, sd, st, b1, d1, l1, b2, d2, l2, D, p, r, dr, fl, rm, pt, fl', rm', R.last, next + 1, next, R'.rest, ho, si, _, _, L', R'.fills, R'.gone, fs, fs', rfl, B8, hLo', hlaw', by omega, hp8, hr8, hT8, hG8, hpt, hT', hG', hfok, o1, o2, fun H9 s9 => ?_⟩
      refine q H9 _ _ L' R.last ⟨B8.same s9, hLo'.same s9, hlaw', o1, o2, S.nD, nR', num', prc'⟩ hlen' fun C cs hC c1 c2 c3 c4 => ?_
      have hC4 := s4 _ _ hC
      have hC7 := hfr7.lst S4 c1 c2 hC4
      refine ⟨s9 _ _ (hfr _ _ c3 c4 hC7), fun z => ?_⟩
      obtain ⟨u, hu, eu⟩ := List.mem_map.mp z
      rcases hsub u hu with ⟨y, hy, k, _⟩ | ⟨_, k, _⟩
      · exact c4 (List.mem_map.mpr ⟨y, hy, k.trans eu⟩)
      · rw [eu, hC7] at k
        cases k

theorem nodup_num {L : List Ent} (h : (L.map fun e => e.2.2.number).Nodup) {x y : Ent} (hx : x ∈ L) (hy : y ∈ L) (z : x.2.2.number = y.2.2.number) : x = y := by
  obtain ⟨i, hi, ei⟩ := List.getElem_of_mem hx
  obtain ⟨j, hj, ej⟩ := List.getElem_of_mem hy
  have h1 := List.pairwise_iff_getElem.mp h
  have n1 : ∀ k (hk : k < L.length), (L.map fun e => e.2.2.number)[k]'(by rw [List.length_map]; exact hk) = L[k].2.2.number := fun k hk => by rw [List.getElem_map]
  rcases Nat.lt_trichotomy i j with c | c | c
  · have := h1 i j (by rw [List.length_map]; exact hi) (by rw [List.length_map]; exact hj) c
    rw [n1 i hi, n1 j hj, ei, ej] at this
    exact absurd z this
  · subst c
    rw [← ei, ← ej]
  · have := h1 j i (by rw [List.length_map]; exact hj) (by rw [List.length_map]; exact hi) c
    rw [n1 i hi, n1 j hj, ei, ej] at this
    exact absurd z.symm this
def Uniq (es : List Ent) (a : Addr) (n : Int) : Prop := ∀ y, y ∈ es → (y.1 = a ↔ y.2.2.number = n)
theorem drop_ords {es : List Ent} {a : Addr} {n : Int} (h : Uniq es a n) : ordsE (dropE a es) = (ordsE es).filter fun o => decide (o.number ≠ n) := by
  unfold ordsE dropE
  rw [List.filter_map]
  congr 1
  refine List.filter_congr fun y hy => ?_
  have := h y hy
  show decide (y.1 ≠ a) = decide (y.2.2.number ≠ n)
  by_cases z : y.1 = a
  · rw [decide_eq_false (fun k => k z), decide_eq_false (fun k => k (this.mp z))]
  · have h2 : y.2.2.number ≠ n := fun k => z (this.mpr k)
    rw [decide_eq_true (show y.1 ≠ a from z), decide_eq_true h2]
theorem set_ords {es : List Ent} {a : Addr} {n : Int} {f : Ord → Ord} (h : Uniq es a n) : ordsE (setE a f es) = (ordsE es).map fun o => if o.number = n then f o else o := by
  unfold ordsE setE
  rw [List.map_map, List.map_map]
  refine List.map_congr_left fun y hy => ?_
  have := h y hy
  show (if y.1 = a then _ else y).2.2 = if y.2.2.number = n then f y.2.2 else y.2.2
  by_cases z : y.1 = a
  · rw [if_pos z, if_pos (this.mp z)]
  · rw [if_neg z, if_neg fun k => z (this.mpr k)]
theorem uniq_L {L : List Ent} (h : LawL L) {e : Ent} (he : e ∈ L) : Uniq L e.1 e.2.2.number := fun y hy =>
  ⟨fun z => by rw [nodup_addr h.nda hy he z], fun z => by rw [nodup_num h.ndn hy he z]⟩
theorem Uniq.sub {es es' : List Ent} {a : Addr} {n : Int} (h : Uniq es a n) (s : ∀ y, y ∈ es' → y ∈ es) : Uniq es' a n := fun y hy => h y (s y hy)
theorem BL_dropE {s : Str} {L : List Ent} (h : LawL L) (a : Addr) : BL s (dropE a L) = dropE a (BL s L) := by
  unfold dropE
  exact BL_filter h.good
theorem ords_mem {a b : List Ent} (h : ordsE a = ordsE b) {y : Ent} (hy : y ∈ a) : ∃ u, u ∈ b ∧ u.2.2 = y.2.2 := by
  have h1 : y.2.2 ∈ ordsE a := List.mem_map.mpr ⟨y, hy, rfl⟩
  rw [h] at h1
  exact List.mem_map.mp h1
theorem ords_nums {a : List Ent} {s : Str} {L : List Ent} (h : ordsE a = ordsE (BL s L)) (l : LawL L) : (a.map fun e => e.2.2.number).Nodup := by
  have h1 := congrArg (List.map Ord.number) h
  unfold ordsE at h1
  rw [List.map_map, List.map_map] at h1
  have h2 : (a.map fun e => e.2.2.number) = (BL s L).map fun e => e.2.2.number := h1
  rw [h2]
  exact ((BL_perm s L).map _).nodup_iff.mpr ((List.filter_sublist.map _).nodup l.ndn)
/-- the book's own object for an order of the law's -/
theorem SimB.own {CO CB CK : Addr} {H : Hp} {x dx sd st b1 d1 l1 b2 d2 l2 D : Addr} {last : Option Int} {next : Int} {es1 es2 L : List Ent} (S : SimB CO CB CK H x dx sd st b1 d1 l1 b2 d2 l2 last next es1 es2 D L) {e : Ent} (he : e ∈ L) :
    withNum es1 es2 e.2.2.number ≠ none ∧ ∀ e', withNum es1 es2 e.2.2.number = some e' → e'.2.2 = e.2.2 ∧ Uniq es1 e'.1 e.2.2.number ∧ Uniq es2 e'.1 e.2.2.number := by
  have sm1 : ∀ y, y ∈ es1 → y.2.2.number = e.2.2.number → y.2.2 = e.2.2 := fun y hy z => by
    obtain ⟨u, hu, k⟩ := ords_mem S.e1 hy
    rw [← k, nodup_num S.W.ndn (BL_mem hu).1 he (by rw [k]; exact z)]
  have sm2 : ∀ y, y ∈ es2 → y.2.2.number = e.2.2.number → y.2.2 = e.2.2 := fun y hy z => by
    obtain ⟨u, hu, k⟩ := ords_mem S.e2 hy
    rw [← k, nodup_num S.W.ndn (BL_mem hu).1 he (by rw [k]; exact z)]
  constructor
  · intro hn
    unfold withNum at hn
    have hmem : (∃ y, y ∈ es1 ∧ y.2.2 = e.2.2) ∨ ∃ y, y ∈ es2 ∧ y.2.2 = e.2.2 := by
      have hB : ∀ s, e.2.2.side = s → e ∈ BL s L := fun s hs => (BL_perm s L).mem_iff.mpr (List.mem_filter.mpr ⟨he, decide_eq_true hs⟩)
      rcases (S.W.good e he).side with z | z
      · exact .inl (ords_mem S.e1.symm (hB _ z))
      · exact .inr (ords_mem S.e2.symm (hB _ z))
    cases h1 : es1.find? (fun y => decide (y.2.2.number = e.2.2.number)) with
    | some y => rw [h1] at hn; cases hn
    | none =>
      rw [h1] at hn
      rcases hmem with ⟨y, hy, k⟩ | ⟨y, hy, k⟩
      · exact absurd (decide_eq_true (by rw [k])) (List.find?_eq_none.mp h1 y hy)
      · exact absurd (decide_eq_true (by rw [k])) (List.find?_eq_none.mp hn y hy)
  · intro e' hw
    obtain ⟨w1, w2⟩ := with_mem hw
    have hee : e'.2.2 = e.2.2 := w2.elim (fun z => sm1 e' z w1) fun z => sm2 e' z w1
    refine ⟨hee, fun y hy => ⟨fun z => ?_, fun z => ?_⟩, fun y hy => ⟨fun z => ?_, fun z => ?_⟩⟩
    · rcases w2 with w | w
      · rw [nodup_addr S.B.at_.s1.nd hy w z]; exact w1
      · exact absurd z (S.B.dj y hy e' w)
    · rcases w2 with w | w
      · rw [nodup_num (ords_nums S.e1 S.W) hy w (z.trans w1.symm)]
      · exfalso
        have h1 := S.B.r1.side y hy
        have h2 := S.B.r2.side e' w
        rw [sm1 y hy z, ← hee, h2] at h1
        exact absurd (congrArg buyS h1) (by rw [buyS_buy, buyS_sell]; exact Bool.noConfusion)
    · rcases w2 with w | w
      · exact absurd z.symm (S.B.dj e' w y hy)
      · rw [nodup_addr S.B.at_.s2.nd hy w z]; exact w1
    · rcases w2 with w | w
      · exfalso
        have h1 := S.B.r2.side y hy
        have h2 := S.B.r1.side e' w
        rw [sm2 y hy z, ← hee, h2] at h1
        exact absurd (congrArg buyS h1) (by rw [buyS_buy, buyS_sell]; exact Bool.noConfusion)
      · rw [nodup_num (ords_nums S.e2 S.W) hy w (z.trans w1.symm)]
theorem drop_both {s : Str} {es L : List Ent} {a : Addr} {e : Ent} (h : ordsE es = ordsE (BL s L)) (l : LawL L) (he : e ∈ L) (u : Uniq es a e.2.2.number) : ordsE (dropE a es) = ordsE (BL s (dropE e.1 L)) := by
  rw [drop_ords u, BL_dropE l, drop_ords ((uniq_L l he).sub fun y hy => (BL_mem hy).1), h]

def sp_law_cancel (K : PySem.W.Frag) (CO CB CK CR : Addr) : Sp := fun vs H Q _ => ∃ (_ : Unit) (x dx sd st b1 d1 l1 b2 d2 l2 D : Addr) (last : Option Int) (next : Int) (es1 es2 L : List Ent) (cell : Int), vs = [.ref x, .ref D, .int cell] ∧
  SimB CO CB CK H x dx sd st b1 d1 l1 b2 d2 l2 last next es1 es2 D L ∧ L.length ≤ 200 ∧ 0 < L.length ∧
  ∀ (H' : Hp) (es1' es2' L' : List Ent), SimB CO CB CK H' x dx sd st b1 d1 l1 b2 d2 l2 last next es1' es2' D L' → L'.length ≤ L.length → KeepC H H' l1 l2 D L L' → Q (.bl true) H'
theorem refs_ix {L : List Ent} {c : Int} (h : 0 < L.length) : ∃ (i : Nat) (e : Ent), L[i]? = some e ∧ atI (refs L) (c % (L.length : Int)) = some (.ref e.1) := by
  have h0 := Int.emod_nonneg c (show (L.length : Int) ≠ 0 by omega)
  have h1 := Int.emod_lt_of_pos c (show (0 : Int) < L.length by omega)
  obtain ⟨n, hn⟩ := Int.eq_ofNat_of_zero_le h0
  have hl : n < L.length := by omega
  refine ⟨n, L[n], List.getElem?_eq_getElem hl, ?_⟩
  rw [hn]
  refine at_of (j := n) rfl ?_
  unfold refs
  rw [List.getElem?_map, List.getElem?_eq_getElem hl]
  rfl
theorem SimB.cut {CO CB CK : Addr} {H H' : Hp} {x dx sd st b1 d1 l1 b2 d2 l2 D : Addr} {last : Option Int} {next : Int} {es1 es2 L : List Ent} (S : SimB CO CB CK H x dx sd st b1 d1 l1 b2 d2 l2 last next es1 es2 D L) {e e' : Ent} (he : e ∈ L) (hw : withNum es1 es2 e.2.2.number = some e')
    (B : BookOk CO CB CK H' x dx sd st b1 d1 l1 b2 d2 l2 last next (dropE e'.1 es1) (dropE e'.1 es2)) (A : LoAt H' D (dropE e.1 L)) : SimB CO CB CK H' x dx sd st b1 d1 l1 b2 d2 l2 last next (dropE e'.1 es1) (dropE e'.1 es2) D (dropE e.1 L) := by
  obtain ⟨_, k⟩ := S.own he
  obtain ⟨_, u1, u2⟩ := k e' hw
  exact ⟨B, A, S.W.drop _, drop_both S.e1 S.W he u1, drop_both S.e2 S.W he u2, S.nD, fun y hy => S.nR y (drop_mem hy).1, fun y hy => S.num y (drop_mem hy).1, fun y hy => S.prc y (drop_mem hy).1⟩
set_option maxHeartbeats 0 in
theorem ok_law_cancel (T : Txt K mg) : FnOk P w K mg base CX0 5 T.f_law_cancel T.d_law_cancel ["book", "orders", "cell"] (sp_law_cancel K T.c_Order T.c_BookSide T.c_Book T.c_Report) := by
  refine T.F_law_cancel.ok sc_law_cancel (fun vs H Q E h => ?_) (fun cdv A outer s H vs Q E hr h => ?_)
  · obtain ⟨_, x, dx, sd, st, b1, d1, l1, b2, d2, l2, D, last, next, es1, es2, L, cell, rfl, _⟩ := h
    rfl
  · obtain ⟨_, x, dx, sd, st, b1, d1, l1, b2, d2, l2, D, last, next, es1, es2, L, cell, rfl, S, hlen, hpos, q⟩ := h
    have G_Book_cancel : FnOk P w K mg base (L2.CX P w) 4 T.f_Book_cancel T.d_Book_cancel ["self", "number", "house"] (sp_Book_cancel K T.c_UnknownOrder T.c_NotOwner T.c_Order T.c_BookSide T.c_Book) := ok_Book_cancel T
    have G_Book_orders : FnOk P w K mg base CX0 2 T.f_Book_orders T.d_Book_orders ["self", "side"] (sp_Book_orders K T.c_Order T.c_BookSide T.c_Book) := ok_Book_orders T
    have G_law_listed : FnOk P w K mg base CX0 3 T.f_law_listed T.d_law_listed ["orders", "side"] (sp_law_listed K) := ok_law_listed T
    refine ⟨_, (pss_cons (ps_set (i := 3) sc_law_cancel.nd rfl (Or.inl rfl) (pe_ix ix_list (pv 1) (pe_op op_mod (pe_callTy call_int_i (by rfl) T.z_int (by decide +kernel) (pa_cons (pv 2) pa_nil)) (pe_callB call_len_seq (by rfl) T.z_len PySem.boot_len (pa_cons (pv 1) pa_nil))) (fun _ _ => rfl)))
    (pss_cons (ps_set (i := 4) sc_law_cancel.nd rfl (Or.inl rfl) (pe_mx (pv 0) T.cl_Book T.mt_Book_cancel G_Book_cancel hr T.b_Book_cancel .nil (fun _ => passLat) (pa_cons (pe_ix ix_list (pv 3) pe_int (fun _ _ => rfl)) (pa_cons (pe_ix ix_list (pv 3) pe_int (fun _ _ => rfl)) pa_nil))))
    (pss_cons (ps_expr (pe_bm PySem.F.plainAttrs_list PySem.F.slot_list_remove PySem.F.type_list_remove (mt_removeD (hu65 hr)) (pv 1) (pa_cons (pv 3) pa_nil)))
    (pss_one (ps_ret (pe_and (pe_cmpR op_eq (pv 4) (pe_ix ix_list (pv 3) pe_int (fun _ _ => rfl)) (nomark _)) (pe_one (pe_cmpR (op_eqD hr.units) (pe_meth (pv 0) T.cl_Book T.mt_Book_orders G_Book_orders (hr.mono (by decide)) T.b_Book_orders .nil pass0 (pa_cons (pe_ix ix_list (pv 3) pe_int (fun _ _ => rfl)) pa_nil)) (pe_call G_law_listed (hr.mono (by decide)) (by rfl) T.m_law_listed T.F_law_listed.kp T.b_law_listed .nil pass0 (pa_cons (pv 1) (pa_cons (pe_ix ix_list (pv 3) pe_int (fun _ _ => rfl)) pa_nil))) (nomark _))))))))), ?_⟩
    have fact_BookSide_0 := T.cl_BookSide; have fact_BookSide_1 := T.na_BookSide__orders; have fact_Book_0 := T.cl_Book; have fact_Book_1 := T.na_Book_last; have fact_Book_2 := T.na_Book__next_number; have fact_Book_3 := T.na_Book__sides; have fact_Book_4 := T.na_Book__stops; have fact_Order_0 := T.cl_Order; have fact_Order_1 := T.na_Order_number; have fact_Order_2 := T.na_Order_house; have fact_Order_3 := T.na_Order_side; have fact_Order_4 := T.na_Order_price; have fact_Order_5 := T.na_Order_shown; have fact_Order_6 := T.na_Order_left; have fact_Order_7 := T.na_Order_visible; have fact_Report_0 := T.cl_Report; have fact_Report_1 := T.na_Report_number; have fact_Report_2 := T.na_Report_house; have fact_Report_3 := T.na_Report_side; have fact_Report_4 := T.na_Report_fills; have fact_Report_5 := T.na_Report_removed; have fact_Report_6 := T.na_Report_resting
    have hob := S.B.at_.ob
    unfold bookO at hob
    have hLi := S.A.li
    have hLS := SqL.of (K := K) hLi
    obtain ⟨i, e, hie, hix⟩ := refs_ix (L := L) (c := cell) hpos
    have he := List.mem_of_getElem? hie
    have hrl : (refs L).length = L.length := List.length_map ..
    have hix2 : atI (refs L) (cell % ((refs L).length : Int)) = some (.ref e.1) := by rw [hrl]; exact hix
    have hq0 : (0 : Int) < ((refs L).length : Int) := by omega
    have hrow := S.A.row e he
    have hrowS := SqL.of (K := K) hrow
    have a0 : atI (rowL e.2.2) 0 = some (.int e.2.2.number) := rfl
    have a1 : atI (rowL e.2.2) 1 = some (.str e.2.2.house) := rfl
    have a2 : atI (rowL e.2.2) 2 = some (.str e.2.2.side) := rfl
    have a4 : atI (rowL e.2.2) 4 = some (.int e.2.2.left) := rfl
    have hlk : ([("last", optV last), ("_next_number", V.int next), ("_sides", .ref sd), ("_stops", .ref st)] : List (Str × V)).lookup ("cancel" : Str) = none := rfl
    obtain ⟨hown, hown2⟩ := S.own he
    walk_at "st"
    refine ⟨last, next, es1, es2, e.2.2.number, e.2.2.house, rfl, S.B, fun e' H1 hw hho B1 fr => ?_, fun hn => absurd hn hown, fun e' hw hho => absurd (congrArg Ord.house (hown2 e' hw).1) hho⟩
    have hee := (hown2 e' hw).1
    have A1 : LoAt H1 D L := ⟨(fr D S.nD.1 S.nD.2.1).trans hLi, fun y hy => (fr _ (S.nR y hy).1 (S.nR y hy).2.1).trans (S.A.row y hy), S.A.nd, S.A.out⟩
    have hLi1 := A1.li
    walk_at "st"
    (first | delta tNil | skip)
    refine rem_of A1 S.W he ?_
    have B2 := B1.move (H' := upd H1 D (.lst (refs (dropE e.1 L)))) A1 S.nD S.nR fun z v h1 h2 hz => (upd_ne h1).trans hz
    have S2 := S.cut he hw B2 (A1.cut e.1)
    have hrow2 : upd H1 D (.lst (refs (dropE e.1 L))) e.1 = some (.lst (rowL e.2.2)) := (upd_ne fun z => A1.out (List.mem_map.mpr ⟨e, he, z⟩)).trans (A1.row e he)
    have hkc : KeepC H (upd H1 D (.lst (refs (dropE e.1 L)))) l1 l2 D L (dropE e.1 L) := fun C cs hC c1 c2 c3 c4 => ⟨(upd_ne c3).trans ((fr _ c1 c2).trans hC), fun z => by
      obtain ⟨y, hy, k⟩ := List.mem_map.mp z
      exact c4 (List.mem_map.mpr ⟨y, (drop_mem hy).1, k⟩)⟩
    have hdl : (dropE e.1 L).length ≤ L.length := List.length_filter_le _ _
    generalize upd H1 D (.lst (refs (dropE e.1 L))) = H2 at B2 S2 hrow2 hkc ⊢
    have hrow2S := SqL.of (K := K) hrow2
    have hob2 := B2.at_.ob
    unfold bookO at hob2
    have hlo : ([("last", optV last), ("_next_number", V.int next), ("_sides", .ref sd), ("_stops", .ref st)] : List (Str × V)).lookup ("orders" : Str) = none := rfl
    rw [hee]
    obtain ⟨bb, db, lb, eb, hBs, hoe⟩ : ∃ (bb db lb : Addr) (eb : List Ent), BookSideAt T.c_Order T.c_BookSide T.c_Book H2 x dx sd st last next e.2.2.side bb db lb eb ∧ ordsE eb = ordsE (BL e.2.2.side (dropE e.1 L)) := by
      rcases (S.W.good e he).side with z | z
      · rw [z]
        exact ⟨b1, d1, l1, _, ⟨B2.at_.ob, sides_buy B2.at_.sd, B2.at_.s1⟩, S2.e1⟩
      · rw [z]
        exact ⟨b2, d2, l2, _, ⟨B2.at_.ob, sides_sell B2.at_.sd, B2.at_.s2⟩, S2.e2⟩
    walk_at "st"
    refine iteD (fun _ => ?_) (fun h => absurd rfl h)
    walk_at "st"
    refine ⟨last, next, eb, e.2.2.side, rfl, hBs, fun D1 H3 t1 s3 nD1 hD1 ht1 hr1 => ?_⟩
    have hrow3S := SqL.of (K := K) (s3 _ _ hrow2)
    walk_at "st"
    refine ⟨(), D, dropE e.1 L, e.2.2.side, rfl, S2.A.same s3, S2.W, (S.W.good e he).side, by omega, fun D2 H4 t2 s4 nD2 hD2 ht2 hr2 => ?_⟩
    walk_at "st"
    refine rows_eq (es := eb) (ords_ok hoe fun y hy => (S2.W.good y (BL_mem hy).1).ok) (s4 _ _ hD1) ht1 (fun t ht => s4 _ _ (hr1 t ht)) hD2 (ht2.trans (ords_rows hoe).symm) hr2 ?_
    have s34 := s3.trans s4
    exact q H4 _ _ (dropE e.1 L) ⟨S2.B.same s34, S2.A.same s34, S2.W, S2.e1, S2.e2, S2.nD, S2.nR, S2.num, S2.prc⟩ hdl fun C cs hC c1 c2 c3 c4 => ⟨s34 _ _ (hkc C cs hC c1 c2 c3 c4).1, (hkc C cs hC c1 c2 c3 c4).2⟩

theorem LawL.setG {L : List Ent} {e : Ent} {f : Ord → Ord} (h : LawL L) (he : e ∈ L) (hf : ∀ o, (f o).side = o.side ∧ (f o).price = o.price ∧ (f o).house = o.house ∧ (f o).number = o.number) (hv : 1 ≤ (f e.2.2).visible ∧ (f e.2.2).visible ≤ (f e.2.2).left ∧ 0 ≤ (f e.2.2).shown) : LawL (setE e.1 f L) := by
  refine ⟨fun y hy => ?_, by rw [setE_addr]; exact h.nda, ?_⟩
  · obtain ⟨x, hx, rfl⟩ := setE_mem hy
    split
    · next z =>
      have hxe := nodup_addr h.nda hx he z
      subst hxe
      have g := h.good x hx
      have k := hf x.2.2
      refine ⟨?_, ?_, hv, ?_⟩
      · show (f x.2.2).side = _ ∨ (f x.2.2).side = _
        rw [k.1]; exact g.side
      · show ∃ p, (f x.2.2).price = some p
        rw [k.2.1]; exact g.price
      · show PyData.strOk (f x.2.2).house = true
        rw [k.2.2.1]; exact g.ok
    · exact h.good x hx
  · have : (setE e.1 f L).map (fun e => e.2.2.number) = L.map fun e => e.2.2.number := by
      unfold setE
      rw [List.map_map]
      refine List.map_congr_left fun y _ => ?_
      show (if y.1 = e.1 then _ else y).2.2.number = y.2.2.number
      split
      · exact (hf y.2.2).2.2.2
      · rfl
    rw [this]
    exact h.ndn
theorem BL_setG {s : Str} {L : List Ent} (a : Addr) {f : Ord → Ord} (hf : ∀ o, (f o).side = o.side ∧ (f o).price = o.price) : BL s (setE a f L) = setE a f (BL s L) := by
  unfold setE
  refine BL_map (fun e => ?_) s L
  split
  · exact hf e.2.2
  · exact ⟨rfl, rfl⟩
theorem set_both {s : Str} {es L : List Ent} {a : Addr} {e : Ent} {f : Ord → Ord} (hf : ∀ o, (f o).side = o.side ∧ (f o).price = o.price) (h : ordsE es = ordsE (BL s L)) (l : LawL L) (he : e ∈ L) (u : Uniq es a e.2.2.number) : ordsE (setE a f es) = ordsE (BL s (setE e.1 f L)) := by
  rw [set_ords u, BL_setG e.1 hf, set_ords ((uniq_L l he).sub fun y hy => (BL_mem hy).1), h]
theorem set_get {a : Addr} {f : Ord → Ord} (hf : ∀ o, (f o).number = o.number ∧ (f o).price = o.price) {L : List Ent} {y : Ent} (h : y ∈ setE a f L) : ∃ x, x ∈ L ∧ x.1 = y.1 ∧ x.2.2.number = y.2.2.number ∧ x.2.2.price = y.2.2.price := by
  obtain ⟨x, hx, rfl⟩ := setE_mem h
  refine ⟨x, hx, ?_⟩
  split
  · exact ⟨rfl, (hf _).1.symm, (hf _).2.symm⟩
  · exact ⟨rfl, rfl, rfl⟩
def sp_law_amend (K : PySem.W.Frag) (CO CB CK CR : Addr) : Sp := fun vs H Q _ => ∃ (_ : Unit) (x dx sd st b1 d1 l1 b2 d2 l2 D : Addr) (last : Option Int) (next : Int) (es1 es2 L : List Ent) (cell : Int), vs = [.ref x, .ref D, .int cell] ∧
  SimB CO CB CK H x dx sd st b1 d1 l1 b2 d2 l2 last next es1 es2 D L ∧ L.length ≤ 200 ∧ 0 < L.length ∧
  ∀ (H' : Hp) (es1' es2' L' : List Ent) (last' : Option Int), SimB CO CB CK H' x dx sd st b1 d1 l1 b2 d2 l2 last' next es1' es2' D L' → L'.length ≤ L.length → KeepC H H' l1 l2 D L L' → Q (.bl true) H'
set_option maxHeartbeats 0 in
theorem ok_law_amend (T : Txt K mg) : FnOk P w K mg base CX0 9 T.f_law_amend T.d_law_amend ["book", "orders", "cell"] (sp_law_amend K T.c_Order T.c_BookSide T.c_Book T.c_Report) := by
  refine T.F_law_amend.ok sc_law_amend (fun vs H Q E h => ?_) (fun cdv A outer s H vs Q E hr h => ?_)
  · obtain ⟨_, x, dx, sd, st, b1, d1, l1, b2, d2, l2, D, last, next, es1, es2, L, cell, rfl, _⟩ := h
    rfl
  · obtain ⟨_, x, dx, sd, st, b1, d1, l1, b2, d2, l2, D, last, next, es1, es2, L, cell, rfl, S, hlen, hpos, q⟩ := h
    have G_Book_amend : FnOk P w K mg base (L2.CX P w) 8 T.f_Book_amend T.d_Book_amend ["self", "number", "house", "price", "quantity"] (sp_Book_amend K T.c_UnknownOrder T.c_NotOwner T.c_Order T.c_BookSide T.c_Book T.c_Report) := ok_Book_amend T
    have G_law_enter : FnOk P w K mg base CX0 4 T.f_law_enter T.d_law_enter ["orders", "number", "house", "side", "limit", "quantity", "kind", "shown"] (sp_law_enter K) := ok_law_enter T
    have G_law_same : FnOk P w K mg base CX0 4 T.f_law_same T.d_law_same ["book", "orders", "reports", "due", "number"] (sp_law_same K T.c_Order T.c_BookSide T.c_Book T.c_Report) := ok_law_same T
    refine ⟨_, (pss_cons (ps_set (i := 3) sc_law_amend.nd rfl (Or.inl rfl) (pe_ix ix_list (pv 1) (pe_op op_mod (pe_callTy call_int_i (by rfl) T.z_int (by decide +kernel) (pa_cons (pv 2) pa_nil)) (pe_callB call_len_seq (by rfl) T.z_len PySem.boot_len (pa_cons (pv 1) pa_nil))) (fun _ _ => rfl)))
    (pss_cons (ps_set (i := 4) sc_law_amend.nd rfl (Or.inl rfl) (pe_op op_add pe_int (pe_op op_mod (pe_op op_fdiv (pe_callTy call_int_i (by rfl) T.z_int (by decide +kernel) (pa_cons (pv 2) pa_nil)) pe_int) pe_int)))
    (C8.pss_cut (ps_if (pt_cmpR op_eq (pe_op op_mod (pe_op op_fdiv (pe_callTy call_int_i (by rfl) T.z_int (by decide +kernel) (pa_cons (pv 2) pa_nil)) pe_int) pe_int) pe_int (nomark _))
      (pss_one (ps_set (i := 4) sc_law_amend.nd rfl (Or.inl rfl) (pe_ix ix_list (pv 3) pe_int (fun _ _ => rfl))))
      pss_nil)
    (pss_cons (ps_set (i := 5) sc_law_amend.nd rfl (Or.inl rfl) (pe_op op_add pe_int (pe_op op_mod (pe_op op_fdiv (pe_callTy call_int_i (by rfl) T.z_int (by decide +kernel) (pa_cons (pv 2) pa_nil)) pe_int) pe_int)))
    (pss_cons (ps_set (i := 6) sc_law_amend.nd rfl (Or.inl rfl) (pe_mx (pv 0) T.cl_Book T.mt_Book_amend G_Book_amend hr T.b_Book_amend .nil (fun _ => passLat) (pa_cons (pe_ix ix_list (pv 3) pe_int (fun _ _ => rfl)) (pa_cons (pe_ix ix_list (pv 3) pe_int (fun _ _ => rfl)) (pa_cons (pv 4) (pa_cons (pv 5) pa_nil))))))
    (pss_cons (ps_if (PW.pt (pw_and (pt_cmpR op_eq (pv 4) (pe_ix ix_list (pv 3) pe_int (fun _ _ => rfl)) (nomark _)) (pw_and1 (pt_cmpR op_le (pv 5) (pe_ix ix_list (pv 3) pe_int (fun _ _ => rfl)) (nomark _)))))
      (pss_cons (ps_asg (pv 5) (pg_sub (pv 3) pe_int set_list))
      (pss_cons (ps_asg (pe_callB (call_min2 rfl) (by rfl) T.z_min (by decide +kernel) (pa_cons (pe_ix ix_list (pv 3) pe_int (fun _ _ => rfl)) (pa_cons (pv 5) pa_nil))) (pg_sub (pv 3) pe_int set_list))
      (pss_one (ps_ret (pe_call G_law_same (hr.mono (by decide)) (by rfl) T.m_law_same T.F_law_same.kp T.b_law_same .nil pass0 (pa_cons (pv 0) (pa_cons (pv 1) (pa_cons (pv 6) (pa_cons (pe_tup (pa_cons (pe_lst pa_nil) (pa_cons (pe_lst pa_nil) (pa_cons (pv 5) pa_nil)))) (pa_cons (pe_ix ix_list (pv 3) pe_int (fun _ _ => rfl)) pa_nil))))))))))
      pss_nil)
    (pss_cons (ps_expr (pe_bm PySem.F.plainAttrs_list PySem.F.slot_list_remove PySem.F.type_list_remove (mt_removeD (hu65 hr)) (pv 1) (pa_cons (pv 3) pa_nil)))
    (pss_cons (ps_set (i := 7) sc_law_amend.nd rfl (Or.inl rfl) (pe_call G_law_enter (hr.mono (by decide)) (by rfl) T.m_law_enter T.F_law_enter.kp T.b_law_enter .nil pass0 (pa_cons (pv 1) (pa_cons (pe_ix ix_list (pv 3) pe_int (fun _ _ => rfl)) (pa_cons (pe_ix ix_list (pv 3) pe_int (fun _ _ => rfl)) (pa_cons (pe_ix ix_list (pv 3) pe_int (fun _ _ => rfl)) (pa_cons (pv 4) (pa_cons (pv 5) (pa_cons pe_str (pa_cons (pe_callB (call_min2 rfl) (by rfl) T.z_min (by decide +kernel) (pa_cons (pe_ix ix_list (pv 3) pe_int (fun _ _ => rfl)) (pa_cons (pv 5) pa_nil))) pa_nil))))))))))
    (pss_one (ps_ret (pe_call G_law_same (hr.mono (by decide)) (by rfl) T.m_law_same T.F_law_same.kp T.b_law_same .nil pass0 (pa_cons (pv 0) (pa_cons (pv 1) (pa_cons (pv 6) (pa_cons (pv 7) (pa_cons (pe_ix ix_list (pv 3) pe_int (fun _ _ => rfl)) pa_nil)))))))))))))))), ?_⟩
    have fact_BookSide_0 := T.cl_BookSide; have fact_BookSide_1 := T.na_BookSide__orders; have fact_Book_0 := T.cl_Book; have fact_Book_1 := T.na_Book_last; have fact_Book_2 := T.na_Book__next_number; have fact_Book_3 := T.na_Book__sides; have fact_Book_4 := T.na_Book__stops; have fact_Order_0 := T.cl_Order; have fact_Order_1 := T.na_Order_number; have fact_Order_2 := T.na_Order_house; have fact_Order_3 := T.na_Order_side; have fact_Order_4 := T.na_Order_price; have fact_Order_5 := T.na_Order_shown; have fact_Order_6 := T.na_Order_left; have fact_Order_7 := T.na_Order_visible; have fact_Report_0 := T.cl_Report; have fact_Report_1 := T.na_Report_number; have fact_Report_2 := T.na_Report_house; have fact_Report_3 := T.na_Report_side; have fact_Report_4 := T.na_Report_fills; have fact_Report_5 := T.na_Report_removed; have fact_Report_6 := T.na_Report_resting
    have hob := S.B.at_.ob
    unfold bookO at hob
    have hLi := S.A.li
    have hLS := SqL.of (K := K) hLi
    obtain ⟨i, e, hie, hix⟩ := refs_ix (L := L) (c := cell) hpos
    have he := List.mem_of_getElem? hie
    have hrl : (refs L).length = L.length := List.length_map ..
    have hix2 : atI (refs L) (cell % ((refs L).length : Int)) = some (.ref e.1) := by rw [hrl]; exact hix
    have hq0 : (0 : Int) < ((refs L).length : Int) := by omega
    have hrow := S.A.row e he
    have hrowS := SqL.of (K := K) hrow
    obtain ⟨pe, hpe⟩ := (S.W.good e he).price
    have hpb := S.prc e he pe hpe
    have a0 : atI (rowL e.2.2) 0 = some (.int e.2.2.number) := rfl
    have a1 : atI (rowL e.2.2) 1 = some (.str e.2.2.house) := rfl
    have a2 : atI (rowL e.2.2) 2 = some (.str e.2.2.side) := rfl
    have a3 : atI (rowL e.2.2) 3 = some (.int pe) := by
      show some (optV e.2.2.price) = _
      rw [hpe]
      rfl
    have a4 : atI (rowL e.2.2) 4 = some (.int e.2.2.left) := rfl
    have a5 : atI (rowL e.2.2) 5 = some (.int e.2.2.visible) := rfl
    have a6 : atI (rowL e.2.2) 6 = some (.int e.2.2.shown) := rfl
    have hlk : ([("last", optV last), ("_next_number", V.int next), ("_sides", .ref sd), ("_stops", .ref st)] : List (Str × V)).lookup ("amend" : Str) = none := rfl
    obtain ⟨hown, hown2⟩ := S.own he
    have hl1 := Nat.le_trans (Nat.le_of_eq (ords_len S.e1)) (BL_len _ _)
    have hl2 := Nat.le_trans (Nat.le_of_eq (ords_len S.e2)) (BL_len _ _)
    have hvis := (S.W.good e he).vis
    have hn2 : e ∈ L → refs L ≠ [] := fun h z => by
      have : V.ref e.1 ∈ refs L := List.mem_map.mpr ⟨e, h, rfl⟩
      rw [z] at this
      cases this
    walk_at "st"
    refine ⟨fun σ' H1 => H1 = H ∧ ∃ pr : Option Int, (∃ p : Int, pr = some p ∧ 1 ≤ p ∧ p ≤ 1000000) ∧ σ' = [some (.ref x), some (.ref D), some (.int cell), some (.ref e.1), some (optV pr), none, none, none], ?_, ?_⟩
    · walk_at "st"
      refine iteB (fun h => ?_) (fun h => ?_)
      · walk_at "st"
        exact ⟨some pe, ⟨pe, rfl, hpb⟩, rfl⟩
      · exact ⟨rfl, some _, ⟨_, rfl, by omega, by omega⟩, rfl⟩
    · rintro σ' H1 ⟨rfl, _, ⟨pr, rfl, hp1, hp2⟩, rfl⟩
      walk_at "st"
      refine ⟨last, next, es1, es2, e.2.2.number, e.2.2.house, pr, 1 + cell / 336 % 14, rfl, S.B, hp1, hp2, by omega, by omega, by omega, fun e' p r dr fl rm H2 hw hho hpr hqu hp hr hfl hrm B2 fr2 => ?_, fun e' R p r dr fl rm o dxo fs H2 hw hho hno hR ho hp hr hfl hrm B2 fr2 => ?_, fun hn => absurd hn hown, fun e' hw hho => absurd (congrArg Ord.house (hown2 e' hw).1) hho⟩
      · obtain ⟨hee, u1, u2⟩ := hown2 e' hw
        rw [hee] at hpr hqu hr
        have hpp : pe = pr := Option.some.inj (hpe.symm.trans hpr)
        have A2 := S.lo fr2
        have hrow2 := A2.row e he
        have hrow2S := SqL.of (K := K) hrow2
        have x4 : ixN (rowL e.2.2).length 4 = some 4 := rfl
        have hrow3 : upd H2 e.1 (.lst ((rowL e.2.2).set 4 (.int (1 + cell / 336 % 14)))) e.1 = some (.lst (rowL { e.2.2 with left := 1 + cell / 336 % 14 })) := upd_same
        have hrow3S := SqL.of (K := K) hrow3
        have y5 : atI (rowL { e.2.2 with left := 1 + cell / 336 % 14 }) 5 = some (.int e.2.2.visible) := rfl
        have x5 : ixN (rowL { e.2.2 with left := 1 + cell / 336 % 14 }).length 5 = some 5 := rfl
        walk_at "st"
        refine iteB (fun _ => ?_) (fun hx => absurd (congrArg V.int hpp.symm) (dec_f hx))
        walk_at "st"
        refine iteB (fun _ => ?_) (fun hx => absurd hqu (of_decide_eq_false hx))
        walk_at "st"
        generalize hHB : upd (upd H2 e.1 _) e.1 _ = HB
        have hHB2 : HB = upd H2 e.1 (.lst (rowL (e.2.2.cut (1 + cell / 336 % 14)))) := by
          rw [← hHB, upd_upd]
          rfl
        have hcf : ∀ o : Ord, (o.cut (1 + cell / 336 % 14)).side = o.side ∧ (o.cut (1 + cell / 336 % 14)).price = o.price ∧ (o.cut (1 + cell / 336 % 14)).house = o.house ∧ (o.cut (1 + cell / 336 % 14)).number = o.number := fun o => ⟨rfl, rfl, rfl, rfl⟩
        have hcv : 1 ≤ (e.2.2.cut (1 + cell / 336 % 14)).visible ∧ (e.2.2.cut (1 + cell / 336 % 14)).visible ≤ (e.2.2.cut (1 + cell / 336 % 14)).left ∧ 0 ≤ (e.2.2.cut (1 + cell / 336 % 14)).shown := by
          refine ⟨?_, ?_, hvis.2.2⟩
          · show 1 ≤ if 1 + cell / 336 % 14 < e.2.2.visible then 1 + cell / 336 % 14 else e.2.2.visible
            split <;> omega
          · show (if 1 + cell / 336 % 14 < e.2.2.visible then 1 + cell / 336 % 14 else e.2.2.visible) ≤ 1 + cell / 336 % 14
            split <;> omega
        have A3 : LoAt HB D (setE e.1 (fun o => o.cut (1 + cell / 336 % 14)) L) := by rw [hHB2]; exact A2.set he (fun o => o.cut (1 + cell / 336 % 14))
        have W3 := S.W.setG (f := fun o => o.cut (1 + cell / 336 % 14)) he hcf hcv
        have B3 : BookOk T.c_Order T.c_BookSide T.c_Book HB x dx sd st b1 d1 l1 b2 d2 l2 last next (setE e'.1 (fun o => o.cut (1 + cell / 336 % 14)) es1) (setE e'.1 (fun o => o.cut (1 + cell / 336 % 14)) es2) := by
          rw [hHB2]
          exact B2.move A2 S.nD S.nR fun z v h1 h2 hz => (upd_ne fun k => h2 (List.mem_map.mpr ⟨e, he, k.symm⟩)).trans hz
        have o1 := set_both (f := fun o => o.cut (1 + cell / 336 % 14)) (fun o => ⟨rfl, rfl⟩) S.e1 S.W he u1
        have o2 := set_both (f := fun o => o.cut (1 + cell / 336 % 14)) (fun o => ⟨rfl, rfl⟩) S.e2 S.W he u2
        have up : ∀ {z : Addr} {v : HO}, z ≠ e.1 → H2 z = some v → HB z = some v := fun h1 hz => by rw [hHB2]; exact (upd_ne h1).trans hz
        have hrow4 : HB e.1 = some (.lst (rowL (e.2.2.cut (1 + cell / 336 % 14)))) := by rw [hHB2]; exact upd_same
        have hpn : p ≠ e.1 := fun z => by
          have h1 := hp
          rw [z, hrow2] at h1
          exact absurd (congrArg List.length (HO.lst.inj (Option.some.inj h1))) (show ¬ 7 = 1 by decide)
        have hrn : r ≠ e.1 := fun z => by
          have h1 := hr
          rw [z, hrow2] at h1
          unfold repO at h1
          cases h1
        have hfn : ∀ z, H2 z = some (.lst []) → z ≠ e.1 := fun z hz k => by
          rw [k, hrow2] at hz
          exact absurd (congrArg List.length (HO.lst.inj (Option.some.inj hz))) (show ¬ 7 = 0 by decide)
        have hp3 := up hpn hp
        have hr3 := up hrn hr
        have hfl3 := up (hfn _ hfl) hfl
        have hrm3 := up (hfn _ hrm) hrm
        have hkc : ∀ C cs, H1 C = some (.lst cs) → C ≠ l1 → C ≠ l2 → C ≠ D → C ∉ L.map (·.1) → HB C = some (.lst cs) := fun C cs hC c1 c2 c3 c4 => up (fun k => c4 (List.mem_map.mpr ⟨e, he, k.symm⟩)) (fr2.lst S.B c1 c2 hC)
        intro fl' nfl'
        walk_at "st"
        intro rm' nrm'
        walk_at "st"
        intro pt npt
        have s1 := same_upd (o := .lst []) nfl'
        have s2 := same_upd (o := .lst []) nrm'
        have s3 := same_upd (o := .tup [.ref fl', .ref rm', .int (1 + cell / 336 % 14)]) npt
        have sA := (s1.trans s2).trans s3
        have hfl4 := s3 _ _ (s2 _ _ upd_same)
        have hrm4 := s3 _ _ upd_same
        have hpt4 : upd (upd (upd HB fl' (.lst [])) rm' (.lst [])) pt (.tup [.ref fl', .ref rm', .int (1 + cell / 336 % 14)]) pt = some (.tup [.ref fl', .ref rm', .int (1 + cell / 336 % 14)]) := upd_same
        have hrow5S := SqL.of (K := K) (sA _ _ hrow4)
        have z0 : atI (rowL (e.2.2.cut (1 + cell / 336 % 14))) 0 = some (.int e.2.2.number) := rfl
        walk_at "st"
        refine ⟨(), x, dx, sd, st, b1, d1, l1, b2, d2, l2, D, p, r, dr, fl, rm, pt, fl', rm', last, next, e.2.2.number, 1 + cell / 336 % 14, e.2.2.house, e.2.2.side, _, _, setE e.1 (fun o => o.cut (1 + cell / 336 % 14)) L, [], [], [], [], rfl, B3.same sA, A3.same sA, W3, by rw [setE_len]; omega, sA _ _ hp3, sA _ _ hr3, Tups.nil (sA _ _ hfl3), sA _ _ hrm3, hpt4, Tups.nil hfl4, hrm4, (fun f hf => by cases hf), o1, o2, fun H9 s9 => ?_⟩
        have sB := sA.trans s9
        refine q H9 _ _ (setE e.1 (fun o => o.cut (1 + cell / 336 % 14)) L) last ⟨B3.same sB, A3.same sB, W3, o1, o2, S.nD, fun y hy => ?_, fun y hy => ?_, fun y hy pp hy2 => ?_⟩ (by rw [setE_len]; exact Nat.le_refl _) fun C cs hC c1 c2 c3 c4 => ⟨sB _ _ (hkc C cs hC c1 c2 c3 c4), by rw [setE_addr]; exact c4⟩
        · obtain ⟨u, hu, k, _⟩ := set_get (f := fun o => o.cut (1 + cell / 336 % 14)) (fun o => ⟨rfl, rfl⟩) hy
          rw [← k]
          exact S.nR u hu
        · obtain ⟨u, hu, _, k, _⟩ := set_get (f := fun o => o.cut (1 + cell / 336 % 14)) (fun o => ⟨rfl, rfl⟩) hy
          rw [← k]
          exact S.num u hu
        · obtain ⟨u, hu, _, _, k⟩ := set_get (f := fun o => o.cut (1 + cell / 336 % 14)) (fun o => ⟨rfl, rfl⟩) hy
          exact S.prc u hu pp (k.trans hy2)
      · obtain ⟨hee, u1, u2⟩ := hown2 e' hw
        rw [hee] at hno hR hr B2
        have A2 := S.lo fr2
        have hLi2 := A2.li
        have hrow2 := A2.row e he
        have hrow2S := SqL.of (K := K) hrow2
        have hDe : D ≠ e.1 := fun z => A2.out (List.mem_map.mpr ⟨e, he, z.symm⟩)
        have hneD : refs L ≠ [] := hn2 he
        have hrow3 : upd H2 D (.lst (refs (dropE e.1 L))) e.1 = some (.lst (rowL e.2.2)) := (upd_ne hDe.symm).trans hrow2
        have hrow3S := SqL.of (K := K) hrow3
        have hnoI : ¬ (pe = pr ∧ 1 + cell / 336 % 14 ≤ e.2.2.left) := fun z => hno ⟨by rw [hpe, z.1], z.2⟩
        have nin2 : ∀ z ys, H2 z = some (.tup ys) → z ≠ D ∧ z ∉ L.map (·.1) := fun z ys hz => by
          refine ⟨fun k => ?_, fun k => ?_⟩
          · rw [k, hLi2] at hz; cases hz
          · obtain ⟨u, hu, eu⟩ := List.mem_map.mp k
            rw [← eu, A2.row u hu] at hz; cases hz
        have nrD : r ≠ D ∧ r ∉ L.map (·.1) := by
          refine ⟨fun k => ?_, fun k => ?_⟩
          · have h1 := hr
            rw [k, hLi2] at h1; unfold repO at h1; cases h1
          · obtain ⟨u, hu, eu⟩ := List.mem_map.mp k
            have h1 := hr
            rw [← eu, A2.row u hu] at h1; unfold repO at h1; cases h1
        have npD : p ≠ D ∧ p ∉ L.map (·.1) := by
          refine ⟨fun k => ?_, fun k => ?_⟩
          · have h1 := hp
            rw [k, hLi2] at h1
            have h3 : V.ref r ∈ refs L := by rw [HO.lst.inj (Option.some.inj h1)]; exact List.mem_cons_self
            obtain ⟨u, hu, eu⟩ := List.mem_map.mp h3
            exact nrD.2 (List.mem_map.mpr ⟨u, hu, V.ref.inj eu⟩)
          · obtain ⟨u, hu, eu⟩ := List.mem_map.mp k
            have h1 := hp
            rw [← eu, A2.row u hu] at h1
            exact absurd (congrArg List.length (HO.lst.inj (Option.some.inj h1))) (show ¬ 7 = 1 by decide)
        have hein : V.ref e.1 ∈ refs L := List.mem_map.mpr ⟨e, he, rfl⟩
        have nflD : fl ≠ D ∧ fl ∉ L.map (·.1) := by
          refine ⟨fun k => ?_, fun k => ?_⟩
          · have h1 := hfl.lst
            rw [k, hLi2] at h1
            rw [HO.lst.inj (Option.some.inj h1)] at hein
            obtain ⟨j, hj, ej⟩ := List.getElem_of_mem hein
            have hj2 := List.getElem?_eq_getElem hj
            rw [ej] at hj2
            obtain ⟨q2, f, _, _, ev, hq⟩ := hfl.item hj2
            rw [← V.ref.inj ev, hrow2] at hq
            cases hq
          · obtain ⟨u, hu, eu⟩ := List.mem_map.mp k
            have h1 := hfl.lst
            rw [← eu, A2.row u hu] at h1
            have h2 : V.int u.2.2.number ∈ fs.map V.ref := by rw [← HO.lst.inj (Option.some.inj h1)]; exact List.mem_cons_self
            obtain ⟨_, _, ev⟩ := List.mem_map.mp h2
            cases ev
        have nrmD : rm ≠ D ∧ rm ∉ L.map (·.1) := by
          refine ⟨fun k => ?_, fun k => ?_⟩
          · have h1 := hrm
            rw [k, hLi2] at h1
            rw [HO.lst.inj (Option.some.inj h1)] at hein
            obtain ⟨_, _, ev⟩ := List.mem_map.mp hein
            cases ev
          · obtain ⟨u, hu, eu⟩ := List.mem_map.mp k
            have h1 := hrm
            rw [← eu, A2.row u hu] at h1
            have h2 : V.str u.2.2.house ∈ R.gone.map V.int := by rw [← HO.lst.inj (Option.some.inj h1)]; exact List.mem_cons_of_mem _ List.mem_cons_self
            obtain ⟨_, _, ev⟩ := List.mem_map.mp h2
            cases ev
        walk_at "st"
        refine iteB (fun hx => ?_) (fun hx => ?_)
        · have hpq : pe = pr := (V.int.inj (dec_t hx)).symm
          walk_at "st"
          refine iteB (fun h2 => absurd ⟨hpq, of_decide_eq_true h2⟩ hnoI) (fun _ => ?_)
          walk_at "st"
          delta tNil
          refine rem_of A2 S.W he ?_
          have A3 := A2.cut e.1
          have B3 := B2.move (H' := upd H2 D (.lst (refs (dropE e.1 L)))) A2 S.nD S.nR fun z v h1 h2 hz => (upd_ne h1).trans hz
          have hp3 : upd H2 D (.lst (refs (dropE e.1 L))) p = some (.lst [.ref r]) := (upd_ne npD.1).trans hp
          have hr3 : upd H2 D (.lst (refs (dropE e.1 L))) r = some (repO T.c_Report dr e.2.2.number e.2.2.house e.2.2.side fl rm R.rest) := (upd_ne nrD.1).trans hr
          have hT3 : Tups encFill (upd H2 D (.lst (refs (dropE e.1 L)))) fl fs R.fills := hfl.other hLi2 nflD.1
          have hG3 : upd H2 D (.lst (refs (dropE e.1 L))) rm = some (.lst (R.gone.map V.int)) := (upd_ne nrmD.1).trans hrm
          have hkc3 : ∀ C cs, H1 C = some (.lst cs) → C ≠ l1 → C ≠ l2 → C ≠ D → upd H2 D (.lst (refs (dropE e.1 L))) C = some (.lst cs) := fun C cs hC c1 c2 c3 => (upd_ne c3).trans (fr2.lst S.B c1 c2 hC)
          have hdlen : (dropE e.1 L).length + 1 ≤ L.length := drop_less he
          have hsubL : ∀ z, z ∉ L.map (·.1) → z ∉ (dropE e.1 L).map (·.1) := fun z h1 h2 => by
            obtain ⟨y, hy, k⟩ := List.mem_map.mp h2
            exact h1 (List.mem_map.mpr ⟨y, (drop_mem hy).1, k⟩)
          have heD : e.1 ∉ (dropE e.1 L).map (·.1) := drop_out
          generalize upd H2 D (.lst (refs (dropE e.1 L))) = H3 at A3 B3 hp3 hr3 hT3 hG3 hkc3 hrow3 hrow3S ⊢
          walk_at "st"
          refine ⟨(), D, dropE e.1 L, ⟨e.2.2.number, e.2.2.house, e.2.2.side, some pr, if 1 + cell / 336 % 14 < e.2.2.shown then 1 + cell / 336 % 14 else e.2.2.shown, 1 + cell / 336 % 14, 0⟩, "rest", last, rfl, A3, S.W.drop _, (S.W.good e he).side, by omega, by show 1 ≤ 1 + cell / 336 % 14; omega, by show 1 + cell / 336 % 14 ≤ 400; omega, ?_, fun _ => ⟨pr, rfl⟩, (S.W.good e he).ok, drop_num S.W he, ?_⟩
          · show 0 ≤ if 1 + cell / 336 % 14 < e.2.2.shown then 1 + cell / 336 % 14 else e.2.2.shown
            split <;> omega
          intro R' pt fl' rm' fs' o' L' H8 hR' hpt hT' hG' hLo' hlaw' hoth hown' hlen' hsub nfl' nrm' npt hfr
          have hsi := (S.W.good e he).side
          have d1' := drop_both S.e1 S.W he u1
          have d2' := drop_both S.e2 S.W he u2
          have hso := sub_ords (kd := "rest") (t := ⟨e.2.2.number, e.2.2.house, e.2.2.side, some pr, if 1 + cell / 336 % 14 < e.2.2.shown then 1 + cell / 336 % 14 else e.2.2.shown, 1 + cell / 336 % 14, 0⟩) (o := o) (dxo := dxo) (o' := o') (dxo' := 0) (last := last) (oth := othE e.2.2.side (dropE e'.1 es1) (dropE e'.1 es2)) (own := ownE e.2.2.side (dropE e'.1 es1) (dropE e'.1 es2)) (oth' := BL (otherS e.2.2.side) (dropE e.1 L)) (own' := BL e.2.2.side (dropE e.1 L))
            (by rcases hsi with k | k
                · rw [k]; exact d2'
                · rw [k]; exact d1')
            (by rcases hsi with k | k
                · rw [k]; exact d1'
                · rw [k]; exact d2')
          rw [← hR, ← hR'] at hso
          have hfok : ∀ f, f ∈ R'.fills → PyData.strOk f.2.1 = true := by
            rw [hR']
            exact sub_fills_ok fun y hy => ((S.W.drop e.1).good y (BL_mem hy).1).ok
          have keep8 : ∀ z v, z ≠ D ∧ z ∉ L.map (·.1) → H3 z = some v → H8 z = some v := fun z v h1 hz => hfr z v h1.1 (hsubL z h1.2) hz
          have hr8 := keep8 _ _ nrD hr3
          have hp8 := keep8 _ _ npD hp3
          have hT8 : Tups encFill H8 fl fs R.fills := ⟨keep8 _ _ nflD hT3.lst, hT3.len, fun i q f h1 h2 => keep8 _ _ (nin2 _ _ (hfl.row i q f h1 h2)) (hT3.row i q f h1 h2)⟩
          have hG8 := keep8 _ _ nrmD hG3
          have B8 := B3.move A3 S.nD (fun y hy => S.nR y (drop_mem hy).1) hfr
          have hrow8S := SqL.of (K := K) (hfr _ _ hDe.symm heD hrow3)
          have nR' : ∀ y, y ∈ L' → y.1 ≠ l1 ∧ y.1 ≠ l2 ∧ y.1 ≠ st := fun y hy => by
            rcases hsub y hy with ⟨u, hu, k, _⟩ | ⟨_, k, _⟩
            · rw [← k]; exact S.nR u (drop_mem hu).1
            · exact ⟨fun z => (by rw [z, B3.at_.s1.li] at k; cases k), fun z => (by rw [z, B3.at_.s2.li] at k; cases k), fun z => (by rw [z, B3.at_.st] at k; cases k)⟩
          have num' : ∀ y, y ∈ L' → y.2.2.number < next := fun y hy => by
            rcases hsub y hy with ⟨u, hu, _, k, _⟩ | ⟨k, _⟩
            · rw [← k]; exact S.num u (drop_mem hu).1
            · rw [k]; exact S.num e he
          have prc' : ∀ y, y ∈ L' → ∀ pp, y.2.2.price = some pp → 1 ≤ pp ∧ pp ≤ 1000000 := fun y hy pp hy2 => by
            rcases hsub y hy with ⟨u, hu, _, _, k⟩ | ⟨_, _, k⟩
            · exact S.prc u (drop_mem hu).1 pp (k.trans hy2)
            · have := Option.some.inj (k.symm.trans hy2)
              rw [← this]
              exact ⟨hp1, hp2⟩
          have o1 : ordsE (if buyS e.2.2.side = true then R.own else R.oth) = ordsE (BL "buy" L') := by
            rcases hsi with k | k
            · rw [k, if_pos buyS_buy, hso.2.1, hown']
              show ordsE (BL e.2.2.side L') = _
              rw [k]
            · rw [k, if_neg (by rw [buyS_sell]; exact Bool.false_ne_true), hso.1, hoth, show otherS (Ord.side ⟨e.2.2.number, e.2.2.house, e.2.2.side, some pr, if 1 + cell / 336 % 14 < e.2.2.shown then 1 + cell / 336 % 14 else e.2.2.shown, 1 + cell / 336 % 14, 0⟩) = "buy" by (show otherS e.2.2.side = _; rw [k]; exact if_neg (by rw [buyS_sell]; exact Bool.false_ne_true))]
          have o2 : ordsE (if buyS e.2.2.side = true then R.oth else R.own) = ordsE (BL "sell" L') := by
            rcases hsi with k | k
            · rw [k, if_pos buyS_buy, hso.1, hoth, show otherS (Ord.side ⟨e.2.2.number, e.2.2.house, e.2.2.side, some pr, if 1 + cell / 336 % 14 < e.2.2.shown then 1 + cell / 336 % 14 else e.2.2.shown, 1 + cell / 336 % 14, 0⟩) = "sell" by (show otherS e.2.2.side = _; rw [k]; exact if_pos buyS_buy)]
            · rw [k, if_neg (by rw [buyS_sell]; exact Bool.false_ne_true), hso.2.1, hown']
              show ordsE (BL e.2.2.side L') = _
              rw [k]
          rw [hso.2.2.2.2] at hr8
          rw [hso.2.2.1] at hT8
          rw [hso.2.2.2.1] at hG8
          walk_at "st"
          refine ⟨(), x, dx, sd, st, b1, d1, l1, b2, d2, l2, D, p, r, dr, fl, rm, pt, fl', rm', R.last, next, e.2.2.number, R'.rest, e.2.2.house, e.2.2.side, _, _, L', R'.fills, R'.gone, fs, fs', rfl, B8, hLo', hlaw', by omega, hp8, hr8, hT8, hG8, hpt, hT', hG', hfok, o1, o2, fun H9 s9 => ?_⟩
          refine q H9 _ _ L' R.last ⟨B8.same s9, hLo'.same s9, hlaw', o1, o2, S.nD, nR', num', prc'⟩ (by omega) fun C cs hC c1 c2 c3 c4 => ?_
          have hC3 := hkc3 C cs hC c1 c2 c3
          refine ⟨s9 _ _ (keep8 _ _ ⟨c3, c4⟩ hC3), fun z => ?_⟩
          obtain ⟨u, hu, eu⟩ := List.mem_map.mp z
          rcases hsub u hu with ⟨y, hy, k, _⟩ | ⟨_, k, _⟩
          · exact c4 (List.mem_map.mpr ⟨y, (drop_mem hy).1, k.trans eu⟩)
          · rw [eu, hC3] at k
            cases k
        · walk_at "st"
          delta tNil
          refine rem_of A2 S.W he ?_
          have A3 := A2.cut e.1
          have B3 := B2.move (H' := upd H2 D (.lst (refs (dropE e.1 L)))) A2 S.nD S.nR fun z v h1 h2 hz => (upd_ne h1).trans hz
          have hp3 : upd H2 D (.lst (refs (dropE e.1 L))) p = some (.lst [.ref r]) := (upd_ne npD.1).trans hp
          have hr3 : upd H2 D (.lst (refs (dropE e.1 L))) r = some (repO T.c_Report dr e.2.2.number e.2.2.house e.2.2.side fl rm R.rest) := (upd_ne nrD.1).trans hr
          have hT3 : Tups encFill (upd H2 D (.lst (refs (dropE e.1 L)))) fl fs R.fills := hfl.other hLi2 nflD.1
          have hG3 : upd H2 D (.lst (refs (dropE e.1 L))) rm = some (.lst (R.gone.map V.int)) := (upd_ne nrmD.1).trans hrm
          have hkc3 : ∀ C cs, H1 C = some (.lst cs) → C ≠ l1 → C ≠ l2 → C ≠ D → upd H2 D (.lst (refs (dropE e.1 L))) C = some (.lst cs) := fun C cs hC c1 c2 c3 => (upd_ne c3).trans (fr2.lst S.B c1 c2 hC)
          have hdlen : (dropE e.1 L).length + 1 ≤ L.length := drop_less he
          have hsubL : ∀ z, z ∉ L.map (·.1) → z ∉ (dropE e.1 L).map (·.1) := fun z h1 h2 => by
            obtain ⟨y, hy, k⟩ := List.mem_map.mp h2
            exact h1 (List.mem_map.mpr ⟨y, (drop_mem hy).1, k⟩)
          have heD : e.1 ∉ (dropE e.1 L).map (·.1) := drop_out
          generalize upd H2 D (.lst (refs (dropE e.1 L))) = H3 at A3 B3 hp3 hr3 hT3 hG3 hkc3 hrow3 hrow3S ⊢
          walk_at "st"
          refine ⟨(), D, dropE e.1 L, ⟨e.2.2.number, e.2.2.house, e.2.2.side, some pr, if 1 + cell / 336 % 14 < e.2.2.shown then 1 + cell / 336 % 14 else e.2.2.shown, 1 + cell / 336 % 14, 0⟩, "rest", last, rfl, A3, S.W.drop _, (S.W.good e he).side, by omega, by show 1 ≤ 1 + cell / 336 % 14; omega, by show 1 + cell / 336 % 14 ≤ 400; omega, ?_, fun _ => ⟨pr, rfl⟩, (S.W.good e he).ok, drop_num S.W he, ?_⟩
          · show 0 ≤ if 1 + cell / 336 % 14 < e.2.2.shown then 1 + cell / 336 % 14 else e.2.2.shown
            split <;> omega
          intro R' pt fl' rm' fs' o' L' H8 hR' hpt hT' hG' hLo' hlaw' hoth hown' hlen' hsub nfl' nrm' npt hfr
          have hsi := (S.W.good e he).side
          have d1' := drop_both S.e1 S.W he u1
          have d2' := drop_both S.e2 S.W he u2
          have hso := sub_ords (kd := "rest") (t := ⟨e.2.2.number, e.2.2.house, e.2.2.side, some pr, if 1 + cell / 336 % 14 < e.2.2.shown then 1 + cell / 336 % 14 else e.2.2.shown, 1 + cell / 336 % 14, 0⟩) (o := o) (dxo := dxo) (o' := o') (dxo' := 0) (last := last) (oth := othE e.2.2.side (dropE e'.1 es1) (dropE e'.1 es2)) (own := ownE e.2.2.side (dropE e'.1 es1) (dropE e'.1 es2)) (oth' := BL (otherS e.2.2.side) (dropE e.1 L)) (own' := BL e.2.2.side (dropE e.1 L))
            (by rcases hsi with k | k
                · rw [k]; exact d2'
                · rw [k]; exact d1')
            (by rcases hsi with k | k
                · rw [k]; exact d1'
                · rw [k]; exact d2')
          rw [← hR, ← hR'] at hso
          have hfok : ∀ f, f ∈ R'.fills → PyData.strOk f.2.1 = true := by
            rw [hR']
            exact sub_fills_ok fun y hy => ((S.W.drop e.1).good y (BL_mem hy).1).ok
          have keep8 : ∀ z v, z ≠ D ∧ z ∉ L.map (·.1) → H3 z = some v → H8 z = some v := fun z v h1 hz => hfr z v h1.1 (hsubL z h1.2) hz
          have hr8 := keep8 _ _ nrD hr3
          have hp8 := keep8 _ _ npD hp3
          have hT8 : Tups encFill H8 fl fs R.fills := ⟨keep8 _ _ nflD hT3.lst, hT3.len, fun i q f h1 h2 => keep8 _ _ (nin2 _ _ (hfl.row i q f h1 h2)) (hT3.row i q f h1 h2)⟩
          have hG8 := keep8 _ _ nrmD hG3
          have B8 := B3.move A3 S.nD (fun y hy => S.nR y (drop_mem hy).1) hfr
          have hrow8S := SqL.of (K := K) (hfr _ _ hDe.symm heD hrow3)
          have nR' : ∀ y, y ∈ L' → y.1 ≠ l1 ∧ y.1 ≠ l2 ∧ y.1 ≠ st := fun y hy => by
            rcases hsub y hy with ⟨u, hu, k, _⟩ | ⟨_, k, _⟩
            · rw [← k]; exact S.nR u (drop_mem hu).1
            · exact ⟨fun z => (by rw [z, B3.at_.s1.li] at k; cases k), fun z => (by rw [z, B3.at_.s2.li] at k; cases k), fun z => (by rw [z, B3.at_.st] at k; cases k)⟩
          have num' : ∀ y, y ∈ L' → y.2.2.number < next := fun y hy => by
            rcases hsub y hy with ⟨u, hu, _, k, _⟩ | ⟨k, _⟩
            · rw [← k]; exact S.num u (drop_mem hu).1
            · rw [k]; exact S.num e he
          have prc' : ∀ y, y ∈ L' → ∀ pp, y.2.2.price = some pp → 1 ≤ pp ∧ pp ≤ 1000000 := fun y hy pp hy2 => by
            rcases hsub y hy with ⟨u, hu, _, _, k⟩ | ⟨_, _, k⟩
            · exact S.prc u (drop_mem hu).1 pp (k.trans hy2)
            · have := Option.some.inj (k.symm.trans hy2)
              rw [← this]
              exact ⟨hp1, hp2⟩
          have o1 : ordsE (if buyS e.2.2.side = true then R.own else R.oth) = ordsE (BL "buy" L') := by
            rcases hsi with k | k
            · rw [k, if_pos buyS_buy, hso.2.1, hown']
              show ordsE (BL e.2.2.side L') = _
              rw [k]
            · rw [k, if_neg (by rw [buyS_sell]; exact Bool.false_ne_true), hso.1, hoth, show otherS (Ord.side ⟨e.2.2.number, e.2.2.house, e.2.2.side, some pr, if 1 + cell / 336 % 14 < e.2.2.shown then 1 + cell / 336 % 14 else e.2.2.shown, 1 + cell / 336 % 14, 0⟩) = "buy" by (show otherS e.2.2.side = _; rw [k]; exact if_neg (by rw [buyS_sell]; exact Bool.false_ne_true))]
          have o2 : ordsE (if buyS e.2.2.side = true then R.oth else R.own) = ordsE (BL "sell" L') := by
            rcases hsi with k | k
            · rw [k, if_pos buyS_buy, hso.1, hoth, show otherS (Ord.side ⟨e.2.2.number, e.2.2.house, e.2.2.side, some pr, if 1 + cell / 336 % 14 < e.2.2.shown then 1 + cell / 336 % 14 else e.2.2.shown, 1 + cell / 336 % 14, 0⟩) = "sell" by (show otherS e.2.2.side = _; rw [k]; exact if_pos buyS_buy)]
            · rw [k, if_neg (by rw [buyS_sell]; exact Bool.false_ne_true), hso.2.1, hown']
              show ordsE (BL e.2.2.side L') = _
              rw [k]
          rw [hso.2.2.2.2] at hr8
          rw [hso.2.2.1] at hT8
          rw [hso.2.2.2.1] at hG8
          walk_at "st"
          refine ⟨(), x, dx, sd, st, b1, d1, l1, b2, d2, l2, D, p, r, dr, fl, rm, pt, fl', rm', R.last, next, e.2.2.number, R'.rest, e.2.2.house, e.2.2.side, _, _, L', R'.fills, R'.gone, fs, fs', rfl, B8, hLo', hlaw', by omega, hp8, hr8, hT8, hG8, hpt, hT', hG', hfok, o1, o2, fun H9 s9 => ?_⟩
          refine q H9 _ _ L' R.last ⟨B8.same s9, hLo'.same s9, hlaw', o1, o2, S.nD, nR', num', prc'⟩ (by omega) fun C cs hC c1 c2 c3 c4 => ?_
          have hC3 := hkc3 C cs hC c1 c2 c3
          refine ⟨s9 _ _ (keep8 _ _ ⟨c3, c4⟩ hC3), fun z => ?_⟩
          obtain ⟨u, hu, eu⟩ := List.mem_map.mp z
          rcases hsub u hu with ⟨y, hy, k, _⟩ | ⟨_, k, _⟩
          · exact c4 (List.mem_map.mpr ⟨y, (drop_mem hy).1, k.trans eu⟩)
          · rw [eu, hC3] at k
            cases k

def sp_law (K : PySem.W.Frag) : Sp := fun vs H Q _ => ∃ (a : Addr) (ns : List Int), vs = [.ref a] ∧ SqL K H a (ns.map V.int) ∧ ns.length ≤ 63 ∧ ∀ H', Q (.bl true) H'
set_option maxHeartbeats 0 in
theorem ok_law {f : Addr} {fd : FuncData} (T : Txt K mg) (F : Fun K "law" "law" s_law f fd) : FnOk P w K mg base CX0 10 f fd ["script"] (sp_law K) := by
  refine F.ok sc_law (fun vs H Q E h => ?_) (fun cdv A outer s H vs Q E hr h => ?_)
  · obtain ⟨a, ns, rfl, _⟩ := h
    rfl
  · obtain ⟨a, ns, rfl, hs, hlen, q⟩ := h
    have G_Book_init : FnOk P w K mg base CX0 3 T.f_Book_init T.d_Book_init ["self", "first_number"] (sp_Book_init K T.c_Order T.c_BookSide T.c_Book) := ok_Book_init T
    have G_law_cancel : FnOk P w K mg base CX0 5 T.f_law_cancel T.d_law_cancel ["book", "orders", "cell"] (sp_law_cancel K T.c_Order T.c_BookSide T.c_Book T.c_Report) := ok_law_cancel T
    have G_law_amend : FnOk P w K mg base CX0 9 T.f_law_amend T.d_law_amend ["book", "orders", "cell"] (sp_law_amend K T.c_Order T.c_BookSide T.c_Book T.c_Report) := ok_law_amend T
    have G_law_submit : FnOk P w K mg base CX0 9 T.f_law_submit T.d_law_submit ["book", "orders", "cell", "number"] (sp_law_submit K T.c_Order T.c_BookSide T.c_Book T.c_Report) := ok_law_submit T
    have fact_BookSide_0 := T.cl_BookSide; have fact_BookSide_1 := T.na_BookSide__orders; have fact_Book_0 := T.cl_Book; have fact_Book_1 := T.na_Book_last; have fact_Book_2 := T.na_Book__next_number; have fact_Book_3 := T.na_Book__sides; have fact_Book_4 := T.na_Book__stops; have fact_Order_0 := T.cl_Order; have fact_Order_1 := T.na_Order_number; have fact_Order_2 := T.na_Order_house; have fact_Order_3 := T.na_Order_side; have fact_Order_4 := T.na_Order_price; have fact_Order_5 := T.na_Order_shown; have fact_Order_6 := T.na_Order_left; have fact_Order_7 := T.na_Order_visible; have fact_Report_0 := T.cl_Report; have fact_Report_1 := T.na_Report_number; have fact_Report_2 := T.na_Report_house; have fact_Report_3 := T.na_Report_side; have fact_Report_4 := T.na_Report_fills; have fact_Report_5 := T.na_Report_removed; have fact_Report_6 := T.na_Report_resting
    obtain ⟨D0_Book_init, B0_Book_init⟩ := T.b0_Book_init
    refine ⟨_, (pss_cons (ps_set (i := 1) sc_law.nd rfl (Or.inl rfl) (pe_make0 T.mk_Book G_Book_init (hr.mono (by decide)) (by rfl) T.m_Book B0_Book_init.2 B0_Book_init.1 pass0))
    (pss_cons (ps_set (i := 2) sc_law.nd rfl (Or.inl rfl) (pe_lst pa_nil))
    (pss_cons (ps_set (i := 3) sc_law.nd rfl (Or.inl rfl) pe_int)
    (pss_cons (ps_for PassesOwn.never rfl (pi_list (pe_slice sl_list (pv 0) po_none (po_some pe_int))) (pg_name (i := 4) sc_law.nd rfl (Or.inl rfl))
      (pss_cons (ps_set (i := 5) sc_law.nd rfl (Or.inl rfl) (pe_op op_mod (pe_callTy call_int_i (by rfl) T.z_int (by decide +kernel) (pa_cons (pv 4) pa_nil)) pe_int))
      (pss_cons (ps_if (PW.pt (pw_and (pt_cmpR op_eq (pv 5) pe_int (nomark _)) (pw_and1 (pt_truth (pv 2) (by intro _; rfl)))))
        (pss_one (ps_set (i := 6) sc_law.nd rfl (Or.inl rfl) (pe_call G_law_cancel (hr.mono (by decide)) (by rfl) T.m_law_cancel T.F_law_cancel.kp T.b_law_cancel .nil pass0 (pa_cons (pv 1) (pa_cons (pv 2) (pa_cons (pe_op op_fdiv (pv 4) pe_int) pa_nil))))))
        (pss_one (ps_if (PW.pt (pw_and (pt_cmpR op_eq (pv 5) pe_int (nomark _)) (pw_and1 (pt_truth (pv 2) (by intro _; rfl)))))
          (pss_one (ps_set (i := 6) sc_law.nd rfl (Or.inl rfl) (pe_call G_law_amend hr (by rfl) T.m_law_amend T.F_law_amend.kp T.b_law_amend .nil pass0 (pa_cons (pv 1) (pa_cons (pv 2) (pa_cons (pe_op op_fdiv (pv 4) pe_int) pa_nil))))))
          (pss_cons (ps_set (i := 3) sc_law.nd rfl (Or.inl rfl) (pe_op op_add (pv 3) pe_int))
          (pss_one (ps_set (i := 6) sc_law.nd rfl (Or.inl rfl) (pe_call G_law_submit hr (by rfl) T.m_law_submit T.F_law_submit.kp T.b_law_submit .nil pass0 (pa_cons (pv 1) (pa_cons (pv 2) (pa_cons (pe_op op_fdiv (pv 4) pe_int) (pa_cons (pv 3) pa_nil)))))))))))
      (pss_one (ps_if (pt_not (pt_val (pv 6)))
        (pss_one (ps_ret pe_bl))
        pss_nil)))))
    (pss_one (ps_ret pe_bl)))))), ?_⟩
    walk_at "st"
    intro x dx nx ndx nex
    refine ⟨x, dx, 1, rfl, upd_same, fun H1 sd st b1 d1 l1 b2 d2 l2 BA hlls hnew hfr => ?_⟩
    have s1 : Same H H1 := fun z o hz => by
      have zx : z ≠ x := fun e => by rw [e, nx] at hz; cases hz
      have zd : z ≠ dx := fun e => by rw [e, ndx] at hz; cases hz
      refine hfr z o zx ?_
      rw [upd_ne zx, upd_ne zd]
      exact hz
    have B1 : BookOk T.c_Order T.c_BookSide T.c_Book H1 x dx sd st b1 d1 l1 b2 d2 l2 none 1 [] [] := ⟨BA, Rank.nil _, Rank.nil _, (fun e he => by cases he), hlls.1, hlls.2⟩
    refine ⟨rfl, ?_⟩
    have hs1 := s1.seq hs
    walk_at "st"
    intro D nD
    generalize hH2 : upd H1 D _ = H2
    have s2 : Same H1 H2 := hH2 ▸ same_upd nD
    have hD2 := (congrFun hH2 D).symm.trans upd_same
    have hs2 := s2.seq hs1
    walk_at "st"
    intro C nC
    generalize hH3 : upd H2 C _ = H3
    have s3 : Same H2 H3 := hH3 ▸ same_upd nC
    have hC := (congrFun hH3 C).symm.trans upd_same
    rw [cutV_ints] at hC
    have hcl : (cutI ns none (some 24)).length ≤ 24 := by
      unfold cutI
      rw [HT.sIx_none, show (24 : Int) = ((24 : Nat) : Int) from rfl, HT.sIx_nat, List.length_take]
      omega
    generalize cutI ns none (some 24) = cs at hC hcl
    have hD3 := s3 _ _ hD2
    have B3 := (B1.same s2).same s3
    have nCl1 : C ≠ l1 := fun z => by rw [z, (B1.same s2).at_.s1.li] at nC; cases nC
    have nCl2 : C ≠ l2 := fun z => by rw [z, (B1.same s2).at_.s2.li] at nC; cases nC
    have nCD : C ≠ D := fun z => by rw [z, hD2] at nC; cases nC
    have nDl : D ≠ l1 ∧ D ≠ l2 ∧ D ≠ st := ⟨fun z => (by rw [z, B1.at_.s1.li] at nD; cases nD), fun z => (by rw [z, B1.at_.s2.li] at nD; cases nD), fun z => (by rw [z, B1.at_.st] at nD; cases nD)⟩
    have S3 : SimB T.c_Order T.c_BookSide T.c_Book H3 x dx sd st b1 d1 l1 b2 d2 l2 none (0 + 1) [] [] D [] := ⟨B3, ⟨hD3, fun e he => (by cases he), List.nodup_nil, List.not_mem_nil⟩, ⟨fun e he => (by cases he), List.nodup_nil, List.nodup_nil⟩, rfl, rfl, nDl, fun e he => (by cases he), fun e he => (by cases he), fun e he => (by cases he)⟩
    walk_at "st"
    refine for_list (K := K) (a := C) (xs := cs.map V.int) (fun i σ H' => ∃ (v4 v5 v6 : Option V) (last : Option Int) (n : Int) (es1 es2 L : List Ent), σ = [some (.ref a), some (.ref x), some (.ref D), some (.int n), v4, v5, v6] ∧ H' C = some (.lst (cs.map V.int)) ∧ SimB T.c_Order T.c_BookSide T.c_Book H' x dx sd st b1 d1 l1 b2 d2 l2 last (n + 1) es1 es2 D L ∧ L.length ≤ i ∧ C ∉ L.map (·.1))
      ⟨none, none, none, none, 0, [], [], [], rfl, hC, S3, Nat.le_refl _, List.not_mem_nil⟩ (fun i σ H' _ ⟨_, _, _, _, _, _, _, _, _, h, _⟩ => SqL.of h) ?_ ?_
    · rintro i y σ H' hy ⟨v4, v5, v6, last, n, es1, es2, L, rfl, hC', S', hsz, hCL⟩
      obtain ⟨c, hc, rfl⟩ := ints_at hy
      have hi := (List.getElem?_eq_some_iff.mp hc).1
      have hDS := SqL.of (K := K) S'.A.li
      have hlt : L.length ≤ 200 := by
        omega
      cases L with
      | nil =>
        walk_at "st"
        refine iteB (fun h6 => ?_) (fun h6 => ?_)
        · walk_at "st"
          refine iteB (fun h7 => ?_) (fun h7 => ?_)
          · walk_at "st"
            refine ⟨(), x, dx, sd, st, b1, d1, l1, b2, d2, l2, D, last, n + 1, es1, es2, [], c / 8, rfl, S', hlt, fun H4 f1 f2 L4 last4 S4 hl4 kc => ?_⟩
            have hk := kc C _ hC' nCl1 nCl2 nCD hCL
            walk_at "st"
            exact ⟨_, _, _, last4, n + 1, f1, f2, L4, rfl, hk.1, S4, Nat.le_trans hl4 (Nat.succ_le_succ hsz), hk.2⟩
          · walk_at "st"
            refine ⟨(), x, dx, sd, st, b1, d1, l1, b2, d2, l2, D, last, n + 1, es1, es2, [], c / 8, rfl, S', hlt, fun H4 f1 f2 L4 last4 S4 hl4 kc => ?_⟩
            have hk := kc C _ hC' nCl1 nCl2 nCD hCL
            walk_at "st"
            exact ⟨_, _, _, last4, n + 1, f1, f2, L4, rfl, hk.1, S4, Nat.le_trans hl4 (Nat.succ_le_succ hsz), hk.2⟩
        · walk_at "st"
          refine iteB (fun h7 => ?_) (fun h7 => ?_)
          · walk_at "st"
            refine ⟨(), x, dx, sd, st, b1, d1, l1, b2, d2, l2, D, last, n + 1, es1, es2, [], c / 8, rfl, S', hlt, fun H4 f1 f2 L4 last4 S4 hl4 kc => ?_⟩
            have hk := kc C _ hC' nCl1 nCl2 nCD hCL
            walk_at "st"
            exact ⟨_, _, _, last4, n + 1, f1, f2, L4, rfl, hk.1, S4, Nat.le_trans hl4 (Nat.succ_le_succ hsz), hk.2⟩
          · walk_at "st"
            refine ⟨(), x, dx, sd, st, b1, d1, l1, b2, d2, l2, D, last, n + 1, es1, es2, [], c / 8, rfl, S', hlt, fun H4 f1 f2 L4 last4 S4 hl4 kc => ?_⟩
            have hk := kc C _ hC' nCl1 nCl2 nCD hCL
            walk_at "st"
            exact ⟨_, _, _, last4, n + 1, f1, f2, L4, rfl, hk.1, S4, Nat.le_trans hl4 (Nat.succ_le_succ hsz), hk.2⟩
      | cons e0 L0 =>
        walk_at "st"
        refine iteB (fun h6 => ?_) (fun h6 => ?_)
        · walk_at "st"
          refine ⟨(), x, dx, sd, st, b1, d1, l1, b2, d2, l2, D, last, n + 1, es1, es2, (e0 :: L0), c / 8, rfl, S', hlt, Nat.succ_pos _, fun H4 f1 f2 L4 S4 hl4 kc => ?_⟩
          have hk := kc C _ hC' nCl1 nCl2 nCD hCL
          walk_at "st"
          exact ⟨_, _, _, last, n, f1, f2, L4, rfl, hk.1, S4, Nat.le_succ_of_le (Nat.le_trans hl4 hsz), hk.2⟩
        · walk_at "st"
          refine iteB (fun h7 => ?_) (fun h7 => ?_)
          · walk_at "st"
            refine ⟨(), x, dx, sd, st, b1, d1, l1, b2, d2, l2, D, last, n + 1, es1, es2, (e0 :: L0), c / 8, rfl, S', hlt, Nat.succ_pos _, fun H4 f1 f2 L4 last4 S4 hl4 kc => ?_⟩
            have hk := kc C _ hC' nCl1 nCl2 nCD hCL
            walk_at "st"
            exact ⟨_, _, _, last4, n, f1, f2, L4, rfl, hk.1, S4, Nat.le_succ_of_le (Nat.le_trans hl4 hsz), hk.2⟩
          · walk_at "st"
            refine ⟨(), x, dx, sd, st, b1, d1, l1, b2, d2, l2, D, last, n + 1, es1, es2, (e0 :: L0), c / 8, rfl, S', hlt, fun H4 f1 f2 L4 last4 S4 hl4 kc => ?_⟩
            have hk := kc C _ hC' nCl1 nCl2 nCD hCL
            walk_at "st"
            exact ⟨_, _, _, last4, n + 1, f1, f2, L4, rfl, hk.1, S4, Nat.le_trans hl4 (Nat.succ_le_succ hsz), hk.2⟩
    · rintro σ H' ⟨v4, v5, v6, last, n, es1, es2, L, rfl, _⟩
      walk_at "st"
      exact q _

end
set_option maxHeartbeats 0 in
theorem all_mk {l : PySem.W.OpenLaw} {w : World} {K : PySem.W.Frag} {h : Heap} {mg : Str → Option Value} {fa f1 f2 f3 f4 f5 f6 f7 f8 f9 f10 f11 f12 f13 f14 f15 f16 f17 f18 f19 f20 f21 f22 f23 f24 f25 f26 f27 f28 f29 f30 f31 f32 f33 f34 f35 f36 f37 f38 f39 f40 f41 f42 f43 f44 f45 f46 f47 f48 f49 f50 f51 f52 f53 f54 f55 : Addr} (X : K.In h) (G : h.Ns mainGlobals mg) (hfa : mg "law" = some (.ref fa))
    {c_BourseError c_InvalidOrder c_UnknownOrder c_NotOwner c_Order c_BookSide c_Report c_Book : Addr}
    {od1 an1 od2 an2 od3 an3 od4 an4 od5 an5 od6 an6 od7 an7 od8 an8 od9 an9 od10 an10 od11 an11 od12 an12 od13 an13 od14 an14 od15 an15 od16 an16 od17 an17 od18 an18 od19 an19 od20 an20 od21 an21 od22 an22 od23 an23 od24 an24 od25 an25 od26 an26 od27 an27 od28 an28 od29 an29 od30 an30 od31 an31 od32 an32 od33 an33 od34 an34 od35 an35 od36 an36 od37 an37 od38 an38 od39 an39 od40 an40 od41 an41 od42 an42 od43 an43 od44 an44 od45 an45 od46 an46 od47 an47 od48 an48 od49 an49 od50 an50 od51 an51 od52 an52 od53 an53 od54 an54 od55 an55 : Option Addr} {sl1 sl2 sl3 sl4 sl5 sl6 sl7 sl8 sl9 sl10 sl11 sl12 sl13 sl14 sl15 sl16 sl17 sl18 sl19 sl20 sl21 sl22 sl23 sl24 sl25 sl26 sl27 sl28 sl29 sl30 sl31 sl32 sl33 sl34 sl35 sl36 sl37 sl38 sl39 sl40 sl41 sl42 sl43 sl44 sl45 sl46 sl47 sl48 sl49 sl50 sl51 sl52 sl53 sl54 sl55 : Array (Option Value)} {oc1 kV1 dc1 pm1 cd1 ct1 oc2 kV2 dc2 pm2 cd2 ct2 oc3 kV3 dc3 pm3 cd3 ct3 oc4 kV4 dc4 pm4 cd4 ct4 oc5 kV5 dc5 pm5 cd5 ct5 oc6 kV6 dc6 pm6 cd6 ct6 oc7 kV7 dc7 pm7 cd7 ct7 oc8 kV8 dc8 pm8 cd8 ct8 oc9 kV9 dc9 pm9 cd9 ct9 oc10 kV10 dc10 pm10 cd10 ct10 oc11 kV11 dc11 pm11 cd11 ct11 oc12 kV12 dc12 pm12 cd12 ct12 oc13 kV13 dc13 pm13 cd13 ct13 oc14 kV14 dc14 pm14 cd14 ct14 oc15 kV15 dc15 pm15 cd15 ct15 oc16 kV16 dc16 pm16 cd16 ct16 oc17 kV17 dc17 pm17 cd17 ct17 oc18 kV18 dc18 pm18 cd18 ct18 oc19 kV19 dc19 pm19 cd19 ct19 oc20 kV20 dc20 pm20 cd20 ct20 oc21 kV21 dc21 pm21 cd21 ct21 oc22 kV22 dc22 pm22 cd22 ct22 oc23 kV23 dc23 pm23 cd23 ct23 oc24 kV24 dc24 pm24 cd24 ct24 oc25 kV25 dc25 pm25 cd25 ct25 oc26 kV26 dc26 pm26 cd26 ct26 oc27 dc27 pm27 cd27 ct27 oc28 kV28 dc28 pm28 cd28 ct28 oc29 kV29 dc29 pm29 cd29 ct29 oc30 kV30 dc30 pm30 cd30 ct30 oc31 kV31 dc31 pm31 cd31 ct31 oc32 kV32 dc32 pm32 cd32 ct32 oc33 kV33 dc33 pm33 cd33 ct33 oc34 kV34 dc34 pm34 cd34 ct34 oc35 kV35 dc35 pm35 cd35 ct35 oc36 kV36 dc36 pm36 cd36 ct36 oc37 kV37 dc37 pm37 cd37 ct37 oc38 kV38 dc38 pm38 cd38 ct38 oc39 kV39 dc39 pm39 cd39 ct39 oc40 kV40 dc40 pm40 cd40 ct40 oc41 kV41 dc41 pm41 cd41 ct41 oc42 kV42 dc42 pm42 cd42 ct42 oc43 kV43 dc43 pm43 cd43 ct43 oc44 kV44 dc44 pm44 cd44 ct44 oc45 kV45 dc45 pm45 cd45 ct45 oc46 kV46 dc46 pm46 cd46 ct46 oc47 kV47 dc47 pm47 cd47 ct47 oc48 kV48 dc48 pm48 cd48 ct48 oc49 kV49 dc49 pm49 cd49 ct49 oc50 kV50 dc50 pm50 cd50 ct50 oc51 kV51 dc51 pm51 cd51 ct51 oc52 kV52 dc52 pm52 cd52 ct52 oc53 kV53 dc53 pm53 cd53 ct53 oc54 kV54 dc54 pm54 cd54 ct54 oc55 kV55 dc55 pm55 cd55 ct55 : Value}
    (a1 : PySem.W.nsIn K mainGlobals "is_integral" = some (some (.ref f1)))
    (l1 : K.lookup f1 = some ⟨oc1, od1, .func (PySem.W.fnOf "is_integral" "is_integral" (defArgs s_is_integral) (defBody s_is_integral) (defScope s_is_integral) .none kV1 dc1 pm1 an1 cd1 ct1), sl1⟩) (c1 : PySem.W.codeIn K cd1 "is_integral" = true) (k1 : PySem.W.keepIn K (.ref f1) = true)
    (a2 : PySem.W.nsIn K mainGlobals "is_within" = some (some (.ref f2)))
    (l2 : K.lookup f2 = some ⟨oc2, od2, .func (PySem.W.fnOf "is_within" "is_within" (defArgs s_is_within) (defBody s_is_within) (defScope s_is_within) .none kV2 dc2 pm2 an2 cd2 ct2), sl2⟩) (c2 : PySem.W.codeIn K cd2 "is_within" = true) (k2 : PySem.W.keepIn K (.ref f2) = true)
    (a3 : PySem.W.nsIn K mainGlobals "other_side" = some (some (.ref f3)))
    (l3 : K.lookup f3 = some ⟨oc3, od3, .func (PySem.W.fnOf "other_side" "other_side" (defArgs s_other_side) (defBody s_other_side) (defScope s_other_side) .none kV3 dc3 pm3 an3 cd3 ct3), sl3⟩) (c3 : PySem.W.codeIn K cd3 "other_side" = true) (k3 : PySem.W.keepIn K (.ref f3) = true)
    (a4 : PySem.W.nsIn K mainGlobals "accepts" = some (some (.ref f4)))
    (l4 : K.lookup f4 = some ⟨oc4, od4, .func (PySem.W.fnOf "accepts" "accepts" (defArgs s_accepts) (defBody s_accepts) (defScope s_accepts) .none kV4 dc4 pm4 an4 cd4 ct4), sl4⟩) (c4 : PySem.W.codeIn K cd4 "accepts" = true) (k4 : PySem.W.keepIn K (.ref f4) = true)
    (a5 : PySem.W.nsIn K mainGlobals "check_house" = some (some (.ref f5)))
    (l5 : K.lookup f5 = some ⟨oc5, od5, .func (PySem.W.fnOf "check_house" "check_house" (defArgs s_check_house) (defBody s_check_house) (defScope s_check_house) .none kV5 dc5 pm5 an5 cd5 ct5), sl5⟩) (c5 : PySem.W.codeIn K cd5 "check_house" = true) (k5 : PySem.W.keepIn K (.ref f5) = true)
    (a6 : PySem.W.nsIn K mainGlobals "check_side" = some (some (.ref f6)))
    (l6 : K.lookup f6 = some ⟨oc6, od6, .func (PySem.W.fnOf "check_side" "check_side" (defArgs s_check_side) (defBody s_check_side) (defScope s_check_side) .none kV6 dc6 pm6 an6 cd6 ct6), sl6⟩) (c6 : PySem.W.codeIn K cd6 "check_side" = true) (k6 : PySem.W.keepIn K (.ref f6) = true)
    (a7 : PySem.W.nsIn K mainGlobals "check_number" = some (some (.ref f7)))
    (l7 : K.lookup f7 = some ⟨oc7, od7, .func (PySem.W.fnOf "check_number" "check_number" (defArgs s_check_number) (defBody s_check_number) (defScope s_check_number) .none kV7 dc7 pm7 an7 cd7 ct7), sl7⟩) (c7 : PySem.W.codeIn K cd7 "check_number" = true) (k7 : PySem.W.keepIn K (.ref f7) = true)
    (a8 : PySem.W.nsIn K mainGlobals "check_price" = some (some (.ref f8)))
    (l8 : K.lookup f8 = some ⟨oc8, od8, .func (PySem.W.fnOf "check_price" "check_price" (defArgs s_check_price) (defBody s_check_price) (defScope s_check_price) .none kV8 dc8 pm8 an8 cd8 ct8), sl8⟩) (c8 : PySem.W.codeIn K cd8 "check_price" = true) (k8 : PySem.W.keepIn K (.ref f8) = true)
    (a9 : PySem.W.nsIn K mainGlobals "check_quantity" = some (some (.ref f9)))
    (l9 : K.lookup f9 = some ⟨oc9, od9, .func (PySem.W.fnOf "check_quantity" "check_quantity" (defArgs s_check_quantity) (defBody s_check_quantity) (defScope s_check_quantity) .none kV9 dc9 pm9 an9 cd9 ct9), sl9⟩) (c9 : PySem.W.codeIn K cd9 "check_quantity" = true) (k9 : PySem.W.keepIn K (.ref f9) = true)
    (a10 : PySem.W.nsIn K mainGlobals "check_order" = some (some (.ref f10)))
    (l10 : K.lookup f10 = some ⟨oc10, od10, .func (PySem.W.fnOf "check_order" "check_order" (defArgs s_check_order) (defBody s_check_order) (defScope s_check_order) .none kV10 dc10 pm10 an10 cd10 ct10), sl10⟩) (c10 : PySem.W.codeIn K cd10 "check_order" = true) (k10 : PySem.W.keepIn K (.ref f10) = true)
    (a11 : PySem.W.findIn K (.ref c_Order) "__init__" = some (some (.ref f11))) (i11 : PySem.W.isFn K (.ref f11) = true)
    (l11 : K.lookup f11 = some ⟨oc11, od11, .func (PySem.W.fnOf "__init__" "Order.__init__" (defArgs s_Order_init) (defBody s_Order_init) (defScope s_Order_init) .none kV11 dc11 pm11 an11 cd11 ct11), sl11⟩) (c11 : PySem.W.codeIn K cd11 "Order.__init__" = true) (k11 : PySem.W.keepIn K (.ref f11) = true)
    (a12 : PySem.W.findIn K (.ref c_Order) "accepts_price" = some (some (.ref f12))) (i12 : PySem.W.isFn K (.ref f12) = true)
    (l12 : K.lookup f12 = some ⟨oc12, od12, .func (PySem.W.fnOf "accepts_price" "Order.accepts_price" (defArgs s_Order_accepts_price) (defBody s_Order_accepts_price) (defScope s_Order_accepts_price) .none kV12 dc12 pm12 an12 cd12 ct12), sl12⟩) (c12 : PySem.W.codeIn K cd12 "Order.accepts_price" = true) (k12 : PySem.W.keepIn K (.ref f12) = true)
    (a13 : PySem.W.findIn K (.ref c_Order) "show_next_part" = some (some (.ref f13))) (i13 : PySem.W.isFn K (.ref f13) = true)
    (l13 : K.lookup f13 = some ⟨oc13, od13, .func (PySem.W.fnOf "show_next_part" "Order.show_next_part" (defArgs s_Order_show_next_part) (defBody s_Order_show_next_part) (defScope s_Order_show_next_part) .none kV13 dc13 pm13 an13 cd13 ct13), sl13⟩) (c13 : PySem.W.codeIn K cd13 "Order.show_next_part" = true) (k13 : PySem.W.keepIn K (.ref f13) = true)
    (a14 : PySem.W.findIn K (.ref c_Order) "trade_visible" = some (some (.ref f14))) (i14 : PySem.W.isFn K (.ref f14) = true)
    (l14 : K.lookup f14 = some ⟨oc14, od14, .func (PySem.W.fnOf "trade_visible" "Order.trade_visible" (defArgs s_Order_trade_visible) (defBody s_Order_trade_visible) (defScope s_Order_trade_visible) .none kV14 dc14 pm14 an14 cd14 ct14), sl14⟩) (c14 : PySem.W.codeIn K cd14 "Order.trade_visible" = true) (k14 : PySem.W.keepIn K (.ref f14) = true)
    (a15 : PySem.W.findIn K (.ref c_Order) "reduce" = some (some (.ref f15))) (i15 : PySem.W.isFn K (.ref f15) = true)
    (l15 : K.lookup f15 = some ⟨oc15, od15, .func (PySem.W.fnOf "reduce" "Order.reduce" (defArgs s_Order_reduce) (defBody s_Order_reduce) (defScope s_Order_reduce) .none kV15 dc15 pm15 an15 cd15 ct15), sl15⟩) (c15 : PySem.W.codeIn K cd15 "Order.reduce" = true) (k15 : PySem.W.keepIn K (.ref f15) = true)
    (a16 : PySem.W.findIn K (.ref c_BookSide) "__init__" = some (some (.ref f16))) (i16 : PySem.W.isFn K (.ref f16) = true)
    (l16 : K.lookup f16 = some ⟨oc16, od16, .func (PySem.W.fnOf "__init__" "BookSide.__init__" (defArgs s_BookSide_init) (defBody s_BookSide_init) (defScope s_BookSide_init) .none kV16 dc16 pm16 an16 cd16 ct16), sl16⟩) (c16 : PySem.W.codeIn K cd16 "BookSide.__init__" = true) (k16 : PySem.W.keepIn K (.ref f16) = true)
    (a17 : PySem.W.findIn K (.ref c_BookSide) "rows" = some (some (.ref f17))) (i17 : PySem.W.isFn K (.ref f17) = true)
    (l17 : K.lookup f17 = some ⟨oc17, od17, .func (PySem.W.fnOf "rows" "BookSide.rows" (defArgs s_BookSide_rows) (defBody s_BookSide_rows) (defScope s_BookSide_rows) .none kV17 dc17 pm17 an17 cd17 ct17), sl17⟩) (c17 : PySem.W.codeIn K cd17 "BookSide.rows" = true) (k17 : PySem.W.keepIn K (.ref f17) = true)
    (a18 : PySem.W.findIn K (.ref c_BookSide) "first" = some (some (.ref f18))) (i18 : PySem.W.isFn K (.ref f18) = true)
    (l18 : K.lookup f18 = some ⟨oc18, od18, .func (PySem.W.fnOf "first" "BookSide.first" (defArgs s_BookSide_first) (defBody s_BookSide_first) (defScope s_BookSide_first) .none kV18 dc18 pm18 an18 cd18 ct18), sl18⟩) (c18 : PySem.W.codeIn K cd18 "BookSide.first" = true) (k18 : PySem.W.keepIn K (.ref f18) = true)
    (a19 : PySem.W.findIn K (.ref c_BookSide) "with_number" = some (some (.ref f19))) (i19 : PySem.W.isFn K (.ref f19) = true)
    (l19 : K.lookup f19 = some ⟨oc19, od19, .func (PySem.W.fnOf "with_number" "BookSide.with_number" (defArgs s_BookSide_with_number) (defBody s_BookSide_with_number) (defScope s_BookSide_with_number) .none kV19 dc19 pm19 an19 cd19 ct19), sl19⟩) (c19 : PySem.W.codeIn K cd19 "BookSide.with_number" = true) (k19 : PySem.W.keepIn K (.ref f19) = true)
    (a20 : PySem.W.findIn K (.ref c_BookSide) "available" = some (some (.ref f20))) (i20 : PySem.W.isFn K (.ref f20) = true)
    (l20 : K.lookup f20 = some ⟨oc20, od20, .func (PySem.W.fnOf "available" "BookSide.available" (defArgs s_BookSide_available) (defBody s_BookSide_available) (defScope s_BookSide_available) .none kV20 dc20 pm20 an20 cd20 ct20), sl20⟩) (c20 : PySem.W.codeIn K cd20 "BookSide.available" = true) (k20 : PySem.W.keepIn K (.ref f20) = true)
    (a21 : PySem.W.findIn K (.ref c_BookSide) "enter" = some (some (.ref f21))) (i21 : PySem.W.isFn K (.ref f21) = true)
    (l21 : K.lookup f21 = some ⟨oc21, od21, .func (PySem.W.fnOf "enter" "BookSide.enter" (defArgs s_BookSide_enter) (defBody s_BookSide_enter) (defScope s_BookSide_enter) .none kV21 dc21 pm21 an21 cd21 ct21), sl21⟩) (c21 : PySem.W.codeIn K cd21 "BookSide.enter" = true) (k21 : PySem.W.keepIn K (.ref f21) = true)
    (a22 : PySem.W.findIn K (.ref c_BookSide) "_place_behind" = some (some (.ref f22))) (i22 : PySem.W.isFn K (.ref f22) = true)
    (l22 : K.lookup f22 = some ⟨oc22, od22, .func (PySem.W.fnOf "_place_behind" "BookSide._place_behind" (defArgs s_BookSideplace_behind) (defBody s_BookSideplace_behind) (defScope s_BookSideplace_behind) .none kV22 dc22 pm22 an22 cd22 ct22), sl22⟩) (c22 : PySem.W.codeIn K cd22 "BookSide._place_behind" = true) (k22 : PySem.W.keepIn K (.ref f22) = true)
    (a23 : PySem.W.findIn K (.ref c_BookSide) "leave" = some (some (.ref f23))) (i23 : PySem.W.isFn K (.ref f23) = true)
    (l23 : K.lookup f23 = some ⟨oc23, od23, .func (PySem.W.fnOf "leave" "BookSide.leave" (defArgs s_BookSide_leave) (defBody s_BookSide_leave) (defScope s_BookSide_leave) .none kV23 dc23 pm23 an23 cd23 ct23), sl23⟩) (c23 : PySem.W.codeIn K cd23 "BookSide.leave" = true) (k23 : PySem.W.keepIn K (.ref f23) = true)
    (a24 : PySem.W.findIn K (.ref c_BookSide) "trade_first" = some (some (.ref f24))) (i24 : PySem.W.isFn K (.ref f24) = true)
    (l24 : K.lookup f24 = some ⟨oc24, od24, .func (PySem.W.fnOf "trade_first" "BookSide.trade_first" (defArgs s_BookSide_trade_first) (defBody s_BookSide_trade_first) (defScope s_BookSide_trade_first) .none kV24 dc24 pm24 an24 cd24 ct24), sl24⟩) (c24 : PySem.W.codeIn K cd24 "BookSide.trade_first" = true) (k24 : PySem.W.keepIn K (.ref f24) = true)
    (a25 : PySem.W.findIn K (.ref c_Report) "__init__" = some (some (.ref f25))) (i25 : PySem.W.isFn K (.ref f25) = true)
    (l25 : K.lookup f25 = some ⟨oc25, od25, .func (PySem.W.fnOf "__init__" "Report.__init__" (defArgs s_Report_init) (defBody s_Report_init) (defScope s_Report_init) .none kV25 dc25 pm25 an25 cd25 ct25), sl25⟩) (c25 : PySem.W.codeIn K cd25 "Report.__init__" = true) (k25 : PySem.W.keepIn K (.ref f25) = true)
    (a26 : PySem.W.findIn K (.ref c_Book) "__init__" = some (some (.ref f26))) (i26 : PySem.W.isFn K (.ref f26) = true)
    {T26 : Addr} {ocT26 : Value} {odT26 : Option Addr} {slT26 : Array (Option Value)} {nT26 : Nat} {tT26_0 : Tok}
    (l26 : K.lookup f26 = some ⟨oc26, od26, .func (PySem.W.fnOf "__init__" "Book.__init__" (defArgs s_Book_init) (defBody s_Book_init) (defScope s_Book_init) (.ref T26) kV26 dc26 pm26 an26 cd26 ct26), sl26⟩)
    (lT26 : K.lookup T26 = some ⟨ocT26, odT26, .seq #[.int 1 tT26_0] nT26, slT26⟩)
    (c26 : PySem.W.codeIn K cd26 "Book.__init__" = true) (k26 : PySem.W.keepIn K (.ref f26) = true)
    (a27 : PySem.W.findIn K (.ref c_Book) "submit" = some (some (.ref f27))) (i27 : PySem.W.isFn K (.ref f27) = true)
    {KD27 : Addr} {tK27_0 tK27_1 : Tok}
    (l27 : K.lookup f27 = some ⟨oc27, od27, .func (PySem.W.fnOf "submit" "Book.submit" (defArgs s_Book_submit) (defBody s_Book_submit) (defScope s_Book_submit) .none (.ref KD27) dc27 pm27 an27 cd27 ct27), sl27⟩) (c27 : PySem.W.codeIn K cd27 "Book.submit" = true) (k27 : PySem.W.keepIn K (.ref f27) = true)
    (kd27_0 : PySem.W.nsIn K KD27 "kind" = some (some (.str "rest" tK27_0)))
    (kd27_1 : PySem.W.nsIn K KD27 "shown" = some (some (.int 0 tK27_1)))
    (a28 : PySem.W.findIn K (.ref c_Book) "place" = some (some (.ref f28))) (i28 : PySem.W.isFn K (.ref f28) = true)
    (l28 : K.lookup f28 = some ⟨oc28, od28, .func (PySem.W.fnOf "place" "Book.place" (defArgs s_Book_place) (defBody s_Book_place) (defScope s_Book_place) .none kV28 dc28 pm28 an28 cd28 ct28), sl28⟩) (c28 : PySem.W.codeIn K cd28 "Book.place" = true) (k28 : PySem.W.keepIn K (.ref f28) = true)
    (a29 : PySem.W.findIn K (.ref c_Book) "cancel" = some (some (.ref f29))) (i29 : PySem.W.isFn K (.ref f29) = true)
    (l29 : K.lookup f29 = some ⟨oc29, od29, .func (PySem.W.fnOf "cancel" "Book.cancel" (defArgs s_Book_cancel) (defBody s_Book_cancel) (defScope s_Book_cancel) .none kV29 dc29 pm29 an29 cd29 ct29), sl29⟩) (c29 : PySem.W.codeIn K cd29 "Book.cancel" = true) (k29 : PySem.W.keepIn K (.ref f29) = true)
    (a30 : PySem.W.findIn K (.ref c_Book) "amend" = some (some (.ref f30))) (i30 : PySem.W.isFn K (.ref f30) = true)
    (l30 : K.lookup f30 = some ⟨oc30, od30, .func (PySem.W.fnOf "amend" "Book.amend" (defArgs s_Book_amend) (defBody s_Book_amend) (defScope s_Book_amend) .none kV30 dc30 pm30 an30 cd30 ct30), sl30⟩) (c30 : PySem.W.codeIn K cd30 "Book.amend" = true) (k30 : PySem.W.keepIn K (.ref f30) = true)
    (a31 : PySem.W.findIn K (.ref c_Book) "orders" = some (some (.ref f31))) (i31 : PySem.W.isFn K (.ref f31) = true)
    (l31 : K.lookup f31 = some ⟨oc31, od31, .func (PySem.W.fnOf "orders" "Book.orders" (defArgs s_Book_orders) (defBody s_Book_orders) (defScope s_Book_orders) .none kV31 dc31 pm31 an31 cd31 ct31), sl31⟩) (c31 : PySem.W.codeIn K cd31 "Book.orders" = true) (k31 : PySem.W.keepIn K (.ref f31) = true)
    (a32 : PySem.W.findIn K (.ref c_Book) "best" = some (some (.ref f32))) (i32 : PySem.W.isFn K (.ref f32) = true)
    (l32 : K.lookup f32 = some ⟨oc32, od32, .func (PySem.W.fnOf "best" "Book.best" (defArgs s_Book_best) (defBody s_Book_best) (defScope s_Book_best) .none kV32 dc32 pm32 an32 cd32 ct32), sl32⟩) (c32 : PySem.W.codeIn K cd32 "Book.best" = true) (k32 : PySem.W.keepIn K (.ref f32) = true)
    (a33 : PySem.W.findIn K (.ref c_Book) "_take_number" = some (some (.ref f33))) (i33 : PySem.W.isFn K (.ref f33) = true)
    (l33 : K.lookup f33 = some ⟨oc33, od33, .func (PySem.W.fnOf "_take_number" "Book._take_number" (defArgs s_Booktake_number) (defBody s_Booktake_number) (defScope s_Booktake_number) .none kV33 dc33 pm33 an33 cd33 ct33), sl33⟩) (c33 : PySem.W.codeIn K cd33 "Book._take_number" = true) (k33 : PySem.W.keepIn K (.ref f33) = true)
    (a34 : PySem.W.findIn K (.ref c_Book) "_enter" = some (some (.ref f34))) (i34 : PySem.W.isFn K (.ref f34) = true)
    (l34 : K.lookup f34 = some ⟨oc34, od34, .func (PySem.W.fnOf "_enter" "Book._enter" (defArgs s_Bookenter) (defBody s_Bookenter) (defScope s_Bookenter) .none kV34 dc34 pm34 an34 cd34 ct34), sl34⟩) (c34 : PySem.W.codeIn K cd34 "Book._enter" = true) (k34 : PySem.W.keepIn K (.ref f34) = true)
    (a35 : PySem.W.findIn K (.ref c_Book) "_reduce" = some (some (.ref f35))) (i35 : PySem.W.isFn K (.ref f35) = true)
    (l35 : K.lookup f35 = some ⟨oc35, od35, .func (PySem.W.fnOf "_reduce" "Book._reduce" (defArgs s_Bookreduce) (defBody s_Bookreduce) (defScope s_Bookreduce) .none kV35 dc35 pm35 an35 cd35 ct35), sl35⟩) (c35 : PySem.W.codeIn K cd35 "Book._reduce" = true) (k35 : PySem.W.keepIn K (.ref f35) = true)
    (a36 : PySem.W.findIn K (.ref c_Book) "_enter_again" = some (some (.ref f36))) (i36 : PySem.W.isFn K (.ref f36) = true)
    (l36 : K.lookup f36 = some ⟨oc36, od36, .func (PySem.W.fnOf "_enter_again" "Book._enter_again" (defArgs s_Bookenter_again) (defBody s_Bookenter_again) (defScope s_Bookenter_again) .none kV36 dc36 pm36 an36 cd36 ct36), sl36⟩) (c36 : PySem.W.codeIn K cd36 "Book._enter_again" = true) (k36 : PySem.W.keepIn K (.ref f36) = true)
    (a37 : PySem.W.findIn K (.ref c_Book) "_order_of" = some (some (.ref f37))) (i37 : PySem.W.isFn K (.ref f37) = true)
    (l37 : K.lookup f37 = some ⟨oc37, od37, .func (PySem.W.fnOf "_order_of" "Book._order_of" (defArgs s_Bookorder_of) (defBody s_Bookorder_of) (defScope s_Bookorder_of) .none kV37 dc37 pm37 an37 cd37 ct37), sl37⟩) (c37 : PySem.W.codeIn K cd37 "Book._order_of" = true) (k37 : PySem.W.keepIn K (.ref f37) = true)
    (a38 : PySem.W.findIn K (.ref c_Book) "_order_with" = some (some (.ref f38))) (i38 : PySem.W.isFn K (.ref f38) = true)
    (l38 : K.lookup f38 = some ⟨oc38, od38, .func (PySem.W.fnOf "_order_with" "Book._order_with" (defArgs s_Bookorder_with) (defBody s_Bookorder_with) (defScope s_Bookorder_with) .none kV38 dc38 pm38 an38 cd38 ct38), sl38⟩) (c38 : PySem.W.codeIn K cd38 "Book._order_with" = true) (k38 : PySem.W.keepIn K (.ref f38) = true)
    (a39 : PySem.W.findIn K (.ref c_Book) "_stop_with" = some (some (.ref f39))) (i39 : PySem.W.isFn K (.ref f39) = true)
    (l39 : K.lookup f39 = some ⟨oc39, od39, .func (PySem.W.fnOf "_stop_with" "Book._stop_with" (defArgs s_Bookstop_with) (defBody s_Bookstop_with) (defScope s_Bookstop_with) .none kV39 dc39 pm39 an39 cd39 ct39), sl39⟩) (c39 : PySem.W.codeIn K cd39 "Book._stop_with" = true) (k39 : PySem.W.keepIn K (.ref f39) = true)
    (a40 : PySem.W.findIn K (.ref c_Book) "_trigger_stops" = some (some (.ref f40))) (i40 : PySem.W.isFn K (.ref f40) = true)
    (l40 : K.lookup f40 = some ⟨oc40, od40, .func (PySem.W.fnOf "_trigger_stops" "Book._trigger_stops" (defArgs s_Booktrigger_stops) (defBody s_Booktrigger_stops) (defScope s_Booktrigger_stops) .none kV40 dc40 pm40 an40 cd40 ct40), sl40⟩) (c40 : PySem.W.codeIn K cd40 "Book._trigger_stops" = true) (k40 : PySem.W.keepIn K (.ref f40) = true)
    (a41 : PySem.W.findIn K (.ref c_Book) "_first_reached" = some (some (.ref f41))) (i41 : PySem.W.isFn K (.ref f41) = true)
    (l41 : K.lookup f41 = some ⟨oc41, od41, .func (PySem.W.fnOf "_first_reached" "Book._first_reached" (defArgs s_Bookfirst_reached) (defBody s_Bookfirst_reached) (defScope s_Bookfirst_reached) .none kV41 dc41 pm41 an41 cd41 ct41), sl41⟩) (c41 : PySem.W.codeIn K cd41 "Book._first_reached" = true) (k41 : PySem.W.keepIn K (.ref f41) = true)
    (a42 : PySem.W.nsIn K mainGlobals "_law_house" = some (some (.ref f42)))
    (l42 : K.lookup f42 = some ⟨oc42, od42, .func (PySem.W.fnOf "_law_house" "_law_house" (defArgs s_law_house) (defBody s_law_house) (defScope s_law_house) .none kV42 dc42 pm42 an42 cd42 ct42), sl42⟩) (c42 : PySem.W.codeIn K cd42 "_law_house" = true) (k42 : PySem.W.keepIn K (.ref f42) = true)
    (a43 : PySem.W.nsIn K mainGlobals "_law_resting_side" = some (some (.ref f43)))
    (l43 : K.lookup f43 = some ⟨oc43, od43, .func (PySem.W.fnOf "_law_resting_side" "_law_resting_side" (defArgs s_law_resting_side) (defBody s_law_resting_side) (defScope s_law_resting_side) .none kV43 dc43 pm43 an43 cd43 ct43), sl43⟩) (c43 : PySem.W.codeIn K cd43 "_law_resting_side" = true) (k43 : PySem.W.keepIn K (.ref f43) = true)
    (a44 : PySem.W.nsIn K mainGlobals "_law_fits" = some (some (.ref f44)))
    (l44 : K.lookup f44 = some ⟨oc44, od44, .func (PySem.W.fnOf "_law_fits" "_law_fits" (defArgs s_law_fits) (defBody s_law_fits) (defScope s_law_fits) .none kV44 dc44 pm44 an44 cd44 ct44), sl44⟩) (c44 : PySem.W.codeIn K cd44 "_law_fits" = true) (k44 : PySem.W.keepIn K (.ref f44) = true)
    (a45 : PySem.W.nsIn K mainGlobals "_law_first" = some (some (.ref f45)))
    (l45 : K.lookup f45 = some ⟨oc45, od45, .func (PySem.W.fnOf "_law_first" "_law_first" (defArgs s_law_first) (defBody s_law_first) (defScope s_law_first) .none kV45 dc45 pm45 an45 cd45 ct45), sl45⟩) (c45 : PySem.W.codeIn K cd45 "_law_first" = true) (k45 : PySem.W.keepIn K (.ref f45) = true)
    (a46 : PySem.W.nsIn K mainGlobals "_law_visible" = some (some (.ref f46)))
    (l46 : K.lookup f46 = some ⟨oc46, od46, .func (PySem.W.fnOf "_law_visible" "_law_visible" (defArgs s_law_visible) (defBody s_law_visible) (defScope s_law_visible) .none kV46 dc46 pm46 an46 cd46 ct46), sl46⟩) (c46 : PySem.W.codeIn K cd46 "_law_visible" = true) (k46 : PySem.W.keepIn K (.ref f46) = true)
    (a47 : PySem.W.nsIn K mainGlobals "_law_trade" = some (some (.ref f47)))
    (l47 : K.lookup f47 = some ⟨oc47, od47, .func (PySem.W.fnOf "_law_trade" "_law_trade" (defArgs s_law_trade) (defBody s_law_trade) (defScope s_law_trade) .none kV47 dc47 pm47 an47 cd47 ct47), sl47⟩) (c47 : PySem.W.codeIn K cd47 "_law_trade" = true) (k47 : PySem.W.keepIn K (.ref f47) = true)
    (a48 : PySem.W.nsIn K mainGlobals "_law_available" = some (some (.ref f48)))
    (l48 : K.lookup f48 = some ⟨oc48, od48, .func (PySem.W.fnOf "_law_available" "_law_available" (defArgs s_law_available) (defBody s_law_available) (defScope s_law_available) .none kV48 dc48 pm48 an48 cd48 ct48), sl48⟩) (c48 : PySem.W.codeIn K cd48 "_law_available" = true) (k48 : PySem.W.keepIn K (.ref f48) = true)
    (a49 : PySem.W.nsIn K mainGlobals "_law_enter" = some (some (.ref f49)))
    (l49 : K.lookup f49 = some ⟨oc49, od49, .func (PySem.W.fnOf "_law_enter" "_law_enter" (defArgs s_law_enter) (defBody s_law_enter) (defScope s_law_enter) .none kV49 dc49 pm49 an49 cd49 ct49), sl49⟩) (c49 : PySem.W.codeIn K cd49 "_law_enter" = true) (k49 : PySem.W.keepIn K (.ref f49) = true)
    (a50 : PySem.W.nsIn K mainGlobals "_law_listed" = some (some (.ref f50)))
    (l50 : K.lookup f50 = some ⟨oc50, od50, .func (PySem.W.fnOf "_law_listed" "_law_listed" (defArgs s_law_listed) (defBody s_law_listed) (defScope s_law_listed) .none kV50 dc50 pm50 an50 cd50 ct50), sl50⟩) (c50 : PySem.W.codeIn K cd50 "_law_listed" = true) (k50 : PySem.W.keepIn K (.ref f50) = true)
    (a51 : PySem.W.nsIn K mainGlobals "_law_same" = some (some (.ref f51)))
    (l51 : K.lookup f51 = some ⟨oc51, od51, .func (PySem.W.fnOf "_law_same" "_law_same" (defArgs s_law_same) (defBody s_law_same) (defScope s_law_same) .none kV51 dc51 pm51 an51 cd51 ct51), sl51⟩) (c51 : PySem.W.codeIn K cd51 "_law_same" = true) (k51 : PySem.W.keepIn K (.ref f51) = true)
    (a52 : PySem.W.nsIn K mainGlobals "_law_submit" = some (some (.ref f52)))
    (l52 : K.lookup f52 = some ⟨oc52, od52, .func (PySem.W.fnOf "_law_submit" "_law_submit" (defArgs s_law_submit) (defBody s_law_submit) (defScope s_law_submit) .none kV52 dc52 pm52 an52 cd52 ct52), sl52⟩) (c52 : PySem.W.codeIn K cd52 "_law_submit" = true) (k52 : PySem.W.keepIn K (.ref f52) = true)
    (a53 : PySem.W.nsIn K mainGlobals "_law_cancel" = some (some (.ref f53)))
    (l53 : K.lookup f53 = some ⟨oc53, od53, .func (PySem.W.fnOf "_law_cancel" "_law_cancel" (defArgs s_law_cancel) (defBody s_law_cancel) (defScope s_law_cancel) .none kV53 dc53 pm53 an53 cd53 ct53), sl53⟩) (c53 : PySem.W.codeIn K cd53 "_law_cancel" = true) (k53 : PySem.W.keepIn K (.ref f53) = true)
    (a54 : PySem.W.nsIn K mainGlobals "_law_amend" = some (some (.ref f54)))
    (l54 : K.lookup f54 = some ⟨oc54, od54, .func (PySem.W.fnOf "_law_amend" "_law_amend" (defArgs s_law_amend) (defBody s_law_amend) (defScope s_law_amend) .none kV54 dc54 pm54 an54 cd54 ct54), sl54⟩) (c54 : PySem.W.codeIn K cd54 "_law_amend" = true) (k54 : PySem.W.keepIn K (.ref f54) = true)
    (a55 : PySem.W.nsIn K mainGlobals "law" = some (some (.ref f55)))
    (l55 : K.lookup f55 = some ⟨oc55, od55, .func (PySem.W.fnOf "law" "law" (defArgs s_law) (defBody s_law) (defScope s_law) .none kV55 dc55 pm55 an55 cd55 ct55), sl55⟩) (c55 : PySem.W.codeIn K cd55 "law" = true) (k55 : PySem.W.keepIn K (.ref f55) = true)
    (z_bool : PySem.W.nsIn K mainGlobals "bool" = some none)
    (z_int : PySem.W.nsIn K mainGlobals "int" = some none)
    (z_isinstance : PySem.W.nsIn K mainGlobals "isinstance" = some none)
    (z_len : PySem.W.nsIn K mainGlobals "len" = some none)
    (z_max : PySem.W.nsIn K mainGlobals "max" = some none)
    (z_min : PySem.W.nsIn K mainGlobals "min" = some none)
    (z_range : PySem.W.nsIn K mainGlobals "range" = some none)
    (z_sum : PySem.W.nsIn K mainGlobals "sum" = some none)
    {t_MOST : Tok}
    (v_MOST : PySem.W.nsIn K mainGlobals "MOST" = some (some (.int 1000000 t_MOST)))
    {ac_SIDES : Addr} {oc_SIDES : Option Addr} {sc'_SIDES : Array (Option Value)} {nc_SIDES : Nat} {tc_SIDES_0 tc_SIDES_1 : Tok}
    (v_SIDES : PySem.W.nsIn K mainGlobals "SIDES" = some (some (.ref ac_SIDES))) (lc_SIDES : K.lookup ac_SIDES = some ⟨.type "tuple", oc_SIDES, .seq #[.str "buy" tc_SIDES_0, .str "sell" tc_SIDES_1] nc_SIDES, sc'_SIDES⟩)
    {ac_KINDS : Addr} {oc_KINDS : Option Addr} {sc'_KINDS : Array (Option Value)} {nc_KINDS : Nat} {tc_KINDS_0 tc_KINDS_1 tc_KINDS_2 : Tok}
    (v_KINDS : PySem.W.nsIn K mainGlobals "KINDS" = some (some (.ref ac_KINDS))) (lc_KINDS : K.lookup ac_KINDS = some ⟨.type "tuple", oc_KINDS, .seq #[.str "rest" tc_KINDS_0, .str "now" tc_KINDS_1, .str "all" tc_KINDS_2] nc_KINDS, sc'_KINDS⟩)
    (g_BourseError : PySem.W.nsIn K mainGlobals "BourseError" = some (some (.ref c_BourseError)))
    (g_InvalidOrder : PySem.W.nsIn K mainGlobals "InvalidOrder" = some (some (.ref c_InvalidOrder)))
    (g_UnknownOrder : PySem.W.nsIn K mainGlobals "UnknownOrder" = some (some (.ref c_UnknownOrder)))
    (x_UnknownOrder : PySem.W.excIn K c_UnknownOrder [.type "ValueError", .type "Exception", .type "BaseException", .type "object"] "ValueError.__new__" = true)
    (k_UnknownOrder : PySem.W.keepIn K (.ref c_UnknownOrder) = true)
    (b_UnknownOrder : PySem.W.subIn K (.ref c_UnknownOrder) (.type "BaseException") = some true)
    (t_UnknownOrder : PySem.W.typeIn K (.ref c_UnknownOrder) = some (.type "type"))
    (d_UnknownOrder : PySem.W.hasDictIn K c_UnknownOrder = true)
    (s_UnknownOrder : PySem.W.subIn K (.ref c_UnknownOrder) (.ref c_UnknownOrder) = some true)
    (g_NotOwner : PySem.W.nsIn K mainGlobals "NotOwner" = some (some (.ref c_NotOwner)))
    (x_NotOwner : PySem.W.excIn K c_NotOwner [.type "ValueError", .type "Exception", .type "BaseException", .type "object"] "ValueError.__new__" = true)
    (k_NotOwner : PySem.W.keepIn K (.ref c_NotOwner) = true)
    (b_NotOwner : PySem.W.subIn K (.ref c_NotOwner) (.type "BaseException") = some true)
    (t_NotOwner : PySem.W.typeIn K (.ref c_NotOwner) = some (.type "type"))
    (d_NotOwner : PySem.W.hasDictIn K c_NotOwner = true)
    (s_NotOwner : PySem.W.subIn K (.ref c_NotOwner) (.ref c_NotOwner) = some true)
    (g_Order : PySem.W.nsIn K mainGlobals "Order" = some (some (.ref c_Order)))
    (pg_Order : PySem.W.plainGet K c_Order Str.empty = true)
    (hd_Order : PySem.W.hasDictIn K c_Order = true)
    (po_Order : PySem.W.plainOver K c_Order = true)
    (sa_Order : PySem.W.findIn K (.ref c_Order) "__setattr__" = some (some (.builtin "object.__setattr__")))
    (ma_Order : PySem.W.makesIn K c_Order = true)
    (kc_Order : PySem.W.keepIn K (.ref c_Order) = true)
    (eq_Order : PySem.W.findIn K (.ref c_Order) "__eq__" = some (some (.builtin "object.__eq__")))
    (mo_Order : PySem.W.mroIn K c_Order (.type "object") = some true)
    (na_Order_number : PySem.W.findIn K (.ref c_Order) "number" = some none)
    (na_Order_house : PySem.W.findIn K (.ref c_Order) "house" = some none)
    (na_Order_side : PySem.W.findIn K (.ref c_Order) "side" = some none)
    (na_Order_price : PySem.W.findIn K (.ref c_Order) "price" = some none)
    (na_Order_shown : PySem.W.findIn K (.ref c_Order) "shown" = some none)
    (na_Order_left : PySem.W.findIn K (.ref c_Order) "left" = some none)
    (na_Order_visible : PySem.W.findIn K (.ref c_Order) "visible" = some none)
    (g_BookSide : PySem.W.nsIn K mainGlobals "BookSide" = some (some (.ref c_BookSide)))
    (pg_BookSide : PySem.W.plainGet K c_BookSide Str.empty = true)
    (hd_BookSide : PySem.W.hasDictIn K c_BookSide = true)
    (po_BookSide : PySem.W.plainOver K c_BookSide = true)
    (sa_BookSide : PySem.W.findIn K (.ref c_BookSide) "__setattr__" = some (some (.builtin "object.__setattr__")))
    (ma_BookSide : PySem.W.makesIn K c_BookSide = true)
    (kc_BookSide : PySem.W.keepIn K (.ref c_BookSide) = true)
    (na_BookSide__orders : PySem.W.findIn K (.ref c_BookSide) "_orders" = some none)
    (g_Report : PySem.W.nsIn K mainGlobals "Report" = some (some (.ref c_Report)))
    (pg_Report : PySem.W.plainGet K c_Report Str.empty = true)
    (hd_Report : PySem.W.hasDictIn K c_Report = true)
    (po_Report : PySem.W.plainOver K c_Report = true)
    (sa_Report : PySem.W.findIn K (.ref c_Report) "__setattr__" = some (some (.builtin "object.__setattr__")))
    (ma_Report : PySem.W.makesIn K c_Report = true)
    (kc_Report : PySem.W.keepIn K (.ref c_Report) = true)
    (na_Report_number : PySem.W.findIn K (.ref c_Report) "number" = some none)
    (na_Report_house : PySem.W.findIn K (.ref c_Report) "house" = some none)
    (na_Report_side : PySem.W.findIn K (.ref c_Report) "side" = some none)
    (na_Report_fills : PySem.W.findIn K (.ref c_Report) "fills" = some none)
    (na_Report_removed : PySem.W.findIn K (.ref c_Report) "removed" = some none)
    (na_Report_resting : PySem.W.findIn K (.ref c_Report) "resting" = some none)
    (g_Book : PySem.W.nsIn K mainGlobals "Book" = some (some (.ref c_Book)))
    (pg_Book : PySem.W.plainGet K c_Book Str.empty = true)
    (hd_Book : PySem.W.hasDictIn K c_Book = true)
    (po_Book : PySem.W.plainOver K c_Book = true)
    (sa_Book : PySem.W.findIn K (.ref c_Book) "__setattr__" = some (some (.builtin "object.__setattr__")))
    (ma_Book : PySem.W.makesIn K c_Book = true)
    (kc_Book : PySem.W.keepIn K (.ref c_Book) = true)
    (na_Book_last : PySem.W.findIn K (.ref c_Book) "last" = some none)
    (na_Book__next_number : PySem.W.findIn K (.ref c_Book) "_next_number" = some none)
    (na_Book__sides : PySem.W.findIn K (.ref c_Book) "_sides" = some none)
    (na_Book__stops : PySem.W.findIn K (.ref c_Book) "_stops" = some none)
    (su_UnknownOrder_BourseError : PySem.W.subIn K (.ref c_UnknownOrder) (.ref c_BourseError) = some true)
    (su_NotOwner_BourseError : PySem.W.subIn K (.ref c_NotOwner) (.ref c_BourseError) = some true) :
    ∃ fd : FuncData, (∀ (s : Shared) (v : Value), BindsTo s fd ⟨[v], []⟩ [("script", v)]) ∧ ∀ base : Heap, K.In base → base.Ns mainGlobals mg → FnOk l.prog w K mg base CX0 10 fa fd ["script"] (sp_law K) := by
  have e := hfa.symm.trans (PySem.W.mg_of X G a55)
  cases e
  have F1 := fun_mk (st := s_is_integral) l1 c1 k1
  have b1 := F1.binds (ps := ["value"]) fun _ _ _ _ _ _ us hl => match us, hl with | [_], _ => rfl
  have F2 := fun_mk (st := s_is_within) l2 c2 k2
  have b2 := F2.binds (ps := ["least", "most", "value"]) fun _ _ _ _ _ _ us hl => match us, hl with | [_, _, _], _ => rfl
  have F3 := fun_mk (st := s_other_side) l3 c3 k3
  have b3 := F3.binds (ps := ["side"]) fun _ _ _ _ _ _ us hl => match us, hl with | [_], _ => rfl
  have F4 := fun_mk (st := s_accepts) l4 c4 k4
  have b4 := F4.binds (ps := ["side", "limit", "price"]) fun _ _ _ _ _ _ us hl => match us, hl with | [_, _, _], _ => rfl
  have F5 := fun_mk (st := s_check_house) l5 c5 k5
  have b5 := F5.binds (ps := ["house"]) fun _ _ _ _ _ _ us hl => match us, hl with | [_], _ => rfl
  have F6 := fun_mk (st := s_check_side) l6 c6 k6
  have b6 := F6.binds (ps := ["side"]) fun _ _ _ _ _ _ us hl => match us, hl with | [_], _ => rfl
  have F7 := fun_mk (st := s_check_number) l7 c7 k7
  have b7 := F7.binds (ps := ["number", "least", "most"]) fun _ _ _ _ _ _ us hl => match us, hl with | [_, _, _], _ => rfl
  have F8 := fun_mk (st := s_check_price) l8 c8 k8
  have b8 := F8.binds (ps := ["price"]) fun _ _ _ _ _ _ us hl => match us, hl with | [_], _ => rfl
  have F9 := fun_mk (st := s_check_quantity) l9 c9 k9
  have b9 := F9.binds (ps := ["quantity"]) fun _ _ _ _ _ _ us hl => match us, hl with | [_], _ => rfl
  have F10 := fun_mk (st := s_check_order) l10 c10 k10
  have b10 := F10.binds (ps := ["house", "side", "price", "quantity", "kind", "shown"]) fun _ _ _ _ _ _ us hl => match us, hl with | [_, _, _, _, _, _], _ => rfl
  have F11 := fun_mk (st := s_Order_init) l11 c11 k11
  have b11 := F11.binds (ps := ["self", "number", "house", "side", "price", "quantity", "shown"]) fun _ _ _ _ _ _ us hl => match us, hl with | [_, _, _, _, _, _, _], _ => rfl
  have F12 := fun_mk (st := s_Order_accepts_price) l12 c12 k12
  have b12 := F12.binds (ps := ["self", "price"]) fun _ _ _ _ _ _ us hl => match us, hl with | [_, _], _ => rfl
  have F13 := fun_mk (st := s_Order_show_next_part) l13 c13 k13
  have b13 := F13.binds (ps := ["self"]) fun _ _ _ _ _ _ us hl => match us, hl with | [_], _ => rfl
  have F14 := fun_mk (st := s_Order_trade_visible) l14 c14 k14
  have b14 := F14.binds (ps := ["self", "quantity"]) fun _ _ _ _ _ _ us hl => match us, hl with | [_, _], _ => rfl
  have F15 := fun_mk (st := s_Order_reduce) l15 c15 k15
  have b15 := F15.binds (ps := ["self", "quantity"]) fun _ _ _ _ _ _ us hl => match us, hl with | [_, _], _ => rfl
  have F16 := fun_mk (st := s_BookSide_init) l16 c16 k16
  have b16 := F16.binds (ps := ["self"]) fun _ _ _ _ _ _ us hl => match us, hl with | [_], _ => rfl
  have F17 := fun_mk (st := s_BookSide_rows) l17 c17 k17
  have b17 := F17.binds (ps := ["self"]) fun _ _ _ _ _ _ us hl => match us, hl with | [_], _ => rfl
  have F18 := fun_mk (st := s_BookSide_first) l18 c18 k18
  have b18 := F18.binds (ps := ["self"]) fun _ _ _ _ _ _ us hl => match us, hl with | [_], _ => rfl
  have F19 := fun_mk (st := s_BookSide_with_number) l19 c19 k19
  have b19 := F19.binds (ps := ["self", "number"]) fun _ _ _ _ _ _ us hl => match us, hl with | [_, _], _ => rfl
  have F20 := fun_mk (st := s_BookSide_available) l20 c20 k20
  have b20 := F20.binds (ps := ["self", "taker"]) fun _ _ _ _ _ _ us hl => match us, hl with | [_, _], _ => rfl
  have F21 := fun_mk (st := s_BookSide_enter) l21 c21 k21
  have b21 := F21.binds (ps := ["self", "order"]) fun _ _ _ _ _ _ us hl => match us, hl with | [_, _], _ => rfl
  have F22 := fun_mk (st := s_BookSideplace_behind) l22 c22 k22
  have b22 := F22.binds (ps := ["self", "order"]) fun _ _ _ _ _ _ us hl => match us, hl with | [_, _], _ => rfl
  have F23 := fun_mk (st := s_BookSide_leave) l23 c23 k23
  have b23 := F23.binds (ps := ["self", "order"]) fun _ _ _ _ _ _ us hl => match us, hl with | [_, _], _ => rfl
  have F24 := fun_mk (st := s_BookSide_trade_first) l24 c24 k24
  have b24 := F24.binds (ps := ["self", "quantity"]) fun _ _ _ _ _ _ us hl => match us, hl with | [_, _], _ => rfl
  have F25 := fun_mk (st := s_Report_init) l25 c25 k25
  have b25 := F25.binds (ps := ["self", "number", "house", "side"]) fun _ _ _ _ _ _ us hl => match us, hl with | [_, _, _, _], _ => rfl
  have F26 : FunD K "__init__" "Book.__init__" (defArgs s_Book_init) (defBody s_Book_init) (defScope s_Book_init) [.int 1] [] f26 (PySem.W.fnOf "__init__" "Book.__init__" (defArgs s_Book_init) (defBody s_Book_init) (defScope s_Book_init) (.ref T26) kV26 dc26 pm26 an26 cd26 ct26) := ⟨⟨_, _, _, _, _, _, _, _, _, _, rfl, l26, c26, .inr ⟨by simp, T26, _, _, _, rfl, lT26, rfl, .cons ⟨_, rfl⟩ (.nil)⟩, .inl rfl⟩, k26⟩
  have b26_0 := F26.binds1 (ps := ["self", "first_number"]) 1 0 (by simp) rfl fun _ _ _ _ _ _ _ us its h1 h2 => match us, its, h1, h2 with | [_], [_], _, _ => ⟨_, rfl, rfl⟩
  have b26 : Binds K (PySem.W.fnOf "__init__" "Book.__init__" (defArgs s_Book_init) (defBody s_Book_init) (defScope s_Book_init) (.ref T26) kV26 dc26 pm26 an26 cd26 ct26) ["self", "first_number"] [] := by
    obtain ⟨ds, v, b⟩ := F26.binds1 (ps := ["self", "first_number"]) 2 1 (by simp) rfl fun _ _ _ _ _ _ _ us its h1 h2 => match us, its, h1, h2 with | [_, _], [_], _, _ => ⟨_, rfl, rfl⟩
    cases v
    exact b
  have hk27 : ∀ q ∈ ([("kind", .str "rest"), ("shown", .int 0)] : List (Str × V)), ∃ u, PySem.W.nsIn K KD27 q.1 = some (some u) ∧ RelV q.2 u := by
    intro q hq
    rcases List.mem_cons.mp hq with e | hq
    · rw [e]
      exact ⟨_, kd27_0, ⟨_, rfl⟩⟩
    rw [List.mem_singleton.mp hq]
    exact ⟨_, kd27_1, ⟨_, rfl⟩⟩
  have F27 : FunD K "submit" "Book.submit" (defArgs s_Book_submit) (defBody s_Book_submit) (defScope s_Book_submit) [] [("kind", .str "rest"), ("shown", .int 0)] f27 (PySem.W.fnOf "submit" "Book.submit" (defArgs s_Book_submit) (defBody s_Book_submit) (defScope s_Book_submit) .none (.ref KD27) dc27 pm27 an27 cd27 ct27) := ⟨⟨_, _, _, _, _, _, _, _, _, _, rfl, l27, c27, .inl ⟨rfl, rfl⟩, .inr ⟨KD27, rfl, hk27⟩⟩, k27⟩
  have b27 := F27.binds0 (ps := ["self", "house", "side", "price", "quantity", "kind", "shown"]) 5 (by simp) rfl fun _ _ _ _ _ _ us ks h1 h2 => match us, ks, h1, h2 with | [_, _, _, _, _], [_, _], _, _ => ⟨_, _, _, _, _, _, rfl, rfl, ⟨_, _, _, _, _, _, rfl, rfl, rfl⟩⟩
  have kb27_kind_shown : ∃ g : List Value → List Value → List Value, KBn K (PySem.W.fnOf "submit" "Book.submit" (defArgs s_Book_submit) (defBody s_Book_submit) (defScope s_Book_submit) .none (.ref KD27) dc27 pm27 an27 cd27 ct27) ["self", "house", "side", "price", "quantity", "kind", "shown"] 5 ["kind", "shown"] g _ := (F27.kbinds0 (ps := ["self", "house", "side", "price", "quantity", "kind", "shown"]) 5 ["kind", "shown"] [] (fun us mv ws => us ++ ws) (by simp) (by simp) (fun r1 r2 r3 => (r1.append r3)) fun _ _ _ _ _ _ us mv ws h1 h2 h3 => match us, mv, ws, h1, h2, h3 with | [_, _, _, _, _], [], [_, _], _, _, _ => rfl).elim fun mv h => ⟨_, h⟩
  have F28 := fun_mk (st := s_Book_place) l28 c28 k28
  have b28 := F28.binds (ps := ["self", "number", "house", "side", "price", "quantity"]) fun _ _ _ _ _ _ us hl => match us, hl with | [_, _, _, _, _, _], _ => rfl
  have F29 := fun_mk (st := s_Book_cancel) l29 c29 k29
  have b29 := F29.binds (ps := ["self", "number", "house"]) fun _ _ _ _ _ _ us hl => match us, hl with | [_, _, _], _ => rfl
  have F30 := fun_mk (st := s_Book_amend) l30 c30 k30
  have b30 := F30.binds (ps := ["self", "number", "house", "price", "quantity"]) fun _ _ _ _ _ _ us hl => match us, hl with | [_, _, _, _, _], _ => rfl
  have F31 := fun_mk (st := s_Book_orders) l31 c31 k31
  have b31 := F31.binds (ps := ["self", "side"]) fun _ _ _ _ _ _ us hl => match us, hl with | [_, _], _ => rfl
  have F32 := fun_mk (st := s_Book_best) l32 c32 k32
  have b32 := F32.binds (ps := ["self", "side"]) fun _ _ _ _ _ _ us hl => match us, hl with | [_, _], _ => rfl
  have F33 := fun_mk (st := s_Booktake_number) l33 c33 k33
  have b33 := F33.binds (ps := ["self"]) fun _ _ _ _ _ _ us hl => match us, hl with | [_], _ => rfl
  have F34 := fun_mk (st := s_Bookenter) l34 c34 k34
  have b34 := F34.binds (ps := ["self", "order", "kind"]) fun _ _ _ _ _ _ us hl => match us, hl with | [_, _, _], _ => rfl
  have F35 := fun_mk (st := s_Bookreduce) l35 c35 k35
  have b35 := F35.binds (ps := ["self", "order", "quantity"]) fun _ _ _ _ _ _ us hl => match us, hl with | [_, _, _], _ => rfl
  have F36 := fun_mk (st := s_Bookenter_again) l36 c36 k36
  have b36 := F36.binds (ps := ["self", "order", "price", "quantity"]) fun _ _ _ _ _ _ us hl => match us, hl with | [_, _, _, _], _ => rfl
  have F37 := fun_mk (st := s_Bookorder_of) l37 c37 k37
  have b37 := F37.binds (ps := ["self", "number", "house"]) fun _ _ _ _ _ _ us hl => match us, hl with | [_, _, _], _ => rfl
  have F38 := fun_mk (st := s_Bookorder_with) l38 c38 k38
  have b38 := F38.binds (ps := ["self", "number"]) fun _ _ _ _ _ _ us hl => match us, hl with | [_, _], _ => rfl
  have F39 := fun_mk (st := s_Bookstop_with) l39 c39 k39
  have b39 := F39.binds (ps := ["self", "number"]) fun _ _ _ _ _ _ us hl => match us, hl with | [_, _], _ => rfl
  have F40 := fun_mk (st := s_Booktrigger_stops) l40 c40 k40
  have b40 := F40.binds (ps := ["self"]) fun _ _ _ _ _ _ us hl => match us, hl with | [_], _ => rfl
  have F41 := fun_mk (st := s_Bookfirst_reached) l41 c41 k41
  have b41 := F41.binds (ps := ["self"]) fun _ _ _ _ _ _ us hl => match us, hl with | [_], _ => rfl
  have F42 := fun_mk (st := s_law_house) l42 c42 k42
  have b42 := F42.binds (ps := ["cell"]) fun _ _ _ _ _ _ us hl => match us, hl with | [_], _ => rfl
  have F43 := fun_mk (st := s_law_resting_side) l43 c43 k43
  have b43 := F43.binds (ps := ["side"]) fun _ _ _ _ _ _ us hl => match us, hl with | [_], _ => rfl
  have F44 := fun_mk (st := s_law_fits) l44 c44 k44
  have b44 := F44.binds (ps := ["side", "limit", "price"]) fun _ _ _ _ _ _ us hl => match us, hl with | [_, _, _], _ => rfl
  have F45 := fun_mk (st := s_law_first) l45 c45 k45
  have b45 := F45.binds (ps := ["orders", "side", "limit"]) fun _ _ _ _ _ _ us hl => match us, hl with | [_, _, _], _ => rfl
  have F46 := fun_mk (st := s_law_visible) l46 c46 k46
  have b46 := F46.binds (ps := ["left", "shown"]) fun _ _ _ _ _ _ us hl => match us, hl with | [_, _], _ => rfl
  have F47 := fun_mk (st := s_law_trade) l47 c47 k47
  have b47 := F47.binds (ps := ["orders", "house", "side", "limit", "quantity"]) fun _ _ _ _ _ _ us hl => match us, hl with | [_, _, _, _, _], _ => rfl
  have F48 := fun_mk (st := s_law_available) l48 c48 k48
  have b48 := F48.binds (ps := ["orders", "house", "side", "limit"]) fun _ _ _ _ _ _ us hl => match us, hl with | [_, _, _, _], _ => rfl
  have F49 := fun_mk (st := s_law_enter) l49 c49 k49
  have b49 := F49.binds (ps := ["orders", "number", "house", "side", "limit", "quantity", "kind", "shown"]) fun _ _ _ _ _ _ us hl => match us, hl with | [_, _, _, _, _, _, _, _], _ => rfl
  have F50 := fun_mk (st := s_law_listed) l50 c50 k50
  have b50 := F50.binds (ps := ["orders", "side"]) fun _ _ _ _ _ _ us hl => match us, hl with | [_, _], _ => rfl
  have F51 := fun_mk (st := s_law_same) l51 c51 k51
  have b51 := F51.binds (ps := ["book", "orders", "reports", "due", "number"]) fun _ _ _ _ _ _ us hl => match us, hl with | [_, _, _, _, _], _ => rfl
  have F52 := fun_mk (st := s_law_submit) l52 c52 k52
  have b52 := F52.binds (ps := ["book", "orders", "cell", "number"]) fun _ _ _ _ _ _ us hl => match us, hl with | [_, _, _, _], _ => rfl
  have F53 := fun_mk (st := s_law_cancel) l53 c53 k53
  have b53 := F53.binds (ps := ["book", "orders", "cell"]) fun _ _ _ _ _ _ us hl => match us, hl with | [_, _, _], _ => rfl
  have F54 := fun_mk (st := s_law_amend) l54 c54 k54
  have b54 := F54.binds (ps := ["book", "orders", "cell"]) fun _ _ _ _ _ _ us hl => match us, hl with | [_, _, _], _ => rfl
  have F55 := fun_mk (st := s_law) l55 c55 k55
  have b55 := F55.binds (ps := ["script"]) fun _ _ _ _ _ _ us hl => match us, hl with | [_], _ => rfl
  have T : Txt K mg := ⟨f1, _, F1, PySem.W.mg_of X G a1, b1, f2, _, F2, PySem.W.mg_of X G a2, b2, f3, _, F3, PySem.W.mg_of X G a3, b3, f4, _, F4, PySem.W.mg_of X G a4, b4, f5, _, F5, PySem.W.mg_of X G a5, b5, f6, _, F6, PySem.W.mg_of X G a6, b6, f7, _, F7, PySem.W.mg_of X G a7, b7, f8, _, F8, PySem.W.mg_of X G a8, b8, f9, _, F9, PySem.W.mg_of X G a9, b9, f10, _, F10, PySem.W.mg_of X G a10, b10, f11, _, F11, b11, f12, _, F12, b12, f13, _, F13, b13, f14, _, F14, b14, f15, _, F15, b15, f16, _, F16, b16, f17, _, F17, b17, f18, _, F18, b18, f19, _, F19, b19, f20, _, F20, b20, f21, _, F21, b21, f22, _, F22, b22, f23, _, F23, b23, f24, _, F24, b24, f25, _, F25, b25, f26, _, F26, b26_0, b26, f27, _, F27, b27, kb27_kind_shown, f28, _, F28, b28, f29, _, F29, b29, f30, _, F30, b30, f31, _, F31, b31, f32, _, F32, b32, f33, _, F33, b33, f34, _, F34, b34, f35, _, F35, b35, f36, _, F36, b36, f37, _, F37, b37, f38, _, F38, b38, f39, _, F39, b39, f40, _, F40, b40, f41, _, F41, b41, f42, _, F42, PySem.W.mg_of X G a42, b42, f43, _, F43, PySem.W.mg_of X G a43, b43, f44, _, F44, PySem.W.mg_of X G a44, b44, f45, _, F45, PySem.W.mg_of X G a45, b45, f46, _, F46, PySem.W.mg_of X G a46, b46, f47, _, F47, PySem.W.mg_of X G a47, b47, f48, _, F48, PySem.W.mg_of X G a48, b48, f49, _, F49, PySem.W.mg_of X G a49, b49, f50, _, F50, PySem.W.mg_of X G a50, b50, f51, _, F51, PySem.W.mg_of X G a51, b51, f52, _, F52, PySem.W.mg_of X G a52, b52, f53, _, F53, PySem.W.mg_of X G a53, b53, f54, _, F54, PySem.W.mg_of X G a54, b54, c_BourseError, PySem.W.mg_of X G g_BourseError, c_InvalidOrder, PySem.W.mg_of X G g_InvalidOrder, c_UnknownOrder, PySem.W.mg_of X G g_UnknownOrder, x_UnknownOrder, k_UnknownOrder, b_UnknownOrder, t_UnknownOrder, d_UnknownOrder, s_UnknownOrder, c_NotOwner, PySem.W.mg_of X G g_NotOwner, x_NotOwner, k_NotOwner, b_NotOwner, t_NotOwner, d_NotOwner, s_NotOwner, c_Order, PySem.W.mg_of X G g_Order, pg_Order, hd_Order, po_Order, sa_Order, ma_Order, kc_Order, eq_Order, mo_Order, ⟨pg_Order, hd_Order, po_Order, sa_Order⟩, na_Order_number, na_Order_house, na_Order_side, na_Order_price, na_Order_shown, na_Order_left, na_Order_visible, c_BookSide, PySem.W.mg_of X G g_BookSide, pg_BookSide, hd_BookSide, po_BookSide, sa_BookSide, ma_BookSide, kc_BookSide, ⟨pg_BookSide, hd_BookSide, po_BookSide, sa_BookSide⟩, na_BookSide__orders, c_Report, PySem.W.mg_of X G g_Report, pg_Report, hd_Report, po_Report, sa_Report, ma_Report, kc_Report, ⟨pg_Report, hd_Report, po_Report, sa_Report⟩, na_Report_number, na_Report_house, na_Report_side, na_Report_fills, na_Report_removed, na_Report_resting, c_Book, PySem.W.mg_of X G g_Book, pg_Book, hd_Book, po_Book, sa_Book, ma_Book, kc_Book, ⟨pg_Book, hd_Book, po_Book, sa_Book⟩, na_Book_last, na_Book__next_number, na_Book__sides, na_Book__stops, ⟨ma_Order, a11, i11, kc_Order⟩, ⟨a12, i12, k12⟩, ⟨a13, i13, k13⟩, ⟨a14, i14, k14⟩, ⟨a15, i15, k15⟩, ⟨ma_BookSide, a16, i16, kc_BookSide⟩, ⟨a17, i17, k17⟩, ⟨a18, i18, k18⟩, ⟨a19, i19, k19⟩, ⟨a20, i20, k20⟩, ⟨a21, i21, k21⟩, ⟨a22, i22, k22⟩, ⟨a23, i23, k23⟩, ⟨a24, i24, k24⟩, ⟨ma_Report, a25, i25, kc_Report⟩, ⟨ma_Book, a26, i26, kc_Book⟩, ⟨a27, i27, k27⟩, ⟨a28, i28, k28⟩, ⟨a29, i29, k29⟩, ⟨a30, i30, k30⟩, ⟨a31, i31, k31⟩, ⟨a32, i32, k32⟩, ⟨a33, i33, k33⟩, ⟨a34, i34, k34⟩, ⟨a35, i35, k35⟩, ⟨a36, i36, k36⟩, ⟨a37, i37, k37⟩, ⟨a38, i38, k38⟩, ⟨a39, i39, k39⟩, ⟨a40, i40, k40⟩, ⟨a41, i41, k41⟩, su_UnknownOrder_BourseError, su_NotOwner_BourseError, PySem.W.mg_none_of X G z_bool, PySem.W.mg_none_of X G z_int, PySem.W.mg_none_of X G z_isinstance, PySem.W.mg_none_of X G z_len, PySem.W.mg_none_of X G z_max, PySem.W.mg_none_of X G z_min, PySem.W.mg_none_of X G z_range, PySem.W.mg_none_of X G z_sum, ac_SIDES, PySem.W.mg_of X G v_SIDES, (fun H => .inr ⟨_, _, _, lc_SIDES, rfl, rfl, (show 2 ≤ sizeLine from len_le rfl), .cons ⟨_, rfl⟩ (.cons ⟨_, rfl⟩ (.nil))⟩), ac_KINDS, PySem.W.mg_of X G v_KINDS, (fun H => .inr ⟨_, _, _, lc_KINDS, rfl, rfl, (show 3 ≤ sizeLine from len_le rfl), .cons ⟨_, rfl⟩ (.cons ⟨_, rfl⟩ (.cons ⟨_, rfl⟩ (.nil)))⟩), t_MOST, PySem.W.mg_of X G v_MOST⟩
  exact ⟨PySem.W.fnOf "law" "law" (defArgs s_law) (defBody s_law) (defScope s_law) .none kV55 dc55 pm55 an55 cd55 ct55, fun s v => .of_eq rfl, fun base _ _ => ok_law T F55⟩
end FB
open PySem PySem.W PyProof.Rows
set_option maxRecDepth 100000 in
set_option maxHeartbeats 0 in
theorem PySem.Challenge.cw_fairbourse_k24_book_whole_model_holds : PySem.Challenge.rw_fairbourse_k24_book_whole_model.Holds := by
  w_on; o_law; k_head; (case hw => w_witness2)
  k_fill
  refine L2.walk_of (l := PySem.Challenge.rw_fairbourse_k24_book_whole_model) (n := 63) (k := 10) (x := "script") (CX := fun _ => L2.CX0) (sp := fun w => FB.sp_law _) rfl (by decide) rfl ⟨rfl, by decide, by decide⟩ (fun w h Y => PySem.W.kIn_of Y) ?F (fun _ _ a ns hl _ hS => ⟨a, ns, rfl, hS, hl, fun _ => rfl⟩) (fun _ _ _ _ _ h => h)
  case F =>
    intro w mg fa h KX G hmg
    refine' FB.all_mk KX G hmg ?a1 ?l1 ?c1 ?k1 ?a2 ?l2 ?c2 ?k2 ?a3 ?l3 ?c3 ?k3 ?a4 ?l4 ?c4 ?k4 ?a5 ?l5 ?c5 ?k5 ?a6 ?l6 ?c6 ?k6 ?a7 ?l7 ?c7 ?k7 ?a8 ?l8 ?c8 ?k8 ?a9 ?l9 ?c9 ?k9 ?a10 ?l10 ?c10 ?k10 ?a11 ?i11 ?l11 ?c11 ?k11 ?a12 ?i12 ?l12 ?c12 ?k12 ?a13 ?i13 ?l13 ?c13 ?k13 ?a14 ?i14 ?l14 ?c14 ?k14 ?a15 ?i15 ?l15 ?c15 ?k15 ?a16 ?i16 ?l16 ?c16 ?k16 ?a17 ?i17 ?l17 ?c17 ?k17 ?a18 ?i18 ?l18 ?c18 ?k18 ?a19 ?i19 ?l19 ?c19 ?k19 ?a20 ?i20 ?l20 ?c20 ?k20 ?a21 ?i21 ?l21 ?c21 ?k21 ?a22 ?i22 ?l22 ?c22 ?k22 ?a23 ?i23 ?l23 ?c23 ?k23 ?a24 ?i24 ?l24 ?c24 ?k24 ?a25 ?i25 ?l25 ?c25 ?k25 ?a26 ?i26 ?l26 ?lT26 ?c26 ?k26 ?a27 ?i27 ?l27 ?c27 ?k27 ?kd27_0 ?kd27_1 ?a28 ?i28 ?l28 ?c28 ?k28 ?a29 ?i29 ?l29 ?c29 ?k29 ?a30 ?i30 ?l30 ?c30 ?k30 ?a31 ?i31 ?l31 ?c31 ?k31 ?a32 ?i32 ?l32 ?c32 ?k32 ?a33 ?i33 ?l33 ?c33 ?k33 ?a34 ?i34 ?l34 ?c34 ?k34 ?a35 ?i35 ?l35 ?c35 ?k35 ?a36 ?i36 ?l36 ?c36 ?k36 ?a37 ?i37 ?l37 ?c37 ?k37 ?a38 ?i38 ?l38 ?c38 ?k38 ?a39 ?i39 ?l39 ?c39 ?k39 ?a40 ?i40 ?l40 ?c40 ?k40 ?a41 ?i41 ?l41 ?c41 ?k41 ?a42 ?l42 ?c42 ?k42 ?a43 ?l43 ?c43 ?k43 ?a44 ?l44 ?c44 ?k44 ?a45 ?l45 ?c45 ?k45 ?a46 ?l46 ?c46 ?k46 ?a47 ?l47 ?c47 ?k47 ?a48 ?l48 ?c48 ?k48 ?a49 ?l49 ?c49 ?k49 ?a50 ?l50 ?c50 ?k50 ?a51 ?l51 ?c51 ?k51 ?a52 ?l52 ?c52 ?k52 ?a53 ?l53 ?c53 ?k53 ?a54 ?l54 ?c54 ?k54 ?a55 ?l55 ?c55 ?k55 ?z_bool ?z_int ?z_isinstance ?z_len ?z_max ?z_min ?z_range ?z_sum ?v_MOST ?v_SIDES ?lc_SIDES ?v_KINDS ?lc_KINDS ?g_BourseError ?g_InvalidOrder ?g_UnknownOrder ?x_UnknownOrder ?k_UnknownOrder ?b_UnknownOrder ?t_UnknownOrder ?d_UnknownOrder ?s_UnknownOrder ?g_NotOwner ?x_NotOwner ?k_NotOwner ?b_NotOwner ?t_NotOwner ?d_NotOwner ?s_NotOwner ?g_Order ?pg_Order ?hd_Order ?po_Order ?sa_Order ?ma_Order ?kc_Order ?eq_Order ?mo_Order ?na_Order_number ?na_Order_house ?na_Order_side ?na_Order_price ?na_Order_shown ?na_Order_left ?na_Order_visible ?g_BookSide ?pg_BookSide ?hd_BookSide ?po_BookSide ?sa_BookSide ?ma_BookSide ?kc_BookSide ?na_BookSide__orders ?g_Report ?pg_Report ?hd_Report ?po_Report ?sa_Report ?ma_Report ?kc_Report ?na_Report_number ?na_Report_house ?na_Report_side ?na_Report_fills ?na_Report_removed ?na_Report_resting ?g_Book ?pg_Book ?hd_Book ?po_Book ?sa_Book ?ma_Book ?kc_Book ?na_Book_last ?na_Book__next_number ?na_Book__sides ?na_Book__stops ?su_UnknownOrder_BourseError ?su_NotOwner_BourseError
    (case g_BourseError => k_is)
    (case g_InvalidOrder => k_is)
    (case g_UnknownOrder => k_is)
    (case g_NotOwner => k_is)
    (case g_Order => k_is)
    (case g_BookSide => k_is)
    (case g_Report => k_is)
    (case g_Book => k_is)
    (case a1 => k_is)
    (case l1 => k_is)
    (case c1 => k_is)
    (case k1 => k_is)
    (case a2 => k_is)
    (case l2 => k_is)
    (case c2 => k_is)
    (case k2 => k_is)
    (case a3 => k_is)
    (case l3 => k_is)
    (case c3 => k_is)
    (case k3 => k_is)
    (case a4 => k_is)
    (case l4 => k_is)
    (case c4 => k_is)
    (case k4 => k_is)
    (case a5 => k_is)
    (case l5 => k_is)
    (case c5 => k_is)
    (case k5 => k_is)
    (case a6 => k_is)
    (case l6 => k_is)
    (case c6 => k_is)
    (case k6 => k_is)
    (case a7 => k_is)
    (case l7 => k_is)
    (case c7 => k_is)
    (case k7 => k_is)
    (case a8 => k_is)
    (case l8 => k_is)
    (case c8 => k_is)
    (case k8 => k_is)
    (case a9 => k_is)
    (case l9 => k_is)
    (case c9 => k_is)
    (case k9 => k_is)
    (case a10 => k_is)
    (case l10 => k_is)
    (case c10 => k_is)
    (case k10 => k_is)
    (case a11 => k_is)
    (case i11 => k_is)
    (case l11 => k_is)
    (case c11 => k_is)
    (case k11 => k_is)
    (case a12 => k_is)
    (case i12 => k_is)
    (case l12 => k_is)
    (case c12 => k_is)
    (case k12 => k_is)
    (case a13 => k_is)
    (case i13 => k_is)
    (case l13 => k_is)
    (case c13 => k_is)
    (case k13 => k_is)
    (case a14 => k_is)
    (case i14 => k_is)
    (case l14 => k_is)
    (case c14 => k_is)
    (case k14 => k_is)
    (case a15 => k_is)
    (case i15 => k_is)
    (case l15 => k_is)
    (case c15 => k_is)
    (case k15 => k_is)
    (case a16 => k_is)
    (case i16 => k_is)
    (case l16 => k_is)
    (case c16 => k_is)
    (case k16 => k_is)
    (case a17 => k_is)
    (case i17 => k_is)
    (case l17 => k_is)
    (case c17 => k_is)
    (case k17 => k_is)
    (case a18 => k_is)
    (case i18 => k_is)
    (case l18 => k_is)
    (case c18 => k_is)
    (case k18 => k_is)
    (case a19 => k_is)
    (case i19 => k_is)
    (case l19 => k_is)
    (case c19 => k_is)
    (case k19 => k_is)
    (case a20 => k_is)
    (case i20 => k_is)
    (case l20 => k_is)
    (case c20 => k_is)
    (case k20 => k_is)
    (case a21 => k_is)
    (case i21 => k_is)
    (case l21 => k_is)
    (case c21 => k_is)
    (case k21 => k_is)
    (case a22 => k_is)
    (case i22 => k_is)
    (case l22 => k_is)
    (case c22 => k_is)
    (case k22 => k_is)
    (case a23 => k_is)
    (case i23 => k_is)
    (case l23 => k_is)
    (case c23 => k_is)
    (case k23 => k_is)
    (case a24 => k_is)
    (case i24 => k_is)
    (case l24 => k_is)
    (case c24 => k_is)
    (case k24 => k_is)
    (case a25 => k_is)
    (case i25 => k_is)
    (case l25 => k_is)
    (case c25 => k_is)
    (case k25 => k_is)
    (case a26 => k_is)
    (case i26 => k_is)
    (case l26 => k_is)
    (case lT26 => k_is)
    (case c26 => k_is)
    (case k26 => k_is)
    (case a27 => k_is)
    (case i27 => k_is)
    (case l27 => k_is)
    (case c27 => k_is)
    (case k27 => k_is)
    (case kd27_0 => k_is)
    (case kd27_1 => k_is)
    (case a28 => k_is)
    (case i28 => k_is)
    (case l28 => k_is)
    (case c28 => k_is)
    (case k28 => k_is)
    (case a29 => k_is)
    (case i29 => k_is)
    (case l29 => k_is)
    (case c29 => k_is)
    (case k29 => k_is)
    (case a30 => k_is)
    (case i30 => k_is)
    (case l30 => k_is)
    (case c30 => k_is)
    (case k30 => k_is)
    (case a31 => k_is)
    (case i31 => k_is)
    (case l31 => k_is)
    (case c31 => k_is)
    (case k31 => k_is)
    (case a32 => k_is)
    (case i32 => k_is)
    (case l32 => k_is)
    (case c32 => k_is)
    (case k32 => k_is)
    (case a33 => k_is)
    (case i33 => k_is)
    (case l33 => k_is)
    (case c33 => k_is)
    (case k33 => k_is)
    (case a34 => k_is)
    (case i34 => k_is)
    (case l34 => k_is)
    (case c34 => k_is)
    (case k34 => k_is)
    (case a35 => k_is)
    (case i35 => k_is)
    (case l35 => k_is)
    (case c35 => k_is)
    (case k35 => k_is)
    (case a36 => k_is)
    (case i36 => k_is)
    (case l36 => k_is)
    (case c36 => k_is)
    (case k36 => k_is)
    (case a37 => k_is)
    (case i37 => k_is)
    (case l37 => k_is)
    (case c37 => k_is)
    (case k37 => k_is)
    (case a38 => k_is)
    (case i38 => k_is)
    (case l38 => k_is)
    (case c38 => k_is)
    (case k38 => k_is)
    (case a39 => k_is)
    (case i39 => k_is)
    (case l39 => k_is)
    (case c39 => k_is)
    (case k39 => k_is)
    (case a40 => k_is)
    (case i40 => k_is)
    (case l40 => k_is)
    (case c40 => k_is)
    (case k40 => k_is)
    (case a41 => k_is)
    (case i41 => k_is)
    (case l41 => k_is)
    (case c41 => k_is)
    (case k41 => k_is)
    (case a42 => k_is)
    (case l42 => k_is)
    (case c42 => k_is)
    (case k42 => k_is)
    (case a43 => k_is)
    (case l43 => k_is)
    (case c43 => k_is)
    (case k43 => k_is)
    (case a44 => k_is)
    (case l44 => k_is)
    (case c44 => k_is)
    (case k44 => k_is)
    (case a45 => k_is)
    (case l45 => k_is)
    (case c45 => k_is)
    (case k45 => k_is)
    (case a46 => k_is)
    (case l46 => k_is)
    (case c46 => k_is)
    (case k46 => k_is)
    (case a47 => k_is)
    (case l47 => k_is)
    (case c47 => k_is)
    (case k47 => k_is)
    (case a48 => k_is)
    (case l48 => k_is)
    (case c48 => k_is)
    (case k48 => k_is)
    (case a49 => k_is)
    (case l49 => k_is)
    (case c49 => k_is)
    (case k49 => k_is)
    (case a50 => k_is)
    (case l50 => k_is)
    (case c50 => k_is)
    (case k50 => k_is)
    (case a51 => k_is)
    (case l51 => k_is)
    (case c51 => k_is)
    (case k51 => k_is)
    (case a52 => k_is)
    (case l52 => k_is)
    (case c52 => k_is)
    (case k52 => k_is)
    (case a53 => k_is)
    (case l53 => k_is)
    (case c53 => k_is)
    (case k53 => k_is)
    (case a54 => k_is)
    (case l54 => k_is)
    (case c54 => k_is)
    (case k54 => k_is)
    (case a55 => k_is)
    (case l55 => k_is)
    (case c55 => k_is)
    (case k55 => k_is)
    (case z_bool => k_is)
    (case z_int => k_is)
    (case z_isinstance => k_is)
    (case z_len => k_is)
    (case z_max => k_is)
    (case z_min => k_is)
    (case z_range => k_is)
    (case z_sum => k_is)
    (case v_MOST => k_is)
    (case v_SIDES => k_is)
    (case lc_SIDES => k_is)
    (case v_KINDS => k_is)
    (case lc_KINDS => k_is)
    (case x_UnknownOrder => k_exc)
    (case k_UnknownOrder => k_is)
    (case b_UnknownOrder => k_is)
    (case t_UnknownOrder => k_is)
    (case d_UnknownOrder => k_is)
    (case s_UnknownOrder => first | rfl | k_is)
    (case x_NotOwner => k_exc)
    (case k_NotOwner => k_is)
    (case b_NotOwner => k_is)
    (case t_NotOwner => k_is)
    (case d_NotOwner => k_is)
    (case s_NotOwner => first | rfl | k_is)
    (case pg_Order => k_is)
    (case hd_Order => k_is)
    (case po_Order => k_is)
    (case sa_Order => k_is)
    (case ma_Order => k_is)
    (case kc_Order => k_is)
    (case eq_Order => k_is)
    (case mo_Order => k_is)
    (case na_Order_number => k_is)
    (case na_Order_house => k_is)
    (case na_Order_side => k_is)
    (case na_Order_price => k_is)
    (case na_Order_shown => k_is)
    (case na_Order_left => k_is)
    (case na_Order_visible => k_is)
    (case pg_BookSide => k_is)
    (case hd_BookSide => k_is)
    (case po_BookSide => k_is)
    (case sa_BookSide => k_is)
    (case ma_BookSide => k_is)
    (case kc_BookSide => k_is)
    (case na_BookSide__orders => k_is)
    (case pg_Report => k_is)
    (case hd_Report => k_is)
    (case po_Report => k_is)
    (case sa_Report => k_is)
    (case ma_Report => k_is)
    (case kc_Report => k_is)
    (case na_Report_number => k_is)
    (case na_Report_house => k_is)
    (case na_Report_side => k_is)
    (case na_Report_fills => k_is)
    (case na_Report_removed => k_is)
    (case na_Report_resting => k_is)
    (case pg_Book => k_is)
    (case hd_Book => k_is)
    (case po_Book => k_is)
    (case sa_Book => k_is)
    (case ma_Book => k_is)
    (case kc_Book => k_is)
    (case na_Book_last => k_is)
    (case na_Book__next_number => k_is)
    (case na_Book__sides => k_is)
    (case na_Book__stops => k_is)
    (case su_UnknownOrder_BourseError => first | rfl | k_is)
    (case su_NotOwner_BourseError => first | rfl | k_is)
