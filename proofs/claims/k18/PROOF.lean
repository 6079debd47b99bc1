import PyProof.Rows.All
import Wide.All
import OpenK.AllK
import Wide.FinOn
import HandS.ForMost
import HandS.ForExc
import HandS.Defaults
import HandS.IsInst
import HandS.Wide
import HandS.Codes
import HandS.Walk
import HandS.SetFor
import HandS.More
import HandS.Conv
import KE.DataFind
import HandS.ExcIs
import HandS.MakeKwOnly
import HandS.CallSlots
import HandS.MapJoin
import HandS.StrMore
import HandS.RaiseMore
import KE.GoesMore
import KE.GoesNew
import KE.GoesZip
import KE.IntTextLaws
import KE.GoesRaise
import KE.KUnpackStar
import KE.GoesEnumKw
import KE.KDictSum
import HandS.ListItems
import KE.SortData
import HandS.Star
import PySem.Challenge.RW_fairbourse_k18_terms_are_written
set_option Elab.async false
set_option linter.all false
set_option maxRecDepth 100000
namespace FB
open PySem PySem.Spec PyProof.Rows L2
def topS (i : Nat) : Stmt := PySem.Challenge.pw_fairbourse_k18_terms_are_written.main.body.getD i (.Pass ⟨0, 0, 0, 0⟩)
abbrev s_is_word_of : Stmt := topS 6
abbrev N_is_word_of : List Str := ["letters", "most", "text", "letter"]
theorem sc_is_word_of : FnScope N_is_word_of ["letters", "most", "text"] (defScope s_is_word_of) := ⟨rfl, rfl, rfl, by decide +kernel, rfl, by decide +kernel, by decide +kernel⟩
abbrev s_is_digits : Stmt := topS 7
abbrev N_is_digits : List Str := ["text"]
theorem sc_is_digits : FnScope N_is_digits ["text"] (defScope s_is_digits) := ⟨rfl, rfl, rfl, by decide +kernel, rfl, by decide +kernel, by decide +kernel⟩
abbrev s_read_number : Stmt := topS 8
abbrev N_read_number : List Str := ["text", "least", "most", "number"]
theorem sc_read_number : FnScope N_read_number ["text", "least", "most"] (defScope s_read_number) := ⟨rfl, rfl, rfl, by decide +kernel, rfl, by decide +kernel, by decide +kernel⟩
abbrev s_Terms_init : Stmt := inClass (topS 22) 0
abbrev N_Terms_init : List Str := ["self"]
theorem sc_Terms_init : FnScope N_Terms_init ["self"] (defScope s_Terms_init) := ⟨rfl, rfl, rfl, by decide +kernel, rfl, by decide +kernel, by decide +kernel⟩
abbrev s_Draft_init : Stmt := inClass (topS 23) 0
abbrev N_Draft_init : List Str := ["self"]
theorem sc_Draft_init : FnScope N_Draft_init ["self"] (defScope s_Draft_init) := ⟨rfl, rfl, rfl, by decide +kernel, rfl, by decide +kernel, by decide +kernel⟩
abbrev s_Draft_take : Stmt := inClass (topS 23) 1
abbrev N_Draft_take : List Str := ["self", "words", "name", "cash", "tick", "lot", "band", "reference", "moves", "house", "share", "rate", "cents"]
theorem sc_Draft_take : FnScope N_Draft_take ["self", "words"] (defScope s_Draft_take) := ⟨rfl, rfl, rfl, by decide +kernel, rfl, by decide +kernel, by decide +kernel⟩
abbrev s_Drafttake_house : Stmt := inClass (topS 23) 2
abbrev N_Drafttake_house : List Str := ["self", "name", "cash", "amount"]
theorem sc_Drafttake_house : FnScope N_Drafttake_house ["self", "name", "cash"] (defScope s_Drafttake_house) := ⟨rfl, rfl, rfl, by decide +kernel, rfl, by decide +kernel, by decide +kernel⟩
abbrev s_Drafttake_instrument : Stmt := inClass (topS 23) 3
abbrev N_Drafttake_instrument : List Str := ["self", "name", "tick", "lot", "band", "reference", "step", "units", "width", "price"]
theorem sc_Drafttake_instrument : FnScope N_Drafttake_instrument ["self", "name", "tick", "lot", "band", "reference"] (defScope s_Drafttake_instrument) := ⟨rfl, rfl, rfl, by decide +kernel, rfl, by decide +kernel, by decide +kernel⟩
abbrev s_Drafttake_scenario : Stmt := inClass (topS 23) 4
abbrev N_Drafttake_scenario : List Str := ["self", "words", "moves", "word"]
theorem sc_Drafttake_scenario : FnScope N_Drafttake_scenario ["self", "words"] (defScope s_Drafttake_scenario) := ⟨rfl, rfl, rfl, by decide +kernel, rfl, by decide +kernel, by decide +kernel⟩
abbrev s_Drafttake_share : Stmt := inClass (topS 23) 5
abbrev N_Drafttake_share : List Str := ["self", "house", "share", "amount"]
theorem sc_Drafttake_share : FnScope N_Drafttake_share ["self", "house", "share"] (defScope s_Drafttake_share) := ⟨rfl, rfl, rfl, by decide +kernel, rfl, by decide +kernel, by decide +kernel⟩
abbrev s_Drafttake_fee : Stmt := inClass (topS 23) 6
abbrev N_Drafttake_fee : List Str := ["self", "rate"]
theorem sc_Drafttake_fee : FnScope N_Drafttake_fee ["self", "rate"] (defScope s_Drafttake_fee) := ⟨rfl, rfl, rfl, by decide +kernel, rfl, by decide +kernel, by decide +kernel⟩
abbrev s_Drafttake_skin : Stmt := inClass (topS 23) 7
abbrev N_Drafttake_skin : List Str := ["self", "cents"]
theorem sc_Drafttake_skin : FnScope N_Drafttake_skin ["self", "cents"] (defScope s_Drafttake_skin) := ⟨rfl, rfl, rfl, by decide +kernel, rfl, by decide +kernel, by decide +kernel⟩
abbrev s_Draft_finished : Stmt := inClass (topS 23) 8
abbrev N_Draft_finished : List Str := ["self", "terms", "moves"]
theorem sc_Draft_finished : FnScope N_Draft_finished ["self"] (defScope s_Draft_finished) := ⟨rfl, rfl, rfl, by decide +kernel, rfl, by decide +kernel, by decide +kernel⟩
abbrev s_parse_terms : Stmt := topS 24
abbrev N_parse_terms : List Str := ["text", "draft", "number", "line", "has_effect"]
theorem sc_parse_terms : FnScope N_parse_terms ["text"] (defScope s_parse_terms) := ⟨rfl, rfl, rfl, by decide +kernel, rfl, by decide +kernel, by decide +kernel⟩
abbrev s_format_terms : Stmt := topS 25
abbrev N_format_terms : List Str := ["terms", "rows", "house", "instrument", "moves", "share", "row"]
theorem sc_format_terms : FnScope N_format_terms ["terms"] (defScope s_format_terms) := ⟨rfl, rfl, rfl, by decide +kernel, rfl, by decide +kernel, by decide +kernel⟩
abbrev s_written_line : Stmt := topS 26
abbrev N_written_line : List Str := ["row", "word"]
theorem sc_written_line : FnScope N_written_line ["row"] (defScope s_written_line) := ⟨rfl, rfl, rfl, by decide +kernel, rfl, by decide +kernel, by decide +kernel⟩
abbrev s_law_cell : Stmt := topS 28
abbrev N_law_cell : List Str := ["script", "k"]
theorem sc_law_cell : FnScope N_law_cell ["script", "k"] (defScope s_law_cell) := ⟨rfl, rfl, rfl, by decide +kernel, rfl, by decide +kernel, by decide +kernel⟩
abbrev s_law_draws : Stmt := topS 29
abbrev N_law_draws : List Str := ["cell", "count", "size", "draws", "rest", "k"]
theorem sc_law_draws : FnScope N_law_draws ["cell", "count", "size"] (defScope s_law_draws) := ⟨rfl, rfl, rfl, by decide +kernel, rfl, by decide +kernel, by decide +kernel⟩
abbrev s_law_word : Stmt := topS 30
abbrev N_law_word : List Str := ["cell", "letters", "size", "k"]
theorem sc_law_word : FnScope N_law_word ["cell", "letters", "size"] (defScope s_law_word) := ⟨rfl, rfl, rfl, by decide +kernel, rfl, by decide +kernel, by decide +kernel⟩
abbrev s_law_names : Stmt := topS 31
abbrev N_law_names : List Str := ["cell", "count", "letters", "longest", "names", "k", "size", "name"]
theorem sc_law_names : FnScope N_law_names ["cell", "count", "letters", "longest"] (defScope s_law_names) := ⟨rfl, rfl, rfl, by decide +kernel, rfl, by decide +kernel, by decide +kernel⟩
abbrev s_law_number : Stmt := topS 32
abbrev N_law_number : List Str := ["cell", "size"]
theorem sc_law_number : FnScope N_law_number ["cell", "size"] (defScope s_law_number) := ⟨rfl, rfl, rfl, by decide +kernel, rfl, by decide +kernel, by decide +kernel⟩
abbrev s_law_instrument : Stmt := topS 33
abbrev N_law_instrument : List Str := ["name", "cell", "draws", "tick", "reference", "lot"]
theorem sc_law_instrument : FnScope N_law_instrument ["name", "cell"] (defScope s_law_instrument) := ⟨rfl, rfl, rfl, by decide +kernel, rfl, by decide +kernel, by decide +kernel⟩
abbrev s_law_move : Stmt := topS 34
abbrev N_law_move : List Str := ["cell"]
theorem sc_law_move : FnScope N_law_move ["cell"] (defScope s_law_move) := ⟨rfl, rfl, rfl, by decide +kernel, rfl, by decide +kernel, by decide +kernel⟩
abbrev s_law_rows : Stmt := topS 35
abbrev N_law_rows : List Str := ["script", "houses", "instruments", "rows", "cash", "k", "moves", "move", "shares"]
theorem sc_law_rows : FnScope N_law_rows ["script"] (defScope s_law_rows) := ⟨rfl, rfl, rfl, by decide +kernel, rfl, by decide +kernel, by decide +kernel⟩
abbrev s_law_kept : Stmt := topS 36
abbrev N_law_kept : List Str := ["rows", "word", "row"]
theorem sc_law_kept : FnScope N_law_kept ["rows", "word"] (defScope s_law_kept) := ⟨rfl, rfl, rfl, by decide +kernel, rfl, by decide +kernel, by decide +kernel⟩
abbrev s_law_numbers : Stmt := topS 37
abbrev N_law_numbers : List Str := ["row", "word"]
theorem sc_law_numbers : FnScope N_law_numbers ["row"] (defScope s_law_numbers) := ⟨rfl, rfl, rfl, by decide +kernel, rfl, by decide +kernel, by decide +kernel⟩
abbrev s_law_same_rows : Stmt := topS 38
abbrev N_law_same_rows : List Str := ["actual", "due", "k", "at"]
theorem sc_law_same_rows : FnScope N_law_same_rows ["actual", "due"] (defScope s_law_same_rows) := ⟨rfl, rfl, rfl, by decide +kernel, rfl, by decide +kernel, by decide +kernel⟩
abbrev s_law_same_moves : Stmt := topS 39
abbrev N_law_same_moves : List Str := ["actual", "due", "k", "word"]
theorem sc_law_same_moves : FnScope N_law_same_moves ["actual", "due"] (defScope s_law_same_moves) := ⟨rfl, rfl, rfl, by decide +kernel, rfl, by decide +kernel, by decide +kernel⟩
abbrev s_law_last : Stmt := topS 40
abbrev N_law_last : List Str := ["rows", "word", "found"]
theorem sc_law_last : FnScope N_law_last ["rows", "word"] (defScope s_law_last) := ⟨rfl, rfl, rfl, by decide +kernel, rfl, by decide +kernel, by decide +kernel⟩
abbrev s_law_terms : Stmt := topS 41
abbrev N_law_terms : List Str := ["terms", "rows", "name", "word", "due", "row", "actual"]
theorem sc_law_terms : FnScope N_law_terms ["terms", "rows"] (defScope s_law_terms) := ⟨rfl, rfl, rfl, by decide +kernel, rfl, by decide +kernel, by decide +kernel⟩
abbrev s_law_due : Stmt := topS 42
abbrev N_law_due : List Str := ["rows", "lines", "word", "row", "line"]
theorem sc_law_due : FnScope N_law_due ["rows"] (defScope s_law_due) := ⟨rfl, rfl, rfl, by decide +kernel, rfl, by decide +kernel, by decide +kernel⟩
abbrev s_law : Stmt := topS 43
abbrev N_law : List Str := ["script", "rows", "terms", "row", "text"]
theorem sc_law : FnScope N_law ["script"] (defScope s_law) := ⟨rfl, rfl, rfl, by decide +kernel, rfl, by decide +kernel, by decide +kernel⟩
set_option maxHeartbeats 0 in
structure Txt (K : PySem.W.Frag) (mg : Str → Option Value) where
  f_is_word_of : Addr
  d_is_word_of : FuncData
  F_is_word_of : Fun K "is_word_of" "is_word_of" s_is_word_of f_is_word_of d_is_word_of
  m_is_word_of : mg "is_word_of" = some (.ref f_is_word_of)
  b_is_word_of : Binds K d_is_word_of ["letters", "most", "text"] []
  f_is_digits : Addr
  d_is_digits : FuncData
  F_is_digits : Fun K "is_digits" "is_digits" s_is_digits f_is_digits d_is_digits
  m_is_digits : mg "is_digits" = some (.ref f_is_digits)
  b_is_digits : Binds K d_is_digits ["text"] []
  f_read_number : Addr
  d_read_number : FuncData
  F_read_number : Fun K "read_number" "read_number" s_read_number f_read_number d_read_number
  m_read_number : mg "read_number" = some (.ref f_read_number)
  b_read_number : Binds K d_read_number ["text", "least", "most"] []
  f_Terms_init : Addr
  d_Terms_init : FuncData
  F_Terms_init : Fun K "__init__" "Terms.__init__" s_Terms_init f_Terms_init d_Terms_init
  b_Terms_init : Binds K d_Terms_init ["self"] []
  f_Draft_init : Addr
  d_Draft_init : FuncData
  F_Draft_init : Fun K "__init__" "Draft.__init__" s_Draft_init f_Draft_init d_Draft_init
  b_Draft_init : Binds K d_Draft_init ["self"] []
  f_Draft_take : Addr
  d_Draft_take : FuncData
  F_Draft_take : Fun K "take" "Draft.take" s_Draft_take f_Draft_take d_Draft_take
  b_Draft_take : Binds K d_Draft_take ["self", "words"] []
  f_Drafttake_house : Addr
  d_Drafttake_house : FuncData
  F_Drafttake_house : Fun K "_take_house" "Draft._take_house" s_Drafttake_house f_Drafttake_house d_Drafttake_house
  b_Drafttake_house : Binds K d_Drafttake_house ["self", "name", "cash"] []
  f_Drafttake_instrument : Addr
  d_Drafttake_instrument : FuncData
  F_Drafttake_instrument : Fun K "_take_instrument" "Draft._take_instrument" s_Drafttake_instrument f_Drafttake_instrument d_Drafttake_instrument
  b_Drafttake_instrument : Binds K d_Drafttake_instrument ["self", "name", "tick", "lot", "band", "reference"] []
  f_Drafttake_scenario : Addr
  d_Drafttake_scenario : FuncData
  F_Drafttake_scenario : Fun K "_take_scenario" "Draft._take_scenario" s_Drafttake_scenario f_Drafttake_scenario d_Drafttake_scenario
  b_Drafttake_scenario : Binds K d_Drafttake_scenario ["self", "words"] []
  f_Drafttake_share : Addr
  d_Drafttake_share : FuncData
  F_Drafttake_share : Fun K "_take_share" "Draft._take_share" s_Drafttake_share f_Drafttake_share d_Drafttake_share
  b_Drafttake_share : Binds K d_Drafttake_share ["self", "house", "share"] []
  f_Drafttake_fee : Addr
  d_Drafttake_fee : FuncData
  F_Drafttake_fee : Fun K "_take_fee" "Draft._take_fee" s_Drafttake_fee f_Drafttake_fee d_Drafttake_fee
  b_Drafttake_fee : Binds K d_Drafttake_fee ["self", "rate"] []
  f_Drafttake_skin : Addr
  d_Drafttake_skin : FuncData
  F_Drafttake_skin : Fun K "_take_skin" "Draft._take_skin" s_Drafttake_skin f_Drafttake_skin d_Drafttake_skin
  b_Drafttake_skin : Binds K d_Drafttake_skin ["self", "cents"] []
  f_Draft_finished : Addr
  d_Draft_finished : FuncData
  F_Draft_finished : Fun K "finished" "Draft.finished" s_Draft_finished f_Draft_finished d_Draft_finished
  b_Draft_finished : Binds K d_Draft_finished ["self"] []
  f_parse_terms : Addr
  d_parse_terms : FuncData
  F_parse_terms : Fun K "parse_terms" "parse_terms" s_parse_terms f_parse_terms d_parse_terms
  m_parse_terms : mg "parse_terms" = some (.ref f_parse_terms)
  b_parse_terms : Binds K d_parse_terms ["text"] []
  f_format_terms : Addr
  d_format_terms : FuncData
  F_format_terms : Fun K "format_terms" "format_terms" s_format_terms f_format_terms d_format_terms
  m_format_terms : mg "format_terms" = some (.ref f_format_terms)
  b_format_terms : Binds K d_format_terms ["terms"] []
  f_written_line : Addr
  d_written_line : FuncData
  F_written_line : Fun K "_written_line" "_written_line" s_written_line f_written_line d_written_line
  m_written_line : mg "_written_line" = some (.ref f_written_line)
  b_written_line : Binds K d_written_line ["row"] []
  f_law_cell : Addr
  d_law_cell : FuncData
  F_law_cell : Fun K "_law_cell" "_law_cell" s_law_cell f_law_cell d_law_cell
  m_law_cell : mg "_law_cell" = some (.ref f_law_cell)
  b_law_cell : Binds K d_law_cell ["script", "k"] []
  f_law_draws : Addr
  d_law_draws : FuncData
  F_law_draws : Fun K "_law_draws" "_law_draws" s_law_draws f_law_draws d_law_draws
  m_law_draws : mg "_law_draws" = some (.ref f_law_draws)
  b_law_draws : Binds K d_law_draws ["cell", "count", "size"] []
  f_law_word : Addr
  d_law_word : FuncData
  F_law_word : Fun K "_law_word" "_law_word" s_law_word f_law_word d_law_word
  m_law_word : mg "_law_word" = some (.ref f_law_word)
  b_law_word : Binds K d_law_word ["cell", "letters", "size"] []
  f_law_names : Addr
  d_law_names : FuncData
  F_law_names : Fun K "_law_names" "_law_names" s_law_names f_law_names d_law_names
  m_law_names : mg "_law_names" = some (.ref f_law_names)
  b_law_names : Binds K d_law_names ["cell", "count", "letters", "longest"] []
  f_law_number : Addr
  d_law_number : FuncData
  F_law_number : Fun K "_law_number" "_law_number" s_law_number f_law_number d_law_number
  m_law_number : mg "_law_number" = some (.ref f_law_number)
  b_law_number : Binds K d_law_number ["cell", "size"] []
  f_law_instrument : Addr
  d_law_instrument : FuncData
  F_law_instrument : Fun K "_law_instrument" "_law_instrument" s_law_instrument f_law_instrument d_law_instrument
  m_law_instrument : mg "_law_instrument" = some (.ref f_law_instrument)
  b_law_instrument : Binds K d_law_instrument ["name", "cell"] []
  f_law_move : Addr
  d_law_move : FuncData
  F_law_move : Fun K "_law_move" "_law_move" s_law_move f_law_move d_law_move
  m_law_move : mg "_law_move" = some (.ref f_law_move)
  b_law_move : Binds K d_law_move ["cell"] []
  f_law_rows : Addr
  d_law_rows : FuncData
  F_law_rows : Fun K "_law_rows" "_law_rows" s_law_rows f_law_rows d_law_rows
  m_law_rows : mg "_law_rows" = some (.ref f_law_rows)
  b_law_rows : Binds K d_law_rows ["script"] []
  f_law_kept : Addr
  d_law_kept : FuncData
  F_law_kept : Fun K "_law_kept" "_law_kept" s_law_kept f_law_kept d_law_kept
  m_law_kept : mg "_law_kept" = some (.ref f_law_kept)
  b_law_kept : Binds K d_law_kept ["rows", "word"] []
  f_law_numbers : Addr
  d_law_numbers : FuncData
  F_law_numbers : Fun K "_law_numbers" "_law_numbers" s_law_numbers f_law_numbers d_law_numbers
  m_law_numbers : mg "_law_numbers" = some (.ref f_law_numbers)
  b_law_numbers : Binds K d_law_numbers ["row"] []
  f_law_same_rows : Addr
  d_law_same_rows : FuncData
  F_law_same_rows : Fun K "_law_same_rows" "_law_same_rows" s_law_same_rows f_law_same_rows d_law_same_rows
  m_law_same_rows : mg "_law_same_rows" = some (.ref f_law_same_rows)
  b_law_same_rows : Binds K d_law_same_rows ["actual", "due"] []
  f_law_same_moves : Addr
  d_law_same_moves : FuncData
  F_law_same_moves : Fun K "_law_same_moves" "_law_same_moves" s_law_same_moves f_law_same_moves d_law_same_moves
  m_law_same_moves : mg "_law_same_moves" = some (.ref f_law_same_moves)
  b_law_same_moves : Binds K d_law_same_moves ["actual", "due"] []
  f_law_last : Addr
  d_law_last : FuncData
  F_law_last : Fun K "_law_last" "_law_last" s_law_last f_law_last d_law_last
  m_law_last : mg "_law_last" = some (.ref f_law_last)
  b_law_last : Binds K d_law_last ["rows", "word"] []
  f_law_terms : Addr
  d_law_terms : FuncData
  F_law_terms : Fun K "_law_terms" "_law_terms" s_law_terms f_law_terms d_law_terms
  m_law_terms : mg "_law_terms" = some (.ref f_law_terms)
  b_law_terms : Binds K d_law_terms ["terms", "rows"] []
  f_law_due : Addr
  d_law_due : FuncData
  F_law_due : Fun K "_law_due" "_law_due" s_law_due f_law_due d_law_due
  m_law_due : mg "_law_due" = some (.ref f_law_due)
  b_law_due : Binds K d_law_due ["rows"] []
  c_BourseError : Addr
  m_BourseError : mg "BourseError" = some (.ref c_BourseError)
  c_InvalidLine : Addr
  m_InvalidLine : mg "InvalidLine" = some (.ref c_InvalidLine)
  c_Terms : Addr
  m_Terms : mg "Terms" = some (.ref c_Terms)
  pg_Terms : PySem.W.plainGet K c_Terms Str.empty = true
  hd_Terms : PySem.W.hasDictIn K c_Terms = true
  po_Terms : PySem.W.plainOver K c_Terms = true
  sa_Terms : PySem.W.findIn K (.ref c_Terms) "__setattr__" = some (some (.builtin "object.__setattr__"))
  ma_Terms : PySem.W.makesIn K c_Terms = true
  kc_Terms : PySem.W.keepIn K (.ref c_Terms) = true
  cl_Terms : Cls K c_Terms
  na_Terms_houses : PySem.W.findIn K (.ref c_Terms) "houses" = some none
  na_Terms_instruments : PySem.W.findIn K (.ref c_Terms) "instruments" = some none
  na_Terms_scenarios : PySem.W.findIn K (.ref c_Terms) "scenarios" = some none
  na_Terms_fund : PySem.W.findIn K (.ref c_Terms) "fund" = some none
  na_Terms_fee : PySem.W.findIn K (.ref c_Terms) "fee" = some none
  na_Terms_skin : PySem.W.findIn K (.ref c_Terms) "skin" = some none
  c_Draft : Addr
  m_Draft : mg "Draft" = some (.ref c_Draft)
  pg_Draft : PySem.W.plainGet K c_Draft Str.empty = true
  hd_Draft : PySem.W.hasDictIn K c_Draft = true
  po_Draft : PySem.W.plainOver K c_Draft = true
  sa_Draft : PySem.W.findIn K (.ref c_Draft) "__setattr__" = some (some (.builtin "object.__setattr__"))
  ma_Draft : PySem.W.makesIn K c_Draft = true
  kc_Draft : PySem.W.keepIn K (.ref c_Draft) = true
  cl_Draft : Cls K c_Draft
  na_Draft__houses : PySem.W.findIn K (.ref c_Draft) "_houses" = some none
  na_Draft__instruments : PySem.W.findIn K (.ref c_Draft) "_instruments" = some none
  na_Draft__scenarios : PySem.W.findIn K (.ref c_Draft) "_scenarios" = some none
  na_Draft__fund : PySem.W.findIn K (.ref c_Draft) "_fund" = some none
  na_Draft__fee : PySem.W.findIn K (.ref c_Draft) "_fee" = some none
  na_Draft__skin : PySem.W.findIn K (.ref c_Draft) "_skin" = some none
  mk_Terms : Mk K c_Terms f_Terms_init
  mk_Draft : Mk K c_Draft f_Draft_init
  mt_Draft_take : Meth K c_Draft "take" f_Draft_take
  mt_Drafttake_house : Meth K c_Draft "_take_house" f_Drafttake_house
  mt_Drafttake_instrument : Meth K c_Draft "_take_instrument" f_Drafttake_instrument
  mt_Drafttake_scenario : Meth K c_Draft "_take_scenario" f_Drafttake_scenario
  mt_Drafttake_share : Meth K c_Draft "_take_share" f_Drafttake_share
  mt_Drafttake_fee : Meth K c_Draft "_take_fee" f_Drafttake_fee
  mt_Drafttake_skin : Meth K c_Draft "_take_skin" f_Drafttake_skin
  mt_Draft_finished : Meth K c_Draft "finished" f_Draft_finished
  z_abs : mg "abs" = none
  z_all : mg "all" = none
  z_bool : mg "bool" = none
  z_enumerate : mg "enumerate" = none
  z_int : mg "int" = none
  z_isinstance : mg "isinstance" = none
  z_len : mg "len" = none
  z_list : mg "list" = none
  z_min : mg "min" = none
  z_range : mg "range" = none
  z_sorted : mg "sorted" = none
  z_str : mg "str" = none
  z_tuple : mg "tuple" = none
  t_DIGITS : Tok
  m_DIGITS : mg "DIGITS" = some (.str "0123456789" t_DIGITS)
  t_MOST_DIGITS : Tok
  m_MOST_DIGITS : mg "MOST_DIGITS" = some (.int 20 t_MOST_DIGITS)
  t_SMALL : Tok
  m_SMALL : mg "SMALL" = some (.str "abcdefghijklmnopqrstuvwxyz" t_SMALL)
  t_CAPITAL : Tok
  m_CAPITAL : mg "CAPITAL" = some (.str "ABCDEFGHIJKLMNOPQRSTUVWXYZ" t_CAPITAL)
  t_LONGEST_HOUSE : Tok
  m_LONGEST_HOUSE : mg "LONGEST_HOUSE" = some (.int 12 t_LONGEST_HOUSE)
  t_LONGEST_INSTRUMENT : Tok
  m_LONGEST_INSTRUMENT : mg "LONGEST_INSTRUMENT" = some (.int 6 t_LONGEST_INSTRUMENT)
  t_MOST_HOUSES : Tok
  m_MOST_HOUSES : mg "MOST_HOUSES" = some (.int 12 t_MOST_HOUSES)
  t_MOST_INSTRUMENTS : Tok
  m_MOST_INSTRUMENTS : mg "MOST_INSTRUMENTS" = some (.int 6 t_MOST_INSTRUMENTS)
  t_MOST_SCENARIOS : Tok
  m_MOST_SCENARIOS : mg "MOST_SCENARIOS" = some (.int 12 t_MOST_SCENARIOS)
  t_MOST_CENTS : Tok
  m_MOST_CENTS : mg "MOST_CENTS" = some (.int 1000000000 t_MOST_CENTS)
  t_MOST_STEP : Tok
  m_MOST_STEP : mg "MOST_STEP" = some (.int 10000 t_MOST_STEP)
  t_MOST_RATE : Tok
  m_MOST_RATE : mg "MOST_RATE" = some (.int 1000000 t_MOST_RATE)
  t_MOST_PRICE : Tok
  m_MOST_PRICE : mg "MOST_PRICE" = some (.int 1000000 t_MOST_PRICE)
  t_MOST_MOVE : Tok
  m_MOST_MOVE : mg "MOST_MOVE" = some (.int 1000000 t_MOST_MOVE)

/-! own short words -/
theorem iteD {p A B : Prop} [Decidable p] (h1 : p → A) (h2 : ¬ p → B) : if decide p = true then A else B := by
  by_cases h : p
  · rw [decide_eq_true h, if_pos rfl]; exact h1 h
  · rw [decide_eq_false h, if_neg Bool.false_ne_true]; exact h2 h
theorem iteDN {p A B : Prop} [Decidable p] (h1 : ¬ p → A) (h2 : p → B) : if (!decide p) = true then A else B := by
  by_cases h : p
  · rw [decide_eq_true h]; exact iteF (h2 h)
  · rw [decide_eq_false h]; exact iteT (h1 h)
theorem len_le {n : Nat} (h : Nat.ble n 1000 = true) : n ≤ sizeLine := Nat.le_trans (Nat.le_of_ble_eq_true h) (by decide)
theorem iteB {b : Bool} {A B : Prop} (h1 : b = true → A) (h2 : b = false → B) : if b = true then A else B := by
  cases b with
  | true => exact iteT (h1 rfl)
  | false => exact iteF (h2 rfl)
theorem cmul_l {i j : Int} (h : -(2 ^ 64) < i) (h' : i < 2 ^ 64) : CMul i j := .inl ⟨h, h'⟩
theorem cmul_r {i j : Int} (h : -(2 ^ 64) < j) (h' : j < 2 ^ 64) : CMul i j := .inr ⟨h, h'⟩
theorem dec_t {p : Prop} [Decidable p] (h : decide p = true) : p := of_decide_eq_true h
theorem dec_f {p : Prop} [Decidable p] (h : decide p = false) : ¬ p := of_decide_eq_false h
theorem ndec_t {p : Prop} [Decidable p] (h : (!decide p) = true) : ¬ p := fun q => by rw [decide_eq_true q] at h; cases h
theorem ndec_f {p : Prop} [Decidable p] (h : (!decide p) = false) : p := by
  by_cases q : p
  · exact q
  · rw [decide_eq_false q] at h; cases h
theorem fld_lt {n : Nat} (h : Nat.ble (n + 1) 1000 = true) : n < 1000 := Nat.le_of_ble_eq_true h
def rLen (K : PySem.W.Frag) : List V → Hp → VK → Prop := fun xs H Q => ∃ p ys, xs = [.ref p] ∧ (SqL K H p ys ∨ SqT K H p ys) ∧ Q (.int ys.length) H
def rListOf (K : PySem.W.Frag) : List V → Hp → VK → Prop := fun xs H Q => ∃ p ys, xs = [.ref p] ∧ (SqL K H p ys ∨ SqT K H p ys) ∧ ∀ l, H l = none → Q (.ref l) (upd H l (.lst ys))
def rTupleOf (K : PySem.W.Frag) : List V → Hp → VK → Prop := fun xs H Q => ∃ p ys, xs = [.ref p] ∧ ((SqL K H p ys ∧ ∀ l, H l = none → Q (.ref l) (upd H l (.tup ys))) ∨ (SqT K H p ys ∧ Q (.ref p) H))
theorem len0 : ([] : List V).length ≤ sizeLine := len_le rfl
theorem len1 {a : V} : [a].length ≤ sizeLine := len_le rfl
theorem len2 {a b : V} : [a, b].length ≤ sizeLine := len_le rfl
theorem len3 {a b c : V} : [a, b, c].length ≤ sizeLine := len_le rfl
theorem len4 {a b c d : V} : [a, b, c, d].length ≤ sizeLine := len_le rfl
theorem len5 {a b c d e : V} : [a, b, c, d, e].length ≤ sizeLine := len_le rfl
local macro_rules | `(tactic| walk_at "st") => `(tactic| repeat (first
  | (apply Exists.intro (α := V))
  | (apply Exists.intro (α := Int))
  | (apply Exists.intro (α := Bool))
  | (apply Exists.intro (α := Addr))
  | (apply Exists.intro (α := List V))
  | (apply Exists.intro (α := List Int))
  | (apply Exists.intro (α := List (Str × V)))
  | (apply Exists.intro (α := Str))
  | (apply And.intro; focus (first | omega | (dsimp only; omega) | (simp only [List.length_map, List.length_replicate]; omega) | exact rfl | assumption | exact SqL.of (by assumption) | exact Or.inl (by assumption) | exact Or.inr (by assumption) | exact Or.inr (SqT.of (by assumption)) | exact Or.inl (Or.inl upd_same) | exact Or.inl (Or.inl (Or.inl upd_same)) | (with_reducible exact len0) | (with_reducible exact len1) | (with_reducible exact len2) | (with_reducible exact len3) | (with_reducible exact len4) | (with_reducible exact len5) | exact upd_same | exact ⟨_, Or.inl (Or.inl upd_same)⟩ | exact ⟨_, SqL.of (by assumption)⟩ | exact ⟨_, by assumption⟩ | exact Or.inl ⟨rfl, _, SqL.of (by assumption)⟩ | exact Or.inl ⟨rfl, _, SqL.of upd_same⟩ | exact cmul_l (by omega) (by omega) | exact cmul_r (by omega) (by omega) | exact ⟨by omega, by omega⟩ | (simp only [List.length_map, List.length_replicate]; omega) | exact Or.inl (SqL.of (by assumption)) | exact SqT.of (by assumption) | exact fld_lt rfl | exact Or.inl ⟨_, by assumption, rfl⟩))))
/-- the script's cell at j, 0 where there is none -/
def cellOf (ns : List Int) (j : Nat) : Int := ns.getD j 0
theorem atI_ints {ns : List Int} {j : Nat} (h : j < ns.length) : atI (ns.map V.int) (j : Int) = some (.int (cellOf ns j)) := by
  refine at_of (j := j) rfl ?_
  rw [List.getElem?_map, List.getElem?_eq_getElem h]
  unfold cellOf
  rw [List.getD_eq_getElem?_getD, List.getElem?_eq_getElem h]
  rfl
theorem cellOf_out {ns : List Int} {j : Nat} (h : ¬ j < ns.length) : cellOf ns j = 0 := by
  unfold cellOf
  rw [List.getD_eq_getElem?_getD, List.getElem?_eq_none (by omega)]
  rfl
theorem same_upd {H : Hp} {p : Addr} {o : HO} (h : H p = none) : Same H (upd H p o) := fun b x e => by
  rw [upd_ne (ne_of_none e h)]
  exact e
/-- a slice of a list of ints -/
def cutI (ns : List Int) (lo hi : Option Int) : List Int := (ns.drop (HT.sIx ns.length 0 lo)).take (HT.sIx ns.length ns.length hi - HT.sIx ns.length 0 lo)
theorem cutV_ints (ns : List Int) (lo hi : Option Int) : cutV (ns.map V.int) lo hi = (cutI ns lo hi).map V.int := by
  unfold cutV cutI
  rw [List.length_map, List.map_take, List.map_drop]
theorem cutI_len (ns : List Int) (lo hi : Option Int) : (cutI ns lo hi).length ≤ ns.length := by
  unfold cutI
  rw [List.length_take, List.length_drop]
  omega
theorem ints_at {ns : List Int} {i : Nat} {x : V} (h : (ns.map V.int)[i]? = some x) : ∃ z, ns[i]? = some z ∧ x = V.int z := by
  rw [List.getElem?_map] at h
  cases e : ns[i]? with
  | none => rw [e] at h; cases h
  | some z => rw [e] at h; exact ⟨z, rfl, (Option.some.inj h).symm⟩
theorem take_succ {α : Type} {xs : List α} {i : Nat} {x : α} (h : xs[i]? = some x) : xs.take (i + 1) = xs.take i ++ [x] := by
  rw [List.take_add_one, h]
  rfl
theorem sum_le_mul : ∀ (ws : List Int) (b : Int), (∀ w, w ∈ ws → w ≤ b) → ws.sum ≤ (ws.length : Int) * b
  | [], b, _ => by show (0 : Int) ≤ ((0 : Nat) : Int) * b; omega
  | w :: ws, b, h => by
    rw [List.sum_cons, List.length_cons, Int.natCast_add, Int.add_mul]
    have h1 := h w List.mem_cons_self
    have h2 := sum_le_mul ws b fun x hx => h x (List.mem_cons_of_mem _ hx)
    omega
theorem ixN_nat {n j : Nat} (h : j < n) : ixN n (j : Int) = some j := by
  unfold ixN
  rw [if_pos (by omega), if_pos (by omega), Int.toNat_natCast]
theorem call_int_i {X : Cx} : CallR X (.type "int") (fun xs H Q => ∃ i : Int, xs = [.int i] ∧ Q (.int i) H) := by
  intro pins s σ H xs us Q I r h
  obtain ⟨i, e, q⟩ := h
  exact call_int1 pins s σ H xs us Q I r (.inl ⟨i, e, q⟩)
theorem dpAll_ints {K : PySem.W.Frag} {H : Hp} : ∀ xs : List Int, DpAll K H (xs.map V.int) (xs.map PyData.int)
  | [] => .nil
  | x :: xs => .cons (.int x) (dpAll_ints xs)
theorem eqvAll_ints : ∀ xs ys : List Int, PyData.eqvAll (xs.map PyData.int) (ys.map PyData.int) = decide (xs = ys)
  | [], [] => by simp [PyData.eqvAll]
  | [], _ :: _ => by simp [PyData.eqvAll]
  | _ :: _, [] => by simp [PyData.eqvAll]
  | x :: xs, y :: ys => by
    rw [List.map_cons, List.map_cons]
    simp only [PyData.eqvAll, PyData.eqv]
    rw [eqvAll_ints xs ys]
    by_cases h : x = y <;> by_cases h2 : xs = ys <;> simp [h, h2]
theorem lay_ints : ∀ xs : List Int, PyData.canLayAll0 (xs.map PyData.int) = true
  | [] => rfl
  | x :: xs => by
    rw [List.map_cons]
    simp only [PyData.canLayAll0, PyData.canLay0, Bool.true_and]
    exact lay_ints xs
theorem depth_ints : ∀ xs : List Int, PyData.depthAll (xs.map PyData.int) = 0
  | [] => rfl
  | x :: xs => by
    rw [List.map_cons]
    simp only [PyData.depthAll, PyData.depth, depth_ints xs]
    rfl
theorem shaped_ints (xs : List Int) : SeqAt.shaped (.list (xs.map PyData.int)) = true := by
  unfold SeqAt.shaped
  simp only [PyData.canLay0, PyData.depth, lay_ints, depth_ints]
  rfl
theorem eqD_ints {K : PySem.W.Frag} {H : Hp} {a b : Addr} {xs ys : List Int} {Q : VK} (h1 : SqL K H a (xs.map V.int)) (h2 : SqL K H b (ys.map V.int)) (q : Q (.bl (decide (xs = ys))) H) : rEqD K (.ref a) (.ref b) H Q :=
  ⟨_, _, .lst h1 (dpAll_ints xs), .lst h2 (dpAll_ints ys), shaped_ints xs, shaped_ints ys, by rw [show PyData.eqv (.list (xs.map PyData.int)) (.list (ys.map PyData.int)) = decide (xs = ys) by simp only [PyData.eqv, eqvAll_ints]]; exact q⟩
theorem neD_ints {K : PySem.W.Frag} {H : Hp} {a b : Addr} {xs ys : List Int} {Q : VK} (h1 : SqL K H a (xs.map V.int)) (h2 : SqL K H b (ys.map V.int)) (q : Q (.bl (!decide (xs = ys))) H) : rNeD K (.ref a) (.ref b) H Q :=
  ⟨_, _, .lst h1 (dpAll_ints xs), .lst h2 (dpAll_ints ys), shaped_ints xs, shaped_ints ys, by rw [show PyData.eqv (.list (xs.map PyData.int)) (.list (ys.map PyData.int)) = decide (xs = ys) by simp only [PyData.eqv, eqvAll_ints]]; exact q⟩

/-- how items of one kind are told as data; equal data are equal items -/
structure LayD {α : Type} [DecidableEq α] (L : α → PyData) (k : Nat) (G : α → Prop) : Prop where
  lay : ∀ x, G x → (L x).canLay0 = true
  dep : ∀ x, (L x).depth ≤ k
  eqv : ∀ x y, PyData.eqv (L x) (L y) = decide (x = y)
theorem LayD.shaped {α : Type} [DecidableEq α] {L : α → PyData} {k : Nat} {G : α → Prop} (h : LayD L k G) (hk : k ≤ 64) {x : α} (g : G x) : SeqAt.shaped (L x) = true := by
  have h1 := h.lay x g
  have h2 := h.dep x
  unfold SeqAt.shaped
  rw [h1, Bool.true_and]
  exact decide_eq_true (by omega)
theorem layD_int : LayD PyData.int 0 (fun _ => True) := ⟨fun _ _ => rfl, fun _ => Nat.le_refl _, fun x y => by simp only [PyData.eqv]; exact (Bool.beq_eq_decide_eq x y)⟩
theorem layD_str : LayD PyData.str 0 (fun x => PyData.strOk x = true) := ⟨fun _ h => by simp only [PyData.canLay0]; exact h, fun _ => Nat.le_refl _, fun x y => by simp only [PyData.eqv]; exact (Bool.beq_eq_decide_eq x y)⟩
theorem decide_and2 {p q r : Prop} [Decidable p] [Decidable q] [Decidable r] (h : r ↔ p ∧ q) : (decide p && decide q) = decide r := by
  by_cases hp : p <;> by_cases hq : q <;> simp [h, hp, hq]
theorem layD_all {α : Type} [DecidableEq α] {L : α → PyData} {k : Nat} {G : α → Prop} (h : LayD L k G) : (∀ xs : List α, (∀ x, x ∈ xs → G x) → PyData.canLayAll0 (xs.map L) = true) ∧ (∀ xs : List α, PyData.depthAll (xs.map L) ≤ k) ∧ ∀ xs ys : List α, PyData.eqvAll (xs.map L) (ys.map L) = decide (xs = ys) := by
  refine ⟨fun xs => ?_, fun xs => ?_, fun xs => ?_⟩
  · induction xs with
    | nil => exact fun _ => rfl
    | cons x xs ih =>
      intro g
      rw [List.map_cons]
      simp only [PyData.canLayAll0, ih fun y hy => g y (List.mem_cons_of_mem _ hy), h.lay x (g x List.mem_cons_self)]
      rfl
  · induction xs with
    | nil => exact Nat.zero_le _
    | cons x xs ih => rw [List.map_cons]; simp only [PyData.depthAll]; exact Nat.max_le.mpr ⟨h.dep x, ih⟩
  · induction xs with
    | nil =>
      intro ys
      cases ys with
      | nil => rfl
      | cons y ys => simp [PyData.eqvAll]
    | cons x xs ih =>
      intro ys
      cases ys with
      | nil => simp [PyData.eqvAll]
      | cons y ys =>
        rw [List.map_cons, List.map_cons]
        simp only [PyData.eqvAll]
        rw [ih ys, h.eqv x y]
        exact decide_and2 (by rw [List.cons.injEq])
theorem LayD.list {α : Type} [DecidableEq α] {L : α → PyData} {k : Nat} {G : α → Prop} (h : LayD L k G) : LayD (fun xs : List α => PyData.list (xs.map L)) (k + 1) (fun xs => ∀ x, x ∈ xs → G x) := by
  obtain ⟨h1, h2, h3⟩ := layD_all h
  refine ⟨fun xs g => ?_, fun xs => ?_, fun xs ys => ?_⟩
  · simp only [PyData.canLay0]; exact h1 xs g
  · simp only [PyData.depth]; exact Nat.succ_le_succ (h2 xs)
  · simp only [PyData.eqv]; exact h3 xs ys
theorem LayD.tup2 {α β : Type} [DecidableEq α] [DecidableEq β] {L : α → PyData} {M : β → PyData} {k : Nat} {G : α → Prop} {G2 : β → Prop} (h : LayD L k G) (g : LayD M k G2) : LayD (fun x : α × β => PyData.tuple [L x.1, M x.2]) (k + 1) (fun x => G x.1 ∧ G2 x.2) := by
  refine ⟨fun x a => ?_, fun x => ?_, fun x y => ?_⟩
  · simp only [PyData.canLay0, PyData.canLayAll0, h.lay _ a.1, g.lay _ a.2, Bool.and_true]
  · simp only [PyData.depth, PyData.depthAll]
    have := h.dep x.1
    have := g.dep x.2
    omega
  · simp only [PyData.eqv, PyData.eqvAll, h.eqv, g.eqv, Bool.and_true]
    exact decide_and2 (by rw [Prod.ext_iff])
theorem LayD.tup3 {α β γ : Type} [DecidableEq α] [DecidableEq β] [DecidableEq γ] {L : α → PyData} {M : β → PyData} {N : γ → PyData} {k : Nat} {G : α → Prop} {G2 : β → Prop} {G3 : γ → Prop} (h : LayD L k G) (g : LayD M k G2) (e : LayD N k G3) : LayD (fun x : α × β × γ => PyData.tuple [L x.1, M x.2.1, N x.2.2]) (k + 1) (fun x => G x.1 ∧ G2 x.2.1 ∧ G3 x.2.2) := by
  refine ⟨fun x a => ?_, fun x => ?_, fun x y => ?_⟩
  · simp only [PyData.canLay0, PyData.canLayAll0, h.lay _ a.1, g.lay _ a.2.1, e.lay _ a.2.2, Bool.and_true]
  · simp only [PyData.depth, PyData.depthAll]
    have := h.dep x.1
    have := g.dep x.2.1
    have := e.dep x.2.2
    omega
  · simp only [PyData.eqv, PyData.eqvAll, h.eqv, g.eqv, e.eqv, Bool.and_true]
    rw [decide_and2 (r := x.2 = y.2) (by rw [Prod.ext_iff])]
    exact decide_and2 (by rw [Prod.ext_iff])
theorem LayD.tup4 {α β γ δ : Type} [DecidableEq α] [DecidableEq β] [DecidableEq γ] [DecidableEq δ] {L : α → PyData} {M : β → PyData} {N : γ → PyData} {O : δ → PyData} {k : Nat} {G : α → Prop} {G2 : β → Prop} {G3 : γ → Prop} {G4 : δ → Prop} (h : LayD L k G) (g : LayD M k G2) (e : LayD N k G3) (d : LayD O k G4) : LayD (fun x : α × β × γ × δ => PyData.tuple [L x.1, M x.2.1, N x.2.2.1, O x.2.2.2]) (k + 1) (fun x => G x.1 ∧ G2 x.2.1 ∧ G3 x.2.2.1 ∧ G4 x.2.2.2) := by
  refine ⟨fun x a => ?_, fun x => ?_, fun x y => ?_⟩
  · simp only [PyData.canLay0, PyData.canLayAll0, h.lay _ a.1, g.lay _ a.2.1, e.lay _ a.2.2.1, d.lay _ a.2.2.2, Bool.and_true]
  · simp only [PyData.depth, PyData.depthAll]
    have := h.dep x.1
    have := g.dep x.2.1
    have := e.dep x.2.2.1
    have := d.dep x.2.2.2
    omega
  · simp only [PyData.eqv, PyData.eqvAll, h.eqv, g.eqv, e.eqv, d.eqv, Bool.and_true]
    rw [decide_and2 (r := x.2.2 = y.2.2) (by rw [Prod.ext_iff]), decide_and2 (r := x.2 = y.2) (by rw [Prod.ext_iff])]
    exact decide_and2 (by rw [Prod.ext_iff])
theorem eqL {α : Type} [DecidableEq α] {L : α → PyData} {k : Nat} {G : α → Prop} (h : LayD L k G) (hk : k ≤ 64) {K : PySem.W.Frag} {H : Hp} {x y : V} {a b : α} {Q : VK} (ga : G a) (gb : G b) (h1 : Dp K H x (L a)) (h2 : Dp K H y (L b)) (q : Q (.bl (decide (a = b))) H) : rEqD K x y H Q :=
  ⟨_, _, h1, h2, h.shaped hk ga, h.shaped hk gb, by rw [h.eqv]; exact q⟩
theorem neL {α : Type} [DecidableEq α] {L : α → PyData} {k : Nat} {G : α → Prop} (h : LayD L k G) (hk : k ≤ 64) {K : PySem.W.Frag} {H : Hp} {x y : V} {a b : α} {Q : VK} (ga : G a) (gb : G b) (h1 : Dp K H x (L a)) (h2 : Dp K H y (L b)) (q : Q (.bl (!decide (a = b))) H) : rNeD K x y H Q :=
  ⟨_, _, h1, h2, h.shaped hk ga, h.shaped hk gb, by rw [h.eqv]; exact q⟩
theorem dpAll_refs {α : Type} {L : α → PyData} {K : PySem.W.Frag} {H : Hp} : ∀ {ps : List Addr} {xs : List α}, ps.length = xs.length → (∀ (i : Nat) (p : Addr) (x : α), ps[i]? = some p → xs[i]? = some x → Dp K H (.ref p) (L x)) → DpAll K H (ps.map V.ref) (xs.map L)
  | [], [], _, _ => .nil
  | [], _ :: _, h, _ => by cases h
  | _ :: _, [], h, _ => by cases h
  | p :: ps, x :: xs, h, e => .cons (e 0 p x rfl rfl) (dpAll_refs (Nat.succ.inj h) fun i p' x' h1 h2 => e (i + 1) p' x' h1 h2)

def at0 (ws : List Int) (i : Nat) : Int := ws.getD i 0
theorem at0_lt {ws : List Int} {i : Nat} (h : i < ws.length) : ws[i]? = some (at0 ws i) := by
  unfold at0
  rw [List.getD_eq_getElem?_getD, List.getElem?_eq_getElem h]
  rfl
theorem atI_n {ws : List Int} {j : Nat} (h : j < ws.length) : atI (ws.map V.int) (j : Int) = some (.int (at0 ws j)) := by
  refine at_of (j := j) rfl ?_
  rw [List.getElem?_map, at0_lt h]
  rfl
theorem at0_of {ws : List Int} {i : Nat} {x : Int} (h : ws[i]? = some x) : at0 ws i = x := by
  unfold at0
  rw [List.getD_eq_getElem?_getD, h]
  rfl
theorem at0_out {ws : List Int} {i : Nat} (h : ws.length ≤ i) : at0 ws i = 0 := by
  unfold at0
  rw [List.getD_eq_getElem?_getD, List.getElem?_eq_none h]
  rfl
theorem at0_ext {xs ys : List Int} (hl : xs.length = ys.length) (h : ∀ i, i < xs.length → at0 xs i = at0 ys i) : xs = ys := by
  refine List.ext_getElem? fun i => ?_
  by_cases hi : i < xs.length
  · rw [at0_lt hi, at0_lt (by omega), h i hi]
  · rw [List.getElem?_eq_none (by omega), List.getElem?_eq_none (by omega)]
theorem at0_set {ps : List Int} {k i : Nat} {x : Int} (hk : k < ps.length) : at0 (ps.set k x) i = if i = k then x else at0 ps i := by
  by_cases h : i = k
  · subst h
    rw [if_pos rfl]
    exact at0_of (List.getElem?_set_self hk)
  · rw [if_neg h]
    unfold at0
    rw [List.getD_eq_getElem?_getD, List.getD_eq_getElem?_getD, List.getElem?_set_ne (fun e => h e.symm)]
theorem at0_nonneg {ws : List Int} (h : ∀ w, w ∈ ws → 0 ≤ w) (i : Nat) : 0 ≤ at0 ws i := by
  by_cases hi : i < ws.length
  · exact h _ (List.mem_of_getElem? (at0_lt hi))
  · rw [at0_out (by omega)]; exact Int.le_refl 0

theorem pget_list {X : Cx} : PGet X (fun x y H Q => ∃ (p : Addr) (xs : List V) (j : Nat) (z : V), x = .ref p ∧ y = .int (j : Int) ∧ SqL X.K H p xs ∧ xs[j]? = some z ∧ Q z H) := by
  intro pins s σ H x y v u Q I rx ry h
  obtain ⟨p, xs, j, z, rfl, rfl, hq, he, q⟩ := h
  cases rx
  obtain ⟨t, rfl⟩ := ry
  obtain ⟨its, r, pl, hz⟩ := I.list hq
  obtain ⟨w, ew, rw'⟩ := r.get he
  have hl := r.length
  have hn := line63
  have hj := (List.getElem?_eq_some_iff.mp he).1
  exact wpAny_getItem_list pl.isList (by omega) (by omega) (by simpa using ew) ⟨z, H, I, rw', q⟩

/-! a range that is kept under a name -/
theorem mk_rng {X : Cx} : CallR X (.type "range") (fun xs H Q => ∃ top, xs = [V.int top] ∧ ∀ a, H a = none → Q (.ref a) (upd H a (.rng 0 top))) := by
  intro pn sh st Hh xs us Q inv rel hyp
  obtain ⟨top, rfl, go⟩ := hyp
  obtain ⟨w1, rfl, tk1, rfl⟩ := vals1 rel
  refine call_range_1 ⟨.ref sh.heap.objs.size, upd Hh sh.heap.objs.size (.rng 0 top), ?_, rfl, go _ (inv.hok.fresh (Nat.le_refl _))⟩
  refine inv.laid (t' := sh.toks + 2) (fun b o e => Heap.get?_push_of_some _ e) (Nat.le_refl _) ?_
  exact ⟨sh.toks, tk1, sh.toks + 1, Heap.get?_push_size _ rfl⟩
/-- walking it: lo, the bounds, the turns -/
def iRngV (tv : TE) : TI := fun σ H R => tv σ H fun x H1 => ∃ (a : Addr) (n : Nat), x = .ref a ∧ H1 a = some (.rng 0 (n : Int)) ∧ (n : Int) < 2 ^ 62 ∧ R (Itr 0 n) H1
theorem pi_rng {X : Cx} {tg l : Expr} {tv : TE} (hl : PE X l tv) : PI X tg l (iRngV tv) := by
  refine ⟨fun pn sh st Hh R inv hyp => ?_⟩
  refine thn (hl.run pn sh st Hh _ inv hyp) fun vv s2 ⟨y, H2, inv2, rel2, more⟩ => ?_
  obtain ⟨a, n, ea, ha, hb, go⟩ := more
  subst ea
  cases rel2
  obtain ⟨k1, k2, k3, hobj⟩ := inv2.hok a _ ha
  have small : Builtin.Range.small 0 (n : Int) 1 = true := small_one (by omega) (by omega) (by omega) (by omega)
  refine wpAny_pyIter_range (a := 0) (b := (n : Int)) (c := 1) hobj small ?_
  have inv3 : Inv X pn st H2 { s2 with heap := s2.heap.push { cls := Value.type "range_iterator", data := Data.fields #[rawInt 0, rawInt (Builtin.Range.rangeSize 0 (n : Int) 1), rawInt 1] } } := inv2.kept (t' := s2.toks) fun _ _ was => Heap.get?_push_of_some _ was
  have size : (n : Int) - ((0 : Nat) : Int) = Builtin.Range.rangeSize 0 (n : Int) 1 := by
    rw [rangeSize_one]
    split <;> omega
  refine ⟨s2.heap.objs.size, [s2.heap.objs.size], _, _, H2, rfl, inv3, turn_range _ 0 n, ?_, fun c hc => ?_, go⟩
  · rw [show IsRangeIter _ _ _ _ _ = _ from rfl, size]
    exact (Heap.get?_push_size _ rfl)
  · obtain rfl : c = s2.heap.objs.size := List.mem_singleton.mp hc
    exact inv2.fpOk (Nat.le_refl _) (inv2.hok.fresh (Nat.le_refl _))

section
variable {X : Cx}
/-- isinstance(e, C), e the error that the suite holds, of the class D -/
def rIsE' (K : PySem.W.Frag) (D a : Addr) (cls : Value) (d : Option Addr) : List V → Hp → VK → Prop := fun xs H Q => cls = .ref D ∧ d = none ∧ rIsE K D a xs H Q
theorem call_isE' {a D : Addr} {cls : Value} {d : Option Addr} {oe : Obj} {pn : List (Addr × Obj)} (C : ExcC X.K D) (hz : Zc cls d oe) (hf : ∃ vs, oe.data = .fields vs) : CallR (X.suite a ((a, oe) :: pn)) (.builtin "isinstance") (rIsE' X.K D a cls d) := by
  intro pins s σ H xs us Q I r h
  obtain ⟨rfl, rfl, h⟩ := h
  exact call_isE C hz hf pins s σ H xs us Q I r h
end

/-! ### whole numbers in their one written form -/
def numI (n : Int) : List Nat := (if n < 0 then [45] else []) ++ TL.numL n.natAbs
theorem tl_numI (n : Int) : TL.tl (Str.ofString (toString n)) = numI n := by
  cases n with
  | ofNat m =>
    unfold numI
    rw [if_neg (by show ¬ ((m : Nat) : Int) < 0; omega), List.nil_append]
    exact TL.tl_num m
  | negSucc m =>
    unfold numI
    rw [if_pos (Int.negSucc_lt_zero m)]
    have e : toString (Int.negSucc m) = "-" ++ toString (m + 1) := rfl
    rw [e, TL.tl_ofString, String.toList_append, List.map_append]
    have h := TL.tl_num (m + 1)
    rw [TL.tl_ofString] at h
    have e2 : (Int.negSucc m).natAbs = m + 1 := rfl
    rw [e2, ← h]
    rfl
def dm (l : List Nat) : List Nat := if l.take 1 = [45] then l.drop 1 else l
def valN (l : List Nat) : Int := if l.take 1 = [45] then -(NumText.digitsVal (dm l) : Int) else (NumText.digitsVal (dm l) : Int)
theorem numL_first (q : Nat) : ¬ (TL.numL q).take 1 = [45] := by
  have h := TL.numL_digits q
  have n := TL.numL_ne q
  cases e : TL.numL q with
  | nil => exact absurd e n
  | cons d t =>
    rw [e] at h
    have := h.head
    simp
    omega
theorem dm_numI (n : Int) : dm (numI n) = TL.numL n.natAbs := by
  unfold dm numI
  by_cases h : n < 0
  · rw [if_pos h]
    rfl
  · rw [if_neg h, List.nil_append, if_neg (numL_first _)]
theorem first_numI (n : Int) : ((numI n).take 1 = [45]) ↔ n < 0 := by
  unfold numI
  by_cases h : n < 0
  · rw [if_pos h]
    exact ⟨fun _ => h, fun _ => rfl⟩
  · rw [if_neg h, List.nil_append]
    exact ⟨fun e => absurd e (numL_first _), fun e => absurd e h⟩
theorem valN_numI (n : Int) : valN (numI n) = n := by
  unfold valN
  rw [dm_numI, TL.numL_val]
  by_cases h : n < 0
  · rw [if_pos ((first_numI n).mpr h)]
    omega
  · rw [if_neg fun e => h ((first_numI n).mp e)]
    omega
theorem numI_inj {a b : Int} (h : numI a = numI b) : a = b := by rw [← valN_numI a, h, valN_numI]
theorem numI_sign {n : Int} {c : Nat} (h : c ∈ numI n) : c = 45 ∨ (48 ≤ c ∧ c ≤ 57) := by
  unfold numI at h
  rcases List.mem_append.mp h with h | h
  · split at h
    · exact .inl (List.mem_singleton.mp h)
    · cases h
  · exact .inr (TL.numL_digits _ c h)
theorem numI_len {n : Int} {k : Nat} (hk : 0 < k) (h : n.natAbs < 10 ^ k) : (numI n).length ≤ k + 1 := by
  unfold numI
  have := TL.numL_len hk h
  rw [List.length_append]
  split
  · rw [List.length_singleton]; omega
  · rw [List.length_nil]; omega
theorem numI_ne (n : Int) : numI n ≠ [] := by
  unfold numI
  intro h
  exact TL.numL_ne _ (List.append_eq_nil_iff.mp h).2
theorem val_lt : ∀ (l : List Nat), NumText.AllDigits l → NumText.digitsVal l < 10 ^ l.length := by
  intro l
  suffices H : ∀ (l : List Nat) (a : Nat), NumText.AllDigits l → l.foldl (fun acc c => acc * 10 + (c - 48)) a < (a + 1) * 10 ^ l.length by
    intro h
    have := H l 0 h
    unfold NumText.digitsVal
    omega
  intro l
  induction l with
  | nil => intro a _; simp
  | cons c r ih =>
    intro a h
    have hc := h.head
    rw [List.foldl_cons, List.length_cons, Nat.pow_succ]
    have h1 := ih (a * 10 + (c - 48)) h.tail
    have h2 : (a * 10 + (c - 48) + 1) ≤ (a + 1) * 10 := by omega
    have h3 := Nat.mul_le_mul_right (10 ^ r.length) h2
    have h4 : (a + 1) * 10 * 10 ^ r.length = (a + 1) * (10 ^ r.length * 10) := by rw [Nat.mul_assoc, Nat.mul_comm 10]
    omega

/-! ### match over a list of words -/
section
variable {X : Cx}
structure PCs (X : Cx) (cs : List MatchCase) (t : V → TS) : Prop where
  run : ∀ (first : Bool) (pins : List (Addr × Obj)) (sh : Shared) (σ : L2.St) (H : Hp) (x : V) (y : Value) (D : Ends), Inv X pins σ H sh → RelV x y → t x D σ H → wpAny (model X.prog X.w) X.A (matchCases cs X.env y first) (SP X pins D) X.xe sh
def tMatch (te : TE) (t : V → TS) : TS := fun D σ H => te σ H fun x H1 => t x D σ H1
theorem ps_match {e : Expr} {cs : List MatchCase} {pos : Pos} {te : TE} {t : V → TS} (he : PE X e te) (hc : PCs X cs t) : PS X (.Match e cs pos) (tMatch te t) :=
  ⟨fun pins sh σ H D I h => wpAny_Match (thn (he.run pins sh σ H _ I h) fun y s1 ⟨x, H1, I1, r, q⟩ => hc.run true pins s1 σ H1 x y D I1 r q)⟩
/-- case _: -/
theorem pcs_wild {pos : Pos} {body : List Stmt} {rest : List MatchCase} {tb : TS} (hb : PSs X body tb) : PCs X (⟨.MatchAs none none pos, none, body⟩ :: rest) (fun _ => tb) :=
  ⟨fun _ pins sh σ H _ _ D I _ h => wpAny_matchCases_cons (wpAny_matchPattern_Capture (wpAny_assignInOrder_none (hb.run pins sh σ H D I h)))⟩
def capsOf (ns : List (Str × Pos)) : List Pattern := ns.map fun n => .MatchAs none (some n.1) n.2
theorem caps_each {M : Model} {A : Around} {E : Value → Shared → Prop} {env : Env} : ∀ {ns : List (Str × Pos)} {us : List Value} {sh : Shared} {Q : Option (List (Str × Value)) → Shared → Prop}, us.length = ns.length → Q (some ((ns.map (·.1)).zip us)) sh → wpAny M A (matchEach (capsOf ns) env us) Q E sh
  | [], us, _, _, h, q => by
    cases us with
    | nil => exact wpAny_matchEach_nil q
    | cons u us => cases h
  | n :: ns, [], _, _, h, _ => by cases h
  | n :: ns, u :: us, sh, Q, h, q => by
    have ih := fun (Q2 : Option (List (Str × Value)) → Shared → Prop) q2 => caps_each (M := M) (A := A) (E := E) (env := env) (ns := ns) (us := us) (sh := sh) (Q := Q2) (Nat.succ.inj h) q2
    show wpAny M A (matchEach (Pattern.MatchAs none (some n.1) n.2 :: capsOf ns) env (u :: us)) Q E sh
    refine wpAny_matchEach_cons (wpAny_matchPattern_Capture ?_)
    exact ih _ q
def setAll : List Nat → List V → L2.St → L2.St
  | i :: is, x :: xs, σ => setAll is xs (σ.set i (some x))
  | _, _, σ => σ
/-- names and their slots -/
inductive Slots (X : Cx) : List (Str × Pos) → List Nat → Prop
  | nil : Slots X [] []
  | cons {n : Str × Pos} {ns : List (Str × Pos)} {i : Nat} {is : List Nat} : X.N[i]? = some n.1 → Loc X.env.scope n.1 → (X.fn n.1 = true ∨ X.env.scope.names.lookup n.1 = some .local) → Slots X ns is → Slots X (n :: ns) (i :: is)
theorem bind_all (hN : X.N.Nodup) {pins : List (Addr × Obj)} {H : Hp} : ∀ {ns : List (Str × Pos)} {is : List Nat} {xs : List V} {us : List Value} {σ : L2.St} {sh : Shared} {Q : Shared → Prop}, Slots X ns is → Vals xs us → us.length = ns.length → Inv X pins σ H sh → (∀ s', Inv X pins (setAll is xs σ) H s' → Q s') →
    wpAny (model X.prog X.w) X.A (assignInOrder ((((ns.map (·.1)).zip us).map fun (n, _) => bindName X.env n)) (((ns.map (·.1)).zip us).map (·.2))) (fun _ s' => Q s') X.xe sh
  | _, _, _, _, _, _, _, .nil, .nil, _, I, q => wpAny_assignInOrder_none (q _ I)
  | _, _, _, _, _, _, _, .cons h1 h2 h3 hs, .cons r rs, hl, I, q =>
    wpAny_assignInOrder_more (wpAny_bindName (store_ok I hN h1 h2 r (fun s' I' => bind_all hN hs rs (Nat.succ.inj hl) I' q) h3))
def tCase (K : PySem.W.Frag) (kw : Str) (is : List Nat) (tb : TS) (rest : V → TS) : V → TS := fun x D σ H => ∃ (_ : Unit) (l : Addr) (ws : List Str), x = .ref l ∧ SqL K H l (ws.map V.str) ∧
  (ws.length = is.length + 1 → ws[0]? = some kw → tb D (setAll is (ws.tail.map V.str) σ) H) ∧ (¬ (ws.length = is.length + 1 ∧ ws[0]? = some kw) → rest x D σ H)
theorem Slots.len : ∀ {ns : List (Str × Pos)} {is : List Nat}, Slots X ns is → is.length = ns.length
  | _, _, .nil => rfl
  | _, _, .cons _ _ _ h => congrArg (· + 1) (Slots.len h)
theorem pcs_words (calm : X.calm = true) (hN : X.N.Nodup) {kw : Str} {pc pv' ps' : Pos} {ck : Nat} {caps : List Pattern} {ns : List (Str × Pos)} {is : List Nat} {body : List Stmt} {rest : List MatchCase} {tb : TS} {tr : V → TS} (hk : PE X (.Constant (.str kw) ck pc) (tC (.str kw))) (hs : Slots X ns is) (hb : PSs X body tb) (hr : PCs X rest tr) (hc : caps = capsOf ns := by rfl)
    (hst : ((Pattern.MatchValue (.Constant (.str kw) ck pc) pv' :: caps).findIdx? (·.isStar)) = none := by rfl) :
    PCs X (⟨.MatchSequence (.MatchValue (.Constant (.str kw) ck pc) pv' :: caps) ps', none, body⟩ :: rest) (tCase X.K kw is tb tr) := by
  refine ⟨fun first pins sh σ H x y D I r h => ?_⟩
  obtain ⟨_, l, ws, rfl, hl, qy, qn⟩ := h
  obtain rfl : y = Value.ref l := r
  obtain ⟨its, rv, pl, hz⟩ := I.list hl
  have il := pl.isList
  have hlen : its.length = ws.length := by rw [← rv.length, List.length_map]
  have hw : ws.length ≤ sizeLine := by rw [List.length_map] at hz; exact hz
  have hcl : caps.length = ns.length := by rw [hc]; exact List.length_map ..
  have hil := hs.len
  refine wpAny_matchCases_cons (wpAny_matchPattern_Sequence (wpAny_collectionFlag il.typeIs flag_seq_list ?_) hst rfl)
  rw [if_pos rfl]
  refine pyLen_list il (by rw [List.size_toArray, hlen]; have := line63; omega) ?_
  have I1 : Inv X pins σ H { sh with toks := sh.toks + 1 + 1 } := I.kept fun _ _ e => e
  by_cases hm : ws.length = is.length + 1
  · have he : ((its.toArray.size : Int) != ((Pattern.MatchValue (.Constant (.str kw) ck pc) pv' :: caps).length : Int)) = false := by
      rw [List.size_toArray, List.length_cons, hcl, ← hil, hlen, hm]
      exact bne_self_eq_false _
    rw [he, if_neg Bool.false_ne_true]
    have hn : (Pattern.MatchValue (.Constant (.str kw) ck pc) pv' :: caps).length = its.toArray.size := by rw [List.size_toArray, List.length_cons, hcl, ← hil, hlen, hm]
    rw [hn]
    refine PySem.W.kun_itemsOf (I.ok.hd calm) il fun h' he2 => ?_
    have I2 : Inv X pins σ H { sh with heap := h', toks := sh.toks + 1 + 1 } := I.kept fun b o e => he2 b o (Nat.ne_of_lt (Heap.lt_size e)) e
    cases ws with
    | nil => exact absurd hm (by rw [List.length_nil]; omega)
    | cons w0 wr =>
      cases its with
      | nil => cases rv
      | cons u0 ur =>
        cases rv with
        | cons r0 rr =>
          show wpAny _ _ (matchEach (Pattern.MatchValue (.Constant (.str kw) ck pc) pv' :: caps) X.env (u0 :: ur)) _ _ _
          refine wpAny_matchEach_cons (wpAny_matchPattern_Value (thn (hk.run pins _ σ H (fun z H1 => z = .str kw ∧ H1 = H) I2 ⟨rfl, rfl⟩) fun uk s3 ⟨zk, H3, I3, rk, ek, eH⟩ => ?_))
          rw [ek] at rk
          rw [eH] at I3
          refine thn (op_eq pins s3 σ H (.str w0) (.str kw) u0 uk (fun z H1 => z = .bl (decide (V.str w0 = V.str kw)) ∧ H1 = H) I3 r0 rk ⟨rfl, rfl, rfl⟩) fun c s4 ⟨zc, H4, I4, rc, ec, eH4⟩ => ?_
          rw [ec] at rc
          rw [eH4] at I4
          have ec2 : c = Value.bool (decide (V.str w0 = V.str kw)) := rc
          rw [ec2]
          refine wpAny_truthy_bool ?_
          by_cases hw0 : w0 = kw
          · rw [decide_eq_true (congrArg V.str hw0), if_pos rfl]
            have hul : ur.length = ns.length := by
              have h1 : ur.length + 1 = wr.length + 1 := hlen
              have h2 : wr.length + 1 = is.length + 1 := hm
              omega
            show wpAny _ _ (matchEach caps X.env ur) _ _ _
            rw [hc]
            refine caps_each hul ?_
            show wpAny _ _ (assignInOrder ((((ns.map (·.1)).zip ur).map fun (n, _) => bindName X.env n)) (((ns.map (·.1)).zip ur).map (·.2))) _ _ _
            exact bind_all hN hs rr hul I4 fun s5 I5 => hb.run pins s5 _ H D I5 (qy hm (congrArg some hw0))
          · rw [decide_eq_false fun z => hw0 (V.str.inj z), if_neg Bool.false_ne_true]
            exact hr.run false pins s4 σ H (.ref l) _ D I4 rfl (qn fun z => hw0 (Option.some.inj z.2))
  · have he : ((its.toArray.size : Int) != ((Pattern.MatchValue (.Constant (.str kw) ck pc) pv' :: caps).length : Int)) = true := by
      rw [List.size_toArray, List.length_cons, hcl, ← hil, hlen]
      exact bne_iff_ne.mpr (by omega)
    rw [he, if_pos rfl]
    exact hr.run false pins _ σ H (.ref l) _ D I1 rfl (qn fun z => hm z.1)
/-- a list is drawn into its first item and a new list of the others -/
theorem first_and_rest {prog : Program} {w : World} {A : Around} {E : Value → Shared → Prop} {sh : Shared} {l : Addr} {u0 : Value} {ur : List Value} {Q : List Value → Shared → Prop} (hl : sh.heap.IsList l (u0 :: ur).toArray) (hh : A.handled = none) (hz : ur.length + 1 ≤ sizeLine)
    (q : ∀ (g : Heap) (tk : Nat), (∀ b o, sh.heap.get? b = some o → g.get? b = some o) → Q [u0, .ref g.objs.size] { sh with heap := g.push { cls := .type "list", data := .seq ur.toArray }, toks := tk }) : wpAny (model prog w) A (unpackItems (.ref l) 2 (some 1)) Q E sh := by
  have ne : l ≠ sh.heap.objs.size := hl.elim fun o ho => Nat.ne_of_lt (Heap.lt_size ho.1)
  have sz : (u0 :: ur).toArray.size = ur.length + 1 := by rw [List.size_toArray]; rfl
  unfold unpackItems
  refine wpAny_bind ?_
  unfold notIterableAtAll
  refine wpAny_bind (wpAny_specialOf hl.typeIs PySem.F.slot_list_iter.lookup (wpAny_pure ?_))
  simp only [Bool.false_eq_true, if_false]
  refine wpAny_bind (wpAny_holding (wpAny_pyIter_list hl (wpAny_bind (wpAny_holding (PySem.W.kun_draw ne 1 0 _ _ ⟨_, Heap.get?_push_size _ rfl, rfl, rfl⟩ (hl.push _) (by rw [sz]; omega) fun g1 it1 b1 => ?_)))))
  have l1 : g1.IsList l (u0 :: ur).toArray := (hl.push _).extBut b1.extBut ne
  rw [Nat.zero_add] at it1
  have szI : sh.heap.objs.size < g1.objs.size := it1.elim fun o ho => Heap.lt_size ho.1
  have szL : l < g1.objs.size := l1.elim fun o ho => Heap.lt_size ho.1
  have up1 : ∀ b o, sh.heap.get? b = some o → g1.get? b = some o := fun b o e => b1.extBut b o (Nat.ne_of_lt (Heap.lt_size e)) (Heap.get?_push_of_some _ e)
  have first1 : List.take 1 (List.drop 0 (u0 :: ur).toArray.toList) = [u0] := by rw [List.toList_toArray]; rfl
  rw [first1, if_neg (show ¬ ([u0].length < 1) from Nat.lt_irrefl 1)]
  refine wpAny_bind (wpAny_holding (PySem.W.kun_collect (s := { sh with heap := g1 }) (T := "list_iterator") (.inr (.inr (.inl rfl))) (Walks.list (A := A.in1) hh sh.heap.objs.size l ne (u0 :: ur).toArray) (fun j u st => st.1.typeIs) (k := 1) (by rw [sz]; omega) ⟨it1, l1⟩ szI szL (fun g2 tk up2 => ?_) (by rw [sz]; exact hz)))
  have rest2 : List.drop 1 (u0 :: ur).toArray.toList = ur := by rw [List.toList_toArray]; rfl
  rw [rest2]
  show wpAny _ _ (if ur.length < 0 then _ else _) _ _ _
  rw [if_neg (Nat.not_lt_zero _)]
  show wpAny _ _ (newList (ur.take ur.length) >>= fun d => pure ([u0] ++ [d] ++ ur.drop ur.length)) _ _ _
  rw [List.take_length, List.drop_length]
  refine wpAny_bind (wpAny_newList (wpAny_pure ?_) (by omega))
  exact q g2 tk fun b o e => up2 b o (Nat.ne_of_lt (Heap.lt_size e)) (up1 b o e)
theorem word_is {kw w0 : Str} {pc pv' : Pos} {ck : Nat} {pins : List (Addr × Obj)} {σ : L2.St} {H : Hp} {sh : Shared} {u0 : Value} (hk : PE X (.Constant (.str kw) ck pc) (tC (.str kw))) (I : Inv X pins σ H sh) (r0 : RelV (.str w0) u0) :
    wpAny (model X.prog X.w) X.A (matchPattern (.MatchValue (.Constant (.str kw) ck pc) pv') X.env u0) (fun r s' => Inv X pins σ H s' ∧ r = if w0 = kw then some [] else none) X.xe sh := by
  refine wpAny_matchPattern_Value (thn (hk.run pins _ σ H (fun z H1 => z = .str kw ∧ H1 = H) I ⟨rfl, rfl⟩) fun uk s3 ⟨zk, H3, I3, rk, ek, eH⟩ => ?_)
  rw [ek] at rk
  rw [eH] at I3
  refine thn (op_eq pins s3 σ H (.str w0) (.str kw) u0 uk (fun z H1 => z = .bl (decide (V.str w0 = V.str kw)) ∧ H1 = H) I3 r0 rk ⟨rfl, rfl, rfl⟩) fun c s4 ⟨zc, H4, I4, rc, ec, eH4⟩ => ?_
  rw [ec] at rc
  rw [eH4] at I4
  have ec2 : c = Value.bool (decide (V.str w0 = V.str kw)) := rc
  rw [ec2]
  refine wpAny_truthy_bool ?_
  by_cases hw0 : w0 = kw
  · rw [decide_eq_true (congrArg V.str hw0), if_pos rfl]
    exact ⟨I4, (if_pos hw0).symm⟩
  · rw [decide_eq_false fun z => hw0 (V.str.inj z), if_neg Bool.false_ne_true]
    exact ⟨I4, (if_neg hw0).symm⟩
def tStar (K : PySem.W.Frag) (kw : Str) (i : Nat) (tb : TS) (rest : V → TS) : V → TS := fun x D σ H => ∃ (_ : Unit) (l : Addr) (ws : List Str), x = .ref l ∧ SqL K H l (ws.map V.str) ∧
  (ws[0]? = some kw → ∀ p, H p = none → tb D (σ.set i (some (.ref p))) (upd H p (.lst (ws.tail.map V.str)))) ∧ (¬ ws[0]? = some kw → rest x D σ H)
theorem pcs_star (calm : X.calm = true) (hN : X.N.Nodup) {kw n : Str} {pc pv' ps' pn : Pos} {ck i : Nat} {body : List Stmt} {rest : List MatchCase} {tb : TS} {tr : V → TS} (hk : PE X (.Constant (.str kw) ck pc) (tC (.str kw))) (hi : X.N[i]? = some n) (hx : Loc X.env.scope n) (hf : X.fn n = true ∨ X.env.scope.names.lookup n = some .local) (hb : PSs X body tb) (hr : PCs X rest tr) :
    PCs X (⟨.MatchSequence [.MatchValue (.Constant (.str kw) ck pc) pv', .MatchStar (some n) pn] ps', none, body⟩ :: rest) (tStar X.K kw i tb tr) := by
  refine ⟨fun first pins sh σ H x y D I r h => ?_⟩
  obtain ⟨_, l, ws, rfl, hl, qy, qn⟩ := h
  obtain rfl : y = Value.ref l := r
  obtain ⟨its, rv, pl, hz⟩ := I.list hl
  have il := pl.isList
  have I1 : Inv X pins σ H { sh with toks := sh.toks + 1 + 1 } := I.kept fun _ _ e => e
  have fit : ((its.toArray.size : Nat) : Int) < 2 ^ 63 := by
    have h1 := rv.length
    have := line63
    rw [List.size_toArray]
    omega
  cases ws with
  | nil =>
    cases its with
    | cons u ur => cases rv
    | nil => exact wpAny_matchCases_cons (PySem.W.kun_fewL (i := 1) il fit rfl (Nat.lt_succ_self 1) (Nat.lt_succ_self 1) (hr.run false pins _ σ H (.ref l) _ D I1 rfl (qn fun z => by cases z)))
  | cons w0 wr =>
    cases its with
    | nil => cases rv
    | cons u0 ur =>
      cases rv with
      | cons r0 rr =>
        have zr : ur.length + 1 ≤ sizeLine := by
          have h1 : (wr.map V.str).length = ur.length := rr.length
          rw [List.map_cons, List.length_cons, h1] at hz
          exact hz
        refine wpAny_matchCases_cons (PySem.W.kun_seqL (i := 1) il fit rfl rfl rfl (Nat.lt_succ_self 1) (by rw [List.size_toArray]; show 2 ≤ ur.length + 1 + 1; omega) (first_and_rest il (I.ok.hd calm) zr fun g tk up => ?_))
        have I2 : Inv X pins σ H { sh with heap := g, toks := tk } := I.kept up
        have free : H g.objs.size = none := I2.hok.fresh (Nat.le_refl _)
        have I3 : Inv X pins (σ := σ) (H := upd H g.objs.size (.lst (wr.map V.str))) { sh with heap := g.push { cls := .type "list", data := .seq ur.toArray }, toks := tk } := I2.laid (t' := tk) (fun b u e => Heap.get?_push_of_some _ e) (Nat.le_refl _) ⟨by have h1 : (wr.map V.str).length = ur.length := rr.length; omega, ur, 0, rr, Heap.get?_push_size _ rfl⟩
        have I4 : Inv X pins σ H { sh with heap := g.push { cls := .type "list", data := .seq ur.toArray }, toks := tk } := I.kept fun b o e => Heap.get?_push_of_some _ (up b o e)
        by_cases hw0 : w0 = kw
        · refine wpAny_matchEach_cons (thn (word_is hk I3 r0) fun rr s3 ⟨J, er⟩ => ?_)
          rw [er, if_pos hw0]
          refine PySem.W.kun_each (wpAny_matchEach_nil ?_)
          refine wpAny_assignInOrder_more (wpAny_bindName (store_ok J hN hi hx (v := .ref g.objs.size) rfl (fun s4 J4 => wpAny_assignInOrder_none (hb.run pins s4 _ _ D J4 (qy (congrArg some hw0) _ free))) hf))
        · refine wpAny_matchEach_cons (thn (word_is hk I4 r0) fun rr s3 ⟨J, er⟩ => ?_)
          rw [er, if_neg hw0]
          exact hr.run false pins s3 σ H (.ref l) _ D J rfl (qn fun z => hw0 (Option.some.inj z))
theorem pcs_nil : PCs X [] (fun _ D σ H => D.nx σ H) := ⟨fun _ _ sh σ H _ _ D I _ h => wpAny_matchCases_nil ⟨σ, H, I, h⟩⟩
end

/-! a dict from texts to whole numbers -/
def encD (d : List (Str × Int)) : List (Key × V) := d.map fun x => (Sum.inr x.1, V.int x.2)
def getS (d : List (Str × Int)) (s : Str) : Option Int := (d.find? fun x => decide (x.1 = s)).map (·.2)
def keysS (d : List (Str × Int)) : List Str := d.map (·.1)
def putS (d : List (Str × Int)) (s : Str) (v : Int) : List (Str × Int) := if s ∈ keysS d then d.map (fun x => if x.1 = s then (x.1, v) else x) else d ++ [(s, v)]
def gD (d : List (Str × Int)) (s : Str) : Int := (getS d s).getD 0
theorem inr_eq {a b : Str} : ((Sum.inr a : Key) = Sum.inr b) ↔ a = b := ⟨fun h => Sum.inr.inj h, fun h => by rw [h]⟩
theorem valV_enc (s : Str) : ∀ d : List (Str × Int), valV (encD d) (Sum.inr s) = (getS d s).map V.int
  | [] => rfl
  | x :: d => by
    unfold encD getS
    rw [List.map_cons, List.find?_cons]
    by_cases h : x.1 = s
    · rw [valV_pos (by rw [h]), decide_eq_true h]; rfl
    · rw [valV_neg (fun z => h (Sum.inr.inj z)), decide_eq_false h]
      exact valV_enc s d
theorem any_enc (s : Str) : ∀ d : List (Str × Int), ((encD d).any fun kv => decide (kv.1 = Sum.inr s)) = decide (s ∈ keysS d)
  | [] => rfl
  | x :: d => by
    have ih := any_enc s d
    unfold encD at ih ⊢
    rw [List.map_cons, List.any_cons, ih]
    unfold keysS
    rw [List.map_cons]
    by_cases h : x.1 = s
    · have hm : s ∈ x.1 :: List.map (fun x => x.1) d := by rw [← h]; exact List.mem_cons_self
      rw [decide_eq_true (show ((Sum.inr x.1 : Key) = Sum.inr s) by rw [h]), decide_eq_true hm]; rfl
    · rw [decide_eq_false (fun z => h (Sum.inr.inj z)), Bool.false_or]
      exact decide_eq_decide.mpr ⟨fun z => List.mem_cons_of_mem _ z, fun z => (List.mem_cons.mp z).resolve_left fun e => h e.symm⟩
theorem putK_enc (d : List (Str × Int)) (s : Str) (v : Int) : putK (encD d) (Sum.inr s) (V.int v) = encD (putS d s v) := by
  unfold putK putS
  rw [any_enc]
  by_cases h : s ∈ keysS d
  · rw [if_pos (decide_eq_true h), if_pos h]
    unfold encD
    rw [List.map_map, List.map_map]
    refine List.map_congr_left fun x _ => ?_
    show (if (Sum.inr x.1 : Key) = Sum.inr s then ((Sum.inr x.1 : Key), V.int v) else (Sum.inr x.1, V.int x.2)) = _
    by_cases z : x.1 = s
    · rw [if_pos (by rw [z])]
      show _ = ((Sum.inr (if x.1 = s then (x.1, v) else x).1 : Key), V.int (if x.1 = s then (x.1, v) else x).2)
      rw [if_pos z]
    · rw [if_neg (fun e => z (Sum.inr.inj e))]
      show _ = ((Sum.inr (if x.1 = s then (x.1, v) else x).1 : Key), V.int (if x.1 = s then (x.1, v) else x).2)
      rw [if_neg z]
  · rw [if_neg (by rw [decide_eq_false h]; exact Bool.false_ne_true), if_neg h]
    unfold encD
    rw [List.map_append]
    rfl
def addK (ks : List Str) (s : Str) : List Str := if s ∈ ks then ks else ks ++ [s]
theorem keys_put (d : List (Str × Int)) (s : Str) (v : Int) : keysS (putS d s v) = addK (keysS d) s := by
  unfold putS addK
  by_cases h : s ∈ keysS d
  · rw [if_pos h, if_pos h]
    unfold keysS
    rw [List.map_map]
    refine List.map_congr_left fun x _ => ?_
    show (if x.1 = s then (x.1, v) else x).1 = x.1
    split <;> rfl
  · rw [if_neg h, if_neg h]
    unfold keysS
    rw [List.map_append]
    rfl
theorem get_mem (s : Str) : ∀ d : List (Str × Int), (getS d s).isSome = decide (s ∈ keysS d)
  | [] => rfl
  | x :: d => by
    have ih := get_mem s d
    unfold getS keysS at ih ⊢
    rw [List.find?_cons, List.map_cons]
    by_cases h : x.1 = s
    · rw [decide_eq_true h, decide_eq_true (by rw [h]; exact List.mem_cons_self)]; rfl
    · rw [decide_eq_false h]
      refine ih.trans (decide_eq_decide.mpr ⟨fun z => List.mem_cons_of_mem _ z, fun z => (List.mem_cons.mp z).resolve_left fun e => h e.symm⟩)
theorem get_some {d : List (Str × Int)} {s : Str} (h : s ∈ keysS d) : getS d s = some (gD d s) := by
  have e := get_mem s d
  rw [decide_eq_true h] at e
  unfold gD
  cases w : getS d s with
  | none => rw [w] at e; cases e
  | some x => rfl
theorem get_map (s t : Str) (v : Int) : ∀ d : List (Str × Int), getS (d.map fun x => if x.1 = s then (x.1, v) else x) t = (getS d t).map fun w => if t = s then v else w
  | [] => rfl
  | x :: d => by
    have ih := get_map s t v d
    unfold getS at ih ⊢
    rw [List.map_cons, List.find?_cons, List.find?_cons]
    have e1 : (if x.1 = s then (x.1, v) else x).1 = x.1 := by split <;> rfl
    rw [e1]
    by_cases h : x.1 = t
    · rw [decide_eq_true h]
      show some (if x.1 = s then (x.1, v) else x).2 = some (if t = s then v else x.2)
      by_cases z : x.1 = s
      · rw [if_pos z, if_pos (h.symm.trans z)]
      · rw [if_neg z, if_neg fun e => z (h.trans e)]
    · rw [decide_eq_false h]
      exact ih
theorem gD_put (d : List (Str × Int)) (s t : Str) (v : Int) : gD (putS d s v) t = if t = s then v else gD d t := by
  unfold gD putS
  by_cases h : s ∈ keysS d
  · rw [if_pos h, get_map]
    by_cases z : t = s
    · have := get_some h
      rw [z, this, if_pos rfl]
      show (if s = s then v else gD d s) = v
      rw [if_pos rfl]
    · rw [if_neg z]
      cases getS d t with
      | none => rfl
      | some w => show (if t = s then v else w) = w; rw [if_neg z]
  · rw [if_neg h]
    unfold getS
    rw [List.find?_append]
    by_cases z : t = s
    · have e := get_mem s d
      rw [decide_eq_false h] at e
      unfold getS at e
      rw [z, if_pos rfl]
      cases w : d.find? fun x => decide (x.1 = s) with
      | none => rw [Option.none_or, List.find?_cons, decide_eq_true rfl]; rfl
      | some x => rw [w] at e; cases e
    · rw [if_neg z]
      have : List.find? (fun x : Str × Int => decide (x.1 = t)) [(s, v)] = none := by
        rw [List.find?_cons, decide_eq_false fun e : s = t => z e.symm]
        rfl
      rw [this, Option.or_none]
theorem dget_go {H : Hp} {a : Addr} {s : Str} {d : List (Str × Int)} {R : Option V → Prop} (h : H a = some (.dK (encD d))) (q : R ((getS d s).map V.int)) : ∃ o, DGet H a (.str s) o ∧ R o := by
  refine ⟨_, ?_, q⟩
  have := DGet.k (k := Sum.inr s) h
  rw [valV_enc] at this
  exact this
theorem dget_at {H : Hp} {a : Addr} {s : Str} {d : List (Str × Int)} (h : H a = some (.dK (encD d))) (k : s ∈ keysS d) : DGet H a (.str s) (some (.int (gD d s))) := by
  have := DGet.k (k := Sum.inr s) h
  rw [valV_enc, get_some k] at this
  exact this
theorem dput_go {H : Hp} {a : Addr} {s : Str} {v : Int} {d : List (Str × Int)} {R : Hp → Prop} (h : H a = some (.dK (encD d))) (hl : d.length ≤ 1000) (q : R (upd H a (.dK (encD (putS d s v))))) : ∃ H', V.ref a = V.ref a ∧ DPut H a (.str s) (.int v) H' ∧ R H' := by
  refine ⟨_, rfl, ?_, q⟩
  rw [← putK_enc]
  refine DPut.k (k := Sum.inr s) h ?_
  unfold encD
  rw [List.length_map]
  exact small1000 (by omega)
theorem getD_int (d : List (Str × Int)) (s : Str) : ((getS d s).map V.int).getD (.int 0) = .int (gD d s) := by
  unfold gD
  cases getS d s <;> rfl
theorem isD_enc {H : Hp} {a : Addr} {d : List (Str × Int)} (h : H a = some (.dK (encD d))) : IsD H a := .inl ⟨_, .inl h⟩
theorem addK_mem {ks : List Str} {s t : Str} : t ∈ addK ks s ↔ t ∈ ks ∨ t = s := by
  unfold addK
  split
  · exact ⟨.inl, fun h => h.elim id fun e => by rw [e]; assumption⟩
  · rw [List.mem_append, List.mem_singleton]
theorem addK_nodup {ks : List Str} {s : Str} (h : ks.Nodup) : (addK ks s).Nodup := by
  unfold addK
  split
  · exact h
  · rename_i n
    rw [List.nodup_append]
    exact ⟨h, List.nodup_cons.mpr ⟨fun z => (by cases z), List.nodup_nil⟩, fun a ha b hb e => n (by rw [List.mem_singleton] at hb; rw [← hb, ← e]; exact ha)⟩
theorem addK_len (ks : List Str) (s : Str) : (addK ks s).length ≤ ks.length + 1 := by
  unfold addK
  split
  · omega
  · rw [List.length_append]; exact Nat.le_refl _
/-- two ascending lists with the same texts, none twice, are equal -/
theorem rising_le : ∀ {xs : List Str} {p : Str}, risingS p xs = true → (p :: xs).Pairwise fun a b => a.cps.toList ≤ b.cps.toList
  | [], p, _ => List.pairwise_singleton _ _
  | x :: xs, p, h => by
    have h' : (!ltCps x.cps.toList p.cps.toList && risingS x xs) = true := h
    rw [Bool.and_eq_true] at h'
    have h1 : p.cps.toList ≤ x.cps.toList := by
      have := h'.1
      rw [ltCps_eq] at this
      exact ndec_t this
    have ih := rising_le h'.2
    refine List.pairwise_cons.mpr ⟨fun y hy => ?_, ih⟩
    rcases List.mem_cons.mp hy with e | e
    · rw [e]; exact h1
    · exact List.le_trans h1 ((List.pairwise_cons.mp ih).1 y e)
theorem sorted_le {xs : List Str} (h : sortedS xs = true) : xs.Pairwise fun a b => a.cps.toList ≤ b.cps.toList := by
  cases xs with
  | nil => exact .nil
  | cons x xs => exact rising_le h
theorem sorted_same : ∀ {xs ys : List Str}, xs.Pairwise (fun a b => a.cps.toList ≤ b.cps.toList) → ys.Pairwise (fun a b => a.cps.toList ≤ b.cps.toList) → xs.Nodup → ys.Nodup → (∀ s, s ∈ xs ↔ s ∈ ys) → xs = ys
  | [], [], _, _, _, _, _ => rfl
  | [], y :: ys, _, _, _, _, h => absurd ((h y).mpr List.mem_cons_self) (fun z => by cases z)
  | x :: xs, [], _, _, _, _, h => absurd ((h x).mp List.mem_cons_self) (fun z => by cases z)
  | x :: xs, y :: ys, h1, h2, n1, n2, h => by
    have a := List.pairwise_cons.mp h1
    have b := List.pairwise_cons.mp h2
    have c := List.nodup_cons.mp n1
    have d := List.nodup_cons.mp n2
    have e : x = y := by
      rcases List.mem_cons.mp ((h x).mp List.mem_cons_self) with e | e
      · exact e
      · rcases List.mem_cons.mp ((h y).mpr List.mem_cons_self) with f | f
        · exact f.symm
        · have z := List.le_antisymm (a.1 y f) (b.1 x e)
          cases x
          cases y
          exact congrArg _ (Array.toList_inj.mp z)
    subst e
    rw [sorted_same a.2 b.2 c.2 d.2 fun s => ?_]
    constructor
    · intro hs
      rcases List.mem_cons.mp ((h s).mp (List.mem_cons_of_mem _ hs)) with e | e
      · rw [e] at hs; exact absurd hs c.1
      · exact e
    · intro hs
      rcases List.mem_cons.mp ((h s).mpr (List.mem_cons_of_mem _ hs)) with e | e
      · rw [e] at hs; exact absurd hs d.1
      · exact e
theorem keys_enc (d : List (Str × Int)) : (encD d).map (·.1) = (keysS d).map Sum.inr := by
  unfold encD keysS
  rw [List.map_map, List.map_map]
  rfl

/-- a field of an instance, set and read -/
theorem setF {K : PySem.W.Frag} {C x dx : Addr} {fs : List (Str × V)} {f : Str} {y : V} {H : Hp} {W : Hp → Prop} (hx : H x = some (.ins C dx fs)) (c : Cls K C) (na : NoAttr K C f) (hl : Nat.ble (fs.length + 1) 1000 = true)
    (h : W (upd H x (.ins C dx (putF f y fs)))) : ∃ (a C : Addr) (dx : Addr) (fs : List (Str × V)), V.ref x = V.ref a ∧ H a = some (.ins C dx fs) ∧ Cls K C ∧ NoAttr K C f ∧ fs.length < 1000 ∧ W (upd H a (.ins C dx (putF f y fs))) :=
  ⟨x, C, dx, fs, rfl, hx, c, na, Nat.le_of_ble_eq_true hl, h⟩
theorem getF {K : PySem.W.Frag} {C x dx : Addr} {fs : List (Str × V)} {f : Str} {v : V} {H : Hp} {σ : L2.St} {Q : VK} (hx : H x = some (.ins C dx fs)) (c : Cls K C) (na : NoAttr K C f) (hl : fs.lookup f = some v) (h : Q v H) :
    tFld K (tC (.ref x)) f σ H Q := ⟨x, C, dx, fs, v, rfl, hx, c, na, hl, h⟩

section
variable {P : Program} {w : World} {K : PySem.W.Frag} {mg : Str → Option Value} {base : Heap}
/-- how many signs, and which -/
def wordOf (a x : List Nat) (m : Int) : Bool := decide (1 ≤ x.length ∧ (x.length : Int) ≤ m) && x.all (fun c => decide (c ∈ a))
def sp_is_word_of (K : PySem.W.Frag) : Sp := fun vs H Q _ => ∃ (a x : Str) (m : Int), vs = [.str a, .int m, .str x] ∧ x.length ≤ 1000 ∧
  ∀ H', Same H H' → Q (.bl (wordOf (TL.tl a) (TL.tl x) m)) H'
set_option maxHeartbeats 0 in
theorem ok_is_word_of (T : Txt K mg) : FnOk P w K mg base CX0 1 T.f_is_word_of T.d_is_word_of ["letters", "most", "text"] (sp_is_word_of K) := by
  refine T.F_is_word_of.ok sc_is_word_of (fun vs H Q E h => ?_) (fun cdv A outer s H vs Q E hr h => ?_)
  · obtain ⟨a, x, m, rfl, _⟩ := h
    rfl
  · obtain ⟨a, x, m, rfl, hx, q⟩ := h
    have hxl : x.length ≤ sizeLine := Nat.le_of_lt (small1000 hx)
    refine ⟨_, (pss_one (ps_ret (pe_and (pe_chain op_le op_le pe_int (pe_callB call_len_str (by rfl) T.z_len PySem.boot_len (pa_cons (pv 2) pa_nil)) (pv 1)) (pe_one (pe_callB (cr_all rfl) (by rfl) T.z_all (by decide +kernel) (pa_cons (pe_lc (own := [("letter", 3)]) (g := gName 3) (tt := tYes) rfl sc_is_word_of.nd (pi_str (pv 2)) (blkOk_by (own := [("letter", 3)]) (N := N_is_word_of) (sc := defScope s_is_word_of) (by decide +kernel)) (fun _ _ _ _ _ => (pg_name (i := 3) sc_is_word_of.nd rfl (Or.inl rfl))) (fun _ _ _ _ _ => pts_nil) (fun _ _ _ _ _ => (pe_cmpR op_in_sign (pv 3) (pv 0) rfl))) pa_nil)))))), ?_⟩
    walk_at "st"
    refine iteD (fun h1 => ?_) (fun h1 => ?_)
    · walk_at "st"
      refine iteD (fun h2 => ?_) (fun h2 => ?_)
      · refine ⟨_, rfl, x, rfl, fun D nD => ?_⟩
        have s1 : ∀ o, Same H (upd H D o) := fun o => same_upd nD
        refine lc_it (walk_str (z := x)) (fun i H' => H' = upd H D (.lst (((TL.tl x).take i).map fun c => V.bl (decide (c ∈ TL.tl a))))) rfl (fun _ _ _ _ => trivial) ?_ ?_
        · rintro i v H' H2 hi rfl ⟨rfl, c, hc, rfl⟩
          have hc2 : (TL.tl x)[i]? = some c := by rw [show TL.tl x = x.cps.toList from rfl, Array.getElem?_toList]; exact hc
          refine ⟨rfl, ?_⟩
          walk_at "st"
          refine ⟨small1000 ?_, ?_⟩
          · rw [List.length_map, List.length_take, ← TL.len_tl]
            omega
          · rw [upd_upd, take_succ hc2, List.map_append]
            rfl
        · rintro H' rfl
          refine ⟨D, (TL.tl x).map fun c => decide (c ∈ TL.tl a), rfl, ?_, ?_⟩
          · refine SqL.of (upd_same.trans ?_)
            rw [List.map_map, List.take_of_length_le (by simp)]
            rfl
          · have e : wordOf (TL.tl a) (TL.tl x) m = (((TL.tl x).map fun c => decide (c ∈ TL.tl a)).all id) := by
              unfold wordOf
              rw [← TL.len_tl, decide_eq_true ⟨by omega, h2⟩, Bool.true_and, List.all_map]
              rfl
            rw [← e]
            exact q _ (s1 _)
      · have e : wordOf (TL.tl a) (TL.tl x) m = false := by
          unfold wordOf
          rw [← TL.len_tl, decide_eq_false (fun h => h2 h.2), Bool.false_and]
        rw [e] at q
        exact q H (.refl H)
    · have e : wordOf (TL.tl a) (TL.tl x) m = false := by
        unfold wordOf
        rw [← TL.len_tl, decide_eq_false (fun h => h1 (by omega)), Bool.false_and]
      rw [e] at q
      walk_at "st"
      exact q H (.refl H)
def isD (x : List Nat) : Bool := wordOf (TL.tl ("0123456789" : Str)) x 20
theorem isD_iff {x : List Nat} : isD x = true ↔ 1 ≤ x.length ∧ x.length ≤ 20 ∧ NumText.AllDigits x := by
  have hm : ∀ c : Nat, c ∈ TL.tl ("0123456789" : Str) ↔ 48 ≤ c ∧ c ≤ 57 := by
    intro c
    rw [show TL.tl ("0123456789" : Str) = [48, 49, 50, 51, 52, 53, 54, 55, 56, 57] from rfl]
    simp only [List.mem_cons, List.not_mem_nil, or_false]
    omega
  unfold isD wordOf
  rw [Bool.and_eq_true, decide_eq_true_iff, List.all_eq_true]
  constructor
  · rintro ⟨⟨h1, h2⟩, h3⟩
    exact ⟨h1, by omega, fun c hc => (hm c).mp (of_decide_eq_true (h3 c hc))⟩
  · rintro ⟨h1, h2, h3⟩
    exact ⟨⟨h1, by omega⟩, fun c hc => decide_eq_true ((hm c).mpr (h3 c hc))⟩
def sp_is_digits (K : PySem.W.Frag) : Sp := fun vs H Q _ => ∃ x : Str, vs = [.str x] ∧ x.length ≤ 1000 ∧ ∀ H', Same H H' → Q (.bl (isD (TL.tl x))) H'
set_option maxHeartbeats 0 in
theorem ok_is_digits (T : Txt K mg) : FnOk P w K mg base CX0 2 T.f_is_digits T.d_is_digits ["text"] (sp_is_digits K) := by
  refine T.F_is_digits.ok sc_is_digits (fun vs H Q E h => ?_) (fun cdv A outer s H vs Q E hr h => ?_)
  · obtain ⟨x, rfl, _⟩ := h
    rfl
  · obtain ⟨x, rfl, hx, q⟩ := h
    have G_is_word_of : FnOk P w K mg base CX0 1 T.f_is_word_of T.d_is_word_of ["letters", "most", "text"] (sp_is_word_of K) := ok_is_word_of T
    refine ⟨_, (pss_one (ps_ret (pe_call G_is_word_of hr (by rfl) T.m_is_word_of T.F_is_word_of.kp T.b_is_word_of .nil pass0 (pa_cons (pe_glob (v := .str "0123456789") rfl T.m_DIGITS ⟨_, rfl⟩) (pa_cons (pe_glob (v := .int 20) rfl T.m_MOST_DIGITS ⟨_, rfl⟩) (pa_cons (pv 0) pa_nil)))))), ?_⟩
    walk_at "st"
    exact q

/-- the number that a text writes, from lo to hi -/
def readN (x : List Nat) (lo hi : Int) : Option Int := if isD (dm x) = true ∧ numI (valN x) = x ∧ lo ≤ valN x ∧ valN x ≤ hi then some (valN x) else none
theorem isD_numL {m : Nat} (h : m < 10 ^ 20) : isD (TL.numL m) = true := by
  refine isD_iff.mpr ⟨?_, TL.numL_len (by decide) h, TL.numL_digits m⟩
  have := TL.numL_ne m
  cases e : TL.numL m with
  | nil => exact absurd e this
  | cons a b => rw [List.length_cons]; omega
theorem readN_iff {x : List Nat} {lo hi n : Int} (hlo : -(10 ^ 18) ≤ lo) (hhi : hi ≤ 10 ^ 18) : readN x lo hi = some n ↔ numI n = x ∧ lo ≤ n ∧ n ≤ hi := by
  unfold readN
  constructor
  · intro h
    split at h
    · next z =>
      cases h
      exact z.2
    · cases h
  · rintro ⟨rfl, h1, h2⟩
    rw [valN_numI, dm_numI, if_pos ⟨isD_numL (by omega), rfl, h1, h2⟩]
theorem readN_none {x : List Nat} {lo hi : Int} (hlo : -(10 ^ 18) ≤ lo) (hhi : hi ≤ 10 ^ 18) (h : ∀ n, lo ≤ n → n ≤ hi → numI n ≠ x) : readN x lo hi = none := by
  cases e : readN x lo hi with
  | none => rfl
  | some n =>
    obtain ⟨h1, h2, h3⟩ := (readN_iff hlo hhi).mp e
    exact absurd h1 (h n h2 h3)
theorem tl_removeprefix (x : Str) : TL.tl (Txt.removeprefix x "-") = dm (TL.tl x) := by
  unfold Txt.removeprefix dm
  have e : Builtin.Str.subAt x "-" 0 = ((TL.tl x).take 1 == [45]) := by
    rw [PySem.StrLaws.subAt_eq, List.drop_zero] <;> rfl
  rw [e]
  by_cases h : (TL.tl x).take 1 = [45]
  · rw [if_pos (beq_iff_eq.mpr h), if_pos h]
    unfold Txt.affix
    have hl : x.length = (TL.tl x).length := TL.len_tl x
    have h0 : 1 ≤ x.length := by
      have := congrArg List.length h
      rw [List.length_take] at this
      simp only [List.length_cons, List.length_nil] at this
      omega
    have ey : ("-" : Str).length = 1 := rfl
    rw [ey]
    show TL.tl (if (x.length - 1 == x.length) = true then x else Builtin.Str.strSub x 1 x.length) = _
    rw [if_neg (by simp; omega)]
    have := PySem.StrLaws.strSub_toList x 1 x.length
    rw [show TL.tl (Builtin.Str.strSub x 1 x.length) = (Builtin.Str.strSub x 1 x.length).cps.toList from rfl, this]
    exact List.take_of_length_le (by rw [List.length_drop]; have hl2 : x.cps.toList.length = x.length := hl.symm; omega)
  · rw [if_neg (by simpa using h), if_neg h]
    rfl
theorem dm_len (l : List Nat) : (dm l).length ≤ l.length := by
  unfold dm
  split
  · rw [List.length_drop]; omega
  · omega
theorem natAbs_log {c : Int} {k : Nat} (h : c.natAbs < 2 ^ k) (hk : k ≤ 1920) (h0 : 0 < k) : c.natAbs.log2 < 1920 := by
  by_cases z : c.natAbs = 0
  · rw [z]
    decide
  · have := (Nat.log2_lt z).mpr h
    omega
/-- int of a text of digits, a minus sign in front or not -/
theorem int_of_num {x : Str} (h : isD (dm (TL.tl x)) = true) : intText? x = some (valN (TL.tl x)) ∧ x.length ≤ 21 ∧ (valN (TL.tl x)).natAbs < 10 ^ 20 := by
  obtain ⟨h1, h2, h3⟩ := isD_iff.mp h
  have hv := val_lt _ h3
  have hv2 : NumText.digitsVal (dm (TL.tl x)) < 10 ^ 20 := Nat.lt_of_lt_of_le hv (Nat.pow_le_pow_right (by decide) h2)
  have hl := TL.len_tl x
  unfold valN
  by_cases z : (TL.tl x).take 1 = [45]
  · rw [if_pos z]
    have e1 : dm (TL.tl x) = (TL.tl x).drop 1 := if_pos z
    have e2 : TL.tl x = 45 :: (TL.tl x).drop 1 := by
      have := List.take_append_drop 1 (TL.tl x)
      rw [z] at this
      exact this.symm
    have hl2 := congrArg List.length e2
    rw [List.length_cons] at hl2
    rw [e1] at h1 h2 h3
    refine ⟨?_, by omega, by omega⟩
    rw [e1]
    exact PySem.intText_neg e2 h3 (fun e => by rw [e] at h1; simp at h1) (by omega)
  · rw [if_neg z]
    have e1 : dm (TL.tl x) = TL.tl x := if_neg z
    rw [e1] at h1 h2 h3 hv2 ⊢
    refine ⟨?_, by omega, by omega⟩
    exact PySem.intText_digits h3 (fun e => by rw [show TL.tl x = [] from e] at h1; simp at h1) (by omega)

def optI : Option Int → V
  | none => .non
  | some n => .int n
def sp_read_number (K : PySem.W.Frag) : Sp := fun vs H Q _ => ∃ (_ : Unit) (x : Str) (lo hi : Int), vs = [.str x, .int lo, .int hi] ∧ x.length ≤ 1000 ∧ ∀ H', Same H H' → Q (optI (readN (TL.tl x) lo hi)) H'
set_option maxHeartbeats 0 in
theorem ok_read_number (T : Txt K mg) : FnOk P w K mg base CX0 3 T.f_read_number T.d_read_number ["text", "least", "most"] (sp_read_number K) := by
  refine T.F_read_number.ok sc_read_number (fun vs H Q E h => ?_) (fun cdv A outer s H vs Q E hr h => ?_)
  · obtain ⟨_, x, lo, hi, rfl, _⟩ := h
    rfl
  · obtain ⟨_, x, lo, hi, rfl, hx, q⟩ := h
    have hxl : x.length ≤ sizeLine := Nat.le_of_lt (small1000 hx)
    have G_is_digits : FnOk P w K mg base CX0 2 T.f_is_digits T.d_is_digits ["text"] (sp_is_digits K) := ok_is_digits T
    refine ⟨_, (pss_cons (ps_if (pt_not (pt_val (pe_call G_is_digits hr (by rfl) T.m_is_digits T.F_is_digits.kp T.b_is_digits .nil pass0 (pa_cons (pe_m1 PySem.F.slot_str_removeprefix PySem.F.type_str_removeprefix mt_removeprefix (pv 0) pe_str) pa_nil))))
      (pss_one (ps_ret pe_non))
      pss_nil)
    (pss_cons (ps_set (i := 3) sc_read_number.nd rfl (Or.inl rfl) (pe_callTy call_int_str (by rfl) T.z_int (by decide +kernel) (pa_cons (pv 0) pa_nil)))
    (pss_cons (ps_if (PW.pt (pw_or (pt_cmpR op_ne (pe_callTy call_str_int (by rfl) T.z_str (by decide +kernel) (pa_cons (pv 3) pa_nil)) (pv 0) (nomark _)) (pw_or1 (pt_not (pt_chain op_le op_le (pv 1) (pv 3) (pv 2))))))
      (pss_one (ps_ret pe_non))
      pss_nil)
    (pss_one (ps_ret (pv 3)))))), ?_⟩
    walk_at "st"
    refine ⟨⟨_, rfl⟩, ?_⟩
    walk_at "st"
    have hb := tl_removeprefix x
    have hbl := dm_len (TL.tl x)
    rw [← TL.len_tl x] at hbl
    generalize Txt.removeprefix x "-" = y at hb
    walk_at "st"
    refine ⟨by rw [TL.len_tl, hb]; omega, fun H1 s1 => ?_⟩
    rw [hb]
    walk_at "st"
    refine iteB (fun hd => ?_) (fun hd => ?_)
    · have hD : ¬ isD (dm (TL.tl x)) = true := fun e => by rw [e] at hd; cases hd
      have e : readN (TL.tl x) lo hi = none := if_neg fun z => hD z.1
      rw [e] at q
      walk_at "st"
      exact q H1 s1
    · have hD : isD (dm (TL.tl x)) = true := by
        cases e : isD (dm (TL.tl x)) with
        | true => rfl
        | false => rw [e] at hd; cases hd
      obtain ⟨n1, n2, n3⟩ := int_of_num hD
      have hlog : (valN (TL.tl x)).natAbs.log2 < 1920 := natAbs_log (k := 100) (by omega) (by decide) (by decide)
      have hxe : V.str (Str.ofString (toString (valN (TL.tl x)))) = V.str x ↔ numI (valN (TL.tl x)) = TL.tl x := by
        rw [← tl_numI]
        exact ⟨fun e => congrArg TL.tl (V.str.inj e), fun e => congrArg V.str (TL.ext_tl e)⟩
      walk_at "st"
      refine iteB (fun hne => ?_) (fun heq => ?_)
      · have hn : ¬ numI (valN (TL.tl x)) = TL.tl x := fun e => by
          rw [decide_eq_true (hxe.mpr e)] at hne
          cases hne
        have e : readN (TL.tl x) lo hi = none := if_neg fun z => hn z.2.1
        rw [e] at q
        walk_at "st"
        exact q H1 s1
      · have hn : numI (valN (TL.tl x)) = TL.tl x := by
          refine hxe.mp (Classical.byContradiction fun z => ?_)
          rw [decide_eq_false z] at heq
          cases heq
        have e : readN (TL.tl x) lo hi = if lo ≤ valN (TL.tl x) ∧ valN (TL.tl x) ≤ hi then some (valN (TL.tl x)) else none := by
          unfold readN
          by_cases z : lo ≤ valN (TL.tl x) ∧ valN (TL.tl x) ≤ hi
          · rw [if_pos ⟨hD, hn, z⟩, if_pos z]
          · rw [if_neg (fun k => z k.2.2), if_neg z]
        rw [e] at q
        generalize valN (TL.tl x) = v at hn n1 n2 n3 hlog q ⊢
        walk_at "st"
        refine iteB (fun h1 => ?_) (fun h1 => ?_)
        · walk_at "st"
          refine iteB (fun h2 => ?_) (fun h2 => ?_)
          · have h3 : ¬ v ≤ hi := fun z => by rw [decide_eq_true z] at h2; cases h2
            rw [if_neg fun z => h3 z.2] at q
            walk_at "st"
            exact q H1 s1
          · have h3 : v ≤ hi := Classical.byContradiction fun z => by rw [decide_eq_false z] at h2; cases h2
            rw [if_pos ⟨of_decide_eq_true h1, h3⟩] at q
            walk_at "st"
            exact q H1 s1
        · rw [if_neg fun z => of_decide_eq_false h1 z.1] at q
          walk_at "st"
          exact q H1 s1

theorem cutV_take {xs : List V} {k : Int} (h0 : 0 ≤ k) (h : k ≤ (xs.length : Int)) : cutV xs none (some k) = xs.take k.toNat := by
  obtain ⟨n, rfl⟩ := Int.eq_ofNat_of_zero_le h0
  have hn : n ≤ xs.length := by omega
  have e : HT.sIx xs.length xs.length (some (n : Int)) = n := by
    rw [HT.sIx_nat]
    omega
  unfold cutV
  show (xs.drop _).take (HT.sIx xs.length xs.length (some (n : Int)) - _) = _
  rw [e, HT.sIx_none, List.drop_zero, Int.toNat_natCast]
  rfl
theorem cutV_drop {xs : List V} {k : Int} (h0 : 0 ≤ k) (h : k ≤ (xs.length : Int)) : cutV xs (some k) none = xs.drop k.toNat := by
  obtain ⟨n, rfl⟩ := Int.eq_ofNat_of_zero_le h0
  have hn : n ≤ xs.length := by omega
  have e : HT.sIx xs.length 0 (some (n : Int)) = n := by
    rw [HT.sIx_nat]
    omega
  unfold cutV
  show (xs.drop (HT.sIx xs.length 0 (some (n : Int)))).take _ = _
  rw [e, HT.sIx_none, List.take_of_length_le (by rw [List.length_drop]; exact Nat.le_refl _), Int.toNat_natCast]

end
/-! for i, x in enumerate(xs, start=k) -/
def IteS (K : PySem.W.Frag) (k : Int) (a : Addr) : It :=
  ⟨fun i G => ∃ (ys : List V) (y : V), SqL K G a ys ∧ ys[i]? = some y,
    fun i G v G' => ∃ T y, v = .ref T ∧ G T = none ∧ G' = upd G T (.tup [.int (k + (i : Int)), y]) ∧ ∀ ys, SqL K G a ys → ys[i]? = some y,
    fun i G => ∃ ys : List V, SqL K G a ys ∧ ys.length = i⟩
theorem turn_enumS {P : Program} {w : World} {K : PySem.W.Frag} {elts : List Expr} {kk : Nat} {tpos : Pos} {k : Int} {a e it : Addr} (na : a ≠ it) (ne : e ≠ it) (nea : e ≠ a) :
    Turn P w K (.Tuple elts kk tpos) (IteS K k a) [e, it] e (fun i h => (∃ old, IsEnum h e it (k + (i : Int)) old) ∧ h.IsListIter it a i) where
  mem := by simp
  obj := fun i h st m hm => by
    obtain ⟨⟨old, h1⟩, o2, e2, _, d2⟩ := st
    have q : m = e ∨ m = it := by simpa using hm
    rcases q with q | q
    · rw [q]; exact ⟨_, h1, fun v z => nomatch z⟩
    · rw [q]; exact ⟨o2, e2, fun v z => by rw [d2] at z; cases z⟩
  keep := fun i h h' st kp => by
    obtain ⟨⟨old, h1⟩, h2⟩ := st
    exact ⟨⟨old, kp e (by simp) _ h1⟩, h2.at fun o q => kp it (by simp) o q⟩
  item := by
    intro X hP hw hK hc i pins s σ H E I hf st hg
    subst hP hw hK
    obtain ⟨⟨old, h1⟩, h2⟩ := st
    obtain ⟨ys, y, hq, hy⟩ := hg
    obtain ⟨its, rv, p, _⟩ := I.list hq
    obtain ⟨u, hu, ru⟩ := rv.get hy
    have hd : X.A.in1.handled = none := I.ok.hd hc
    have hl := (List.getElem?_eq_some_iff.mp hu).1
    refine (GoesN.enumFrom k (Draws.list hd it a na its.toArray) e ne (by simp [ne, nea]) (by simp)).goes i s _ E (by simpa using hl) ⟨⟨old, h1⟩, h2, p.isList⟩ fun v h' tk hY st' hk htk => ?_
    obtain ⟨T, t, x, rfl, hT, q1, hTup⟩ := hY
    obtain ⟨st1, st2, _⟩ := st'
    obtain rfl : x = u := by
      have : its[i]? = some x := by simpa using q1
      rw [hu] at this
      exact (Option.some.inj this).symm
    have new : ObjOk X.prog X.w (upd H T (.tup [.int (k + (i : Int)), y])) h' T (.tup [.int (k + (i : Int)), y]) :=
      ⟨by show 2 ≤ sizeLine; decide, [.int (k + (i : Int)) t, x], .cons ⟨_, rfl⟩ (.cons ru .nil), hTup⟩
    have I1 : Inv X pins σ (upd H T (.tup [.int (k + (i : Int)), y])) { s with heap := h', toks := tk } := I.turnedNew (ch := [e, it]) (fun c o hb q => hk c o hb q) hf hT new
    refine ⟨.ref T, _, I1, rfl, ⟨_, y, rfl, I.hok.fresh hT, rfl, fun zs hz => by rw [I.list_inj hz hq]; exact hy⟩, ⟨st1, st2⟩, fun m hm => ?_⟩
    have hlt : m < s.heap.objs.size := by
      have q : m = e ∨ m = it := by simpa using hm
      rcases q with q | q
      · rw [q]; exact Heap.lt_size h1
      · rw [q]; obtain ⟨_, e2, _⟩ := h2; exact Heap.lt_size e2
    rw [upd_ne (Nat.ne_of_lt (Nat.lt_of_lt_of_le hlt hT))]
    exact (hf m hm).1
  done := by
    intro X hP hw hK hc i pins s σ H E I hf st hg
    subst hP hw hK
    obtain ⟨⟨old, h1⟩, h2⟩ := st
    obtain ⟨ys, hq, hy⟩ := hg
    obtain ⟨its, rv, p, _⟩ := I.list hq
    have hl := rv.length
    have hd : X.A.in1.handled = none := I.ok.hd hc
    have W := GoesN.enumFrom (elts := elts) (x1 := kk) (pos := tpos) (prog := X.prog) (w := X.w) k (Draws.list hd it a na its.toArray) e ne (by simp [ne, nea]) (by simp)
    have en : its.toArray.size = i := by simp; omega
    rw [en] at W
    exact W.stops s _ E ⟨⟨old, h1⟩, h2, p.isList⟩ fun h' tk hk htk => I.turnedL (t' := tk) (ch := [e, it]) (fun m o hb q => hk m o hb q) hf
  self := fun A i s Q E st h => let ⟨⟨_, he⟩, _⟩ := st; wpAny_pyIter_enum he h
def iEnumS (K : PySem.W.Frag) (k : Int) (ta : TA) : TI := fun σ H R => ta σ H fun vs H1 => ∃ a ys, vs = [.ref a] ∧ SqL K H1 a ys ∧ R (IteS K k a) H1
theorem callTy_kw {M : Model} {A : Around} {E : Value → Shared → Prop} {s : Shared} {env : Env} {pos : Pos} {T : String} {e : Expr} {kws : List Keyword} {Q : Value → Shared → Prop}
    (h : wpAny M A (spliced (backTo pos (starEach [e] env))) (fun vs s1 => wpAny M A (evalAll ((backToKw pos (keywordEach kws env)).map (·.2)))
      (fun ks s2 => wpAny M A (call (.type T) vs (((backToKw pos (keywordEach kws env)).filterMap (·.1)).zip ks)) Q E s2) E s1) E s)
    (hb : backTo pos (starEach [e] env) = (false, eval e env) :: backTo pos (starEach [] env) := by rfl) (hp : (backTo pos (starEach [e] env)).any (·.1) = false := by rfl)
    (ha : (backToKw pos (keywordEach kws env)).all (·.1.isSome) = true := by rfl) (hk : (backToKw pos (keywordEach kws env)).any (·.1.isNone) = false := by rfl) :
    wpAny M A (callWith pos (.type T) [] (backTo pos (starEach [e] env)) (backToKw pos (keywordEach kws env))) Q E s := by
  have key : wpAny M A (evalArgs (.type T) true (backTo pos (starEach [e] env)) (backToKw pos (keywordEach kws env))) (fun a s1 => wpAny M A (call (.type T) ([] ++ a.pos) a.kw) Q E s1) E s := by
    rw [hb] at h ⊢
    exact PyProof.Rows.evalArgs_kwB ha h
  unfold callWith
  refine wpAny_bind (wpAny_holding (wpAny_mono key (fun a s1 h1 => wpAny_bind (wpAny_standAt ?_)) fun _ _ z => z))
  simp only [hp, hk, Bool.or_false]
  refine wpAny_bind (wpAny_pure ?_)
  exact wpAny_bind (wpAny_mono h1 (fun r s2 hr => wpAny_bind (wpAny_holding (wpAny_point (wpAny_pure hr)))) fun _ _ z => z)
theorem pi_enumS {X : Cx} {e : Expr} {ta : TA} {p pos tpos kpos cpos : Pos} {elts : List Expr} {kk j : Nat} {k : Int} (hg : Gl X "enumerate") (hm : X.mg "enumerate" = none) (ha : PA X [e] ta) (hc : PE X (.Constant (.int k) j cpos) (tC (.int k))) (lo : 0 ≤ k ∧ k < 1000 := by decide)
    (hb : backTo pos (starEach [e] X.env) = (false, eval e X.env) :: backTo pos (starEach [] X.env) := by rfl) (hp : (backTo pos (starEach [e] X.env)).any (·.1) = false := by rfl) :
    PI X (.Tuple elts kk tpos) (.Call (.Name "enumerate" p) [e] [⟨some "start", .Constant (.int k) j cpos, kpos⟩] pos) (iEnumS X.K k ta) := by
  refine ⟨fun pins s σ H R I h => ?_⟩
  refine wpAny_Call_Name_kw (ld_blt I hg hm (u := .type "enumerate") PyProof.Rows.boot_enumerate (callTy_kw (thn (ha.run pos pins s σ H _ I h) fun us s1 ⟨vs, H1, I1, r1, q1⟩ => ?_) hb hp) (by decide) (by decide))
  obtain ⟨a, ys, ex, hq, q⟩ := q1
  subst ex
  cases r1 with
  | cons r rr =>
    cases rr
    cases r
    refine wpAny_evalAll_cons (wpAny_bind (thn (hc.run pins s1 σ H1 (fun z G => z = .int k ∧ G = H1) I1 ⟨rfl, rfl⟩) fun v s2 ⟨z, G, I2, rz, ez, eG⟩ => wpAny_bind (wpAny_standAt (wpAny_pure ?_))))
    rw [ez] at rz
    rw [eG] at I2
    obtain ⟨t, rfl⟩ := rz
    refine wpAny_evalAll_nil ?_
    obtain ⟨its, rv, p', hz⟩ := I2.list hq
    have la : a < s2.heap.objs.size := p'.lt
    show wpAny _ _ (call (.type "enumerate") [.ref a] [(Str.ofString "start", .int k t)]) _ _ _
    refine PySem.enum_begins_start (begins_list a its.toArray) p'.isList (by omega) (by omega) fun h' he hit hsz hk => wpAny_pyIter_enum he ?_
    have I3 : Inv X pins σ H1 { s2 with heap := h' } := I2.kept (t' := s2.toks) hk
    refine ⟨s2.heap.objs.size + 1, [s2.heap.objs.size + 1, s2.heap.objs.size], _, _, H1, rfl, I3, turn_enumS (k := k) (Nat.ne_of_lt la) (Nat.succ_ne_self _) (Nat.ne_of_gt (Nat.lt_succ_of_lt la)), ⟨⟨.none, by rw [Int.natCast_zero, Int.add_zero]; exact he⟩, ⟨_, hit, rfl, rfl⟩⟩, fun b hb => ?_, q⟩
    have hle : s2.heap.objs.size ≤ b := by
      have z : b = s2.heap.objs.size + 1 ∨ b = s2.heap.objs.size := by simpa using hb
      rcases z with z | z
      · rw [z]; exact Nat.le_add_right _ _
      · rw [z]; exact Nat.le_refl _
    exact I2.fpOk hle (I2.hok.fresh hle)
/-- the loop: each turn a new pair -/
theorem for_enumS {K : PySem.W.Frag} {k : Int} {a : Addr} {xs : List V} {g : TG} {tb : TS} {D : Ends} {σ : L2.St} {H : Hp} (Pv : Nat → L2.St → Hp → Prop) (h0 : Pv 0 σ H) (hl : ∀ i σ H, i ≤ xs.length → Pv i σ H → SqL K H a xs)
    (hs : ∀ (i : Nat) (x : V) (σ : L2.St) (H : Hp) (T : Addr), xs[i]? = some x → Pv i σ H → H T = none → g (.ref T) σ (upd H T (.tup [.int (k + (i : Int)), x])) fun σ2 H2 => tb { D with nx := Pv (i + 1), ct := Pv (i + 1), bk := D.nx } σ2 H2) (hd : ∀ σ H, Pv xs.length σ H → D.nx σ H) :
    ∃ W : Nat → Nat → L2.St → Hp → Prop, (∃ m, W 0 m σ H) ∧ ∀ i m σ H, W i m σ H →
      ((IteS K k a).stop i H ∧ D.nx σ H) ∨ ((IteS K k a).go i H ∧ ∃ N : L2.St → Hp → Prop, (∀ σ' H', N σ' H' → ∃ m', m' < m ∧ W (i + 1) m' σ' H') ∧ ∀ x H', (IteS K k a).yld i H x H' → g x σ H' fun σ2 H2 => tb { D with nx := N, ct := N, bk := D.nx } σ2 H2) := by
  refine ⟨fun i m σ H => m + i = xs.length ∧ Pv i σ H, ⟨xs.length, rfl, h0⟩, ?_⟩
  rintro i m σ H ⟨em, p⟩
  have q := hl i σ H (by omega) p
  by_cases hlt : i < xs.length
  · refine .inr ⟨⟨xs, xs[i], q, List.getElem?_eq_getElem hlt⟩, Pv (i + 1), fun σ' H' p' => ⟨m - 1, by omega, by omega, p'⟩, fun x H' y => ?_⟩
    obtain ⟨T, z, rfl, nT, rfl, hz⟩ := y
    exact hs i z σ H T (hz xs q) p nT
  · have e : i = xs.length := by omega
    subst e
    exact .inl ⟨⟨xs, q, rfl⟩, hd σ H p⟩

/-! ### sorted(xs), sorted(d.items()), sorted(d.values()): rows of any one kind of data -/
mutual
theorem rd_off {g : Heap} {z : Addr} (n : g.get? z = none) : ∀ {v : Value} {d : PyData} {as : List Addr}, Reads g v d as → z ∉ as
  | _, _, _, .none => List.not_mem_nil
  | _, _, _, .bool _ => List.not_mem_nil
  | _, _, _, .int _ _ => List.not_mem_nil
  | _, _, _, .str _ _ => List.not_mem_nil
  | _, _, _, .list e1 _ _ e4 => fun y => (List.mem_cons.mp y).elim (fun e => by rw [e, e1] at n; cases n) (rds_off n e4)
  | _, _, _, .tuple _ _ _ e4 => rds_off n e4
  | _, _, _, .dict e1 _ _ e4 e5 => fun y => (List.mem_append.mp y).elim (fun y => (List.mem_cons.mp y).elim (fun e => by rw [e, e1] at n; cases n) (rds_off n e4)) (rds_off n e5)
theorem rds_off {g : Heap} {z : Addr} (n : g.get? z = none) : ∀ {vs : List Value} {ds : List PyData} {as : List Addr}, ReadsAll g vs ds as → z ∉ as
  | _, _, _, .nil => List.not_mem_nil
  | _, _, _, .cons e1 e2 => fun y => (List.mem_append.mp y).elim (rd_off n e1) (rds_off n e2)
end
theorem vals_same : ∀ {as : List Addr} {its : List Value}, Vals (as.map V.ref) its → its = as.map Value.ref
  | [], _, .nil => rfl
  | _ :: _, _, .cons h t => by
    cases h
    rw [vals_same t]
    rfl
def zipS {α : Type} (lay : α → PyData) (as : List Addr) (D : List α) : List (Addr × α) := (as.zip D).mergeSort (PySem.W.dataLe false fun b => lay b.2)
theorem zipS_rows {α : Type} (lay : α → PyData) {as : List Addr} {D : List α} (h : as.length = D.length) : (zipS lay as D).map (·.2) = D.mergeSort (PySem.W.dataLe false lay) := by
  unfold zipS
  conv => rhs; rw [← List.map_snd_zip (l₁ := as) (l₂ := D) (Nat.le_of_eq h.symm)]
  exact List.map_mergeSort fun a _ b _ => rfl
theorem zipS_len {α : Type} (lay : α → PyData) {as : List Addr} {D : List α} (h : as.length = D.length) : (zipS lay as D).length = D.length := by
  unfold zipS
  rw [List.length_mergeSort, List.length_zip, h, Nat.min_self]
theorem zipS_at {α : Type} (lay : α → PyData) {as : List Addr} {D : List α} (h : as.length = D.length) {i : Nat} {p : Addr} {x : α} (e1 : ((zipS lay as D).map (·.1))[i]? = some p) (e2 : (D.mergeSort (PySem.W.dataLe false lay))[i]? = some x) :
    ∃ j : Nat, as[j]? = some p ∧ D[j]? = some x := by
  rw [← zipS_rows lay h, List.getElem?_map] at e2
  rw [List.getElem?_map] at e1
  cases hz : (zipS lay as D)[i]? with
  | none => rw [hz] at e1; cases e1
  | some y =>
    rw [hz] at e1 e2
    cases e1
    cases e2
    have hm := List.mem_mergeSort.mp (List.mem_of_getElem? hz)
    obtain ⟨j, hj⟩ := List.mem_iff_getElem?.mp hm
    exact ⟨j, List.getElem?_zip_eq_some.mp hj⟩
/-- a kind of rows that can be sorted -/
structure SortK {α : Type} (lay : α → PyData) : Prop where
  al : ∀ x y, PySem.W.alike (lay x) (lay y) = true
  so : ∀ D : List α, PySem.W.Sortable (D.map lay)
  dep : ∀ x, (lay x).depth ≤ 8
section
variable {X : Cx} {pins : List (Addr × Obj)} {σ : L2.St} {H : Hp} {s : Shared} {α : Type} {lay : α → PyData} {as : List Addr} {D : List α} {vs : List Value}
theorem zip_each (I : Inv X pins σ H s) (hD : ∀ (i : Nat) (a : Addr) (x : α), as[i]? = some a → D[i]? = some x → Dp X.K H (.ref a) (lay x)) (hl : as.length = D.length) (rv : Vals (as.map V.ref) vs) :
    PySem.W.EachIs (fun (v : Value) (b : Addr × α) => v = .ref b.1) vs (as.zip D) ∧ PySem.W.EachIs (fun (v : Value) (b : Addr × α) => ∃ ws, Reads s.heap v (lay b.2) ws) vs (as.zip D) := by
  obtain rfl := vals_same rv
  clear rv
  induction as generalizing D with
  | nil =>
    cases D with
    | nil => exact ⟨.nil, .nil⟩
    | cons _ _ => cases hl
  | cons a as ih =>
    cases D with
    | nil => cases hl
    | cons x D =>
      obtain ⟨k1, k2⟩ := ih (D := D) (fun i b y e1 e2 => hD (i + 1) b y e1 e2) (Nat.succ.inj hl)
      exact ⟨.cons rfl k1, .cons (Dp.reads I (lay x) (.ref a) (.ref a) (hD 0 a x rfl rfl) rfl) k2⟩
theorem outs_refs {out : List Value} {zs : List (Addr × α)} (he : PySem.W.EachIs (fun (v : Value) (b : Addr × α) => v = .ref b.1) out zs) : out = zs.map fun b => Value.ref b.1 := by
  induction he with
  | nil => rfl
  | cons h _ ih => rw [List.map_cons, ← ih, h]
theorem outs_vals (zs : List (Addr × α)) : Vals ((zs.map (·.1)).map V.ref) (zs.map fun b => Value.ref b.1) := by
  have := LiI.vals_refs (zs.map (·.1))
  rw [List.map_map (g := Value.ref)] at this
  exact this
/-- list.sort() of the list that a view's items were put into -/
theorem sort_fresh {k : Nat} (hr : Room k X.A) (Y : SortK lay) (I : Inv X pins σ H s) (rv : Vals (as.map V.ref) vs) (hl : as.length = D.length) (hD : ∀ (i : Nat) (a : Addr) (x : α), as[i]? = some a → D[i]? = some x → Dp X.K H (.ref a) (lay x)) (few : D.length ≤ 1000)
    {R : Value → Shared → Prop} (q : ∀ (B : Addr) s', H B = none → Inv X pins σ (upd H B (.lst (((zipS lay as D).map (·.1)).map V.ref))) s' → R (.ref B) s') :
    wpAny (model X.prog X.w) X.A.in1 (call (.builtin "list.sort") [.ref s.heap.objs.size]) (fun _ s' => R (.ref s.heap.objs.size) s') X.xe { s with heap := s.heap.push (seqObj "list" vs.toArray 0) } := by
  obtain ⟨e1, e2⟩ := zip_each I hD hl rv
  have hzl : (as.zip D).length = D.length := by rw [List.length_zip, hl, Nat.min_self]
  have new : s.heap.get? s.heap.objs.size = none := by
    cases z : s.heap.get? s.heap.objs.size with
    | none => rfl
    | some o => exact absurd (Heap.lt_size z) (Nat.lt_irrefl _)
  have up : ∀ b o, s.heap.get? b = some o → (s.heap.push (seqObj "list" vs.toArray 0)).get? b = some o := fun b o e => Heap.get?_push_of_some _ e
  have hB : H s.heap.objs.size = none := I.hok.fresh (Nat.le_refl _)
  have hat : (s.heap.push (seqObj "list" vs.toArray 0)).get? s.heap.objs.size = some (seqObj "list" vs.toArray 0) := Heap.get?_push_size _ rfl
  refine PySem.W.list_sort_data (s := { s with heap := s.heap.push (seqObj "list" vs.toArray 0) }) (enc := fun b : Addr × α => lay b.2) hat e1 (e2.mono fun v b ⟨ws, r⟩ => ⟨ws, PyProof.Rows.Reads.keeps up r, rd_off new r⟩) (PySem.W.AllAlike.of fun b b' => Y.al b.2 b'.2) ?_ (by rw [hzl]; exact Nat.le_trans few (by rw [sizeLine_eq]; decide)) (fun b _ => ?_) fun out hol he => ?_
  · have := Y.so ((as.zip D).map (·.2))
    rw [List.map_map] at this
    exact this
  · have h1 := Y.dep b.2
    have h2 := hr.un
    simp only [Around.in1_units]
    show _ + (lay b.2).depth < cLine
    omega
  · have ho := outs_refs he
    obtain ⟨ep, hs⟩ := PyProof.Rows.sortedHeap_at (out := out.toArray) hat
    have hzz : (zipS lay as D).length ≤ sizeLine := by rw [zipS_len lay hl]; exact Nat.le_trans few (by rw [sizeLine_eq]; decide)
    refine q _ _ hB (I.laid (a := s.heap.objs.size) (o := .lst (((zipS lay as D).map (·.1)).map V.ref)) (t' := s.toks) (fun b o e => ?_) (Nat.le_refl _) ⟨by rw [List.length_map, List.length_map]; exact hzz, out, ep, by rw [ho]; exact outs_vals _, hs⟩)
    have lt := Heap.lt_size e
    exact (PyProof.Rows.sortedHeap_old (Nat.ne_of_lt lt) (Heap.lt_size (up b o e))).trans (up b o e)
/-- what sorted asks and gives -/
def rSortG {α : Type} (K : PySem.W.Frag) (lay : α → PyData) : List V → Hp → VK → Prop := fun vs H Q => ∃ (_ : Unit) (l : Addr) (as : List Addr) (D : List α), vs = [V.ref l] ∧ SqL K H l (as.map V.ref) ∧ as.length = D.length ∧
  (∀ (i : Nat) (a : Addr) (x : α), as[i]? = some a → D[i]? = some x → Dp K H (.ref a) (lay x)) ∧ D.length ≤ 1000 ∧ ∀ (_ : Unit) (p : Addr), H p = none → Q (.ref p) (upd H p (.lst (((zipS lay as D).map (·.1)).map V.ref)))
theorem cr_sortG {k : Nat} (hr : Room k X.A) (Y : SortK lay) : CallR X (.builtin "sorted") (rSortG X.K lay) := by
  intro pins s σ H ws us Q I r h
  obtain ⟨_, l, as, D, rfl, hS, hl, hD, few, q⟩ := h
  rw [Vals.ref1 r]
  obtain ⟨its, rv, pl, _⟩ := I.list hS
  obtain ⟨e1, e2⟩ := zip_each I hD hl rv
  have hzl : (as.zip D).length = D.length := by rw [List.length_zip, hl, Nat.min_self]
  refine PySem.W.sorted_data (enc := fun b : Addr × α => lay b.2) pl.isList e1 e2 (PySem.W.AllAlike.of fun b b' => Y.al b.2 b'.2) ?_ (by rw [hzl]; exact Nat.le_trans few (by rw [sizeLine_eq]; decide)) (fun b _ => ?_) fun out hol he => ?_
  · have := Y.so ((as.zip D).map (·.2))
    rw [List.map_map] at this
    exact this
  · have h1 := Y.dep b.2
    have h2 := hr.un
    omega
  · have ho := outs_refs he
    obtain ⟨ep, hs⟩ := PyProof.Rows.sortedAll_at s.heap its out.toArray
    have hzz : (zipS lay as D).length ≤ sizeLine := by rw [zipS_len lay hl]; exact Nat.le_trans few (by rw [sizeLine_eq]; decide)
    exact ⟨.ref _, _, I.laid (a := s.heap.objs.size + 1) (o := .lst (((zipS lay as D).map (·.1)).map V.ref)) (t' := s.toks) (fun _ _ => PyProof.Rows.sortedAll_old) (Nat.le_succ _) ⟨by rw [List.length_map, List.length_map]; exact hzz, out, ep, by rw [ho]; exact outs_vals _, hs⟩, rfl, q () _ (I.hok.fresh (Nat.le_succ _))⟩
/-- the new tuples of a view of items are told -/
theorem told_items {g : Heap} {tk : Nat} {kvs : List (Key × V)} {vs : List (Key × Value)} {lo : Addr} (I : Inv X pins σ H s) (kv : KV kvs vs) (up : ∀ b o, s.heap.get? b = some o → g.get? b = some o) (hl : as.length = vs.length) (hlo : s.heap.objs.size ≤ lo) (hG : PySem.W.KdxG (mixKind X.prog X.w) vs lo g as) :
    ∃ G : Hp, Same H G ∧ (∀ t ∈ as, H t = none) ∧ Paired (fun (t : Addr) (q : Key × V) => G t = some (.tup [kV q.1, q.2])) as kvs ∧ Inv X pins σ G { s with heap := g, toks := tk } := by
  have lk : kvs.length = vs.length := Paired.length kv
  have above : ∀ t ∈ as, s.heap.objs.size ≤ t := fun t ht => Nat.le_trans hlo (Nat.le_of_lt (hG.above t ht))
  have nn : as.Nodup := hG.rise.imp fun {a b} (z : a < b) => Nat.ne_of_lt z
  have new : ∀ t ∈ as, H t = none := fun t ht => I.hok.fresh (above t ht)
  have atP := LiI.putT_at as kvs H (by omega) nn
  have off : ∀ b, b ∉ as → LiI.putT H as kvs b = H b := fun b h1 => LiI.putT_off as kvs H h1
  have low : ∀ b o, s.heap.get? b = some o → b ∉ as := fun b o e z => absurd (Heap.lt_size e) (Nat.not_lt.mpr (above b z))
  have kp : Same H (LiI.putT H as kvs) := fun b u e => (off b fun z => by rw [new b z] at e; cases e).trans e
  refine ⟨LiI.putT H as kvs, kp, new, atP, ?_⟩
  refine I.call' (ch := []) rfl ⟨fun b o q _ _ _ => up b o q, fun b o q _ _ _ => ⟨o.slots, up b o q⟩, fun b o q n _ => (off b (low b o q)).trans n, fun b o q _ => ⟨o, up b o q⟩, fun b xs q => kp b _ q, fun b o u q => kp b _ q, fun b ps q => ⟨#[], by rw [kp b _ q]; simp⟩⟩ (fun b u q => ?_) I.bare fun b z => by simp at z
  by_cases hb : b ∈ as
  · obtain ⟨j, pk, g1, g2, g3⟩ := LiI.paired_ix atP hb
    rw [g3] at q
    cases q
    obtain ⟨key, kk, x, f1, f2, f3⟩ := hG.pairs j b g1
    obtain ⟨qv, k1, k2, k3⟩ := LiI.paired_get kv g2
    rw [f1] at k1
    cases k1
    exact ⟨by show 2 ≤ sizeLine; decide, [key, x], .cons (by rw [k2]; exact relV_key (show keyIs kk key = true from f2)) (.cons k3 .nil), ⟨_, f3, rfl, _, rfl⟩⟩
  · rw [off b hb] at q
    exact (I.hok b u q).stay (fun d v _ y => up d v y) (fun d y => kp d _ y) fun d xs y => kp d _ y
end
theorem kv_vals : ∀ {kvs : List (Key × V)} {vs : List (Key × Value)}, KV kvs vs → Vals (kvs.map (·.2)) (vs.map (·.2))
  | [], _, .nil => .nil
  | _ :: _, _, .cons h t => .cons h.2 (kv_vals t)
/-- sorted(d.items()) -/
def tSortItems {α : Type} (K : PySem.W.Frag) (lay : α → PyData) (te : TE) : TE := fun σ H Q => te σ H fun x H1 => ∃ (_ : Unit) (d : Addr) (kvs : List (Key × V)) (D : List α), x = V.ref d ∧ H1 d = some (.dK kvs) ∧ kvs.length = D.length ∧ D.length ≤ 1000 ∧
  (∀ (G : Hp) (i : Nat) (t : Addr) (q : Key × V) (x : α), kvs[i]? = some q → D[i]? = some x → G t = some (.tup [kV q.1, q.2]) → Dp K G (.ref t) (lay x)) ∧
  ∀ (_ : Unit) (ts : List Addr) (G : Hp) (p : Addr), Same H1 G → (∀ t ∈ ts, H1 t = none) → Paired (fun (t : Addr) (q : Key × V) => G t = some (.tup [kV q.1, q.2])) ts kvs → G p = none → Q (.ref p) (upd G p (.lst (((zipS lay ts D).map (·.1)).map V.ref)))
/-- sorted(d.values()) -/
def tSortVals {α : Type} (K : PySem.W.Frag) (lay : α → PyData) (te : TE) : TE := fun σ H Q => te σ H fun x H1 => ∃ (_ : Unit) (d : Addr) (kvs : List (Key × V)) (as : List Addr) (D : List α), x = V.ref d ∧ H1 d = some (.dK kvs) ∧ kvs.map (·.2) = as.map V.ref ∧ as.length = D.length ∧ D.length ≤ 1000 ∧
  (∀ (i : Nat) (a : Addr) (x : α), as[i]? = some a → D[i]? = some x → Dp K H1 (.ref a) (lay x)) ∧
  ∀ (_ : Unit) (p : Addr), H1 p = none → Q (.ref p) (upd H1 p (.lst (((zipS lay as D).map (·.1)).map V.ref)))
section
variable {X : Cx} {ob : Expr} {pn pa pm pe : Pos} {tq : TE} {α : Type} {lay : α → PyData}
theorem pe_sortItems {k : Nat} (hr : Room k X.A) (Y : SortK lay) (calm : X.calm = true) (glb : Gl X "sorted") (own : X.mg "sorted" = none) (hO : PE X ob tq) (hB : attributeBase ob "items" X.env (eval ob X.env) = eval ob X.env := by rfl) (hL : (pa.endLine == pm.line) = true := by rfl)
    (hS : starEach [Expr.Call (.Attribute ob "items" pa) [] [] pm] X.env = [(false, eval (Expr.Call (.Attribute ob "items" pa) [] [] pm) X.env)] := by rfl) :
    PE X (.Call (.Name "sorted" pn) [.Call (.Attribute ob "items" pa) [] [] pm] [] pe) (tSortItems X.K lay tq) := by
  refine ⟨fun pins sh σ H Q I hw => ?_⟩
  refine wpAny_Call_Name_kw (ld_blt I glb own (u := .builtin "sorted") (by first | rfl | decide +kernel) ?_ (by first | decide +kernel | decide) (by first | decide +kernel | decide))
  rw [hS]
  refine PySem.callWith_builtin1 (wpAny_Call_method0_late hB hL (thn (hO.run pins sh σ H _ I hw) fun vv sh1 ⟨x, H1, J, rr, _, c, kvs, D, ec, hc, hkl, few, hdp, q⟩ => ?_))
  subst ec
  obtain rfl : vv = Value.ref c := rr
  obtain ⟨hz, notsys, vals, rl, dofc⟩ := dk_of J.hok hc
  obtain ⟨ep, dAt⟩ := dofc.dictAt
  have dAt2 := dAt
  obtain ⟨obj, entr, hobj, hplain, _, _, _, _⟩ := dAt2
  refine ⟨"dict", "dict.items", F.plainAttrs_dict, F.slot_dict_items, F.type_dict_items, ⟨obj, hobj, hplain.1⟩, fun b e => ?_, Calls.callWith_builtin rfl (PySem.evalArgs_none ?_)⟩
  · cases e
    exact ⟨obj, hobj, hplain.2.1⟩
  refine call_meetsIn F.slot_dict_items ⟨obj, hobj, hplain.1⟩ F.entry_dict_items (F.args_dict_items_1 _) (meets_dict_items (mixKind X.prog X.w) c notsys) ⟨⟨vals, dofc⟩, ?_⟩
  have up : ∀ b u, sh1.heap.get? b = some u → (sh1.heap.push { cls := .type "dict_items", data := .fields #[.ref c] }).get? b = some u := fun _ _ g => Heap.get?_push_of_some _ g
  have lv : vals.length = D.length := (KV.length rl).symm.trans hkl
  refine PySem.Calls.call_function_entry PyProof.Rows.kind_sorted PyProof.Rows.plain_sorted PyProof.Rows.entry_sorted (PyProof.Rows.args_sorted1 _) ?_
  unfold Builtin.«sorted»
  refine wpAny_bind (m := checkCount "sorted" 1 1 _) (wpAny_pure ?_)
  refine wpAny_bind (PySem.W.kdx_collect (A := X.A.in1) (knd := mixKind X.prog X.w) (kvs := vals) (ep := ep) (J.ok.hd calm) ⟨_, Heap.get?_push_size _ rfl, rfl, rfl⟩ (dAt.push _) (by rw [lv]; exact Nat.le_trans few (by rw [sizeLine_eq]; decide)) fun g tk as gk hl hG => ?_)
  have hle : sh1.heap.objs.size ≤ (sh1.heap.push { cls := .type "dict_items", data := .fields #[.ref c] }).objs.size := by rw [Heap.size_push _ _]; exact Nat.le_succ _
  obtain ⟨G, sG, nG, pG, IG⟩ := told_items (tk := tk) J rl (fun b o e => gk b o (up b o e)) hl hle hG
  refine wpAny_bind (wpAny_newList ?_ (by rw [List.length_map, hl, lv]; exact Nat.le_trans few (by rw [sizeLine_eq]; decide)))
  refine wpAny_bind (wpAny_holding (wpAny_mono (sort_fresh (R := fun v s' => EP X pins σ Q v s') hr Y (s := { sh1 with heap := g, toks := tk }) IG (LiI.vals_refs as) (D := D) (by rw [hl, lv]) (fun i a x e1 e2 => ?_) few fun B s' nB J' => ?_) (fun _ s' z => ?_) fun _ _ z => z))
  · obtain ⟨y, y1, y2⟩ := LiI.paired_get pG e1
    exact hdp G i a y x y1 e2 y2
  · exact ⟨.ref B, _, J', rfl, q () as G B sG nG pG nB⟩
  · exact wpAny_pure ⟨_, rfl, z⟩
theorem pe_sortVals {k : Nat} (hr : Room k X.A) (Y : SortK lay) (calm : X.calm = true) (glb : Gl X "sorted") (own : X.mg "sorted" = none) (hO : PE X ob tq) (hB : attributeBase ob "values" X.env (eval ob X.env) = eval ob X.env := by rfl) (hL : (pa.endLine == pm.line) = true := by rfl)
    (hS : starEach [Expr.Call (.Attribute ob "values" pa) [] [] pm] X.env = [(false, eval (Expr.Call (.Attribute ob "values" pa) [] [] pm) X.env)] := by rfl) :
    PE X (.Call (.Name "sorted" pn) [.Call (.Attribute ob "values" pa) [] [] pm] [] pe) (tSortVals X.K lay tq) := by
  refine ⟨fun pins sh σ H Q I hw => ?_⟩
  refine wpAny_Call_Name_kw (ld_blt I glb own (u := .builtin "sorted") (by first | rfl | decide +kernel) ?_ (by first | decide +kernel | decide) (by first | decide +kernel | decide))
  rw [hS]
  refine PySem.callWith_builtin1 (wpAny_Call_method0_late hB hL (thn (hO.run pins sh σ H _ I hw) fun vv sh1 ⟨x, H1, J, rr, _, c, kvs, as, D, ec, hc, hkv, hal, few, hdp, q⟩ => ?_))
  subst ec
  obtain rfl : vv = Value.ref c := rr
  obtain ⟨hz, notsys, vals, rl, dofc⟩ := dk_of J.hok hc
  obtain ⟨ep, dAt⟩ := dofc.dictAt
  have dAt2 := dAt
  obtain ⟨obj, entr, hobj, hplain, _, _, _, _⟩ := dAt2
  refine ⟨"dict", "dict.values", F.plainAttrs_dict, F.slot_dict_values, F.type_dict_values, ⟨obj, hobj, hplain.1⟩, fun b e => ?_, Calls.callWith_builtin rfl (PySem.evalArgs_none ?_)⟩
  · cases e
    exact ⟨obj, hobj, hplain.2.1⟩
  refine call_meetsIn F.slot_dict_values ⟨obj, hobj, hplain.1⟩ F.entry_dict_values (F.args_dict_values_1 _) (meets_dict_values (mixKind X.prog X.w) c notsys) ⟨⟨vals, dofc⟩, ?_⟩
  have up : ∀ b u, sh1.heap.get? b = some u → (sh1.heap.push { cls := .type "dict_values", data := .fields #[.ref c] }).get? b = some u := fun _ _ g => Heap.get?_push_of_some _ g
  have lk : kvs.length = as.length := by have := congrArg List.length hkv; rwa [List.length_map, List.length_map] at this
  have lv : vals.length = D.length := (KV.length rl).symm.trans (lk.trans hal)
  refine PySem.Calls.call_function_entry PyProof.Rows.kind_sorted PyProof.Rows.plain_sorted PyProof.Rows.entry_sorted (PyProof.Rows.args_sorted1 _) ?_
  unfold Builtin.«sorted»
  refine wpAny_bind (m := checkCount "sorted" 1 1 _) (wpAny_pure ?_)
  refine wpAny_bind (PySem.W.kdu_collect (A := X.A.in1) (PySem.W.kdl_values (knd := mixKind X.prog X.w) (kvs := vals) (ep := ep)) (J.ok.hd calm) ⟨⟨_, Heap.get?_push_size _ rfl, rfl, rfl⟩, dAt.push _⟩ (by rw [lv]; exact Nat.le_trans few (by rw [sizeLine_eq]; decide)) fun g tk acc gk hacc => ?_)
  have J2 : Inv X pins σ H1 { sh1 with heap := g, toks := tk } := J.kept (t' := tk) fun b o e => gk b o (up b o e)
  have hac : acc.toList = vals.map (·.2) := PySem.W.kdl_vals_eq acc.toList (by rw [Array.length_toList]; exact hacc.1) fun j v e => hacc.2 j v (by rw [← Array.getElem?_toList]; exact e)
  have rvv : Vals (as.map V.ref) acc.toList := by
    rw [hac, ← hkv]
    exact kv_vals rl
  refine wpAny_bind (wpAny_newList ?_ (by rw [Array.length_toList, hacc.1, lv]; exact Nat.le_trans few (by rw [sizeLine_eq]; decide)))
  refine wpAny_bind (wpAny_holding (wpAny_mono (sort_fresh (R := fun v s' => EP X pins σ Q v s') hr Y (s := { sh1 with heap := g, toks := tk }) J2 rvv (D := D) hal hdp few fun B s' nB J' => ?_) (fun _ s' z => ?_) fun _ _ z => z))
  · exact ⟨.ref B, _, J', rfl, q () B nB⟩
  · exact wpAny_pure ⟨_, rfl, z⟩
end
/-! ### rows of a text and numbers -/
abbrev RowN := Str × List Int
def encR (x : RowN) : List V := .str x.1 :: x.2.map V.int
def layT (x : RowN) : PyData := .tuple (.str x.1 :: x.2.map .int)
def layL (x : RowN) : PyData := .list (.str x.1 :: x.2.map .int)
def leN : RowN → RowN → Bool := PySem.W.dataLe false layT
theorem leN_L : PySem.W.dataLe false layL = leN := rfl
theorem dpI {K : PySem.W.Frag} {H : Hp} : ∀ ns : List Int, DpAll K H (ns.map V.int) (ns.map .int)
  | [] => .nil
  | n :: r => .cons (.int n) (dpI r)
theorem dpT {K : PySem.W.Frag} {H : Hp} (x : RowN) (p : Addr) (h : H p = some (.tup (encR x))) : Dp K H (.ref p) (layT x) := .tup (SqT.of h) (.cons (.str _) (dpI x.2))
theorem dpL {K : PySem.W.Frag} {H : Hp} (x : RowN) (p : Addr) (h : H p = some (.lst (encR x))) : Dp K H (.ref p) (layL x) := .lst (SqL.of h) (.cons (.str _) (dpI x.2))
theorem sortK_T : SortK layT := by
  refine ⟨fun x y => ?_, fun D => PySem.W.Sortable.tuples fun b => ⟨_, _, rfl⟩, fun x => ?_⟩
  · unfold layT
    simp only [PySem.W.alike, PySem.W.alikeAll, PySem.W.alike_ints, Bool.and_true]
  · unfold layT
    simp only [PyData.depth, PyData.depthAll, PySem.W.depth_ints]
    decide
theorem sortK_L : SortK layL := by
  refine ⟨fun x y => ?_, fun D => PySem.W.Sortable.others fun b => ⟨(fun z => by cases z), (fun xs z => by cases z)⟩, fun x => ?_⟩
  · unfold layL
    simp only [PySem.W.alike, PySem.W.alikeAll, PySem.W.alike_ints, Bool.and_true]
  · unfold layL
    simp only [PyData.depth, PyData.depthAll, PySem.W.depth_ints]
    decide
theorem le_name {x y : RowN} (h : x.1 ≠ y.1) : leN x y = decide (TL.tl x.1 ≤ TL.tl y.1) := by
  show (!PySem.W.dataLt (layT y) (layT x)) = _
  unfold layT
  rw [PySem.W.dataLt_tuple, PySem.W.dataLt_cons (by simp [PySem.W.alike])]
  have e : PyData.eqv (.str y.1) (.str x.1) = false := by
    simp only [PyData.eqv]
    rw [Bool.beq_eq_decide_eq]
    exact decide_eq_false (Ne.symm h)
  rw [e, if_neg Bool.false_ne_true, PySem.W.dataLt_str, PySem.W.not_lt_str] <;> rfl
/-- sorted lists of the same rows, no name twice, are one -/
theorem sortN_perm {D E : List RowN} (hp : D.Perm E) (hn : (D.map (·.1)).Nodup) : D.mergeSort leN = E.mergeSort leN := by
  have hnE : (E.map (·.1)).Nodup := ((hp.map _).nodup_iff).mp hn
  have same : ∀ {F : List RowN}, (F.map (·.1)).Nodup → ∀ {a b : RowN}, a ∈ F → b ∈ F → a.1 = b.1 → a = b := fun {F} hF {a b} ha hb e => by
    obtain ⟨i, hi⟩ := List.mem_iff_getElem?.mp ha
    obtain ⟨j, hj⟩ := List.mem_iff_getElem?.mp hb
    have h1 := (List.getElem?_eq_some_iff.mp hi).1
    have hij : i = j := (List.getElem?_inj (by rw [List.length_map]; exact h1) hF).mp (by rw [List.getElem?_map, List.getElem?_map, hi, hj]; exact congrArg some e)
    rw [hij, hj] at hi
    exact (Option.some.inj hi).symm
  have le_num : ∀ {F : List RowN}, (F.map (·.1)).Nodup → F.mergeSort leN = F.mergeSort fun a b => decide (TL.tl a.1 ≤ TL.tl b.1) := fun {F} hF => by
    have key : ∀ a, a ∈ F → ∀ b, b ∈ F → leN a b = decide (TL.tl a.1 ≤ TL.tl b.1) := fun a ha b hb => by
      by_cases e : a.1 = b.1
      · obtain rfl := same hF ha hb e
        rw [decide_eq_true (List.le_refl _)]
        show (!PySem.W.dataLt (layT a) (layT a)) = true
        rw [show PySem.W.dataLt (layT a) (layT a) = false from lex_irrefl _]
        rfl
      · exact le_name e
    have := List.map_mergeSort (f := fun x : RowN => x) (l := F) (r := leN) (s := fun a b => decide (TL.tl a.1 ≤ TL.tl b.1)) key
    rw [List.map_id', List.map_id'] at this
    exact this
  rw [le_num hn, le_num hnE]
  have srt : ∀ F : List RowN, (F.mergeSort fun a b => decide (TL.tl a.1 ≤ TL.tl b.1)).Pairwise fun a b => TL.tl a.1 ≤ TL.tl b.1 := fun F => by
    have := List.pairwise_mergeSort (le := fun a b : RowN => decide (TL.tl a.1 ≤ TL.tl b.1)) (fun a b c h1 h2 => decide_eq_true (List.le_trans (of_decide_eq_true h1) (of_decide_eq_true h2))) (fun a b => by
      rcases List.le_total (TL.tl a.1) (TL.tl b.1) with h | h
      · rw [decide_eq_true h]
        rfl
      · rw [decide_eq_true h, Bool.or_true]) F
    exact this.imp fun h => of_decide_eq_true h
  refine List.Perm.eq_of_pairwise (le := fun a b : RowN => TL.tl a.1 ≤ TL.tl b.1) (fun a b ha hb h1 h2 => ?_) (srt D) (srt E) (((List.mergeSort_perm _ _).trans hp).trans (List.mergeSort_perm _ _).symm)
  exact same hnE (hp.subset (List.mem_mergeSort.mp ha)) (List.mem_mergeSort.mp hb) (TL.ext_tl (List.le_antisymm h1 h2))

/-! all but one object stay -/
def KeepX (x : Addr) (H H' : Hp) : Prop := ∀ z o, z ≠ x → H z = some o → H' z = some o
theorem KeepX.then {x : Addr} {H H1 H2 : Hp} (h : KeepX x H H1) (e : Same H1 H2) : KeepX x H H2 := fun z o nz hz => e z o (h z o nz hz)
theorem KeepX.set {x : Addr} {H H1 : Hp} {o : HO} (h : KeepX x H H1) : KeepX x H (upd H1 x o) := fun z o nz hz => by
  rw [upd_ne nz]
  exact h z o nz hz
theorem keepX_of {x : Addr} {H H' : Hp} (e : Same H H') : KeepX x H H' := fun z o _ hz => e z o hz
theorem KeepX.free {x z : Addr} {H H' : Hp} (k : KeepX x H H') (nz : z ≠ x) (n : H' z = none) : H z = none := by
  cases h : H z with
  | none => rfl
  | some v => rw [k z v nz h] at n; cases n
theorem same_over {H H' : Hp} {a : Addr} {o : HO} (e : Same H H') (n : H a = none) : Same H (upd H' a o) := fun z v hz => (upd_ne (fun k => by rw [k, n] at hz; cases hz)).trans (e z v hz)
theorem none_same {H H' : Hp} {z : Addr} (e : Same H H') (n : H' z = none) : H z = none := by
  cases h : H z with
  | none => rfl
  | some o => rw [e z o h] at n; cases n

/-! ### words with spaces between -/
def wordsC (x : Str) : List Str := Txt.split x " "
theorem tl_space : TL.tl (" " : Str) = [32] := rfl
/-- words with spaces between -/
def lineC (ws : List Str) : Str := Txt.join " " ws
theorem words_line {ws : List Str} (h : ws ≠ []) (hp : ∀ p, p ∈ ws → 32 ∉ TL.tl p) : wordsC (lineC ws) = ws := TL.split_join tl_space (by decide +kernel) h hp
theorem tl_line (ws : List Str) : TL.tl (lineC ws) = TL.joinL [32] (ws.map TL.tl) := by
  unfold lineC
  rw [TL.join_eq, TL.tl_join] <;> rfl
theorem line_cons {a b : Str} {r : List Str} : TL.tl (lineC (a :: b :: r)) = TL.tl a ++ 32 :: TL.tl (lineC (b :: r)) := by
  rw [tl_line, tl_line] <;> rfl
theorem line_one (a : Str) : lineC [a] = a := TL.ext_tl (by rw [tl_line] <;> rfl)
theorem line_mem {c : Nat} (hc : c ≠ 32) : ∀ {ws : List Str}, (∀ p, p ∈ ws → c ∉ TL.tl p) → c ∉ TL.tl (lineC ws)
  | [], _ => by rw [tl_line]; exact List.not_mem_nil
  | [a], h => by rw [line_one]; exact h a List.mem_cons_self
  | a :: b :: r, h => by
    rw [line_cons]
    intro z
    rcases List.mem_append.mp z with z | z
    · exact h a List.mem_cons_self z
    · rcases List.mem_cons.mp z with z | z
      · exact hc z
      · exact line_mem hc (fun p hp => h p (List.mem_cons_of_mem _ hp)) z
theorem line_len {m : Nat} : ∀ {ws : List Str}, (∀ p, p ∈ ws → p.length ≤ m) → (lineC ws).length ≤ ws.length * (m + 1)
  | [], _ => by rw [TL.len_tl, tl_line]; exact Nat.zero_le _
  | [a], h => by
    rw [line_one]
    have := h a List.mem_cons_self
    rw [List.length_singleton]
    omega
  | a :: b :: r, h => by
    have e := line_cons (a := a) (b := b) (r := r)
    have ih := line_len (m := m) (ws := b :: r) fun p hp => h p (List.mem_cons_of_mem _ hp)
    have h1 := h a List.mem_cons_self
    rw [TL.len_tl] at ih h1 ⊢
    rw [e, List.length_append, List.length_cons, List.length_cons, Nat.succ_mul]
    omega
theorem spl32 : ∀ (l acc : List Nat), TL.spl [32] 0 acc l ≠ [] ∧ (TL.spl [32] 0 acc l).length ≤ l.length + 1 ∧ ∀ p, p ∈ TL.spl [32] 0 acc l → p.length ≤ acc.length + l.length
  | [], acc => by
    rw [TL.spl_nil]
    exact ⟨by simp, Nat.le_refl _, fun p hp => by rw [List.mem_singleton.mp hp]; exact Nat.le_refl _⟩
  | c :: r, acc => by
    cases h : TL.pre [32] (c :: r) with
    | true =>
      rw [TL.spl_hit h]
      obtain ⟨_, h2, h3⟩ := spl32 r []
      refine ⟨by simp, Nat.succ_le_succ h2, fun p hp => ?_⟩
      rcases List.mem_cons.mp hp with z | z
      · rw [z]; exact Nat.le_add_right _ _
      · have := h3 p z
        rw [List.length_nil, Nat.zero_add] at this
        rw [List.length_cons]
        omega
    | false =>
      rw [TL.spl_miss h]
      obtain ⟨h1, h2, h3⟩ := spl32 r (acc ++ [c])
      refine ⟨h1, Nat.le_trans h2 (Nat.le_succ _), fun p hp => ?_⟩
      have := h3 p hp
      rw [List.length_append, List.length_singleton] at this
      rw [List.length_cons]
      omega
theorem words_map (x : Str) : (wordsC x).map TL.tl = TL.spl [32] 0 [] (TL.tl x) := by
  unfold wordsC
  rw [TL.split_spl x " " (by rw [tl_space]; simp) (TL.kind_ok (by decide +kernel)), tl_space]
theorem words_sz (x : Str) : wordsC x ≠ [] ∧ (wordsC x).length ≤ x.length + 1 ∧ ∀ p, p ∈ wordsC x → p.length ≤ x.length := by
  obtain ⟨h1, h2, h3⟩ := spl32 (TL.tl x) []
  rw [← words_map, List.length_map, ← TL.len_tl] at h2
  rw [← words_map] at h1 h3
  refine ⟨fun e => h1 (by rw [e]; rfl), h2, fun p hp => ?_⟩
  have := h3 _ (List.mem_map.mpr ⟨p, hp, rfl⟩)
  rw [List.length_nil, Nat.zero_add, ← TL.len_tl, ← TL.len_tl] at this
  exact this

/-! ### dicts from texts -/
def genD {α : Type} (g : α → V) (l : List (Str × α)) : List (Key × V) := l.map fun y => (Sum.inr y.1, g y.2)
theorem val_gen {α : Type} (g : α → V) (s : Str) : ∀ l : List (Str × α), valV (genD g l) (Sum.inr s) = (l.find? fun y => decide (y.1 = s)).map fun y => g y.2
  | [] => rfl
  | y :: l => by
    unfold genD
    rw [List.map_cons, List.find?_cons]
    by_cases h : y.1 = s
    · rw [valV_pos (by rw [h]), decide_eq_true h]; rfl
    · rw [valV_neg (fun z => h (Sum.inr.inj z)), decide_eq_false h]
      exact val_gen g s l
theorem find_key {α : Type} {s : Str} : ∀ {l : List (Str × α)}, s ∈ l.map (·.1) → ∃ y, y ∈ l ∧ y.1 = s ∧ (l.find? fun y => decide (y.1 = s)) = some y
  | y :: l, h => by
    rw [List.find?_cons]
    by_cases z : y.1 = s
    · rw [decide_eq_true z]
      exact ⟨y, List.mem_cons_self, z, rfl⟩
    · rw [decide_eq_false z]
      rw [List.map_cons] at h
      obtain ⟨w, w1, w2, w3⟩ := find_key ((List.mem_cons.mp h).resolve_left fun e => z e.symm)
      exact ⟨w, List.mem_cons_of_mem _ w1, w2, w3⟩
theorem find_nokey {α : Type} {s : Str} : ∀ {l : List (Str × α)}, s ∉ l.map (·.1) → (l.find? fun y => decide (y.1 = s)) = none
  | [], _ => rfl
  | y :: l, h => by
    rw [List.map_cons] at h
    rw [List.find?_cons, decide_eq_false fun z => h (by rw [z]; exact List.mem_cons_self)]
    exact find_nokey fun z => h (List.mem_cons_of_mem _ z)
theorem put_gen {α : Type} (g : α → V) {l : List (Str × α)} {s : Str} (v : α) (h : s ∉ l.map (·.1)) : putK (genD g l) (Sum.inr s) (g v) = genD g (l ++ [(s, v)]) := by
  unfold putK
  have hn : ((genD g l).any fun kv => decide (kv.1 = Sum.inr s)) = false := by
    rw [List.any_eq_false]
    intro kv hkv
    obtain ⟨y, hy, rfl⟩ := List.mem_map.mp hkv
    intro z
    have z2 : (Sum.inr y.1 : Key) = Sum.inr s := of_decide_eq_true z
    exact h (List.mem_map.mpr ⟨y, hy, Sum.inr.inj z2⟩)
  rw [if_neg (by rw [hn]; exact Bool.false_ne_true)]
  unfold genD
  rw [List.map_append]
  rfl
theorem dputG_go {α : Type} {g : α → V} {H : Hp} {a : Addr} {s : Str} {v : α} {l : List (Str × α)} {R : Hp → Prop} (h : H a = some (.dK (genD g l))) (hn : s ∉ l.map (·.1)) (hl : l.length ≤ 900) (q : R (upd H a (.dK (genD g (l ++ [(s, v)]))))) : ∃ G, V.ref a = V.ref a ∧ DPut H a (.str s) (g v) G ∧ R G := by
  refine ⟨_, rfl, ?_, q⟩
  rw [← put_gen g v hn]
  exact DPut.k (k := Sum.inr s) h (by unfold genD; rw [List.length_map]; exact small1000 (by omega))

theorem refs_at {ps : List Addr} {i : Nat} {x : V} (h : (ps.map V.ref)[i]? = some x) : ∃ p, ps[i]? = some p ∧ x = V.ref p := by
  rw [List.getElem?_map] at h
  cases e : ps[i]? with
  | none => rw [e] at h; cases h
  | some z => rw [e] at h; exact ⟨z, rfl, (Option.some.inj h).symm⟩

/-- a list of tuples: the tuple of each item -/
structure Tups {α : Type} (enc : α → List V) (H : Hp) (l : Addr) (ps : List Addr) (xs : List α) : Prop where
  lst : H l = some (.lst (ps.map V.ref))
  len : ps.length = xs.length
  row : ∀ (i : Nat) (p : Addr) (x : α), ps[i]? = some p → xs[i]? = some x → H p = some (.tup (enc x))
theorem Tups.nil {α : Type} {enc : α → List V} {H : Hp} {l : Addr} (h : H l = some (.lst [])) : Tups enc H l [] ([] : List α) :=
  ⟨h, rfl, fun _ _ _ e => (by rw [List.getElem?_nil] at e; cases e)⟩
theorem Tups.same {α : Type} {enc : α → List V} {H H' : Hp} {l : Addr} {ps : List Addr} {xs : List α} (h : Tups enc H l ps xs) (e : Same H H') : Tups enc H' l ps xs :=
  ⟨e _ _ h.lst, h.len, fun i p x a b => e _ _ (h.row i p x a b)⟩
theorem Tups.at {α : Type} {enc : α → List V} {H : Hp} {l : Addr} {ps : List Addr} {xs : List α} (h : Tups enc H l ps xs) {i : Nat} {x : α} (e : xs[i]? = some x) : ∃ p, ps[i]? = some p ∧ atI (ps.map V.ref) (i : Int) = some (.ref p) ∧ H p = some (.tup (enc x)) := by
  have hi := (List.getElem?_eq_some_iff.mp e).1
  have hl : i < ps.length := by rw [h.len]; exact hi
  refine ⟨ps[i], List.getElem?_eq_getElem hl, at_of (j := i) rfl ?_, h.row i _ x (List.getElem?_eq_getElem hl) e⟩
  rw [List.getElem?_map, List.getElem?_eq_getElem hl]
  rfl
theorem Tups.item {α : Type} {enc : α → List V} {H : Hp} {l : Addr} {ps : List Addr} {xs : List α} (h : Tups enc H l ps xs) {i : Nat} {v : V} (e : (ps.map V.ref)[i]? = some v) : ∃ p x, ps[i]? = some p ∧ xs[i]? = some x ∧ v = .ref p ∧ H p = some (.tup (enc x)) := by
  obtain ⟨p, hp, rfl⟩ := refs_at e
  have hi := (List.getElem?_eq_some_iff.mp hp).1
  rw [h.len] at hi
  exact ⟨p, xs[i], hp, List.getElem?_eq_getElem hi, rfl, h.row i p _ hp (List.getElem?_eq_getElem hi)⟩
theorem Tups.push {α : Type} {enc : α → List V} {H H' : Hp} {l p : Addr} {ps : List Addr} {xs : List α} {x : α} (h : Tups enc H l ps xs) (e : Same H H') (np : H p = none) (hp : H' p = some (.tup (enc x))) : Tups enc (upd H' l (.lst (ps.map V.ref ++ [V.ref p]))) l (ps ++ [p]) (xs ++ [x]) := by
  have hpl : p ≠ l := fun z => by rw [z, h.lst] at np; cases np
  refine ⟨?_, ?_, fun i q y hq hy => ?_⟩
  · rw [upd_same, List.map_append]
    rfl
  · rw [List.length_append, List.length_append, h.len]
    rfl
  · by_cases hi : i < ps.length
    · rw [List.getElem?_append_left hi] at hq
      rw [List.getElem?_append_left (by rw [← h.len]; exact hi)] at hy
      have hq2 := h.row i q y hq hy
      rw [upd_ne (fun z => by rw [z, h.lst] at hq2; cases hq2)]
      exact e _ _ hq2
    · rw [List.getElem?_append_right (by omega)] at hq
      rw [List.getElem?_append_right (by have := h.len; omega)] at hy
      have h1 := (List.getElem?_eq_some_iff.mp hq).1
      rw [List.length_cons, List.length_nil] at h1
      have e0 : i - ps.length = 0 := by omega
      have e1 : i - xs.length = 0 := by have := h.len; omega
      rw [e0] at hq
      rw [e1] at hy
      have z1 : p = q := Option.some.inj hq
      have z2 : x = y := Option.some.inj hy
      rw [← z1, ← z2, upd_ne hpl]
      exact hp
theorem Tups.dp {α : Type} {enc : α → List V} {L : α → PyData} {K : PySem.W.Frag} {H : Hp} {l : Addr} {ps : List Addr} {xs : List α} (h : Tups enc H l ps xs) (he : ∀ x (p : Addr), H p = some (.tup (enc x)) → Dp K H (.ref p) (L x)) : Dp K H (.ref l) (PyData.list (xs.map L)) :=
  .lst (SqL.of h.lst) (dpAll_refs h.len fun i p x h1 h2 => he x p (h.row i p x h1 h2))
def enc2 (x : Int × Int) : List V := [.int x.1, .int x.2]
def enc3 (x : Int × Int × Int) : List V := [.int x.1, .int x.2.1, .int x.2.2]
def lay3 (x : Int × Int × Int) : PyData := .tuple [.int x.1, .int x.2.1, .int x.2.2]
theorem layD_3 : LayD lay3 1 (fun x => True ∧ True ∧ True) := layD_int.tup3 layD_int layD_int
theorem dp3 {K : PySem.W.Frag} {H : Hp} (x : Int × Int × Int) (p : Addr) (h : H p = some (.tup (enc3 x))) : Dp K H (.ref p) (lay3 x) :=
  .tup (SqT.of h) (.cons (.int _) (.cons (.int _) (.cons (.int _) .nil)))
theorem Tups.push2 {α : Type} {enc : α → List V} {H : Hp} {l p : Addr} {ps : List Addr} {xs : List α} {x : α} (h : Tups enc H l ps xs) (hp : H p = some (.tup (enc x))) : Tups enc (upd H l (.lst (ps.map V.ref ++ [V.ref p]))) l (ps ++ [p]) (xs ++ [x]) := by
  have hpl : p ≠ l := fun z => by rw [z, h.lst] at hp; cases hp
  refine ⟨?_, ?_, fun i q y hq hy => ?_⟩
  · rw [upd_same, List.map_append]
    rfl
  · rw [List.length_append, List.length_append, h.len]
    rfl
  · by_cases hi : i < ps.length
    · rw [List.getElem?_append_left hi] at hq
      rw [List.getElem?_append_left (by rw [← h.len]; exact hi)] at hy
      have hq2 := h.row i q y hq hy
      rw [upd_ne (fun z => by rw [z, h.lst] at hq2; cases hq2)]
      exact hq2
    · rw [List.getElem?_append_right (by omega)] at hq
      rw [List.getElem?_append_right (by have := h.len; omega)] at hy
      have h1 := (List.getElem?_eq_some_iff.mp hq).1
      rw [List.length_cons, List.length_nil] at h1
      have e0 : i - ps.length = 0 := by omega
      have e1 : i - xs.length = 0 := by have := h.len; omega
      rw [e0] at hq
      rw [e1] at hy
      have z1 : p = q := Option.some.inj hq
      have z2 : x = y := Option.some.inj hy
      rw [← z1, ← z2, upd_ne hpl]
      exact hp
theorem Tups.copy {α : Type} {enc : α → List V} {H H' : Hp} {l l2 : Addr} {ps : List Addr} {xs : List α} (h : Tups enc H l ps xs) (e : Same H H') (h2 : H' l2 = some (.lst (ps.map V.ref))) : Tups enc H' l2 ps xs :=
  ⟨h2, h.len, fun i p x a b => e _ _ (h.row i p x a b)⟩
theorem Tups.other {α : Type} {enc : α → List V} {H : Hp} {l A : Addr} {ps : List Addr} {xs : List α} {ys zs : List V} (h : Tups enc H l ps xs) (hA : H A = some (.lst ys)) (ne : l ≠ A) : Tups enc (upd H A (.lst zs)) l ps xs :=
  ⟨by rw [upd_ne ne]; exact h.lst, h.len, fun i p x a b => by
    have hp := h.row i p x a b
    rw [upd_ne (fun z => by rw [z, hA] at hp; cases hp)]
    exact hp⟩

/-! ### what the lines of the terms tell -/
structure Ter where
  hs : List (Str × Int)
  ins : List RowN
  sc : List (List Int)
  fu : List (Str × Int)
  fee : Option Int
  skin : Option Int
def ter0 : Ter := ⟨[], [], [], [], none, none⟩
abbrev smallT : Str := "abcdefghijklmnopqrstuvwxyz"
abbrev capT : Str := "ABCDEFGHIJKLMNOPQRSTUVWXYZ"
def houseP (d : Ter) (name cash : Str) : Option Ter :=
  match readN (TL.tl cash) 0 1000000000 with
  | none => none
  | some n => if wordOf (TL.tl smallT) (TL.tl name) 12 = true ∧ name ∉ keysS d.hs ∧ d.hs.length ≠ 12 then some { d with hs := d.hs ++ [(name, n)] } else none
def insQ (d : Ter) (name : Str) : Option Int → Option Int → Option Int → Option Int → Option Ter
  | some t, some l, some b, some r => if wordOf (TL.tl capT) (TL.tl name) 6 = true ∧ r % t = 0 ∧ name ∉ d.ins.map (·.1) ∧ d.ins.length ≠ 6 ∧ d.sc = [] then some { d with ins := d.ins ++ [(name, [t, l, b, r])] } else none
  | _, _, _, _ => none
def insP (d : Ter) (name a b c e : Str) : Option Ter := insQ d name (readN (TL.tl a) 1 10000) (readN (TL.tl b) 1 10000) (readN (TL.tl c) 0 1000000) (readN (TL.tl e) 1 1000000)
def movesP : List Str → Option (List Int)
  | [] => some []
  | x :: r => match readN (TL.tl x) (-1000000) 1000000, movesP r with
    | some n, some ns => some (n :: ns)
    | _, _ => none
def scP (d : Ter) (ws : List Str) : Option Ter :=
  match movesP ws with
  | none => none
  | some ns => if ns.length = d.ins.length ∧ ns ≠ [] ∧ d.sc.length ≠ 12 then some { d with sc := d.sc ++ [ns] } else none
def shareP (d : Ter) (house share : Str) : Option Ter :=
  match readN (TL.tl share) 0 1000000000 with
  | none => none
  | some n => if house ∈ keysS d.hs ∧ house ∉ keysS d.fu then some { d with fu := d.fu ++ [(house, n)] } else none
def feeP (d : Ter) (x : Str) : Option Ter :=
  match d.fee, readN (TL.tl x) 0 1000000 with
  | none, some n => some { d with fee := some n }
  | _, _ => none
def skinP (d : Ter) (x : Str) : Option Ter :=
  match d.skin, readN (TL.tl x) 0 1000000000 with
  | none, some n => some { d with skin := some n }
  | _, _ => none
def takeP (d : Ter) (ws : List Str) : Option Ter :=
  if ws.length = 3 ∧ ws[0]? = some ("house" : Str) then houseP d (ws.getD 1 "") (ws.getD 2 "")
  else if ws.length = 6 ∧ ws[0]? = some ("instrument" : Str) then insP d (ws.getD 1 "") (ws.getD 2 "") (ws.getD 3 "") (ws.getD 4 "") (ws.getD 5 "")
  else if 1 ≤ ws.length ∧ ws[0]? = some ("scenario" : Str) then scP d ws.tail
  else if ws.length = 3 ∧ ws[0]? = some ("fund" : Str) then shareP d (ws.getD 1 "") (ws.getD 2 "")
  else if ws.length = 2 ∧ ws[0]? = some ("fee" : Str) then feeP d (ws.getD 1 "")
  else if ws.length = 2 ∧ ws[0]? = some ("skin" : Str) then skinP d (ws.getD 1 "")
  else none
theorem movesP_map : ∀ ws : List Str, movesP ws = if none ∈ ws.map (fun x => readN (TL.tl x) (-1000000) 1000000) then none else some ((ws.map fun x => readN (TL.tl x) (-1000000) 1000000).filterMap id)
  | [] => rfl
  | x :: r => by
    unfold movesP
    rw [movesP_map r, List.map_cons]
    cases h : readN (TL.tl x) (-1000000) 1000000 with
    | none => rw [if_pos List.mem_cons_self]
    | some n =>
      by_cases z : none ∈ r.map fun x => readN (TL.tl x) (-1000000) 1000000
      · rw [if_pos z, if_pos (List.mem_cons_of_mem _ z)]
      · rw [if_neg z, if_neg (fun y => (List.mem_cons.mp y).elim (fun e => by cases e) z)]
        rfl
theorem movesP_len : ∀ {ws : List Str} {ns : List Int}, movesP ws = some ns → ns.length = ws.length
  | [], ns, h => by cases h; rfl
  | x :: r, ns, h => by
    unfold movesP at h
    split at h
    · next n ms e1 e2 =>
      cases h
      rw [List.length_cons, List.length_cons, movesP_len e2]
    · cases h
theorem movesP_opt : ∀ {ws : List Str} {ns : List Int}, movesP ws = some ns → ws.map (fun x => optI (readN (TL.tl x) (-1000000) 1000000)) = ns.map V.int
  | [], ns, h => by cases h; rfl
  | x :: r, ns, h => by
    unfold movesP at h
    split at h
    · next n ms e1 e2 =>
      cases h
      rw [List.map_cons, movesP_opt e2, e1]
      rfl
    · cases h
theorem movesP_none : ∀ {ws : List Str}, movesP ws = none → V.non ∈ ws.map (fun x => optI (readN (TL.tl x) (-1000000) 1000000))
  | [], h => by cases h
  | x :: r, h => by
    rw [List.map_cons]
    unfold movesP at h
    cases e1 : readN (TL.tl x) (-1000000) 1000000 with
    | none => exact List.mem_cons_self
    | some n =>
      rw [e1] at h
      cases e2 : movesP r with
      | none => exact List.mem_cons_of_mem _ (movesP_none e2)
      | some ns => rw [e2] at h; cases h
def skipL (x : Str) : Bool := decide (x = "" ∨ (TL.tl x).take 1 = [35])
/-- the lines one after another, the first one's number n: what they tell, or the number of the first invalid line -/
def parseLs : Nat → List Str → Ter → Except Nat Ter
  | _, [], d => .ok d
  | n, x :: r, d => if skipL x = true then parseLs (n + 1) r d else match takeP d (wordsC x) with
    | some d' => parseLs (n + 1) r d'
    | none => .error n
/-- the sizes that a draft keeps to -/
structure DrSz (d : Ter) : Prop where
  hs : d.hs.length ≤ 12
  ins : d.ins.length ≤ 6
  sc : d.sc.length ≤ 12
  fu : d.fu.length ≤ 12
  nh : (keysS d.hs).Nodup
  ni : (d.ins.map (·.1)).Nodup
  nf : (keysS d.fu).Nodup
  sub : ∀ x, x ∈ keysS d.fu → x ∈ keysS d.hs
  ml : ∀ m, m ∈ d.sc → m.length ≤ 6

/-! ### a draft in the heap -/
def KeepL (S : List Addr) (H H' : Hp) : Prop := ∀ (b : Addr) (o : HO), b ∉ S → H b = some o → H' b = some o
theorem KeepL.refl (S : List Addr) (H : Hp) : KeepL S H H := fun _ _ _ h => h
theorem KeepL.trans {S : List Addr} {H H1 H2 : Hp} (a : KeepL S H H1) (b : KeepL S H1 H2) : KeepL S H H2 := fun c o n h => b c o n (a c o n h)
theorem KeepL.same {S : List Addr} {H H1 H2 : Hp} (a : KeepL S H H1) (b : Same H1 H2) : KeepL S H H2 := fun c o n h => b c o (a c o n h)
theorem KeepL.of {S : List Addr} {H H1 : Hp} (b : Same H H1) : KeepL S H H1 := fun c o n h => b c o h
theorem KeepL.set {S : List Addr} {H H1 : Hp} {x : Addr} {o : HO} (a : KeepL S H H1) (hx : x ∈ S) : KeepL S H (upd H1 x o) := fun c u n h => (upd_ne fun e => n (by rw [e]; exact hx)).trans (a c u n h)
structure Drf (C : Addr) (H : Hp) (x dx DH DI LS DF : Addr) (d : Ter) : Prop where
  ob : H x = some (.ins C dx [("_houses", .ref DH), ("_instruments", .ref DI), ("_scenarios", .ref LS), ("_fund", .ref DF), ("_fee", optI d.fee), ("_skin", optI d.skin)])
  h : H DH = some (.dK (encD d.hs))
  f : H DF = some (.dK (encD d.fu))
  i : ∃ as : List Addr, H DI = some (.dK (genD V.ref ((d.ins.map (·.1)).zip as))) ∧ as.length = d.ins.length ∧ ∀ (i : Nat) (a : Addr) (r : RowN), as[i]? = some a → d.ins[i]? = some r → H a = some (.tup (encR r))
  s : ∃ as : List Addr, H LS = some (.lst (as.map V.ref)) ∧ as.length = d.sc.length ∧ (∀ (i : Nat) (a : Addr) (m : List Int), as[i]? = some a → d.sc[i]? = some m → H a = some (.lst (m.map V.int))) ∧ LS ∉ as
  ap : DH ≠ DI ∧ DH ≠ DF ∧ DI ≠ DF
theorem Drf.same {C : Addr} {H H' : Hp} {x dx DH DI LS DF : Addr} {d : Ter} (B : Drf C H x dx DH DI LS DF d) (e : Same H H') : Drf C H' x dx DH DI LS DF d := by
  obtain ⟨as, i1, i2, i3⟩ := B.i
  obtain ⟨bs, s1, s2, s3, s4⟩ := B.s
  exact ⟨e _ _ B.ob, e _ _ B.h, e _ _ B.f, ⟨as, e _ _ i1, i2, fun i a r h1 h2 => e _ _ (i3 i a r h1 h2)⟩, ⟨bs, e _ _ s1, s2, fun i a r h1 h2 => e _ _ (s3 i a r h1 h2), s4⟩, B.ap⟩
theorem mem_at {α β : Type} {as : List α} {ds : List β} (h : as.length = ds.length) {a : α} (ha : a ∈ as) : ∃ (i : Nat) (r : β), as[i]? = some a ∧ ds[i]? = some r := by
  obtain ⟨i, hi⟩ := List.mem_iff_getElem?.mp ha
  have h1 := (List.getElem?_eq_some_iff.mp hi).1
  rw [h] at h1
  exact ⟨i, ds[i], hi, List.getElem?_eq_getElem h1⟩
/-- another house -/
theorem Drf.house {C : Addr} {H : Hp} {x dx DH DI LS DF : Addr} {d : Ter} (B : Drf C H x dx DH DI LS DF d) {n : Str} {v : Int} : Drf C (upd H DH (.dK (encD (d.hs ++ [(n, v)])))) x dx DH DI LS DF { d with hs := d.hs ++ [(n, v)] } := by
  obtain ⟨as, i1, i2, i3⟩ := B.i
  obtain ⟨bs, s1, s2, s3, s4⟩ := B.s
  refine ⟨(upd_ne fun z => ?_).trans B.ob, upd_same, (upd_ne B.ap.2.1.symm).trans B.f, ⟨as, (upd_ne B.ap.1.symm).trans i1, i2, fun i a r h1 h2 => (upd_ne fun z => ?_).trans (i3 i a r h1 h2)⟩, ⟨bs, (upd_ne fun z => ?_).trans s1, s2, fun i a r h1 h2 => (upd_ne fun z => ?_).trans (s3 i a r h1 h2), s4⟩, B.ap⟩
  · have := B.ob; rw [z, B.h] at this; cases this
  · have := i3 i a r h1 h2; rw [z, B.h] at this; cases this
  · rw [z, B.h] at s1; cases s1
  · have := s3 i a r h1 h2; rw [z, B.h] at this; cases this
/-- another share -/
theorem Drf.share {C : Addr} {H : Hp} {x dx DH DI LS DF : Addr} {d : Ter} (B : Drf C H x dx DH DI LS DF d) {n : Str} {v : Int} : Drf C (upd H DF (.dK (encD (d.fu ++ [(n, v)])))) x dx DH DI LS DF { d with fu := d.fu ++ [(n, v)] } := by
  obtain ⟨as, i1, i2, i3⟩ := B.i
  obtain ⟨bs, s1, s2, s3, s4⟩ := B.s
  refine ⟨(upd_ne fun z => ?_).trans B.ob, (upd_ne B.ap.2.1).trans B.h, upd_same, ⟨as, (upd_ne B.ap.2.2).trans i1, i2, fun i a r h1 h2 => (upd_ne fun z => ?_).trans (i3 i a r h1 h2)⟩, ⟨bs, (upd_ne fun z => ?_).trans s1, s2, fun i a r h1 h2 => (upd_ne fun z => ?_).trans (s3 i a r h1 h2), s4⟩, B.ap⟩
  · have := B.ob; rw [z, B.f] at this; cases this
  · have := i3 i a r h1 h2; rw [z, B.f] at this; cases this
  · rw [z, B.f] at s1; cases s1
  · have := s3 i a r h1 h2; rw [z, B.f] at this; cases this
/-- the fee or the skin -/
theorem Drf.fees {C : Addr} {H : Hp} {x dx DH DI LS DF : Addr} {d : Ter} (B : Drf C H x dx DH DI LS DF d) {fe sk : Option Int} :
    Drf C (upd H x (.ins C dx [("_houses", .ref DH), ("_instruments", .ref DI), ("_scenarios", .ref LS), ("_fund", .ref DF), ("_fee", optI fe), ("_skin", optI sk)])) x dx DH DI LS DF { d with fee := fe, skin := sk } := by
  obtain ⟨as, i1, i2, i3⟩ := B.i
  obtain ⟨bs, s1, s2, s3, s4⟩ := B.s
  refine ⟨upd_same, (upd_ne fun z => ?_).trans B.h, (upd_ne fun z => ?_).trans B.f, ⟨as, (upd_ne fun z => ?_).trans i1, i2, fun i a r h1 h2 => (upd_ne fun z => ?_).trans (i3 i a r h1 h2)⟩, ⟨bs, (upd_ne fun z => ?_).trans s1, s2, fun i a r h1 h2 => (upd_ne fun z => ?_).trans (s3 i a r h1 h2), s4⟩, B.ap⟩
  · have := B.h; rw [z, B.ob] at this; cases this
  · have := B.f; rw [z, B.ob] at this; cases this
  · rw [z, B.ob] at i1; cases i1
  · have := i3 i a r h1 h2; rw [z, B.ob] at this; cases this
  · rw [z, B.ob] at s1; cases s1
  · have := s3 i a r h1 h2; rw [z, B.ob] at this; cases this
theorem zip_snoc {α β : Type} : ∀ {xs : List α} {ys : List β} {x : α} {y : β}, xs.length = ys.length → (xs ++ [x]).zip (ys ++ [y]) = xs.zip ys ++ [(x, y)]
  | [], [], _, _, _ => rfl
  | _ :: _, _ :: _, _, _, h => by
    show _ :: (_ ++ [_]).zip (_ ++ [_]) = _
    rw [zip_snoc (Nat.succ.inj h)]
    rfl
  | [], _ :: _, _, _, h => by cases h
  | _ :: _, [], _, _, h => by cases h
theorem at_snoc {α : Type} {xs : List α} {x y : α} {i : Nat} (h : (xs ++ [x])[i]? = some y) : (i < xs.length ∧ xs[i]? = some y) ∨ (i = xs.length ∧ y = x) := by
  by_cases hi : i < xs.length
  · rw [List.getElem?_append_left hi] at h
    exact .inl ⟨hi, h⟩
  · have h1 := (List.getElem?_eq_some_iff.mp h).1
    rw [List.length_append, List.length_singleton] at h1
    have e : i = xs.length := by omega
    rw [e, List.getElem?_append_right (Nat.le_refl _), Nat.sub_self] at h
    exact .inr ⟨e, (Option.some.inj h).symm⟩
/-- another instrument -/
theorem Drf.instr {C : Addr} {H : Hp} {x dx DH DI LS DF p : Addr} {d : Ter} {r : RowN} (B : Drf C H x dx DH DI LS DF d) (hp : H p = some (.tup (encR r))) {as : List Addr} (ha : H DI = some (.dK (genD V.ref ((d.ins.map (·.1)).zip as)))) (hl : as.length = d.ins.length)
    (hr : ∀ (i : Nat) (a : Addr) (r : RowN), as[i]? = some a → d.ins[i]? = some r → H a = some (.tup (encR r))) :
    Drf C (upd H DI (.dK (genD V.ref ((d.ins.map (·.1)).zip as ++ [(r.1, p)])))) x dx DH DI LS DF { d with ins := d.ins ++ [r] } := by
  obtain ⟨bs, s1, s2, s3, s4⟩ := B.s
  have tupNe : ∀ {q : Addr} {v : List V}, H q = some (.tup v) → q ≠ DI := fun {q v} e z => by rw [z, ha] at e; cases e
  refine ⟨(upd_ne fun z => ?_).trans B.ob, (upd_ne B.ap.1).trans B.h, (upd_ne B.ap.2.2.symm).trans B.f, ⟨as ++ [p], ?_, ?_, fun i a q h1 h2 => ?_⟩, ⟨bs, (upd_ne fun z => ?_).trans s1, s2, fun i a r h1 h2 => (upd_ne fun z => ?_).trans (s3 i a r h1 h2), s4⟩, B.ap⟩
  · have := B.ob; rw [z, ha] at this; cases this
  · rw [upd_same, List.map_append, List.map_singleton, zip_snoc (by rw [List.length_map, hl])]
  · rw [List.length_append, List.length_append, hl]; rfl
  · rcases at_snoc h1 with ⟨k1, k2⟩ | ⟨k1, k2⟩
    · rcases at_snoc h2 with ⟨k3, k4⟩ | ⟨k3, k4⟩
      · have := hr i a q k2 k4
        exact (upd_ne (tupNe this)).trans this
      · omega
    · rcases at_snoc h2 with ⟨k3, k4⟩ | ⟨k3, k4⟩
      · omega
      · rw [k2, k4]
        exact (upd_ne (tupNe hp)).trans hp
  · rw [z, ha] at s1; cases s1
  · have := s3 i a r h1 h2; rw [z, ha] at this; cases this
/-- another scenario -/
theorem Drf.scen {C : Addr} {H : Hp} {x dx DH DI LS DF p : Addr} {d : Ter} {m : List Int} (B : Drf C H x dx DH DI LS DF d) (hp : H p = some (.lst (m.map V.int))) (np : p ≠ LS) {bs : List Addr} (hb : H LS = some (.lst (bs.map V.ref))) (hl : bs.length = d.sc.length)
    (hr : ∀ (i : Nat) (a : Addr) (m : List Int), bs[i]? = some a → d.sc[i]? = some m → H a = some (.lst (m.map V.int))) (nb : LS ∉ bs) :
    Drf C (upd H LS (.lst (bs.map V.ref ++ [V.ref p]))) x dx DH DI LS DF { d with sc := d.sc ++ [m] } := by
  obtain ⟨as, i1, i2, i3⟩ := B.i
  refine ⟨(upd_ne fun z => ?_).trans B.ob, (upd_ne fun z => ?_).trans B.h, (upd_ne fun z => ?_).trans B.f, ⟨as, (upd_ne fun z => ?_).trans i1, i2, fun i a r h1 h2 => (upd_ne fun z => ?_).trans (i3 i a r h1 h2)⟩, ⟨bs ++ [p], ?_, ?_, fun i a q h1 h2 => ?_, ?_⟩, B.ap⟩
  · have := B.ob; rw [z, hb] at this; cases this
  · have := B.h; rw [z, hb] at this; cases this
  · have := B.f; rw [z, hb] at this; cases this
  · rw [z, hb] at i1; cases i1
  · have := i3 i a r h1 h2; rw [z, hb] at this; cases this
  · rw [upd_same, List.map_append]; rfl
  · rw [List.length_append, List.length_append, hl]; rfl
  · rcases at_snoc h1 with ⟨k1, k2⟩ | ⟨k1, k2⟩
    · rcases at_snoc h2 with ⟨k3, k4⟩ | ⟨k3, k4⟩
      · exact (upd_ne fun z => nb (by rw [← z]; exact List.mem_of_getElem? k2)).trans (hr i a q k2 k4)
      · omega
    · rcases at_snoc h2 with ⟨k3, k4⟩ | ⟨k3, k4⟩
      · omega
      · rw [k2, k4]
        exact (upd_ne np).trans hp
  · intro z
    rcases List.mem_append.mp z with z | z
    · exact nb z
    · exact np (List.mem_singleton.mp z).symm
def TookQ (Q : VK) (C : Addr) (H : Hp) (x dx DH DI LS DF : Addr) (d : Ter) (r : Option Ter) : Prop := ∀ H', KeepL [x, DH, DI, LS, DF] H H' → Drf C H' x dx DH DI LS DF (r.getD d) → Q (.bl r.isSome) H'
theorem mem5 {x a b c e : Addr} : x ∈ [x, a, b, c, e] ∧ a ∈ [x, a, b, c, e] ∧ b ∈ [x, a, b, c, e] ∧ c ∈ [x, a, b, c, e] ∧ e ∈ [x, a, b, c, e] := by simp

section
variable {P : Program} {w : World} {K : PySem.W.Frag} {mg : Str → Option Value} {base : Heap}
def sp_Draft_init (K : PySem.W.Frag) (C : Addr) : Sp := fun vs H Q _ => ∃ x dx : Addr, vs = [.ref x] ∧ H x = some (.ins C dx []) ∧ ∀ DH DI LS DF H', Drf C H' x dx DH DI LS DF ter0 → KeepX x H H' → (H DH = none ∧ H DI = none ∧ H LS = none ∧ H DF = none) → Q .non H'
set_option maxHeartbeats 0 in
theorem ok_Draft_init (T : Txt K mg) : FnOk P w K mg base CX0 1 T.f_Draft_init T.d_Draft_init ["self"] (sp_Draft_init K T.c_Draft) := by
  refine T.F_Draft_init.ok sc_Draft_init (fun vs H Q E h => ?_) (fun cdv A outer s H vs Q E hr h => ?_)
  · obtain ⟨x, dx, rfl, _⟩ := h
    rfl
  · obtain ⟨x, dx, rfl, hx, q⟩ := h
    
    refine ⟨_, (pss_cons (ps_fld (pv 0) pe_dnewK rfl)
    (pss_cons (ps_fld (pv 0) pe_dnewK rfl)
    (pss_cons (ps_fld (pv 0) (pe_lst pa_nil) rfl)
    (pss_cons (ps_fld (pv 0) pe_dnewK rfl)
    (pss_cons (ps_fld (pv 0) pe_non rfl)
    (pss_one (ps_fld (pv 0) pe_non rfl))))))), ?_⟩
    have fact_Draft_0 := T.cl_Draft; have fact_Draft_1 := T.na_Draft__houses; have fact_Draft_2 := T.na_Draft__instruments; have fact_Draft_3 := T.na_Draft__scenarios; have fact_Draft_4 := T.na_Draft__fund; have fact_Draft_5 := T.na_Draft__fee; have fact_Draft_6 := T.na_Draft__skin
    walk_at "st"
    intro D1 n1
    have x1 : x ≠ D1 := ne_of_none hx n1
    have k1 := keepX_of (x := x) (same_upd (o := .dK []) n1)
    have hx1 : upd H D1 (.dK []) x = some (.ins T.c_Draft dx []) := (upd_ne x1).trans hx
    have d1 : upd H D1 (.dK []) D1 = some (.dK (encD [])) := upd_same
    generalize upd H D1 (.dK []) = H1 at *
    refine ⟨_, rfl, setF hx1 T.cl_Draft T.na_Draft__houses rfl ?_⟩
    have k2 := k1.set (o := .ins T.c_Draft dx (putF "_houses" (.ref D1) []))
    have hx2 : upd H1 x (.ins T.c_Draft dx (putF "_houses" (.ref D1) [])) x = some (.ins T.c_Draft dx [("_houses", .ref D1)]) := upd_same
    have d1' := (upd_ne (o := .ins T.c_Draft dx (putF "_houses" (.ref D1) [])) x1.symm).trans d1
    generalize upd H1 x _ = H2 at *
    walk_at "st"
    intro D2 n2
    have x2 : x ≠ D2 := ne_of_none hx2 n2
    have d12 : D1 ≠ D2 := ne_of_none d1' n2
    have k3 := k2.then (same_upd (o := .dK []) n2)
    have hx3 : upd H2 D2 (.dK []) x = some (.ins T.c_Draft dx [("_houses", .ref D1)]) := (upd_ne x2).trans hx2
    have d13 := (upd_ne (o := .dK []) d12).trans d1'
    have d23 : upd H2 D2 (.dK []) D2 = some (.dK []) := upd_same
    generalize upd H2 D2 (.dK []) = H3 at *
    refine ⟨_, rfl, setF hx3 T.cl_Draft T.na_Draft__instruments rfl ?_⟩
    have k4 := k3.set (o := .ins T.c_Draft dx (putF "_instruments" (.ref D2) [("_houses", .ref D1)]))
    have hx4 : upd H3 x (.ins T.c_Draft dx (putF "_instruments" (.ref D2) [("_houses", .ref D1)])) x = some (.ins T.c_Draft dx [("_houses", .ref D1), ("_instruments", .ref D2)]) := upd_same
    have d14 := (upd_ne (o := .ins T.c_Draft dx (putF "_instruments" (.ref D2) [("_houses", .ref D1)])) x1.symm).trans d13
    have d24 := (upd_ne (o := .ins T.c_Draft dx (putF "_instruments" (.ref D2) [("_houses", .ref D1)])) x2.symm).trans d23
    generalize upd H3 x _ = H4 at *
    walk_at "st"
    intro L nL
    have xL : x ≠ L := ne_of_none hx4 nL
    have k5 := k4.then (same_upd (o := .lst []) nL)
    have sL := same_upd (o := .lst []) nL
    have hx5 := sL _ _ hx4
    have d15 := sL _ _ d14
    have d25 := sL _ _ d24
    have l5 : upd H4 L (.lst []) L = some (.lst []) := upd_same
    generalize upd H4 L (.lst []) = H5 at *
    refine ⟨_, rfl, setF hx5 T.cl_Draft T.na_Draft__scenarios rfl ?_⟩
    have k6 := k5.set (o := .ins T.c_Draft dx (putF "_scenarios" (.ref L) [("_houses", .ref D1), ("_instruments", .ref D2)]))
    have hx6 : upd H5 x (.ins T.c_Draft dx (putF "_scenarios" (.ref L) [("_houses", .ref D1), ("_instruments", .ref D2)])) x = some (.ins T.c_Draft dx [("_houses", .ref D1), ("_instruments", .ref D2), ("_scenarios", .ref L)]) := upd_same
    have d16 := (upd_ne (o := .ins T.c_Draft dx (putF "_scenarios" (.ref L) [("_houses", .ref D1), ("_instruments", .ref D2)])) x1.symm).trans d15
    have d26 := (upd_ne (o := .ins T.c_Draft dx (putF "_scenarios" (.ref L) [("_houses", .ref D1), ("_instruments", .ref D2)])) x2.symm).trans d25
    have l6 := (upd_ne (o := .ins T.c_Draft dx (putF "_scenarios" (.ref L) [("_houses", .ref D1), ("_instruments", .ref D2)])) xL.symm).trans l5
    generalize upd H5 x _ = H6 at *
    walk_at "st"
    intro D3 n3
    have x3 : x ≠ D3 := ne_of_none hx6 n3
    have e13 : D1 ≠ D3 := ne_of_none d16 n3
    have e23 : D2 ≠ D3 := ne_of_none d26 n3
    have k7 := k6.then (same_upd (o := .dK []) n3)
    have s7 := same_upd (o := .dK []) n3
    have hx7 := s7 _ _ hx6
    have d17 := s7 _ _ d16
    have d27 := s7 _ _ d26
    have l7 := s7 _ _ l6
    have d37 : upd H6 D3 (.dK []) D3 = some (.dK (encD [])) := upd_same
    generalize upd H6 D3 (.dK []) = H7 at *
    refine ⟨_, rfl, setF hx7 T.cl_Draft T.na_Draft__fund rfl ?_⟩
    have k8 := k7.set (o := .ins T.c_Draft dx (putF "_fund" (.ref D3) [("_houses", .ref D1), ("_instruments", .ref D2), ("_scenarios", .ref L)]))
    have hx8 : upd H7 x (.ins T.c_Draft dx (putF "_fund" (.ref D3) [("_houses", .ref D1), ("_instruments", .ref D2), ("_scenarios", .ref L)])) x = some (.ins T.c_Draft dx [("_houses", .ref D1), ("_instruments", .ref D2), ("_scenarios", .ref L), ("_fund", .ref D3)]) := upd_same
    have d18 := (upd_ne (o := .ins T.c_Draft dx (putF "_fund" (.ref D3) [("_houses", .ref D1), ("_instruments", .ref D2), ("_scenarios", .ref L)])) x1.symm).trans d17
    have d28 := (upd_ne (o := .ins T.c_Draft dx (putF "_fund" (.ref D3) [("_houses", .ref D1), ("_instruments", .ref D2), ("_scenarios", .ref L)])) x2.symm).trans d27
    have l8 := (upd_ne (o := .ins T.c_Draft dx (putF "_fund" (.ref D3) [("_houses", .ref D1), ("_instruments", .ref D2), ("_scenarios", .ref L)])) xL.symm).trans l7
    have d38 := (upd_ne (o := .ins T.c_Draft dx (putF "_fund" (.ref D3) [("_houses", .ref D1), ("_instruments", .ref D2), ("_scenarios", .ref L)])) x3.symm).trans d37
    generalize upd H7 x _ = H8 at *
    walk_at "st"
    have two : ∀ {o1 o2 : HO} {z : Addr} {u : HO}, z ≠ x → H8 z = some u → upd (upd H8 x o1) x o2 z = some u := fun h1 h2 => (upd_ne h1).trans ((upd_ne h1).trans h2)
    refine q D1 D2 L D3 _ ⟨upd_same, two x1.symm d18, two x3.symm d38, ⟨[], two x2.symm d28, rfl, fun i a r z _ => (by rw [List.getElem?_nil] at z; cases z)⟩, ⟨[], two xL.symm l8, rfl, fun i a r z _ => (by rw [List.getElem?_nil] at z; cases z), List.not_mem_nil⟩, ⟨d12, e13, e23⟩⟩ k8.set.set ⟨n1, k2.free x2.symm n2, k4.free xL.symm nL, k6.free x3.symm n3⟩
def sp_Drafttake_house (K : PySem.W.Frag) (C : Addr) : Sp := fun vs H Q _ => ∃ (_ : Unit) (x dx DH DI LS DF : Addr) (d : Ter) (name cash : Str), vs = [.ref x, .str name, .str cash] ∧ Drf C H x dx DH DI LS DF d ∧ DrSz d ∧ name.length ≤ 1000 ∧ cash.length ≤ 1000 ∧
  TookQ Q C H x dx DH DI LS DF d (houseP d name cash)
set_option maxHeartbeats 0 in
theorem ok_Drafttake_house (T : Txt K mg) : FnOk P w K mg base CX0 4 T.f_Drafttake_house T.d_Drafttake_house ["self", "name", "cash"] (sp_Drafttake_house K T.c_Draft) := by
  refine T.F_Drafttake_house.ok sc_Drafttake_house (fun vs H Q E h => ?_) (fun cdv A outer s H vs Q E hr h => ?_)
  · obtain ⟨_, x, dx, DH, DI, LS, DF, d, name, cash, rfl, _⟩ := h
    rfl
  · obtain ⟨_, x, dx, DH, DI, LS, DF, d, name, cash, rfl, B, Z, hn, hc, q⟩ := h
    have G_read_number : FnOk P w K mg base CX0 3 T.f_read_number T.d_read_number ["text", "least", "most"] (sp_read_number K) := ok_read_number T
    have G_is_word_of : FnOk P w K mg base CX0 1 T.f_is_word_of T.d_is_word_of ["letters", "most", "text"] (sp_is_word_of K) := ok_is_word_of T
    refine ⟨_, (pss_cons (ps_set (i := 3) sc_Drafttake_house.nd rfl (Or.inl rfl) (pe_call G_read_number hr (by rfl) T.m_read_number T.F_read_number.kp T.b_read_number .nil pass0 (pa_cons (pv 2) (pa_cons pe_int (pa_cons (pe_glob (v := .int 1000000000) rfl T.m_MOST_CENTS ⟨_, rfl⟩) pa_nil)))))
    (pss_cons (ps_if (PW.pt (pw_or (pt_not (pt_val (pe_call G_is_word_of (hr.mono (by decide)) (by rfl) T.m_is_word_of T.F_is_word_of.kp T.b_is_word_of .nil pass0 (pa_cons (pe_glob (v := .str "abcdefghijklmnopqrstuvwxyz") rfl T.m_SMALL ⟨_, rfl⟩) (pa_cons (pe_glob (v := .int 12) rfl T.m_LONGEST_HOUSE ⟨_, rfl⟩) (pa_cons (pv 1) pa_nil)))))) (pw_or1 (pt_cmpR op_isN (pv 3) pe_non (nomark _)))))
      (pss_one (ps_ret pe_bl))
      pss_nil)
    (pss_cons (ps_if (PW.pt (pw_or (pt_cmp (pc_din (hu_of hr) (pv 1) (pe_fld (pv 0) rfl))) (pw_or1 (pt_cmpR op_eq (pe_callB call_lenD (by rfl) T.z_len PySem.boot_len (pa_cons (pe_fld (pv 0) rfl) pa_nil)) (pe_glob (v := .int 12) rfl T.m_MOST_HOUSES ⟨_, rfl⟩) (nomark _)))))
      (pss_one (ps_ret pe_bl))
      pss_nil)
    (pss_cons (ps_dput (hu_of hr) (pe_fld (pv 0) rfl) (pv 1) (pv 3) rfl)
    (pss_one (ps_ret pe_bl)))))), ?_⟩
    have fact_Draft_0 := T.cl_Draft; have fact_Draft_1 := T.na_Draft__houses; have fact_Draft_2 := T.na_Draft__instruments; have fact_Draft_3 := T.na_Draft__scenarios; have fact_Draft_4 := T.na_Draft__fund; have fact_Draft_5 := T.na_Draft__fee; have fact_Draft_6 := T.na_Draft__skin
    have hob := B.ob
    walk_at "st"
    refine ⟨(), cash, 0, 1000000000, rfl, hc, fun H1 s1 => ?_⟩
    have B1 := B.same s1
    have hob1 := B1.ob
    have hZ := Z.hs
    cases hr : readN (TL.tl cash) 0 1000000000 with
    | none =>
      have e : houseP d name cash = none := by unfold houseP; rw [hr]
      rw [e] at q
      walk_at "st"
      intro H2 s2
      generalize wordOf _ (TL.tl name) 12 = b
      walk_at "st"
      cases b
      · refine iteB (fun h => ?_) (fun h => absurd h (by decide))
        walk_at "st"
        exact q H2 (KeepL.of (s1.trans s2)) (B1.same s2)
      · refine iteB (fun h => absurd h (by decide)) (fun h => ?_)
        walk_at "st"
        exact q H2 (KeepL.of (s1.trans s2)) (B1.same s2)
    | some n =>
      have e : houseP d name cash = if wordOf (TL.tl smallT) (TL.tl name) 12 = true ∧ name ∉ keysS d.hs ∧ d.hs.length ≠ 12 then some { d with hs := d.hs ++ [(name, n)] } else none := by unfold houseP; rw [hr]
      rw [e] at q
      walk_at "st"
      intro H2 s2
      have B2 := B1.same s2
      have hob2 := B2.ob
      have s02 := s1.trans s2
      have hh2 := B2.h
      generalize hw : wordOf (TL.tl smallT) (TL.tl name) 12 = b at q ⊢
      walk_at "st"
      cases b
      · rw [if_neg (fun z => by cases z.1)] at q
        refine iteB (fun h => ?_) (fun h => absurd h (by decide))
        walk_at "st"
        exact q H2 (KeepL.of s02) B2
      · refine iteB (fun h => absurd h (by decide)) (fun h => ?_)
        walk_at "st"
        refine ⟨_, rfl, DGet.k (k := Sum.inr name) hh2, ?_⟩
        rw [valV_enc]
        have hm := get_mem name d.hs
        cases hg : getS d.hs name with
        | some i =>
          rw [hg] at hm
          have hn1 : name ∈ keysS d.hs := of_decide_eq_true hm.symm
          rw [if_neg fun z => z.2.1 hn1] at q
          walk_at "st"
          exact q H2 (KeepL.of s02) B2
        | none =>
          rw [hg] at hm
          have hn1 : name ∉ keysS d.hs := fun z => by rw [decide_eq_true z] at hm; cases hm
          walk_at "st"
          refine ⟨_, rfl, hh2, ?_⟩
          walk_at "st"
          have el : (encD d.hs).length = d.hs.length := List.length_map ..
          refine iteB (fun h => ?_) (fun h => ?_)
          · have h2 : d.hs.length = 12 := by have := V.int.inj (dec_t h); omega
            rw [if_neg fun z => z.2.2 h2] at q
            walk_at "st"
            exact q H2 (KeepL.of s02) B2
          · have h2 : d.hs.length ≠ 12 := fun z => dec_f h (by rw [el, z]; rfl)
            rw [if_pos ⟨rfl, hn1, h2⟩] at q
            walk_at "st"
            refine dput_go hh2 (by omega) ?_
            walk_at "st"
            refine q _ ((KeepL.of s02).set mem5.2.1) ?_
            have ep : putS d.hs name n = d.hs ++ [(name, n)] := if_neg hn1
            rw [ep]
            exact B2.house

def sp_Drafttake_share (K : PySem.W.Frag) (C : Addr) : Sp := fun vs H Q _ => ∃ (_ : Unit) (x dx DH DI LS DF : Addr) (d : Ter) (name cash : Str), vs = [.ref x, .str name, .str cash] ∧ Drf C H x dx DH DI LS DF d ∧ DrSz d ∧ name.length ≤ 1000 ∧ cash.length ≤ 1000 ∧
  TookQ Q C H x dx DH DI LS DF d (shareP d name cash)
set_option maxHeartbeats 0 in
theorem ok_Drafttake_share (T : Txt K mg) : FnOk P w K mg base CX0 4 T.f_Drafttake_share T.d_Drafttake_share ["self", "house", "share"] (sp_Drafttake_share K T.c_Draft) := by
  refine T.F_Drafttake_share.ok sc_Drafttake_share (fun vs H Q E h => ?_) (fun cdv A outer s H vs Q E hr h => ?_)
  · obtain ⟨_, x, dx, DH, DI, LS, DF, d, name, cash, rfl, _⟩ := h
    rfl
  · obtain ⟨_, x, dx, DH, DI, LS, DF, d, name, cash, rfl, B, Z, hn, hc, q⟩ := h
    have G_read_number : FnOk P w K mg base CX0 3 T.f_read_number T.d_read_number ["text", "least", "most"] (sp_read_number K) := ok_read_number T
    refine ⟨_, (pss_cons (ps_set (i := 3) sc_Drafttake_share.nd rfl (Or.inl rfl) (pe_call G_read_number hr (by rfl) T.m_read_number T.F_read_number.kp T.b_read_number .nil pass0 (pa_cons (pv 2) (pa_cons pe_int (pa_cons (pe_glob (v := .int 1000000000) rfl T.m_MOST_CENTS ⟨_, rfl⟩) pa_nil)))))
    (pss_cons (ps_if (PW.pt (pw_or (pt_cmpR op_isN (pv 3) pe_non (nomark _)) (pw_or (pt_cmp (pc_dnotin (hu_of hr) (pv 1) (pe_fld (pv 0) rfl))) (pw_or1 (pt_cmp (pc_din (hu_of hr) (pv 1) (pe_fld (pv 0) rfl)))))))
      (pss_one (ps_ret pe_bl))
      pss_nil)
    (pss_cons (ps_dput (hu_of hr) (pe_fld (pv 0) rfl) (pv 1) (pv 3) rfl)
    (pss_one (ps_ret pe_bl))))), ?_⟩
    have fact_Draft_0 := T.cl_Draft; have fact_Draft_1 := T.na_Draft__houses; have fact_Draft_2 := T.na_Draft__instruments; have fact_Draft_3 := T.na_Draft__scenarios; have fact_Draft_4 := T.na_Draft__fund; have fact_Draft_5 := T.na_Draft__fee; have fact_Draft_6 := T.na_Draft__skin
    have hob := B.ob
    walk_at "st"
    refine ⟨(), cash, 0, 1000000000, rfl, hc, fun H2 s2 => ?_⟩
    have B2 := B.same s2
    have hob2 := B2.ob
    have hh2 := B2.h
    have hf2 := B2.f
    have hZ := Z.fu
    cases hr : readN (TL.tl cash) 0 1000000000 with
    | none =>
      have e : shareP d name cash = none := by unfold shareP; rw [hr]
      rw [e] at q
      walk_at "st"
      exact q H2 (KeepL.of s2) B2
    | some n =>
      have e : shareP d name cash = if name ∈ keysS d.hs ∧ name ∉ keysS d.fu then some { d with fu := d.fu ++ [(name, n)] } else none := by unfold shareP; rw [hr]
      rw [e] at q
      walk_at "st"
      refine ⟨_, rfl, DGet.k (k := Sum.inr name) hh2, ?_⟩
      rw [valV_enc]
      have hm := get_mem name d.hs
      cases hg : getS d.hs name with
      | none =>
        rw [hg] at hm
        have hn1 : name ∉ keysS d.hs := fun z => by rw [decide_eq_true z] at hm; cases hm
        rw [if_neg fun z => hn1 z.1] at q
        walk_at "st"
        exact q H2 (KeepL.of s2) B2
      | some i =>
        rw [hg] at hm
        have hn1 : name ∈ keysS d.hs := of_decide_eq_true hm.symm
        walk_at "st"
        refine ⟨_, rfl, DGet.k (k := Sum.inr name) hf2, ?_⟩
        rw [valV_enc]
        have hm2 := get_mem name d.fu
        cases hg2 : getS d.fu name with
        | some i =>
          rw [hg2] at hm2
          have hn2 : name ∈ keysS d.fu := of_decide_eq_true hm2.symm
          rw [if_neg fun z => z.2 hn2] at q
          walk_at "st"
          exact q H2 (KeepL.of s2) B2
        | none =>
          rw [hg2] at hm2
          have hn2 : name ∉ keysS d.fu := fun z => by rw [decide_eq_true z] at hm2; cases hm2
          rw [if_pos ⟨hn1, hn2⟩] at q
          walk_at "st"
          refine dput_go hf2 (by omega) ?_
          walk_at "st"
          refine q _ ((KeepL.of s2).set mem5.2.2.2.2) ?_
          have ep : putS d.fu name n = d.fu ++ [(name, n)] := if_neg hn2
          rw [ep]
          exact B2.share
def sp_Drafttake_fee (K : PySem.W.Frag) (C : Addr) : Sp := fun vs H Q _ => ∃ (_ : Unit) (x dx DH DI LS DF : Addr) (d : Ter) (cash : Str), vs = [.ref x, .str cash] ∧ Drf C H x dx DH DI LS DF d ∧ cash.length ≤ 1000 ∧
  TookQ Q C H x dx DH DI LS DF d (feeP d cash)
set_option maxHeartbeats 0 in
theorem ok_Drafttake_fee (T : Txt K mg) : FnOk P w K mg base CX0 4 T.f_Drafttake_fee T.d_Drafttake_fee ["self", "rate"] (sp_Drafttake_fee K T.c_Draft) := by
  refine T.F_Drafttake_fee.ok sc_Drafttake_fee (fun vs H Q E h => ?_) (fun cdv A outer s H vs Q E hr h => ?_)
  · obtain ⟨_, x, dx, DH, DI, LS, DF, d, cash, rfl, _⟩ := h
    rfl
  · obtain ⟨_, x, dx, DH, DI, LS, DF, d, cash, rfl, B, hc, q⟩ := h
    have G_read_number : FnOk P w K mg base CX0 3 T.f_read_number T.d_read_number ["text", "least", "most"] (sp_read_number K) := ok_read_number T
    refine ⟨_, (pss_cons (ps_if (pt_cmpR op_notN (pe_fld (pv 0) rfl) pe_non (nomark _))
      (pss_one (ps_ret pe_bl))
      pss_nil)
    (pss_cons (ps_fld (pv 0) (pe_call G_read_number hr (by rfl) T.m_read_number T.F_read_number.kp T.b_read_number .nil pass0 (pa_cons (pv 1) (pa_cons pe_int (pa_cons (pe_glob (v := .int 1000000) rfl T.m_MOST_RATE ⟨_, rfl⟩) pa_nil)))) rfl)
    (pss_one (ps_ret (pe_cmpR op_notN (pe_fld (pv 0) rfl) pe_non (nomark _)))))), ?_⟩
    have fact_Draft_0 := T.cl_Draft; have fact_Draft_1 := T.na_Draft__houses; have fact_Draft_2 := T.na_Draft__instruments; have fact_Draft_3 := T.na_Draft__scenarios; have fact_Draft_4 := T.na_Draft__fund; have fact_Draft_5 := T.na_Draft__fee; have fact_Draft_6 := T.na_Draft__skin
    have hob := B.ob
    cases hf : d.fee with
    | some n =>
      have e : feeP d cash = none := by unfold feeP; rw [hf]
      rw [e] at q
      rw [hf] at hob
      walk_at "st"
      exact q H (KeepL.refl _ _) B
    | none =>
      rw [hf] at hob
      walk_at "st"
      refine ⟨(), cash, 0, 1000000, rfl, hc, fun H2 s2 => ?_⟩
      have B2 := B.same s2
      have hob2 := s2 _ _ hob
      have hs : d.skin = d.skin := rfl
      cases hr : readN (TL.tl cash) 0 1000000 with
      | none =>
        have e : feeP d cash = none := by unfold feeP; rw [hf, hr]
        rw [e] at q
        walk_at "st"
        refine q _ ((KeepL.of s2).set mem5.1) ?_
        have e2 : { d with fee := none, skin := d.skin } = d := by cases d; cases hf; rfl
        have B3 := B2.fees (fe := none) (sk := d.skin)
        rw [e2] at B3
        exact B3
      | some n =>
        have e : feeP d cash = some { d with fee := some n } := by unfold feeP; rw [hf, hr]
        rw [e] at q
        walk_at "st"
        exact q _ ((KeepL.of s2).set mem5.1) (B2.fees (fe := some n) (sk := d.skin))
def sp_Drafttake_skin (K : PySem.W.Frag) (C : Addr) : Sp := fun vs H Q _ => ∃ (_ : Unit) (x dx DH DI LS DF : Addr) (d : Ter) (cash : Str), vs = [.ref x, .str cash] ∧ Drf C H x dx DH DI LS DF d ∧ cash.length ≤ 1000 ∧
  TookQ Q C H x dx DH DI LS DF d (skinP d cash)
set_option maxHeartbeats 0 in
theorem ok_Drafttake_skin (T : Txt K mg) : FnOk P w K mg base CX0 4 T.f_Drafttake_skin T.d_Drafttake_skin ["self", "cents"] (sp_Drafttake_skin K T.c_Draft) := by
  refine T.F_Drafttake_skin.ok sc_Drafttake_skin (fun vs H Q E h => ?_) (fun cdv A outer s H vs Q E hr h => ?_)
  · obtain ⟨_, x, dx, DH, DI, LS, DF, d, cash, rfl, _⟩ := h
    rfl
  · obtain ⟨_, x, dx, DH, DI, LS, DF, d, cash, rfl, B, hc, q⟩ := h
    have G_read_number : FnOk P w K mg base CX0 3 T.f_read_number T.d_read_number ["text", "least", "most"] (sp_read_number K) := ok_read_number T
    refine ⟨_, (pss_cons (ps_if (pt_cmpR op_notN (pe_fld (pv 0) rfl) pe_non (nomark _))
      (pss_one (ps_ret pe_bl))
      pss_nil)
    (pss_cons (ps_fld (pv 0) (pe_call G_read_number hr (by rfl) T.m_read_number T.F_read_number.kp T.b_read_number .nil pass0 (pa_cons (pv 1) (pa_cons pe_int (pa_cons (pe_glob (v := .int 1000000000) rfl T.m_MOST_CENTS ⟨_, rfl⟩) pa_nil)))) rfl)
    (pss_one (ps_ret (pe_cmpR op_notN (pe_fld (pv 0) rfl) pe_non (nomark _)))))), ?_⟩
    have fact_Draft_0 := T.cl_Draft; have fact_Draft_1 := T.na_Draft__houses; have fact_Draft_2 := T.na_Draft__instruments; have fact_Draft_3 := T.na_Draft__scenarios; have fact_Draft_4 := T.na_Draft__fund; have fact_Draft_5 := T.na_Draft__fee; have fact_Draft_6 := T.na_Draft__skin
    have hob := B.ob
    cases hf : d.skin with
    | some n =>
      have e : skinP d cash = none := by unfold skinP; rw [hf]
      rw [e] at q
      rw [hf] at hob
      walk_at "st"
      exact q H (KeepL.refl _ _) B
    | none =>
      rw [hf] at hob
      walk_at "st"
      refine ⟨(), cash, 0, 1000000000, rfl, hc, fun H2 s2 => ?_⟩
      have B2 := B.same s2
      have hob2 := s2 _ _ hob
      have hs : d.skin = d.skin := rfl
      cases hr : readN (TL.tl cash) 0 1000000000 with
      | none =>
        have e : skinP d cash = none := by unfold skinP; rw [hf, hr]
        rw [e] at q
        walk_at "st"
        refine q _ ((KeepL.of s2).set mem5.1) ?_
        have e2 : { d with fee := d.fee, skin := none } = d := by cases d; cases hf; rfl
        have B3 := B2.fees (fe := d.fee) (sk := none)
        rw [e2] at B3
        exact B3
      | some n =>
        have e : skinP d cash = some { d with skin := some n } := by unfold skinP; rw [hf, hr]
        rw [e] at q
        walk_at "st"
        exact q _ ((KeepL.of s2).set mem5.1) (B2.fees (fe := d.fee) (sk := some n))
def sp_Drafttake_instrument (K : PySem.W.Frag) (C : Addr) : Sp := fun vs H Q _ => ∃ (_ : Unit) (x dx DH DI LS DF : Addr) (d : Ter) (name a b c e : Str), vs = [.ref x, .str name, .str a, .str b, .str c, .str e] ∧ Drf C H x dx DH DI LS DF d ∧ DrSz d ∧ name.length ≤ 1000 ∧ a.length ≤ 1000 ∧ b.length ≤ 1000 ∧ c.length ≤ 1000 ∧ e.length ≤ 1000 ∧
  TookQ Q C H x dx DH DI LS DF d (insP d name a b c e)
set_option maxHeartbeats 0 in
theorem ok_Drafttake_instrument (T : Txt K mg) : FnOk P w K mg base CX0 4 T.f_Drafttake_instrument T.d_Drafttake_instrument ["self", "name", "tick", "lot", "band", "reference"] (sp_Drafttake_instrument K T.c_Draft) := by
  refine T.F_Drafttake_instrument.ok sc_Drafttake_instrument (fun vs H Q E h => ?_) (fun cdv A outer s H vs Q E hr h => ?_)
  · obtain ⟨_, x, dx, DH, DI, LS, DF, d, name, a, b, c, e, rfl, _⟩ := h
    rfl
  · obtain ⟨_, x, dx, DH, DI, LS, DF, d, name, a, b, c, e, rfl, B, Z, hn, ha, hb, hc, he, q⟩ := h
    have G_read_number : FnOk P w K mg base CX0 3 T.f_read_number T.d_read_number ["text", "least", "most"] (sp_read_number K) := ok_read_number T
    have G_is_word_of : FnOk P w K mg base CX0 1 T.f_is_word_of T.d_is_word_of ["letters", "most", "text"] (sp_is_word_of K) := ok_is_word_of T
    refine ⟨_, (pss_cons (ps_set (i := 6) sc_Drafttake_instrument.nd rfl (Or.inl rfl) (pe_call G_read_number hr (by rfl) T.m_read_number T.F_read_number.kp T.b_read_number .nil pass0 (pa_cons (pv 2) (pa_cons pe_int (pa_cons (pe_glob (v := .int 10000) rfl T.m_MOST_STEP ⟨_, rfl⟩) pa_nil)))))
    (pss_cons (ps_set (i := 7) sc_Drafttake_instrument.nd rfl (Or.inl rfl) (pe_call G_read_number hr (by rfl) T.m_read_number T.F_read_number.kp T.b_read_number .nil pass0 (pa_cons (pv 3) (pa_cons pe_int (pa_cons (pe_glob (v := .int 10000) rfl T.m_MOST_STEP ⟨_, rfl⟩) pa_nil)))))
    (pss_cons (ps_set (i := 8) sc_Drafttake_instrument.nd rfl (Or.inl rfl) (pe_call G_read_number hr (by rfl) T.m_read_number T.F_read_number.kp T.b_read_number .nil pass0 (pa_cons (pv 4) (pa_cons pe_int (pa_cons (pe_glob (v := .int 1000000) rfl T.m_MOST_RATE ⟨_, rfl⟩) pa_nil)))))
    (pss_cons (ps_set (i := 9) sc_Drafttake_instrument.nd rfl (Or.inl rfl) (pe_call G_read_number hr (by rfl) T.m_read_number T.F_read_number.kp T.b_read_number .nil pass0 (pa_cons (pv 5) (pa_cons pe_int (pa_cons (pe_glob (v := .int 1000000) rfl T.m_MOST_PRICE ⟨_, rfl⟩) pa_nil)))))
    (pss_cons (ps_if (PW.pt (pw_or (pt_cmpR op_isN (pv 6) pe_non (nomark _)) (pw_or (pt_cmpR op_isN (pv 7) pe_non (nomark _)) (pw_or (pt_cmpR op_isN (pv 8) pe_non (nomark _)) (pw_or1 (pt_cmpR op_isN (pv 9) pe_non (nomark _)))))))
      (pss_one (ps_ret pe_bl))
      pss_nil)
    (pss_cons (ps_if (PW.pt (pw_or (pt_not (pt_val (pe_call G_is_word_of (hr.mono (by decide)) (by rfl) T.m_is_word_of T.F_is_word_of.kp T.b_is_word_of .nil pass0 (pa_cons (pe_glob (v := .str "ABCDEFGHIJKLMNOPQRSTUVWXYZ") rfl T.m_CAPITAL ⟨_, rfl⟩) (pa_cons (pe_glob (v := .int 6) rfl T.m_LONGEST_INSTRUMENT ⟨_, rfl⟩) (pa_cons (pv 1) pa_nil)))))) (pw_or1 (pt_cmpR op_ne (pe_op op_mod (pv 9) (pv 6)) pe_int (nomark _)))))
      (pss_one (ps_ret pe_bl))
      pss_nil)
    (pss_cons (ps_if (PW.pt (pw_or (pt_cmp (pc_din (hu_of hr) (pv 1) (pe_fld (pv 0) rfl))) (pw_or (pt_cmpR op_eq (pe_callB call_lenD (by rfl) T.z_len PySem.boot_len (pa_cons (pe_fld (pv 0) rfl) pa_nil)) (pe_glob (v := .int 6) rfl T.m_MOST_INSTRUMENTS ⟨_, rfl⟩) (nomark _)) (pw_or1 (pt_truth (pe_fld (pv 0) rfl) (by intro _; rfl))))))
      (pss_one (ps_ret pe_bl))
      pss_nil)
    (pss_cons (ps_dput (hu_of hr) (pe_fld (pv 0) rfl) (pv 1) (pe_tup (pa_cons (pv 1) (pa_cons (pv 6) (pa_cons (pv 7) (pa_cons (pv 8) (pa_cons (pv 9) pa_nil)))))) rfl)
    (pss_one (ps_ret pe_bl)))))))))), ?_⟩
    have fact_Draft_0 := T.cl_Draft; have fact_Draft_1 := T.na_Draft__houses; have fact_Draft_2 := T.na_Draft__instruments; have fact_Draft_3 := T.na_Draft__scenarios; have fact_Draft_4 := T.na_Draft__fund; have fact_Draft_5 := T.na_Draft__fee; have fact_Draft_6 := T.na_Draft__skin
    have hob := B.ob
    walk_at "st"
    refine ⟨(), a, 1, 10000, rfl, ha, fun H1 s1 => ?_⟩
    generalize hra : readN (TL.tl a) 1 10000 = ra
    walk_at "st"
    refine ⟨(), b, 1, 10000, rfl, hb, fun H2 s2 => ?_⟩
    generalize hrb : readN (TL.tl b) 1 10000 = rb
    walk_at "st"
    refine ⟨(), c, 0, 1000000, rfl, hc, fun H3 s3 => ?_⟩
    generalize hrc : readN (TL.tl c) 0 1000000 = rc
    walk_at "st"
    refine ⟨(), e, 1, 1000000, rfl, he, fun H4 s4 => ?_⟩
    generalize hre : readN (TL.tl e) 1 1000000 = re
    have s04 := ((s1.trans s2).trans s3).trans s4
    have B4 := B.same s04
    have hob4 := B4.ob
    have hZ := Z.ins
    have ev : insP d name a b c e = insQ d name ra rb rc re := by
      unfold insP
      rw [hra, hrb, hrc, hre]
    have bad : insP d name a b c e = none → Q (.bl false) H4 := fun z => by
      rw [z] at q
      exact q H4 (KeepL.of s04) B4
    cases ra with
    | none =>
      walk_at "st"
      exact bad ev
    | some t =>
      cases rb with
      | none =>
        walk_at "st"
        exact bad ev
      | some l =>
        cases rc with
        | none =>
          walk_at "st"
          exact bad ev
        | some bw =>
          cases re with
          | none =>
            walk_at "st"
            exact bad ev
          | some r =>
            have t0 : 1 ≤ t ∧ t ≤ 10000 := ((readN_iff (by decide) (by decide)).mp hra).2
            have r0 : 1 ≤ r ∧ r ≤ 1000000 := ((readN_iff (by decide) (by decide)).mp hre).2
            rw [show insP d name a b c e = if wordOf (TL.tl capT) (TL.tl name) 6 = true ∧ r % t = 0 ∧ name ∉ d.ins.map (·.1) ∧ d.ins.length ≠ 6 ∧ d.sc = [] then some { d with ins := d.ins ++ [(name, [t, l, bw, r])] } else none from ev] at q bad
            walk_at "st"
            intro H5 s5
            have s05 := s04.trans s5
            have B5 := B4.same s5
            have hob5 := B5.ob
            generalize hw : wordOf (TL.tl capT) (TL.tl name) 6 = wb at q bad ⊢
            walk_at "st"
            cases wb
            · have e2 := bad (if_neg fun z => by cases z.1)
              refine iteB (fun h => ?_) (fun h => absurd h (by decide))
              walk_at "st"
              exact q H5 (KeepL.of s05) (by rw [if_neg (fun z => by cases z.1)]; exact B5)
            · refine iteB (fun h => absurd h (by decide)) (fun h => ?_)
              walk_at "st"
              refine iteB (fun h => ?_) (fun h => ?_)
              · have h2 : r % t ≠ 0 := fun z => by simp [z] at h
                rw [if_neg fun z => h2 z.2.1] at q
                walk_at "st"
                exact q H5 (KeepL.of s05) B5
              · have h2 : r % t = 0 := Classical.byContradiction fun z => by
                  have z2 : ¬ V.int (r % t) = V.int 0 := fun y => z (V.int.inj y)
                  simp [z2] at h
                walk_at "st"
                obtain ⟨as, i1, i2, i3⟩ := B5.i
                have hmz : ((d.ins.map (·.1)).zip as).map (·.1) = d.ins.map (·.1) := List.map_fst_zip (by rw [List.length_map, i2]; exact Nat.le_refl _)
                refine ⟨_, rfl, DGet.k (k := Sum.inr name) i1, ?_⟩
                rw [val_gen]
                by_cases hm : name ∈ d.ins.map (·.1)
                · obtain ⟨y, _, _, hy⟩ := find_key (l := (d.ins.map (·.1)).zip as) (by rw [hmz]; exact hm)
                  rw [if_neg fun z => z.2.2.1 hm] at q
                  rw [hy]
                  walk_at "st"
                  exact q H5 (KeepL.of s05) B5
                · rw [find_nokey (by rw [hmz]; exact hm)]
                  walk_at "st"
                  refine ⟨_, rfl, i1, ?_⟩
                  walk_at "st"
                  have el : (genD V.ref ((d.ins.map (·.1)).zip as)).length = d.ins.length := by unfold genD; rw [List.length_map, List.length_zip, List.length_map, i2, Nat.min_self]
                  refine iteB (fun h => ?_) (fun h => ?_)
                  · have h3 : d.ins.length = 6 := by have := V.int.inj (dec_t h); omega
                    rw [if_neg fun z => z.2.2.2.1 h3] at q
                    walk_at "st"
                    exact q H5 (KeepL.of s05) B5
                  · have h3 : d.ins.length ≠ 6 := fun z => dec_f h (by rw [el, z]; rfl)
                    obtain ⟨bs, s1', s2', s3', s4'⟩ := B5.s
                    have hsc := SqL.of (K := K) s1'
                    walk_at "st"
                    refine iteB (fun h => ?_) (fun h => ?_)
                    · have h4 : d.sc ≠ [] := fun z => by
                        rw [z] at s2'
                        have zb : bs = [] := List.length_eq_zero_iff.mp s2'
                        rw [zb] at h
                        cases h
                      rw [if_neg fun z => h4 z.2.2.2.2] at q
                      walk_at "st"
                      exact q H5 (KeepL.of s05) B5
                    · have h4 : d.sc = [] := by
                        cases bs with
                        | nil => exact List.length_eq_zero_iff.mp s2'.symm
                        | cons _ _ => cases h
                      rw [if_pos ⟨rfl, h2, hm, h3, h4⟩] at q
                      walk_at "st"
                      intro p np
                      have s6 : Same H5 (upd H5 p (.tup (encR (name, [t, l, bw, r])))) := same_upd np
                      have hp : upd H5 p (.tup (encR (name, [t, l, bw, r]))) p = some (.tup (encR (name, [t, l, bw, r]))) := upd_same
                      have B6 := B5.same s6
                      have j1 := s6 _ _ i1
                      have j3 : ∀ (i : Nat) (a : Addr) (rr : RowN), as[i]? = some a → d.ins[i]? = some rr → upd H5 p (.tup (encR (name, [t, l, bw, r]))) a = some (.tup (encR rr)) := fun i a rr e1 e2 => s6 _ _ (i3 i a rr e1 e2)
                      have hob6 := B6.ob
                      change tFld _ _ _ _ (upd H5 p (.tup (encR (name, [t, l, bw, r])))) _
                      generalize upd H5 p (.tup (encR (name, [t, l, bw, r]))) = H6 at s6 hp B6 j1 j3 hob6 ⊢
                      walk_at "st"
                      refine dputG_go (g := V.ref) (v := p) j1 (by rw [hmz]; exact hm) (by rw [List.length_zip, List.length_map, i2]; omega) ?_
                      walk_at "st"
                      exact q _ ((KeepL.of (s05.trans s6)).set mem5.2.2.1) (B6.instr hp j1 i2 j3)

theorem sqL_same {K : PySem.W.Frag} {H H' : Hp} {a : Addr} {xs : List V} (h : SqL K H a xs) (e : Same H H') : SqL K H' a xs := h.imp (fun z => z.imp (e _ _) fun ⟨o, y⟩ => ⟨o, e _ _ y⟩) id
def sp_Drafttake_scenario (K : PySem.W.Frag) (C : Addr) : Sp := fun vs H Q _ => ∃ (_ : Unit) (x dx DH DI LS DF l : Addr) (d : Ter) (ws : List Str), vs = [.ref x, .ref l] ∧ Drf C H x dx DH DI LS DF d ∧ DrSz d ∧ SqL K H l (ws.map V.str) ∧ ws.length ≤ 1000 ∧ (∀ y, y ∈ ws → y.length ≤ 1000) ∧
  TookQ Q C H x dx DH DI LS DF d (scP d ws)
set_option maxHeartbeats 0 in
theorem ok_Drafttake_scenario (T : Txt K mg) : FnOk P w K mg base CX0 4 T.f_Drafttake_scenario T.d_Drafttake_scenario ["self", "words"] (sp_Drafttake_scenario K T.c_Draft) := by
  refine T.F_Drafttake_scenario.ok sc_Drafttake_scenario (fun vs H Q E h => ?_) (fun cdv A outer s H vs Q E hr h => ?_)
  · obtain ⟨_, x, dx, DH, DI, LS, DF, l, d, ws, rfl, _⟩ := h
    rfl
  · obtain ⟨_, x, dx, DH, DI, LS, DF, l, d, ws, rfl, B, Z, hl, hn, hw, q⟩ := h
    have G_read_number : FnOk P w K mg base CX0 3 T.f_read_number T.d_read_number ["text", "least", "most"] (sp_read_number K) := ok_read_number T
    refine ⟨_, (pss_cons (ps_setLc (i := 2) (own := [("word", 3)]) (g := gName 3) (tt := tYes) rfl sc_Drafttake_scenario.nd rfl rfl (sw_true rfl rfl rfl (by decide +kernel)) (pi_list (pv 1)) (blkOk_by (own := [("word", 3)]) (N := N_Drafttake_scenario) (sc := defScope s_Drafttake_scenario) (by decide +kernel)) (fun _ _ _ _ _ => (pg_name (i := 3) sc_Drafttake_scenario.nd rfl (Or.inl rfl))) (fun _ _ _ _ _ => pts_nil) (fun _ _ _ _ _ => (pe_call G_read_number hr (by rfl) T.m_read_number T.F_read_number.kp T.b_read_number .nil pass0 (pa_cons (pv 3) (pa_cons (pe_un un_neg (pe_glob (v := .int 1000000) rfl T.m_MOST_MOVE ⟨_, rfl⟩)) (pa_cons (pe_glob (v := .int 1000000) rfl T.m_MOST_MOVE ⟨_, rfl⟩) pa_nil))))))
    (pss_cons (ps_if (PW.pt (pw_or (pt_cmpR op_in_seq pe_non (pv 2) rfl) (pw_or1 (pt_cmpR op_ne (pe_callB call_len_seq (by rfl) T.z_len PySem.boot_len (pa_cons (pv 2) pa_nil)) (pe_callB call_lenD (by rfl) T.z_len PySem.boot_len (pa_cons (pe_fld (pv 0) rfl) pa_nil)) (nomark _)))))
      (pss_one (ps_ret pe_bl))
      pss_nil)
    (pss_cons (ps_if (PW.pt (pw_or (pt_not (pt_truth (pv 2) (by intro _; rfl))) (pw_or1 (pt_cmpR op_eq (pe_callB call_len_seq (by rfl) T.z_len PySem.boot_len (pa_cons (pe_fld (pv 0) rfl) pa_nil)) (pe_glob (v := .int 12) rfl T.m_MOST_SCENARIOS ⟨_, rfl⟩) (nomark _)))))
      (pss_one (ps_ret pe_bl))
      pss_nil)
    (pss_cons (ps_expr (pe_bm PySem.F.plainAttrs_list PySem.F.slot_list_append PySem.F.type_list_append mt_append (pe_fld (pv 0) rfl) (pa_cons (pv 2) pa_nil)))
    (pss_one (ps_ret pe_bl)))))), ?_⟩
    have fact_Draft_0 := T.cl_Draft; have fact_Draft_1 := T.na_Draft__houses; have fact_Draft_2 := T.na_Draft__instruments; have fact_Draft_3 := T.na_Draft__scenarios; have fact_Draft_4 := T.na_Draft__fund; have fact_Draft_5 := T.na_Draft__fee; have fact_Draft_6 := T.na_Draft__skin
    have hob := B.ob
    walk_at "st"
    intro D nD
    refine lc_it (walk_list (xs := ws.map V.str) (a := l)) (fun i H' => Same H H' ∧ H' D = some (.lst ((ws.take i).map fun y => optI (readN (TL.tl y) (-1000000) 1000000)))) ⟨same_upd nD, upd_same⟩ (fun i H' _ z => sqL_same hl z.1) ?_ ?_
    · rintro i v H' H2 hi ⟨e, hD⟩ y
      obtain ⟨rfl, hv⟩ := y
      rw [List.getElem?_map] at hv
      obtain ⟨y, hy, rfl⟩ := Option.map_eq_some_iff.mp hv
      have hiw : i < ws.length := (List.getElem?_eq_some_iff.mp hy).1
      refine ⟨rfl, ?_⟩
      walk_at "st"
      refine ⟨(), y, -1000000, 1000000, rfl, hw y (List.mem_of_getElem? hy), fun H3 s3 => ?_⟩
      refine ⟨_, s3 _ _ hD, small1000 (by rw [List.length_map, List.length_take]; omega), same_over (e.trans s3) nD, ?_⟩
      rw [upd_same, take_succ hy, List.map_append]
      rfl
    · rintro H' ⟨e, hD⟩
      rw [List.take_of_length_le (by simp)] at hD
      have B2 := B.same e
      have hob2 := B2.ob
      have hDs := SqL.of (K := K) hD
      have hfl : (ws.map fun y => optI (readN (TL.tl y) (-1000000) 1000000)).all flatV = true := by
        rw [List.all_eq_true]
        intro v hv
        obtain ⟨y, _, rfl⟩ := List.mem_map.mp hv
        cases readN (TL.tl y) (-1000000) 1000000 <;> rfl
      obtain ⟨as, i1, i2, i3⟩ := B2.i
      obtain ⟨bs, t1, t2, t3, t4⟩ := B2.s
      have hZ := Z.ins
      have hZs := Z.sc
      have el : (genD V.ref ((d.ins.map (·.1)).zip as)).length = d.ins.length := by unfold genD; rw [List.length_map, List.length_zip, List.length_map, i2, Nat.min_self]
      cases hm : movesP ws with
      | none =>
        have e0 : scP d ws = none := by unfold scP; rw [hm]
        rw [e0] at q
        have hin : inV .non (ws.map fun y => optI (readN (TL.tl y) (-1000000) 1000000)) = true := List.any_eq_true.mpr ⟨_, movesP_none hm, rfl⟩
        walk_at "st"
        refine iteB (fun _ => ?_) (fun h => absurd (hin.symm.trans h) (by decide))
        walk_at "st"
        exact q H' (KeepL.of e) B2
      | some ns =>
        have e0 : scP d ws = if ns.length = d.ins.length ∧ ns ≠ [] ∧ d.sc.length ≠ 12 then some { d with sc := d.sc ++ [ns] } else none := by unfold scP; rw [hm]
        rw [e0] at q
        rw [movesP_opt hm] at hD hDs hfl
        have hin : inV .non (ns.map V.int) = false := List.any_eq_false.mpr fun v hv => by
          obtain ⟨y, _, rfl⟩ := List.mem_map.mp hv
          exact Bool.false_ne_true
        have hnl := movesP_len hm
        walk_at "st"
        refine iteB (fun h => absurd (hin.symm.trans h) (by decide)) (fun _ => ?_)
        walk_at "st"
        refine ⟨_, rfl, i1, ?_⟩
        walk_at "st"
        refine iteB (fun h => ?_) (fun h => ?_)
        · have h2 : ns.length ≠ d.ins.length := fun z => by
            rw [List.length_map, el, z] at h
            simp at h
          rw [if_neg fun z => h2 z.1] at q
          walk_at "st"
          exact q H' (KeepL.of e) B2
        · have h2 : ns.length = d.ins.length := Classical.byContradiction fun z => by
            rw [List.length_map, el] at h
            have z2 : ¬ V.int (ns.length : Int) = V.int (d.ins.length : Int) := fun y => z (by have := V.int.inj y; omega)
            simp [z2] at h
          walk_at "st"
          cases ns with
          | nil =>
            rw [if_neg fun z => z.2.1 rfl] at q
            refine iteB (fun _ => ?_) (fun h => absurd h (by decide))
            walk_at "st"
            exact q H' (KeepL.of e) B2
          | cons n0 nr =>
            refine iteB (fun h => by cases h) (fun _ => ?_)
            have hsc := SqL.of (K := K) t1
            walk_at "st"
            refine iteB (fun h => ?_) (fun h => ?_)
            · have h3 : d.sc.length = 12 := by
                have := V.int.inj (dec_t h)
                rw [List.length_map, t2] at this
                omega
              rw [if_neg fun z => z.2.2 h3] at q
              walk_at "st"
              exact q H' (KeepL.of e) B2
            · have h3 : d.sc.length ≠ 12 := fun z => dec_f h (by rw [List.length_map, t2, z]; rfl)
              rw [if_pos ⟨h2, (fun z => by cases z), h3⟩] at q
              have hlt : (bs.map V.ref).length < sizeLine := small1000 (by rw [List.length_map, t2]; omega)
              walk_at "st"
              have nDS : D ≠ LS := fun z => by
                obtain ⟨bs0, y1, _⟩ := B.s
                rw [← z, nD] at y1
                cases y1
              exact q _ ((KeepL.of e).set mem5.2.2.2.1) (B2.scen hD nDS t1 t2 t3 t4)
def sp_Draft_take (K : PySem.W.Frag) (C : Addr) : Sp := fun vs H Q _ => ∃ (_ : Unit) (x dx DH DI LS DF l : Addr) (d : Ter) (ws : List Str), vs = [.ref x, .ref l] ∧ Drf C H x dx DH DI LS DF d ∧ DrSz d ∧ SqL K H l (ws.map V.str) ∧ ws.length ≤ 1000 ∧ (∀ y, y ∈ ws → y.length ≤ 1000) ∧
  TookQ Q C H x dx DH DI LS DF d (takeP d ws)
set_option maxHeartbeats 0 in
theorem ok_Draft_take (T : Txt K mg) : FnOk P w K mg base CX0 5 T.f_Draft_take T.d_Draft_take ["self", "words"] (sp_Draft_take K T.c_Draft) := by
  refine T.F_Draft_take.ok sc_Draft_take (fun vs H Q E h => ?_) (fun cdv A outer s H vs Q E hr h => ?_)
  · obtain ⟨_, x, dx, DH, DI, LS, DF, l, d, ws, rfl, _⟩ := h
    rfl
  · obtain ⟨_, x, dx, DH, DI, LS, DF, l, d, ws, rfl, B, Z, hl, hn, hw, q⟩ := h
    have G_Drafttake_house : FnOk P w K mg base CX0 4 T.f_Drafttake_house T.d_Drafttake_house ["self", "name", "cash"] (sp_Drafttake_house K T.c_Draft) := ok_Drafttake_house T
    have G_Drafttake_instrument : FnOk P w K mg base CX0 4 T.f_Drafttake_instrument T.d_Drafttake_instrument ["self", "name", "tick", "lot", "band", "reference"] (sp_Drafttake_instrument K T.c_Draft) := ok_Drafttake_instrument T
    have G_Drafttake_scenario : FnOk P w K mg base CX0 4 T.f_Drafttake_scenario T.d_Drafttake_scenario ["self", "words"] (sp_Drafttake_scenario K T.c_Draft) := ok_Drafttake_scenario T
    have G_Drafttake_share : FnOk P w K mg base CX0 4 T.f_Drafttake_share T.d_Drafttake_share ["self", "house", "share"] (sp_Drafttake_share K T.c_Draft) := ok_Drafttake_share T
    have G_Drafttake_fee : FnOk P w K mg base CX0 4 T.f_Drafttake_fee T.d_Drafttake_fee ["self", "rate"] (sp_Drafttake_fee K T.c_Draft) := ok_Drafttake_fee T
    have G_Drafttake_skin : FnOk P w K mg base CX0 4 T.f_Drafttake_skin T.d_Drafttake_skin ["self", "cents"] (sp_Drafttake_skin K T.c_Draft) := ok_Drafttake_skin T
    refine ⟨_, (pss_one (ps_match (pv 1)
      (pcs_words (ns := [("name", _), ("cash", _)]) rfl sc_Draft_take.nd pe_str (.cons (i := 2) rfl (Or.inl rfl) (by first | exact .inl rfl | exact .inr rfl) (.cons (i := 3) rfl (Or.inl rfl) (by first | exact .inl rfl | exact .inr rfl) .nil)) (pss_one (ps_ret (pe_meth (pv 0) T.cl_Draft T.mt_Drafttake_house G_Drafttake_house hr T.b_Drafttake_house .nil pass0 (pa_cons (pv 2) (pa_cons (pv 3) pa_nil)))))
      (pcs_words (ns := [("name", _), ("tick", _), ("lot", _), ("band", _), ("reference", _)]) rfl sc_Draft_take.nd pe_str (.cons (i := 2) rfl (Or.inl rfl) (by first | exact .inl rfl | exact .inr rfl) (.cons (i := 4) rfl (Or.inl rfl) (by first | exact .inl rfl | exact .inr rfl) (.cons (i := 5) rfl (Or.inl rfl) (by first | exact .inl rfl | exact .inr rfl) (.cons (i := 6) rfl (Or.inl rfl) (by first | exact .inl rfl | exact .inr rfl) (.cons (i := 7) rfl (Or.inl rfl) (by first | exact .inl rfl | exact .inr rfl) .nil))))) (pss_one (ps_ret (pe_meth (pv 0) T.cl_Draft T.mt_Drafttake_instrument G_Drafttake_instrument hr T.b_Drafttake_instrument .nil pass0 (pa_cons (pv 2) (pa_cons (pv 4) (pa_cons (pv 5) (pa_cons (pv 6) (pa_cons (pv 7) pa_nil))))))))
      (pcs_star (i := 8) rfl sc_Draft_take.nd pe_str rfl (Or.inl rfl) (by first | exact .inl rfl | exact .inr rfl) (pss_one (ps_ret (pe_meth (pv 0) T.cl_Draft T.mt_Drafttake_scenario G_Drafttake_scenario hr T.b_Drafttake_scenario .nil pass0 (pa_cons (pv 8) pa_nil))))
      (pcs_words (ns := [("house", _), ("share", _)]) rfl sc_Draft_take.nd pe_str (.cons (i := 9) rfl (Or.inl rfl) (by first | exact .inl rfl | exact .inr rfl) (.cons (i := 10) rfl (Or.inl rfl) (by first | exact .inl rfl | exact .inr rfl) .nil)) (pss_one (ps_ret (pe_meth (pv 0) T.cl_Draft T.mt_Drafttake_share G_Drafttake_share hr T.b_Drafttake_share .nil pass0 (pa_cons (pv 9) (pa_cons (pv 10) pa_nil)))))
      (pcs_words (ns := [("rate", _)]) rfl sc_Draft_take.nd pe_str (.cons (i := 11) rfl (Or.inl rfl) (by first | exact .inl rfl | exact .inr rfl) .nil) (pss_one (ps_ret (pe_meth (pv 0) T.cl_Draft T.mt_Drafttake_fee G_Drafttake_fee hr T.b_Drafttake_fee .nil pass0 (pa_cons (pv 11) pa_nil))))
      (pcs_words (ns := [("cents", _)]) rfl sc_Draft_take.nd pe_str (.cons (i := 12) rfl (Or.inl rfl) (by first | exact .inl rfl | exact .inr rfl) .nil) (pss_one (ps_ret (pe_meth (pv 0) T.cl_Draft T.mt_Drafttake_skin G_Drafttake_skin hr T.b_Drafttake_skin .nil pass0 (pa_cons (pv 12) pa_nil))))
      (pcs_wild (pss_one (ps_ret pe_bl))))))))))), ?_⟩
    have fact_Draft_0 := T.cl_Draft; have fact_Draft_1 := T.na_Draft__houses; have fact_Draft_2 := T.na_Draft__instruments; have fact_Draft_3 := T.na_Draft__scenarios; have fact_Draft_4 := T.na_Draft__fund; have fact_Draft_5 := T.na_Draft__fee; have fact_Draft_6 := T.na_Draft__skin
    have hob := B.ob
    walk_at "st"
    refine ⟨(), l, ws, rfl, hl, fun hlen h0 => ?_, fun no1 => ?_⟩
    · have e : takeP d ws = houseP d (ws.getD 1 "") (ws.getD 2 "") := if_pos ⟨hlen, h0⟩
      rw [e] at q
      match ws, hlen, hw, q with
      | [a, b, c], _, hw, q =>
        walk_at "st"
        exact ⟨(), x, dx, DH, DI, LS, DF, d, b, c, rfl, B, Z, hw b (by simp), hw c (by simp), q⟩
    have f1 : takeP d ws = _ := if_neg no1
    refine ⟨(), l, ws, rfl, hl, fun hlen h0 => ?_, fun no2 => ?_⟩
    · have e : takeP d ws = insP d (ws.getD 1 "") (ws.getD 2 "") (ws.getD 3 "") (ws.getD 4 "") (ws.getD 5 "") := f1.trans (if_pos ⟨hlen, h0⟩)
      rw [e] at q
      match ws, hlen, hw, q with
      | [a, b, c, e, f, g], _, hw, q =>
        walk_at "st"
        exact ⟨(), x, dx, DH, DI, LS, DF, d, b, c, e, f, g, rfl, B, Z, hw b (by simp), hw c (by simp), hw e (by simp), hw f (by simp), hw g (by simp), q⟩
    have f2 := f1.trans (if_neg no2)
    refine ⟨(), l, ws, rfl, hl, fun h0 p np => ?_, fun no3 => ?_⟩
    · have hz : 1 ≤ ws.length := by
        cases ws with
        | nil => cases h0
        | cons _ _ => exact Nat.succ_le_succ (Nat.zero_le _)
      have e : takeP d ws = scP d ws.tail := f2.trans (if_pos ⟨hz, h0⟩)
      rw [e] at q
      have s1 : Same H (upd H p (.lst (ws.tail.map V.str))) := same_upd np
      have hp : upd H p (.lst (ws.tail.map V.str)) p = some (.lst (ws.tail.map V.str)) := upd_same
      generalize upd H p (.lst (ws.tail.map V.str)) = H1 at s1 hp ⊢
      have B1 := B.same s1
      have hob1 := B1.ob
      walk_at "st"
      exact ⟨(), x, dx, DH, DI, LS, DF, p, d, ws.tail, rfl, B1, Z, SqL.of hp, by rw [List.length_tail]; omega, fun y hy => hw y (List.mem_of_mem_tail hy), fun H' k b => q H' ((KeepL.of s1).trans k) b⟩
    have f3 := f2.trans (if_neg fun z => no3 z.2)
    refine ⟨(), l, ws, rfl, hl, fun hlen h0 => ?_, fun no4 => ?_⟩
    · have e : takeP d ws = shareP d (ws.getD 1 "") (ws.getD 2 "") := f3.trans (if_pos ⟨hlen, h0⟩)
      rw [e] at q
      match ws, hlen, hw, q with
      | [a, b, c], _, hw, q =>
        walk_at "st"
        exact ⟨(), x, dx, DH, DI, LS, DF, d, b, c, rfl, B, Z, hw b (by simp), hw c (by simp), q⟩
    have f4 := f3.trans (if_neg no4)
    refine ⟨(), l, ws, rfl, hl, fun hlen h0 => ?_, fun no5 => ?_⟩
    · have e : takeP d ws = feeP d (ws.getD 1 "") := f4.trans (if_pos ⟨hlen, h0⟩)
      rw [e] at q
      match ws, hlen, hw, q with
      | [a, b], _, hw, q =>
        walk_at "st"
        exact ⟨(), x, dx, DH, DI, LS, DF, d, b, rfl, B, hw b (by simp), q⟩
    have f5 := f4.trans (if_neg no5)
    refine ⟨(), l, ws, rfl, hl, fun hlen h0 => ?_, fun no6 => ?_⟩
    · have e : takeP d ws = skinP d (ws.getD 1 "") := f5.trans (if_pos ⟨hlen, h0⟩)
      rw [e] at q
      match ws, hlen, hw, q with
      | [a, b], _, hw, q =>
        walk_at "st"
        exact ⟨(), x, dx, DH, DI, LS, DF, d, b, rfl, B, hw b (by simp), q⟩
    rw [show takeP d ws = none from f5.trans (if_neg no6)] at q
    walk_at "st"
    exact q H (KeepL.refl _ _) B

end
section
variable {P : Program} {w : World} {K : PySem.W.Frag} {mg : Str → Option Value} {base : Heap}
def rowH (x : Str × Int) : RowN := (x.1, [x.2])
structure TerAt (C : Addr) (H : Hp) (t dt LH LI LS LF : Addr) (d : Ter) : Prop where
  ob : H t = some (.ins C dt [("houses", .ref LH), ("instruments", .ref LI), ("scenarios", .ref LS), ("fund", .ref LF), ("fee", .int (d.fee.getD 0)), ("skin", .int (d.skin.getD 0))])
  h : ∃ as : List Addr, Tups encR H LH as ((d.hs.map rowH).mergeSort leN)
  i : ∃ as : List Addr, Tups encR H LI as (d.ins.mergeSort leN)
  s : ∃ as : List Addr, H LS = some (.lst (as.map V.ref)) ∧ as.length = d.sc.length ∧ ∀ (i : Nat) (a : Addr) (m : List Int), as[i]? = some a → d.sc[i]? = some m → H a = some (.lst (m.map V.int))
  f : ∃ as : List Addr, Tups encR H LF as ((d.fu.map rowH).mergeSort leN)
theorem TerAt.same {C : Addr} {H H' : Hp} {t dt LH LI LS LF : Addr} {d : Ter} (B : TerAt C H t dt LH LI LS LF d) (e : Same H H') : TerAt C H' t dt LH LI LS LF d := by
  obtain ⟨a1, h1⟩ := B.h
  obtain ⟨a2, h2⟩ := B.i
  obtain ⟨a3, h3, h4, h5⟩ := B.s
  obtain ⟨a4, h6⟩ := B.f
  exact ⟨e _ _ B.ob, ⟨a1, h1.same e⟩, ⟨a2, h2.same e⟩, ⟨a3, e _ _ h3, h4, fun i a m y z => e _ _ (h5 i a m y z)⟩, ⟨a4, h6.same e⟩⟩
theorem tups_zipS {H : Hp} {p : Addr} {as : List Addr} {D : List RowN} (hl : as.length = D.length) (hr : ∀ (i : Nat) (a : Addr) (x : RowN), as[i]? = some a → D[i]? = some x → H a = some (.tup (encR x))) (hp : H p = some (.lst (((zipS layT as D).map (·.1)).map V.ref))) : Tups encR H p ((zipS layT as D).map (·.1)) (D.mergeSort leN) :=
  ⟨hp, by rw [List.length_map, zipS_len layT hl, List.length_mergeSort], fun i a x e1 e2 => by
    obtain ⟨j, j1, j2⟩ := zipS_at layT hl e1 e2
    exact hr j a x j1 j2⟩
theorem Tups.keepx {α : Type} {enc : α → List V} {H H' : Hp} {l : Addr} {ps : List Addr} {xs : List α} (h : Tups enc H l ps xs) {t C dt : Addr} {fs : List (Str × V)} (ht : H t = some (.ins C dt fs)) (k : KeepX t H H') : Tups enc H' l ps xs :=
  ⟨k l _ (fun z => by have := h.lst; rw [z, ht] at this; cases this) h.lst, h.len, fun i p x a b => k p _ (fun z => by have := h.row i p x a b; rw [z, ht] at this; cases this) (h.row i p x a b)⟩
theorem Drf.keepx {C : Addr} {H H' : Hp} {x dx DH DI LS DF : Addr} {d : Ter} (B : Drf C H x dx DH DI LS DF d) {t C2 dt : Addr} {fs : List (Str × V)} (ht : H t = some (.ins C2 dt fs)) (nx : x ≠ t) (k : KeepX t H H') : Drf C H' x dx DH DI LS DF d := by
  obtain ⟨as, i1, i2, i3⟩ := B.i
  obtain ⟨bs, s1, s2, s3, s4⟩ := B.s
  refine ⟨k _ _ nx B.ob, k _ _ (fun z => ?_) B.h, k _ _ (fun z => ?_) B.f, ⟨as, k _ _ (fun z => ?_) i1, i2, fun i a r h1 h2 => k _ _ (fun z => ?_) (i3 i a r h1 h2)⟩, ⟨bs, k _ _ (fun z => ?_) s1, s2, fun i a r h1 h2 => k _ _ (fun z => ?_) (s3 i a r h1 h2), s4⟩, B.ap⟩
  · have := B.h; rw [z, ht] at this; cases this
  · have := B.f; rw [z, ht] at this; cases this
  · rw [z, ht] at i1; cases i1
  · have := i3 i a r h1 h2; rw [z, ht] at this; cases this
  · rw [z, ht] at s1; cases s1
  · have := s3 i a r h1 h2; rw [z, ht] at this; cases this
theorem dp_items {K : PySem.W.Frag} {l : List (Str × Int)} (G : Hp) (i : Nat) (t : Addr) (q : Key × V) (x : RowN) (h1 : (encD l)[i]? = some q) (h2 : (l.map rowH)[i]? = some x) (h3 : G t = some (.tup [kV q.1, q.2])) : Dp K G (.ref t) (layT x) ∧ G t = some (.tup (encR x)) := by
  unfold encD at h1
  rw [List.getElem?_map] at h1 h2
  obtain ⟨y, hy, rfl⟩ := Option.map_eq_some_iff.mp h1
  rw [hy] at h2
  cases h2
  exact ⟨dpT (rowH y) t h3, h3⟩
theorem vals_gen : ∀ (ns : List Str) (as : List Addr), as.length = ns.length → (genD V.ref (ns.zip as)).map (·.2) = as.map V.ref
  | [], [], _ => rfl
  | n :: ns, a :: as, h => by
    show V.ref a :: (genD V.ref (ns.zip as)).map (·.2) = V.ref a :: as.map V.ref
    rw [vals_gen ns as (Nat.succ.inj h)]
  | [], _ :: _, h => by cases h
  | _ :: _, [], h => by cases h
structure CpS (H0 H : Hp) (D : Addr) (sc : List (List Int)) (n : Nat) : Prop where
  e : Same H0 H
  ex : ∃ cs : List Addr, H D = some (.lst (cs.map V.ref)) ∧ cs.length = n ∧ D ∉ cs ∧ ∀ (j : Nat) (a : Addr) (m : List Int), cs[j]? = some a → sc[j]? = some m → H a = some (.lst (m.map V.int))
theorem CpS.start {H0 : Hp} {D : Addr} {sc : List (List Int)} (n : H0 D = none) : CpS H0 (upd H0 D (.lst [])) D sc 0 := ⟨same_upd n, [], upd_same, rfl, List.not_mem_nil, fun j a m h _ => by rw [List.getElem?_nil] at h; cases h⟩
theorem CpS.next {H0 H G : Hp} {D p : Addr} {sc : List (List Int)} {i : Nat} {m : List Int} (B : CpS H0 H D sc i) (hm : sc[i]? = some m) (s : Same H G) (nD : H0 D = none) (np : H p = none) (hp : G p = some (.lst (m.map V.int))) :
    ∃ acc, G D = some (.lst acc) ∧ acc.length = i ∧ CpS H0 (upd G D (.lst (acc ++ [V.ref p]))) D sc (i + 1) := by
  obtain ⟨cs, c1, c2, c3, c4⟩ := B.ex
  refine ⟨cs.map V.ref, s _ _ c1, by rw [List.length_map, c2], same_over (B.e.trans s) nD, cs ++ [p], ?_, ?_, ?_, ?_⟩
  · rw [upd_same, List.map_append]; rfl
  · rw [List.length_append, c2]; rfl
  · intro z
    rcases List.mem_append.mp z with z | z
    · exact c3 z
    · have := List.mem_singleton.mp z
      rw [this, np] at c1
      cases c1
  · intro j a m' h1 h2
    rcases at_snoc h1 with ⟨k1, k2⟩ | ⟨k1, k2⟩
    · exact (upd_ne fun z => c3 (by rw [← z]; exact List.mem_of_getElem? k2)).trans (s _ _ (c4 j a m' k2 h2))
    · rw [k1, c2, hm] at h2
      cases h2
      rw [k2]
      exact (upd_ne fun z => by rw [z, c1] at np; cases np).trans hp
def sp_Terms_init (K : PySem.W.Frag) (C : Addr) : Sp := fun vs H Q _ => ∃ (_ : Unit) (x dx : Addr), vs = [.ref x] ∧ H x = some (.ins C dx []) ∧ ∀ L1 L2 L3 L4 H', H' x = some (.ins C dx [("houses", .ref L1), ("instruments", .ref L2), ("scenarios", .ref L3), ("fund", .ref L4), ("fee", .int 0), ("skin", .int 0)]) → KeepX x H H' → Q .non H'
set_option maxHeartbeats 0 in
theorem ok_Terms_init (T : Txt K mg) : FnOk P w K mg base CX0 1 T.f_Terms_init T.d_Terms_init ["self"] (sp_Terms_init K T.c_Terms) := by
  refine T.F_Terms_init.ok sc_Terms_init (fun vs H Q E h => ?_) (fun cdv A outer s H vs Q E hr h => ?_)
  · obtain ⟨_, x, dx, rfl, _⟩ := h
    rfl
  · obtain ⟨_, x, dx, rfl, hx, q⟩ := h
    
    refine ⟨_, (pss_cons (ps_fld (pv 0) (pe_lst pa_nil) rfl)
    (pss_cons (ps_fld (pv 0) (pe_lst pa_nil) rfl)
    (pss_cons (ps_fld (pv 0) (pe_lst pa_nil) rfl)
    (pss_cons (ps_fld (pv 0) (pe_lst pa_nil) rfl)
    (pss_cons (ps_fld (pv 0) pe_int rfl)
    (pss_one (ps_fld (pv 0) pe_int rfl))))))), ?_⟩
    have fact_Terms_0 := T.cl_Terms; have fact_Terms_1 := T.na_Terms_houses; have fact_Terms_2 := T.na_Terms_instruments; have fact_Terms_3 := T.na_Terms_scenarios; have fact_Terms_4 := T.na_Terms_fund; have fact_Terms_5 := T.na_Terms_fee; have fact_Terms_6 := T.na_Terms_skin
    walk_at "st"
    intro L1 n1
    have x1 : x ≠ L1 := ne_of_none hx n1
    have k1 := keepX_of (x := x) (same_upd (o := .lst []) n1)
    have hx1 : upd H L1 (.lst []) x = some (.ins T.c_Terms dx []) := (upd_ne x1).trans hx
    generalize upd H L1 (.lst []) = H1 at *
    refine ⟨_, rfl, setF hx1 T.cl_Terms T.na_Terms_houses rfl ?_⟩
    have k2 := k1.set (o := .ins T.c_Terms dx (putF "houses" (.ref L1) []))
    have hx2 : upd H1 x (.ins T.c_Terms dx (putF "houses" (.ref L1) [])) x = some (.ins T.c_Terms dx [("houses", .ref L1)]) := upd_same
    generalize upd H1 x _ = H2 at *
    walk_at "st"
    intro L2 n2
    have k3 := k2.then (same_upd (o := .lst []) n2)
    have hx3 : upd H2 L2 (.lst []) x = some (.ins T.c_Terms dx [("houses", .ref L1)]) := (upd_ne (ne_of_none hx2 n2)).trans hx2
    generalize upd H2 L2 (.lst []) = H3 at *
    refine ⟨_, rfl, setF hx3 T.cl_Terms T.na_Terms_instruments rfl ?_⟩
    have k4 := k3.set (o := .ins T.c_Terms dx (putF "instruments" (.ref L2) [("houses", .ref L1)]))
    have hx4 : upd H3 x (.ins T.c_Terms dx (putF "instruments" (.ref L2) [("houses", .ref L1)])) x = some (.ins T.c_Terms dx [("houses", .ref L1), ("instruments", .ref L2)]) := upd_same
    generalize upd H3 x _ = H4 at *
    walk_at "st"
    intro L3 n3
    have k5 := k4.then (same_upd (o := .lst []) n3)
    have hx5 : upd H4 L3 (.lst []) x = some (.ins T.c_Terms dx [("houses", .ref L1), ("instruments", .ref L2)]) := (upd_ne (ne_of_none hx4 n3)).trans hx4
    generalize upd H4 L3 (.lst []) = H5 at *
    refine ⟨_, rfl, setF hx5 T.cl_Terms T.na_Terms_scenarios rfl ?_⟩
    have k6 := k5.set (o := .ins T.c_Terms dx (putF "scenarios" (.ref L3) [("houses", .ref L1), ("instruments", .ref L2)]))
    have hx6 : upd H5 x (.ins T.c_Terms dx (putF "scenarios" (.ref L3) [("houses", .ref L1), ("instruments", .ref L2)])) x = some (.ins T.c_Terms dx [("houses", .ref L1), ("instruments", .ref L2), ("scenarios", .ref L3)]) := upd_same
    generalize upd H5 x _ = H6 at *
    walk_at "st"
    intro L4 n4
    have k7 := k6.then (same_upd (o := .lst []) n4)
    have hx7 : upd H6 L4 (.lst []) x = some (.ins T.c_Terms dx [("houses", .ref L1), ("instruments", .ref L2), ("scenarios", .ref L3)]) := (upd_ne (ne_of_none hx6 n4)).trans hx6
    generalize upd H6 L4 (.lst []) = H7 at *
    refine ⟨_, rfl, setF hx7 T.cl_Terms T.na_Terms_fund rfl ?_⟩
    have k8 := k7.set (o := .ins T.c_Terms dx (putF "fund" (.ref L4) [("houses", .ref L1), ("instruments", .ref L2), ("scenarios", .ref L3)]))
    have hx8 : upd H7 x (.ins T.c_Terms dx (putF "fund" (.ref L4) [("houses", .ref L1), ("instruments", .ref L2), ("scenarios", .ref L3)])) x = some (.ins T.c_Terms dx [("houses", .ref L1), ("instruments", .ref L2), ("scenarios", .ref L3), ("fund", .ref L4)]) := upd_same
    generalize upd H7 x _ = H8 at *
    walk_at "st"
    exact q L1 L2 L3 L4 _ upd_same k8.set.set
def sp_Draft_finished (K : PySem.W.Frag) (C C2 : Addr) : Sp := fun vs H Q _ => ∃ (_ : Unit) (x dx DH DI LS DF : Addr) (d : Ter), vs = [.ref x] ∧ Drf C H x dx DH DI LS DF d ∧ DrSz d ∧
  ∀ (_ : Unit) (H' : Hp) (t dt L1 L2 L3 L4 : Addr), Same H H' → H t = none → TerAt C2 H' t dt L1 L2 L3 L4 d → Q (.ref t) H'
set_option maxHeartbeats 0 in
theorem ok_Draft_finished (T : Txt K mg) : FnOk P w K mg base CX0 3 T.f_Draft_finished T.d_Draft_finished ["self"] (sp_Draft_finished K T.c_Draft T.c_Terms) := by
  refine T.F_Draft_finished.ok sc_Draft_finished (fun vs H Q E h => ?_) (fun cdv A outer s H vs Q E hr h => ?_)
  · obtain ⟨_, x, dx, DH, DI, LS, DF, d, rfl, _⟩ := h
    rfl
  · obtain ⟨_, x, dx, DH, DI, LS, DF, d, rfl, B, Z, q⟩ := h
    have G_Terms_init : FnOk P w K mg base CX0 1 T.f_Terms_init T.d_Terms_init ["self"] (sp_Terms_init K T.c_Terms) := ok_Terms_init T
    refine ⟨_, (pss_cons (ps_set (i := 1) sc_Draft_finished.nd rfl (Or.inl rfl) (pe_make0 T.mk_Terms G_Terms_init hr (by rfl) T.m_Terms T.b_Terms_init .nil pass0))
    (pss_cons (ps_fld (pv 1) (pe_sortItems hr sortK_T rfl (by rfl) T.z_sorted (pe_fld (pv 0) rfl)) rfl)
    (pss_cons (ps_fld (pv 1) (pe_sortVals hr sortK_T rfl (by rfl) T.z_sorted (pe_fld (pv 0) rfl)) rfl)
    (pss_cons (ps_fld (pv 1) (pe_lc (own := [("moves", 2)]) (g := gName 2) (tt := tYes) rfl sc_Draft_finished.nd (pi_list (pe_fld (pv 0) rfl)) (blkOk_by (own := [("moves", 2)]) (N := N_Draft_finished) (sc := defScope s_Draft_finished) (by decide +kernel)) (fun _ _ _ _ _ => (pg_name (i := 2) sc_Draft_finished.nd rfl (Or.inl rfl))) (fun _ _ _ _ _ => pts_nil) (fun _ _ _ _ _ => (pe_callTy (show CallR _ (.type "list") (rListOf K) from call_list_of) (by rfl) T.z_list (by decide +kernel) (pa_cons (pv 2) pa_nil)))) rfl)
    (pss_cons (ps_fld (pv 1) (pe_sortItems hr sortK_T rfl (by rfl) T.z_sorted (pe_fld (pv 0) rfl)) rfl)
    (pss_cons (ps_fld (pv 1) (pe_ifExp (pt_cmpR op_isN (pe_fld (pv 0) rfl) pe_non (nomark _)) pe_int (pe_fld (pv 0) rfl)) rfl)
    (pss_cons (ps_fld (pv 1) (pe_ifExp (pt_cmpR op_isN (pe_fld (pv 0) rfl) pe_non (nomark _)) pe_int (pe_fld (pv 0) rfl)) rfl)
    (pss_one (ps_ret (pv 1)))))))))), ?_⟩
    have fact_Draft_0 := T.cl_Draft; have fact_Draft_1 := T.na_Draft__houses; have fact_Draft_2 := T.na_Draft__instruments; have fact_Draft_3 := T.na_Draft__scenarios; have fact_Draft_4 := T.na_Draft__fund; have fact_Draft_5 := T.na_Draft__fee; have fact_Draft_6 := T.na_Draft__skin
    have fact_Terms_0 := T.cl_Terms; have fact_Terms_1 := T.na_Terms_houses; have fact_Terms_2 := T.na_Terms_instruments; have fact_Terms_3 := T.na_Terms_scenarios; have fact_Terms_4 := T.na_Terms_fund; have fact_Terms_5 := T.na_Terms_fee; have fact_Terms_6 := T.na_Terms_skin
    have hob := B.ob
    have Zh := Z.hs
    have Zi := Z.ins
    have Zs := Z.sc
    have Zf := Z.fu
    walk_at "st"
    intro t dt nt ndt ndx
    refine ⟨(), t, dt, rfl, upd_same, fun A1 A2 A3 A4 H1 ht k1 => ⟨rfl, ?_⟩⟩
    have s1 : Same H H1 := fun z o hz => k1 z o (ne_of_none hz nt) ((upd_ne (ne_of_none hz nt)).trans ((upd_ne (ne_of_none hz ndt)).trans hz))
    have nx : x ≠ t := ne_of_none hob nt
    have B1 := B.same s1
    have hob1 := B1.ob
    have h1 := B1.h
    have elh : (encD d.hs).length = (d.hs.map rowH).length := by unfold encD; rw [List.length_map, List.length_map]
    walk_at "st"
    refine ⟨(), DH, encD d.hs, d.hs.map rowH, rfl, h1, elh, by rw [List.length_map]; omega, fun G i t q x a b c => (dp_items G i t q x a b c).1, fun _ ts G p sG nts pG nP => ?_⟩
    have hT0 : Tups encR (upd G p (.lst (((zipS layT ts (d.hs.map rowH)).map (·.1)).map V.ref))) p ((zipS layT ts (d.hs.map rowH)).map (·.1)) ((d.hs.map rowH).mergeSort leN) :=
      tups_zipS ((Paired.length pG).trans elh) (fun i a r e1 e2 => by
        obtain ⟨y, y1, y2⟩ := LiI.paired_get pG e1
        have z := (dp_items (K := K) G i a y r y1 e2 y2).2
        exact (upd_ne (ne_of_none z nP)).trans z) upd_same
    have s2 := sG.trans (same_upd (o := .lst (((zipS layT ts (d.hs.map rowH)).map (·.1)).map V.ref)) nP)
    generalize upd G p (.lst (((zipS layT ts (d.hs.map rowH)).map (·.1)).map V.ref)) = H2 at hT0 s2 ⊢
    generalize (zipS layT ts (d.hs.map rowH)).map (·.1) = ps1 at hT0
    have ht2 := s2 _ _ ht
    refine ⟨_, rfl, setF ht2 T.cl_Terms T.na_Terms_houses rfl ?_⟩
    have k3 : KeepX t H1 (upd H2 t _) := (keepX_of s2).set (o := .ins T.c_Terms dt (putF "houses" (.ref p) [("houses", .ref A1), ("instruments", .ref A2), ("scenarios", .ref A3), ("fund", .ref A4), ("fee", .int 0), ("skin", .int 0)]))
    have ht3 : upd H2 t (.ins T.c_Terms dt (putF "houses" (.ref p) [("houses", .ref A1), ("instruments", .ref A2), ("scenarios", .ref A3), ("fund", .ref A4), ("fee", .int 0), ("skin", .int 0)])) t = some (.ins T.c_Terms dt [("houses", .ref p), ("instruments", .ref A2), ("scenarios", .ref A3), ("fund", .ref A4), ("fee", .int 0), ("skin", .int 0)]) := upd_same
    have hT1 := hT0.keepx ht2 (keepX_of (Same.refl _) |>.set (o := .ins T.c_Terms dt (putF "houses" (.ref p) [("houses", .ref A1), ("instruments", .ref A2), ("scenarios", .ref A3), ("fund", .ref A4), ("fee", .int 0), ("skin", .int 0)])))
    generalize upd H2 t _ = H3 at k3 ht3 hT1 ⊢
    clear hT0 ht2 s2
    have B3 := B1.keepx ht nx k3
    have hob3 := B3.ob
    obtain ⟨as, i1, i2, i3⟩ := B3.i
    walk_at "st"
    refine ⟨(), DI, genD V.ref ((d.ins.map (·.1)).zip as), as, d.ins, rfl, i1, vals_gen _ _ (by rw [List.length_map, i2]), i2, by omega, fun i a r e1 e2 => dpT r a (i3 i a r e1 e2), fun _ p2 nP2 => ?_⟩
    have hT0 : Tups encR (upd H3 p2 (.lst (((zipS layT as d.ins).map (·.1)).map V.ref))) p2 ((zipS layT as d.ins).map (·.1)) (d.ins.mergeSort leN) :=
      tups_zipS i2 (fun i a r e1 e2 => (upd_ne (ne_of_none (i3 i a r e1 e2) nP2)).trans (i3 i a r e1 e2)) upd_same
    have s4 : Same H3 (upd H3 p2 (.lst (((zipS layT as d.ins).map (·.1)).map V.ref))) := same_upd nP2
    generalize upd H3 p2 (.lst (((zipS layT as d.ins).map (·.1)).map V.ref)) = H4 at hT0 s4 ⊢
    generalize (zipS layT as d.ins).map (·.1) = ps2 at hT0
    have ht4 := s4 _ _ ht3
    refine ⟨_, rfl, setF ht4 T.cl_Terms T.na_Terms_instruments rfl ?_⟩
    have k5 : KeepX t H3 (upd H4 t _) := (keepX_of s4).set (o := .ins T.c_Terms dt (putF "instruments" (.ref p2) [("houses", .ref p), ("instruments", .ref A2), ("scenarios", .ref A3), ("fund", .ref A4), ("fee", .int 0), ("skin", .int 0)]))
    have ht5 : upd H4 t (.ins T.c_Terms dt (putF "instruments" (.ref p2) [("houses", .ref p), ("instruments", .ref A2), ("scenarios", .ref A3), ("fund", .ref A4), ("fee", .int 0), ("skin", .int 0)])) t = some (.ins T.c_Terms dt [("houses", .ref p), ("instruments", .ref p2), ("scenarios", .ref A3), ("fund", .ref A4), ("fee", .int 0), ("skin", .int 0)]) := upd_same
    have hT2 := hT0.keepx ht4 (keepX_of (Same.refl _) |>.set (o := .ins T.c_Terms dt (putF "instruments" (.ref p2) [("houses", .ref p), ("instruments", .ref A2), ("scenarios", .ref A3), ("fund", .ref A4), ("fee", .int 0), ("skin", .int 0)])))
    generalize upd H4 t _ = H5 at k5 ht5 hT2 ⊢
    clear hT0 ht4 s4
    have B5 := B3.keepx ht3 nx k5
    have hob5 := B5.ob
    have hT15 := hT1.keepx ht3 k5
    obtain ⟨bs, t1, t2, t3, t4⟩ := B5.s
    have hsc := SqL.of (K := K) t1
    walk_at "st"
    intro D nD
    refine lc_it (walk_list (xs := bs.map V.ref) (a := LS)) (fun i H' => CpS H5 H' D d.sc i) (CpS.start nD) (fun i H' _ z => sqL_same hsc z.e) ?_ ?_
    · rintro i v H' H'' hi z y
      obtain ⟨rfl, hv⟩ := y
      obtain ⟨a, ha, rfl⟩ := refs_at hv
      have hib : i < d.sc.length := by rw [← t2]; exact (List.getElem?_eq_some_iff.mp ha).1
      have hm : d.sc[i]? = some d.sc[i] := List.getElem?_eq_getElem hib
      have hra := SqL.of (K := K) (z.e _ _ (t3 i a _ ha hm))
      have hml := Z.ml _ (List.mem_of_getElem? hm)
      generalize d.sc[i] = m at hm hra hml
      refine ⟨rfl, ?_⟩
      walk_at "st"
      intro l nl
      obtain ⟨acc, g1, g2, g3⟩ := z.next hm (same_upd (o := .lst (m.map V.int)) nl) nD nl upd_same
      exact ⟨acc, g1, small1000 (by omega), g3⟩
    · rintro H6 z
      obtain ⟨z1, cs, c1, c2, c3, c4⟩ := z
      rw [List.length_map, t2] at c2
      have ht6 := z1 _ _ ht5
      refine ⟨_, rfl, setF ht6 T.cl_Terms T.na_Terms_scenarios rfl ?_⟩
      have k7 : KeepX t H5 (upd H6 t _) := (keepX_of z1).set (o := .ins T.c_Terms dt (putF "scenarios" (.ref D) [("houses", .ref p), ("instruments", .ref p2), ("scenarios", .ref A3), ("fund", .ref A4), ("fee", .int 0), ("skin", .int 0)]))
      have ht7 : upd H6 t (.ins T.c_Terms dt (putF "scenarios" (.ref D) [("houses", .ref p), ("instruments", .ref p2), ("scenarios", .ref A3), ("fund", .ref A4), ("fee", .int 0), ("skin", .int 0)])) t = some (.ins T.c_Terms dt [("houses", .ref p), ("instruments", .ref p2), ("scenarios", .ref D), ("fund", .ref A4), ("fee", .int 0), ("skin", .int 0)]) := upd_same
      have c1' := (upd_ne (a := t) (o := .ins T.c_Terms dt (putF "scenarios" (.ref D) [("houses", .ref p), ("instruments", .ref p2), ("scenarios", .ref A3), ("fund", .ref A4), ("fee", .int 0), ("skin", .int 0)])) (fun y => by rw [y, ht6] at c1; cases c1)).trans c1
      have c4' : ∀ (j : Nat) (a : Addr) (m : List Int), cs[j]? = some a → d.sc[j]? = some m → upd H6 t (.ins T.c_Terms dt (putF "scenarios" (.ref D) [("houses", .ref p), ("instruments", .ref p2), ("scenarios", .ref A3), ("fund", .ref A4), ("fee", .int 0), ("skin", .int 0)])) a = some (.lst (m.map V.int)) := fun j a m e1 e2 =>
        (upd_ne (fun y => by have := c4 j a m e1 e2; rw [y, ht6] at this; cases this)).trans (c4 j a m e1 e2)
      generalize upd H6 t _ = H7 at k7 ht7 c1' c4' ⊢
      clear c1 c4 ht6 z1
      have B7 := B5.keepx ht5 nx k7
      have hob7 := B7.ob
      have hT17 := hT15.keepx ht5 k7
      have hT27 := hT2.keepx ht5 k7
      have f1 := B7.f
      have elf : (encD d.fu).length = (d.fu.map rowH).length := by unfold encD; rw [List.length_map, List.length_map]
      walk_at "st"
      refine ⟨(), DF, encD d.fu, d.fu.map rowH, rfl, f1, elf, by rw [List.length_map]; omega, fun G i t q x a b c => (dp_items G i t q x a b c).1, fun _ ts G p4 sG nts pG nP => ?_⟩
      have hT0 : Tups encR (upd G p4 (.lst (((zipS layT ts (d.fu.map rowH)).map (·.1)).map V.ref))) p4 ((zipS layT ts (d.fu.map rowH)).map (·.1)) ((d.fu.map rowH).mergeSort leN) :=
        tups_zipS ((Paired.length pG).trans elf) (fun i a r e1 e2 => by
          obtain ⟨y, y1, y2⟩ := LiI.paired_get pG e1
          have z := (dp_items (K := K) G i a y r y1 e2 y2).2
          exact (upd_ne (ne_of_none z nP)).trans z) upd_same
      have s8 := sG.trans (same_upd (o := .lst (((zipS layT ts (d.fu.map rowH)).map (·.1)).map V.ref)) nP)
      generalize upd G p4 (.lst (((zipS layT ts (d.fu.map rowH)).map (·.1)).map V.ref)) = H8 at hT0 s8 ⊢
      generalize (zipS layT ts (d.fu.map rowH)).map (·.1) = ps4 at hT0
      have ht8 := s8 _ _ ht7
      refine ⟨_, rfl, setF ht8 T.cl_Terms T.na_Terms_fund rfl ?_⟩
      have k9 : KeepX t H7 (upd H8 t _) := (keepX_of s8).set (o := .ins T.c_Terms dt (putF "fund" (.ref p4) [("houses", .ref p), ("instruments", .ref p2), ("scenarios", .ref D), ("fund", .ref A4), ("fee", .int 0), ("skin", .int 0)]))
      have ht9 : upd H8 t (.ins T.c_Terms dt (putF "fund" (.ref p4) [("houses", .ref p), ("instruments", .ref p2), ("scenarios", .ref D), ("fund", .ref A4), ("fee", .int 0), ("skin", .int 0)])) t = some (.ins T.c_Terms dt [("houses", .ref p), ("instruments", .ref p2), ("scenarios", .ref D), ("fund", .ref p4), ("fee", .int 0), ("skin", .int 0)]) := upd_same
      have hT4 := hT0.keepx ht8 (keepX_of (Same.refl _) |>.set (o := .ins T.c_Terms dt (putF "fund" (.ref p4) [("houses", .ref p), ("instruments", .ref p2), ("scenarios", .ref D), ("fund", .ref A4), ("fee", .int 0), ("skin", .int 0)])))
      generalize upd H8 t _ = H9 at k9 ht9 hT4 ⊢
      clear hT0 ht8 s8
      have B9 := B7.keepx ht7 nx k9
      have hob9 := B9.ob
      have hT19 := hT17.keepx ht7 k9
      have hT29 := hT27.keepx ht7 k9
      have c19 := k9 _ _ (fun y => by rw [y, ht7] at c1'; cases c1') c1'
      have c49 : ∀ (j : Nat) (a : Addr) (m : List Int), cs[j]? = some a → d.sc[j]? = some m → H9 a = some (.lst (m.map V.int)) := fun j a m e1 e2 => k9 _ _ (fun y => by have := c4' j a m e1 e2; rw [y, ht7] at this; cases this) (c4' j a m e1 e2)
      have ks : KeepX t H1 H9 := fun y o ny hy => k9 y o ny (k7 y o ny (k5 y o ny (k3 y o ny hy)))
      have done : ∀ (o1 o2 : HO), o2 = .ins T.c_Terms dt [("houses", .ref p), ("instruments", .ref p2), ("scenarios", .ref D), ("fund", .ref p4), ("fee", .int (d.fee.getD 0)), ("skin", .int (d.skin.getD 0))] → Q (.ref t) (upd (upd H9 t o1) t o2) := fun o1 o2 eo => by
        have kk : KeepX t H9 (upd (upd H9 t o1) t o2) := (keepX_of (Same.refl _)).set.set
        refine q () _ t dt p p2 D p4 (fun y o hy => ?_) nt ⟨upd_same.trans (congrArg some eo), ⟨_, hT19.keepx ht9 kk⟩, ⟨_, hT29.keepx ht9 kk⟩, ⟨cs, kk _ _ (fun y => by rw [y, ht9] at c19; cases c19) c19, c2, fun j a m e1 e2 => kk _ _ (fun y => by have := c49 j a m e1 e2; rw [y, ht9] at this; cases this) (c49 j a m e1 e2)⟩, ⟨_, hT4.keepx ht9 kk⟩⟩
        have ny := ne_of_none hy nt
        exact kk _ _ ny (ks _ _ ny (s1 _ _ hy))
      clear q
      generalize hfe : d.fee = fe at hob9 done
      generalize hsk : d.skin = sk at hob9 done
      cases fe with
      | none =>
        have hob10 := (upd_ne (o := .ins T.c_Terms dt (putF "fee" (.int 0) [("houses", .ref p), ("instruments", .ref p2), ("scenarios", .ref D), ("fund", .ref p4), ("fee", .int 0), ("skin", .int 0)])) nx).trans hob9
        cases sk with
        | none =>
          walk_at "st"
          exact done _ _ rfl
        | some m =>
          walk_at "st"
          exact done _ _ rfl
      | some n =>
        have hob10 := (upd_ne (o := .ins T.c_Terms dt (putF "fee" (optI (some n)) [("houses", .ref p), ("instruments", .ref p2), ("scenarios", .ref D), ("fund", .ref p4), ("fee", .int 0), ("skin", .int 0)])) nx).trans hob9
        cases sk with
        | none =>
          walk_at "st"
          exact done _ _ rfl
        | some m =>
          walk_at "st"
          exact done _ _ rfl

theorem nodup_le : ∀ {xs ys : List Str}, xs.Nodup → (∀ x, x ∈ xs → x ∈ ys) → xs.length ≤ ys.length
  | [], _, _, _ => Nat.zero_le _
  | x :: xs, ys, h, hs => by
    have h1 := List.nodup_cons.mp h
    have h2 := nodup_le (xs := xs) (ys := ys.erase x) h1.2 fun y hy => (List.mem_erase_of_ne (fun e => h1.1 (by rw [← e]; exact hy))).mpr (hs y (List.mem_cons_of_mem _ hy))
    have hx := hs x List.mem_cons_self
    have h3 := List.length_erase_of_mem hx
    have h4 := List.length_pos_of_mem hx
    rw [List.length_cons]
    omega
theorem drSz0 : DrSz ter0 := ⟨Nat.zero_le _, Nat.zero_le _, Nat.zero_le _, Nat.zero_le _, List.nodup_nil, List.nodup_nil, List.nodup_nil, fun x h => (by cases h), fun m h => (by cases h)⟩
theorem nodup_snoc {xs : List Str} {x : Str} (h : xs.Nodup) (n : x ∉ xs) : (xs ++ [x]).Nodup := List.nodup_append.mpr ⟨h, List.nodup_cons.mpr ⟨List.not_mem_nil, List.nodup_nil⟩, fun a ha b hb e => n (by rw [List.mem_singleton] at hb; rw [← hb, ← e]; exact ha)⟩
theorem houseP_iff {d d' : Ter} {n c : Str} : houseP d n c = some d' ↔ ∃ v, readN (TL.tl c) 0 1000000000 = some v ∧ (wordOf (TL.tl smallT) (TL.tl n) 12 = true ∧ n ∉ keysS d.hs ∧ d.hs.length ≠ 12) ∧ d' = { d with hs := d.hs ++ [(n, v)] } := by
  unfold houseP
  cases readN (TL.tl c) 0 1000000000 with
  | none => exact ⟨fun h => (by cases h), fun ⟨v, h, _⟩ => (by cases h)⟩
  | some v =>
    constructor
    · intro h
      dsimp only at h
      split at h
      · next z => cases h; exact ⟨v, rfl, z, rfl⟩
      · cases h
    · rintro ⟨u, h, z, rfl⟩
      cases h
      exact if_pos z
theorem insP_iff {d d' : Ter} {n a b c e : Str} : insP d n a b c e = some d' ↔ ∃ t l w r, (readN (TL.tl a) 1 10000 = some t ∧ readN (TL.tl b) 1 10000 = some l ∧ readN (TL.tl c) 0 1000000 = some w ∧ readN (TL.tl e) 1 1000000 = some r) ∧ (wordOf (TL.tl capT) (TL.tl n) 6 = true ∧ r % t = 0 ∧ n ∉ d.ins.map (·.1) ∧ d.ins.length ≠ 6 ∧ d.sc = []) ∧ d' = { d with ins := d.ins ++ [(n, [t, l, w, r])] } := by
  unfold insP
  cases readN (TL.tl a) 1 10000 with
  | none => exact ⟨fun h => (by cases h), fun ⟨_, _, _, _, h, _⟩ => (by cases h.1)⟩
  | some t =>
    cases readN (TL.tl b) 1 10000 with
    | none => exact ⟨fun h => (by cases h), fun ⟨_, _, _, _, h, _⟩ => (by cases h.2.1)⟩
    | some l =>
      cases readN (TL.tl c) 0 1000000 with
      | none => exact ⟨fun h => (by cases h), fun ⟨_, _, _, _, h, _⟩ => (by cases h.2.2.1)⟩
      | some w =>
        cases readN (TL.tl e) 1 1000000 with
        | none => exact ⟨fun h => (by cases h), fun ⟨_, _, _, _, h, _⟩ => (by cases h.2.2.2)⟩
        | some r =>
          unfold insQ
          constructor
          · intro h
            dsimp only at h
            split at h
            · next z => cases h; exact ⟨t, l, w, r, ⟨rfl, rfl, rfl, rfl⟩, z, rfl⟩
            · cases h
          · rintro ⟨t', l', w', r', ⟨h1, h2, h3, h4⟩, z, rfl⟩
            cases h1
            cases h2
            cases h3
            cases h4
            exact if_pos z
theorem scP_iff {d d' : Ter} {ws : List Str} : scP d ws = some d' ↔ ∃ ns, movesP ws = some ns ∧ (ns.length = d.ins.length ∧ ns ≠ [] ∧ d.sc.length ≠ 12) ∧ d' = { d with sc := d.sc ++ [ns] } := by
  unfold scP
  cases movesP ws with
  | none => exact ⟨fun h => (by cases h), fun ⟨v, h, _⟩ => (by cases h)⟩
  | some v =>
    constructor
    · intro h
      dsimp only at h
      split at h
      · next z => cases h; exact ⟨v, rfl, z, rfl⟩
      · cases h
    · rintro ⟨u, h, z, rfl⟩
      cases h
      exact if_pos z
theorem shareP_iff {d d' : Ter} {n c : Str} : shareP d n c = some d' ↔ ∃ v, readN (TL.tl c) 0 1000000000 = some v ∧ (n ∈ keysS d.hs ∧ n ∉ keysS d.fu) ∧ d' = { d with fu := d.fu ++ [(n, v)] } := by
  unfold shareP
  cases readN (TL.tl c) 0 1000000000 with
  | none => exact ⟨fun h => (by cases h), fun ⟨v, h, _⟩ => (by cases h)⟩
  | some v =>
    constructor
    · intro h
      dsimp only at h
      split at h
      · next z => cases h; exact ⟨v, rfl, z, rfl⟩
      · cases h
    · rintro ⟨u, h, z, rfl⟩
      cases h
      exact if_pos z
theorem feeP_iff {d d' : Ter} {c : Str} : feeP d c = some d' ↔ ∃ v, readN (TL.tl c) 0 1000000 = some v ∧ d.fee = none ∧ d' = { d with fee := some v } := by
  unfold feeP
  cases hf : d.fee with
  | some u => exact ⟨fun h => (by cases h), fun ⟨v, _, h, _⟩ => (by cases h)⟩
  | none =>
    cases readN (TL.tl c) 0 1000000 with
    | none => exact ⟨fun h => (by cases h), fun ⟨v, h, _⟩ => (by cases h)⟩
    | some v => exact ⟨fun h => ⟨v, rfl, rfl, (Option.some.inj h).symm⟩, fun ⟨u, h, _, e⟩ => (by cases h; rw [e])⟩
theorem skinP_iff {d d' : Ter} {c : Str} : skinP d c = some d' ↔ ∃ v, readN (TL.tl c) 0 1000000000 = some v ∧ d.skin = none ∧ d' = { d with skin := some v } := by
  unfold skinP
  cases hf : d.skin with
  | some u => exact ⟨fun h => (by cases h), fun ⟨v, _, h, _⟩ => (by cases h)⟩
  | none =>
    cases readN (TL.tl c) 0 1000000000 with
    | none => exact ⟨fun h => (by cases h), fun ⟨v, h, _⟩ => (by cases h)⟩
    | some v => exact ⟨fun h => ⟨v, rfl, rfl, (Option.some.inj h).symm⟩, fun ⟨u, h, _, e⟩ => (by cases h; rw [e])⟩
theorem keysS_snoc {d : List (Str × Int)} {n : Str} {v : Int} : keysS (d ++ [(n, v)]) = keysS d ++ [n] := by unfold keysS; rw [List.map_append]; rfl
theorem takeP_sz {d d' : Ter} {ws : List Str} (Z : DrSz d) (h : takeP d ws = some d') : DrSz d' := by
  obtain ⟨z1, z2, z3, z4, z5, z6, z7, z8, z9⟩ := Z
  unfold takeP at h
  split at h
  · obtain ⟨v, _, ⟨_, k1, k2⟩, rfl⟩ := houseP_iff.mp h
    exact ⟨by show (d.hs ++ [_]).length ≤ 12; rw [List.length_append, List.length_singleton]; omega, z2, z3, z4, by show (keysS (d.hs ++ [_])).Nodup; rw [keysS_snoc]; exact nodup_snoc z5 k1, z6, z7, fun x hx => by show x ∈ keysS (d.hs ++ [_]); rw [keysS_snoc]; exact List.mem_append_left _ (z8 x hx), z9⟩
  split at h
  · obtain ⟨t, l, w, r, _, ⟨_, _, k1, k2, _⟩, rfl⟩ := insP_iff.mp h
    exact ⟨z1, by show (d.ins ++ [_]).length ≤ 6; rw [List.length_append, List.length_singleton]; omega, z3, z4, z5, by show ((d.ins ++ [_]).map (fun x : RowN => x.1)).Nodup; rw [List.map_append]; exact nodup_snoc z6 k1, z7, z8, z9⟩
  split at h
  · obtain ⟨ns, _, ⟨k1, _, k2⟩, rfl⟩ := scP_iff.mp h
    refine ⟨z1, z2, by show (d.sc ++ [_]).length ≤ 12; rw [List.length_append, List.length_singleton]; omega, z4, z5, z6, z7, z8, fun m hm => ?_⟩
    rcases List.mem_append.mp hm with hm | hm
    · exact z9 m hm
    · rw [List.mem_singleton.mp hm, k1]; exact z2
  split at h
  · obtain ⟨v, _, ⟨k1, k2⟩, rfl⟩ := shareP_iff.mp h
    have nd : (keysS (d.fu ++ [(ws.getD 1 "", v)])).Nodup := by rw [keysS_snoc]; exact nodup_snoc z7 k2
    have sb : ∀ x, x ∈ keysS (d.fu ++ [(ws.getD 1 "", v)]) → x ∈ keysS d.hs := fun x hx => by
      rw [keysS_snoc] at hx
      rcases List.mem_append.mp hx with hx | hx
      · exact z8 x hx
      · rw [List.mem_singleton.mp hx]; exact k1
    have hl := nodup_le nd sb
    unfold keysS at hl
    rw [List.length_map, List.length_map] at hl
    exact ⟨z1, z2, z3, Nat.le_trans hl z1, z5, z6, nd, sb, z9⟩
  split at h
  · obtain ⟨v, _, _, rfl⟩ := feeP_iff.mp h
    exact ⟨z1, z2, z3, z4, z5, z6, z7, z8, z9⟩
  split at h
  · obtain ⟨v, _, _, rfl⟩ := skinP_iff.mp h
    exact ⟨z1, z2, z3, z4, z5, z6, z7, z8, z9⟩
  · cases h
theorem parse_step {n : Nat} {x : Str} {r : List Str} {d t : Ter} (h : parseLs n (x :: r) d = .ok t) : (skipL x = true ∧ parseLs (n + 1) r d = .ok t) ∨ (skipL x = false ∧ ∃ d', takeP d (wordsC x) = some d' ∧ parseLs (n + 1) r d' = .ok t) := by
  unfold parseLs at h
  cases hs : skipL x with
  | true =>
    rw [hs, if_pos rfl] at h
    exact .inl ⟨rfl, h⟩
  | false =>
    rw [hs, if_neg Bool.false_ne_true] at h
    cases hk : takeP d (wordsC x) with
    | none => rw [hk] at h; cases h
    | some d' => rw [hk] at h; exact .inr ⟨rfl, d', rfl, h⟩
theorem KeepL.sameN {S : List Addr} {H0 H H' : Hp} (e : Same H0 H) (k : KeepL S H H') (n : ∀ a, a ∈ S → H0 a = none) : Same H0 H' := fun z o hz => k z o (fun hm => by rw [n z hm] at hz; cases hz) (e z o hz)
def linesC (x : Str) : List Str := Txt.split x "\n"
theorem upd2_none {H : Hp} {a b c : Addr} {o p : HO} (h : upd (upd H a o) b p c = none) : H c = none ∧ c ≠ b := by
  by_cases e1 : c = b
  · rw [e1, upd_same] at h; cases h
  · rw [upd_ne e1] at h
    by_cases e2 : c = a
    · rw [e2, upd_same] at h; cases h
    · rw [upd_ne e2] at h
      exact ⟨h, e1⟩
structure ParI (C : Addr) (H : Hp) (x : Str) (z dz DH DI LS DF W : Addr) (ls : List Str) (t : Ter) (i : Nat) (σ : L2.St) (H' : Hp) : Prop where
  st : ∃ v2 v3 v4 : Option V, σ = [some (.str x), some (.ref z), v2, v3, v4]
  dr : ∃ d, Drf C H' z dz DH DI LS DF d ∧ DrSz d ∧ parseLs (1 + i) (ls.drop i) d = .ok t
  sm : Same H H'
  w : H' W = some (.lst (ls.map V.str))
theorem starts_hash (l : Str) : Txt.startswith l "#" = decide ((TL.tl l).take 1 = [35]) := by
  have e : Builtin.Str.subAt l "#" 0 = ((TL.tl l).take 1 == [35]) := by
    rw [PySem.StrLaws.subAt_eq, List.drop_zero] <;> rfl
  unfold Txt.startswith
  rw [e]
  by_cases h : (TL.tl l).take 1 = [35]
  · have hl : l.length = (TL.tl l).length := TL.len_tl l
    have h1 : 1 ≤ (TL.tl l).length := by
      have := congrArg List.length h
      rw [List.length_take] at this
      simp only [List.length_cons, List.length_nil] at this
      omega
    have ey : ("#" : Str).length = 1 := rfl
    rw [decide_eq_true h, beq_iff_eq.mpr h, ey, Bool.and_true]
    exact decide_eq_true (by omega)
  · rw [decide_eq_false h, beq_eq_false_iff_ne.mpr h, Bool.and_false]

def sp_parse_terms (K : PySem.W.Frag) (C C2 : Addr) : Sp := fun vs H Q _ => ∃ (_ : Unit) (x : Str) (d : Ter), vs = [.str x] ∧ x.length ≤ 100000 ∧ (linesC x).length ≤ 1000 ∧ (∀ l, l ∈ linesC x → l.length ≤ 900) ∧ parseLs 1 (linesC x) ter0 = .ok d ∧
  ∀ (_ : Unit) (H' : Hp) (t dt L1 L2 L3 L4 : Addr), Same H H' → H t = none → DrSz d → TerAt C2 H' t dt L1 L2 L3 L4 d → Q (.ref t) H'
set_option maxHeartbeats 0 in
theorem ok_parse_terms (T : Txt K mg) : FnOk P w K mg base CX0 6 T.f_parse_terms T.d_parse_terms ["text"] (sp_parse_terms K T.c_Draft T.c_Terms) := by
  refine T.F_parse_terms.ok sc_parse_terms (fun vs H Q E h => ?_) (fun cdv A outer s H vs Q E hr h => ?_)
  · obtain ⟨_, x, d, rfl, _⟩ := h
    rfl
  · obtain ⟨_, x, d, rfl, hx, hn, hls, hp, q⟩ := h
    have G_Draft_init : FnOk P w K mg base CX0 1 T.f_Draft_init T.d_Draft_init ["self"] (sp_Draft_init K T.c_Draft) := ok_Draft_init T
    have G_Draft_finished : FnOk P w K mg base CX0 3 T.f_Draft_finished T.d_Draft_finished ["self"] (sp_Draft_finished K T.c_Draft T.c_Terms) := ok_Draft_finished T
    have G_Draft_take : FnOk P w K mg base CX0 5 T.f_Draft_take T.d_Draft_take ["self", "words"] (sp_Draft_take K T.c_Draft) := ok_Draft_take T
    refine ⟨_, (pss_cons (ps_set (i := 1) sc_parse_terms.nd rfl (Or.inl rfl) (pe_make0 T.mk_Draft G_Draft_init (hr.mono (by decide)) (by rfl) T.m_Draft T.b_Draft_init .nil pass0))
    (pss_cons (ps_for PassesOwn.never rfl (pi_enumS (by rfl) T.z_enumerate (pa_cons (pe_splitAny (pv 0) pe_str) pa_nil) pe_int) (pg_tup rfl (pgs_cons (pg_name (i := 2) sc_parse_terms.nd rfl (Or.inl rfl)) (pgs_cons (pg_name (i := 3) sc_parse_terms.nd rfl (Or.inl rfl)) pgs_nil)))
      (pss_cons (ps_set (i := 4) sc_parse_terms.nd rfl (Or.inl rfl) (pe_and (pe_cmpR op_ne (pv 3) pe_str (nomark _)) (pe_one (pe_not (pe_m1 PySem.F.slot_str_startswith PySem.F.type_str_startswith mt_startswith (pv 3) pe_str)))))
      (pss_one (ps_if (PW.pt (pw_and (pt_val (pv 4)) (pw_and1 (pt_not (pt_val (pe_meth (pv 1) T.cl_Draft T.mt_Draft_take G_Draft_take hr T.b_Draft_take .nil pass0 (pa_cons (pe_splitAny (pv 3) pe_str) pa_nil)))))))
        (pss_one ps_never)
        pss_nil))))
    (pss_one (ps_ret (pe_meth0 (pv 1) T.cl_Draft T.mt_Draft_finished G_Draft_finished (hr.mono (by decide)) T.b_Draft_finished .nil pass0))))), ?_⟩
    have hxs : x.length + 2 ≤ sizeLine := by rw [sizeLine_eq]; omega
    walk_at "st"
    intro z dz nz ndz ndx
    refine ⟨z, dz, rfl, upd_same, fun DH DI LS DF H1 B1 k1 n1 => ⟨rfl, ?_⟩⟩
    have s1 : Same H H1 := fun y o hy => k1 y o (ne_of_none hy nz) ((upd_ne (ne_of_none hy nz)).trans ((upd_ne (ne_of_none hy ndz)).trans hy))
    have nS : ∀ a, a ∈ [z, DH, DI, LS, DF] → H a = none := fun a ha => by
      simp only [List.mem_cons, List.not_mem_nil, or_false] at ha
      rcases ha with e | e | e | e | e
      · rw [e]; exact nz
      · rw [e]; exact (upd2_none n1.1).1
      · rw [e]; exact (upd2_none n1.2.1).1
      · rw [e]; exact (upd2_none n1.2.2.1).1
      · rw [e]; exact (upd2_none n1.2.2.2).1
    have hob1 := B1.ob
    walk_at "st"
    refine ⟨⟨_, rfl⟩, .inl ⟨x, "\n", rfl, rfl, by decide +kernel, hxs, fun W nW => ?_⟩⟩
    have hls0 : Txt.split x "\n" = linesC x := rfl
    rw [hls0]
    clear hls0
    generalize linesC x = ls at hn hls hp ⊢
    have hW : upd H1 W (.lst (ls.map V.str)) W = some (.lst (ls.map V.str)) := upd_same
    have s2 : Same H1 (upd H1 W (.lst (ls.map V.str))) := same_upd nW
    have nWS : W ∉ [z, DH, DI, LS, DF] := fun hm => by
      simp only [List.mem_cons, List.not_mem_nil, or_false] at hm
      rcases hm with e | e | e | e | e
      · rw [e, hob1] at nW; cases nW
      · rw [e, B1.h] at nW; cases nW
      · obtain ⟨as, i1, _⟩ := B1.i; rw [e, i1] at nW; cases nW
      · obtain ⟨as, i1, _⟩ := B1.s; rw [e, i1] at nW; cases nW
      · rw [e, B1.f] at nW; cases nW
    generalize upd H1 W (.lst (ls.map V.str)) = H2 at hW s2 ⊢
    have hWS := SqL.of (K := K) hW
    have B2 := B1.same s2
    walk_at "st"
    refine for_enumS (K := K) (k := 1) (a := W) (xs := ls.map V.str) (fun i σ H' => ParI T.c_Draft H x z dz DH DI LS DF W ls d i σ H') ⟨⟨_, _, _, rfl⟩, ⟨ter0, B2, drSz0, hp⟩, s1.trans s2, hW⟩ (fun i σ H' _ p => SqL.of p.w) ?_ ?_
    · rintro i v σ H3 Tp hv ⟨⟨v2, v3, v4, rfl⟩, ⟨d3, B3, Z3, hp3⟩, s3, hW3⟩ nT
      rw [List.getElem?_map] at hv
      obtain ⟨l, hl, rfl⟩ := Option.map_eq_some_iff.mp hv
      have hll := hls l (List.mem_of_getElem? hl)
      have hil := (List.getElem?_eq_some_iff.mp hl).1
      rw [List.drop_eq_getElem_cons hil, show ls[i] = l from Option.some.inj ((List.getElem?_eq_getElem hil).symm.trans hl)] at hp3
      have s4 : Same H3 (upd H3 Tp (.tup [.int (1 + (i : Int)), .str l])) := same_upd nT
      have hT : upd H3 Tp (.tup [.int (1 + (i : Int)), .str l]) Tp = some (.tup [.int (1 + (i : Int)), .str l]) := upd_same
      have B4 := B3.same s4
      have hW4 := s4 _ _ hW3
      have s04 := s3.trans s4
      generalize upd H3 Tp (.tup [.int (1 + (i : Int)), .str l]) = H4 at hT B4 hW4 s04 ⊢
      clear s3 s4 hW3 B3 nT
      have hTS := SqT.of (K := K) hT
      walk_at "st"
      have hskip : skipL l = true → ParI T.c_Draft H x z dz DH DI LS DF W ls d (i + 1) [some (.str x), some (.ref z), some (.int (1 + (i : Int))), some (.str l), some (.bl false)] H4 := fun hs => by
        rcases parse_step hp3 with ⟨_, h2⟩ | ⟨h1, _⟩
        · exact ⟨⟨_, _, _, rfl⟩, ⟨d3, B4, Z3, by rw [show 1 + (i + 1) = 1 + i + 1 by omega]; exact h2⟩, s04, hW4⟩
        · rw [hs] at h1; cases h1
      refine iteB (fun h => ?_) (fun h => ?_)
      · have hl0 : l ≠ "" := fun e => by rw [e] at h; exact absurd h (by decide)
        walk_at "st"
        refine ⟨⟨_, rfl⟩, ?_⟩
        walk_at "st"
        generalize hsw : Txt.startswith l _ = sw
        have hsw2 : sw = decide ((TL.tl l).take 1 = [35]) := hsw.symm.trans (starts_hash l)
        cases sw with
        | true =>
          walk_at "st"
          refine iteB (fun h => by cases h) (fun _ => ?_)
          walk_at "st"
          exact hskip (decide_eq_true (.inr (of_decide_eq_true hsw2.symm)))
        | false =>
          have hk : skipL l = false := decide_eq_false fun y => y.elim hl0 (of_decide_eq_false hsw2.symm)
          rcases parse_step hp3 with ⟨h1, _⟩ | ⟨_, d', hd', h2⟩
          · rw [hk] at h1; cases h1
          obtain ⟨_, w2, w3⟩ := words_sz l
          have hob4 := B4.ob
          have hls1 : l.length + 2 ≤ sizeLine := by rw [sizeLine_eq]; omega
          walk_at "st"
          refine ⟨⟨_, rfl⟩, .inl ⟨l, " ", rfl, rfl, by decide +kernel, hls1, fun M nM => ?_⟩⟩
          have hM : upd H4 M (.lst ((wordsC l).map V.str)) M = some (.lst ((wordsC l).map V.str)) := upd_same
          have s5 : Same H4 (upd H4 M (.lst ((wordsC l).map V.str))) := same_upd nM
          have hwc : Txt.split l " " = wordsC l := rfl
          rw [hwc]
          generalize upd H4 M (.lst ((wordsC l).map V.str)) = H5 at hM s5 ⊢
          have B5 := B4.same s5
          have hob5 := B5.ob
          have s05 := s04.trans s5
          have hW5 := s5 _ _ hW4
          refine ⟨(), z, dz, DH, DI, LS, DF, M, d3, wordsC l, rfl, B5, Z3, SqL.of hM, by omega, fun y hy => Nat.le_trans (w3 y hy) (by omega), fun H6 k6 b6 => ?_⟩
          rw [hd'] at b6 ⊢
          walk_at "st"
          exact ⟨⟨_, _, _, rfl⟩, ⟨d', b6, takeP_sz Z3 hd', by rw [show 1 + (i + 1) = 1 + i + 1 by omega]; exact h2⟩, KeepL.sameN s05 k6 nS, k6 W _ nWS hW5⟩
      · have hl0 : l = "" := Classical.byContradiction fun e => by
          have e2 : ¬ V.str l = V.str "" := fun y => e (V.str.inj y)
          rw [decide_eq_false e2] at h
          cases h
        walk_at "st"
        refine iteB (fun h => absurd h (by decide)) (fun _ => ?_)
        walk_at "st"
        exact hskip (decide_eq_true (.inl hl0))
    · rintro σ H3 ⟨⟨v2, v3, v4, rfl⟩, ⟨d3, B3, Z3, hp3⟩, s3, hW3⟩
      rw [List.length_map, List.drop_length] at hp3
      have hob3 := B3.ob
      cases hp3
      walk_at "st"
      exact ⟨(), z, dz, DH, DI, LS, DF, d, rfl, B3, Z3, fun _ H' t dt L1 L2 L3 L4 e n b => q () H' t dt L1 L2 L3 L4 (s3.trans e) (none_same s3 n) Z3 b⟩

end
/-- the first n values of g -/
def rowI (n : Nat) (g : Nat → Int) : List Int := (List.range n).map g
theorem rowI_len (n : Nat) (g : Nat → Int) : (rowI n g).length = n := by
  unfold rowI
  rw [List.length_map, List.length_range]
theorem rowI_at {n : Nat} {g : Nat → Int} {i : Nat} (h : i < n) : (rowI n g)[i]? = some (g i) := by
  unfold rowI
  rw [List.getElem?_map, List.getElem?_range h]
  rfl
theorem atI_row {n : Nat} {g : Nat → Int} {i : Nat} (h : i < n) : atI ((rowI n g).map V.int) (i : Int) = some (.int (g i)) := by
  refine at_of (j := i) rfl ?_
  rw [List.getElem?_map, rowI_at h]
  rfl
theorem rowI_succ (n : Nat) (g : Nat → Int) : rowI (n + 1) g = rowI n g ++ [g n] := by
  unfold rowI
  rw [List.range_succ, List.map_append]
  rfl
theorem rowI_eq {n : Nat} {f g : Nat → Int} : rowI n f = rowI n g ↔ ∀ i, i < n → f i = g i := by
  unfold rowI
  rw [List.map_inj_left]
  exact ⟨fun h i hi => h i (List.mem_range.mpr hi), fun h i hi => h i (List.mem_range.mp hi)⟩

section
variable {P : Program} {w : World} {K : PySem.W.Frag} {mg : Str → Option Value} {base : Heap}
def sp_law_cell (K : PySem.W.Frag) : Sp := fun vs H Q _ => ∃ (a : Addr) (ns : List Int) (j : Nat), vs = [.ref a, .int j] ∧ SqL K H a (ns.map V.int) ∧ Q (.int (cellOf ns j)) H
set_option maxHeartbeats 0 in
theorem ok_law_cell (T : Txt K mg) : FnOk P w K mg base CX0 1 T.f_law_cell T.d_law_cell ["script", "k"] (sp_law_cell K) := by
  refine T.F_law_cell.ok sc_law_cell (fun vs H Q E h => ?_) (fun cdv A outer s H vs Q E hr h => ?_)
  · obtain ⟨a, ns, j, rfl, _⟩ := h
    rfl
  · obtain ⟨a, ns, j, rfl, hs, q⟩ := h
    refine ⟨_, (pss_cons (ps_if (pt_cmpR op_lt (pv 1) (pe_callB call_len_seq (by rfl) T.z_len PySem.boot_len (pa_cons (pv 0) pa_nil)) (nomark _))
      (pss_one (ps_ret (pe_ix ix_list (pv 0) (pv 1) (fun _ _ => rfl))))
      pss_nil)
    (pss_one (ps_ret pe_int))), ?_⟩
    walk_at "st"
    refine iteD (fun h => ?_) (fun h => ?_)
    · have hj : j < ns.length := by rw [List.length_map] at h; omega
      walk_at "st"
      exact ⟨atI_ints hj, q⟩
    · have hj : ¬ j < ns.length := by rw [List.length_map] at h; omega
      rw [cellOf_out hj] at q
      exact q

/-- the draws of a cell, one by one -/
def restB (size r : Int) : Nat → Int
  | 0 => r
  | k + 1 => restB size r k / size
def restS (r : Int) : Nat → Int
  | 0 => r
  | k + 1 => (restS r k * 48271 + (k : Int) * 69621 + 11) % 2147483647
def drawG (cell size : Int) (k : Nat) : Int :=
  if 1000000000000000000 ≤ (if cell < 0 then -cell else cell) then restB size (if cell < 0 then -cell else cell) k % size
  else (restS (if cell < 0 then -cell else cell) (k + 1) * 16807 + (k : Int)) % 2147483629 % size
theorem drawG_bound {cell size : Int} (h : 0 < size) (k : Nat) : 0 ≤ drawG cell size k ∧ drawG cell size k < size := by
  unfold drawG
  generalize (if cell < 0 then -cell else cell) = r
  split <;> exact ⟨Int.emod_nonneg _ (by omega), Int.emod_lt_of_pos _ h⟩
def sp_law_draws (K : PySem.W.Frag) : Sp := fun vs H Q _ => ∃ (cell : Int) (n : Nat) (size : Int), vs = [.int cell, .int (n : Int), .int size] ∧ n ≤ 1000 ∧ 0 < size ∧ size < 1073741824 ∧
  ∀ p H', Same H H' → H p = none → H' p = some (.lst ((rowI n (drawG cell size)).map V.int)) → Q (.ref p) H'
set_option maxHeartbeats 0 in
theorem ok_law_draws (T : Txt K mg) : FnOk P w K mg base CX0 1 T.f_law_draws T.d_law_draws ["cell", "count", "size"] (sp_law_draws K) := by
  refine T.F_law_draws.ok sc_law_draws (fun vs H Q E h => ?_) (fun cdv A outer s H vs Q E hr h => ?_)
  · obtain ⟨cell, n, size, rfl, _⟩ := h
    rfl
  · obtain ⟨cell, n, size, rfl, hn, h0, h1, q⟩ := h
    refine ⟨_, (pss_cons (ps_set (i := 3) sc_law_draws.nd rfl (Or.inl rfl) (pe_lst pa_nil))
    (pss_cons (ps_set (i := 4) sc_law_draws.nd rfl (Or.inl rfl) (pe_callB call_abs (by rfl) T.z_abs (by decide +kernel) (pa_cons (pv 0) pa_nil)))
    (pss_cons (ps_if (pt_cmpR op_ge (pv 4) pe_int (nomark _))
      (pss_cons (ps_for PassesOwn.never rfl (pi_range1 (by rfl) T.z_range (pa_cons (pv 1) pa_nil)) (pg_name (i := 5) sc_law_draws.nd rfl (Or.inl rfl))
        (pss_cons (ps_expr (pe_bm PySem.F.plainAttrs_list PySem.F.slot_list_append PySem.F.type_list_append mt_append (pv 3) (pa_cons (pe_op op_mod (pe_callTy call_int_i (by rfl) T.z_int (by decide +kernel) (pa_cons (pv 4) pa_nil)) (pv 2)) pa_nil)))
        (pss_one (ps_set (i := 4) sc_law_draws.nd rfl (Or.inl rfl) (pe_op op_fdiv (pv 4) (pv 2))))))
      (pss_one (ps_ret (pv 3))))
      pss_nil)
    (pss_cons (ps_for PassesOwn.never rfl (pi_range1 (by rfl) T.z_range (pa_cons (pv 1) pa_nil)) (pg_name (i := 5) sc_law_draws.nd rfl (Or.inl rfl))
      (pss_cons (ps_set (i := 4) sc_law_draws.nd rfl (Or.inl rfl) (pe_op op_mod (pe_callTy call_int_i (by rfl) T.z_int (by decide +kernel) (pa_cons (pe_op op_add (pe_op op_add (pe_op op_mul (pv 4) pe_int) (pe_op op_mul (pv 5) pe_int)) pe_int) pa_nil)) pe_int))
      (pss_one (ps_expr (pe_bm PySem.F.plainAttrs_list PySem.F.slot_list_append PySem.F.type_list_append mt_append (pv 3) (pa_cons (pe_op op_mod (pe_op op_mod (pe_callTy call_int_i (by rfl) T.z_int (by decide +kernel) (pa_cons (pe_op op_add (pe_op op_mul (pv 4) pe_int) (pv 5)) pa_nil)) pe_int) (pv 2)) pa_nil))))))
    (pss_one (ps_ret (pv 3))))))), ?_⟩
    walk_at "st"
    intro D nD
    walk_at "st"
    generalize hrest : (if cell < 0 then -cell else cell) = rest
    have hrest0 : 0 ≤ rest := by rw [← hrest]; split <;> omega
    have eD : (upd H D (.lst [])) D = some (.lst (([] : List Int).map V.int)) := upd_same
    have s1 : Same H (upd H D (.lst [])) := same_upd nD
    generalize upd H D (.lst []) = H1 at eD s1
    refine iteB (fun h => ?_) (fun h => ?_)
    · walk_at "st"
      refine for_range (lo := 0) (n := ((n : Int)).toNat) (fun i σ H' => ∃ (v5 : Option V) (r : Int), σ = [some (.int cell), some (.int (n : Int)), some (.int size), some (.ref D), some (.int r), v5] ∧ 0 ≤ r ∧ H' D = some (.lst ((rowI i (drawG cell size)).map V.int)) ∧ restB size rest i = r ∧ Same H H')
        ⟨none, rest, rfl, hrest0, eD, rfl, s1⟩ ?_ ?_
      · rintro i σ H' hi ⟨v5, r, rfl, hr0, hD, hrr, e⟩
        have hlt : ((rowI i (drawG cell size)).map V.int).length < sizeLine := small1000 (by rw [List.length_map, rowI_len]; omega)
        walk_at "st"
        refine ⟨some (.int (0 + (i : Int))), r / size, rfl, Int.ediv_nonneg hr0 (by omega), ?_, ?_, fun b o z => ?_⟩
        · have eg : drawG cell size i = r % size := by
            unfold drawG
            rw [hrest, if_pos (dec_t h), hrr]
          rw [upd_same, rowI_succ, List.map_append, eg]
          rfl
        · show restB size rest i / size = _
          rw [hrr]
        · rw [upd_ne (ne_of_none z nD)]
          exact e b o z
      · rintro σ H' ⟨v5, r, rfl, hr0, hD, hrr, e⟩
        walk_at "st"
        exact q D H' e nD (by rw [Int.toNat_natCast] at hD; exact hD)
    · walk_at "st"
      refine for_range (lo := 0) (n := ((n : Int)).toNat) (fun i σ H' => ∃ (v5 : Option V) (r : Int), σ = [some (.int cell), some (.int (n : Int)), some (.int size), some (.ref D), some (.int r), v5] ∧ 0 ≤ r ∧ H' D = some (.lst ((rowI i (drawG cell size)).map V.int)) ∧ restS rest i = r ∧ Same H H')
        ⟨none, rest, rfl, hrest0, eD, rfl, s1⟩ ?_ ?_
      · rintro i σ H' hi ⟨v5, r, rfl, hr0, hD, hrr, e⟩
        have hlt : ((rowI i (drawG cell size)).map V.int).length < sizeLine := small1000 (by rw [List.length_map, rowI_len]; omega)
        walk_at "st"
        refine ⟨some (.int (0 + (i : Int))), (r * 48271 + (0 + (i : Int)) * 69621 + 11) % 2147483647, rfl, Int.emod_nonneg _ (by decide), ?_, ?_, fun b o z => ?_⟩
        · have eg : drawG cell size i = ((r * 48271 + (0 + (i : Int)) * 69621 + 11) % 2147483647 * 16807 + (0 + (i : Int))) % 2147483629 % size := by
            unfold drawG
            rw [hrest, if_neg (dec_f h)]
            show ((restS rest i * 48271 + (i : Int) * 69621 + 11) % 2147483647 * 16807 + (i : Int)) % 2147483629 % size = _
            rw [hrr, Int.zero_add]
          rw [upd_same, rowI_succ, List.map_append, eg]
          rfl
        · show (restS rest i * 48271 + (i : Int) * 69621 + 11) % 2147483647 = _
          rw [hrr, Int.zero_add]
        · rw [upd_ne (ne_of_none z nD)]
          exact e b o z
      · rintro σ H' ⟨v5, r, rfl, hr0, hD, hrr, e⟩
        walk_at "st"
        exact q D H' e nD (by rw [Int.toNat_natCast] at hD; exact hD)

/-- a word of these letters -/
def OfL (ls x : Str) : Prop := ∀ c, c ∈ TL.tl x → c ∈ TL.tl ls
theorem atI_sgn {ls : Str} {d : Int} (h0 : 0 ≤ d) (h1 : d < ls.length) : ∃ c, atI ls.cps.toList d = some c ∧ c ∈ TL.tl ls := by
  have hl : (ls.length : Int) = (ls.cps.toList.length : Int) := congrArg Nat.cast (TL.len_tl ls)
  have hi : d.toNat < ls.cps.toList.length := by omega
  refine ⟨ls.cps.toList[d.toNat], ?_, List.getElem_mem hi⟩
  have hix : ixN ls.cps.toList.length d = some d.toNat := by
    unfold ixN
    rw [if_pos (by omega), if_pos (by omega)]
  unfold atI
  rw [hix]
  exact List.getElem?_eq_getElem hi
theorem joinE_len : ∀ ps : List (List Nat), (∀ p, p ∈ ps → p.length = 1) → (TL.joinL [] ps).length = ps.length
  | [], _ => rfl
  | [p], h => h p List.mem_cons_self
  | p :: q :: r, h => by
    show (p ++ ([] ++ TL.joinL [] (q :: r))).length = _
    have e1 := joinE_len (q :: r) fun x hx => h x (List.mem_cons_of_mem _ hx)
    have e2 := h p List.mem_cons_self
    rw [List.nil_append, List.length_append]
    simp only [List.length_cons] at e1 ⊢
    omega
theorem joinE_mem {c : Nat} : ∀ ps : List (List Nat), c ∈ TL.joinL [] ps → ∃ p, p ∈ ps ∧ c ∈ p
  | [], h => by cases h
  | [p], h => ⟨p, List.mem_cons_self, h⟩
  | p :: q :: r, h => by
    have h2 : c ∈ p ++ ([] ++ TL.joinL [] (q :: r)) := h
    rw [List.nil_append] at h2
    rcases List.mem_append.mp h2 with h2 | h2
    · exact ⟨p, List.mem_cons_self, h2⟩
    · obtain ⟨y, y1, y2⟩ := joinE_mem (q :: r) h2
      exact ⟨y, List.mem_cons_of_mem _ y1, y2⟩
theorem join_signs {ls : Str} {ys : List Str} (h : ∀ y, y ∈ ys → ∃ c, y = ⟨#[c]⟩ ∧ c ∈ TL.tl ls) : (Txt.join "" ys).length = ys.length ∧ OfL ls (Txt.join "" ys) := by
  have e : TL.tl (Txt.join "" ys) = TL.joinL [] (ys.map TL.tl) := by rw [(congrArg TL.tl (TL.join_eq "" ys)).trans (TL.tl_join "" ys)]; rfl
  constructor
  · rw [TL.len_tl, e, joinE_len, List.length_map]
    intro p hp
    obtain ⟨y, hy, rfl⟩ := List.mem_map.mp hp
    obtain ⟨c, rfl, _⟩ := h y hy
    rfl
  · intro c hc
    rw [e] at hc
    obtain ⟨p, hp, hcp⟩ := joinE_mem _ hc
    obtain ⟨y, hy, rfl⟩ := List.mem_map.mp hp
    obtain ⟨c', rfl, h'⟩ := h y hy
    rw [List.mem_singleton.mp (show c ∈ [c'] from hcp)]
    exact h'
theorem lens_le {m : Nat} : ∀ ys : List Str, (∀ y, y ∈ ys → y.length ≤ m) → (ys.map (fun x => x.length)).sum ≤ ys.length * m
  | [], _ => Nat.zero_le _
  | y :: r, h => by
    have h1 := lens_le r fun z hz => h z (List.mem_cons_of_mem _ hz)
    have h2 := h y List.mem_cons_self
    rw [List.map_cons, List.sum_cons, List.length_cons, Nat.succ_mul]
    omega
structure WdI (ls : Str) (H0 : Hp) (D : Addr) (i : Nat) (H : Hp) : Prop where
  e : Same H0 H
  ex : ∃ ys : List Str, H D = some (.lst (ys.map V.str)) ∧ ys.length = i ∧ ∀ y, y ∈ ys → ∃ c, y = ⟨#[c]⟩ ∧ c ∈ TL.tl ls
def sp_law_word (K : PySem.W.Frag) : Sp := fun vs H Q _ => ∃ (_ : Unit) (cell : Int) (ls : Str) (n : Nat), vs = [.int cell, .str ls, .int (n : Int)] ∧ n ≤ 20 ∧ 0 < ls.length ∧ ls.length ≤ 100 ∧ ∀ (y : Str) H', Same H H' → y.length = n → OfL ls y → Q (.str y) H'
set_option maxHeartbeats 0 in
theorem ok_law_word (T : Txt K mg) : FnOk P w K mg base CX0 2 T.f_law_word T.d_law_word ["cell", "letters", "size"] (sp_law_word K) := by
  refine T.F_law_word.ok sc_law_word (fun vs H Q E h => ?_) (fun cdv A outer s H vs Q E hr h => ?_)
  · obtain ⟨_, cell, ls, n, rfl, _⟩ := h
    rfl
  · obtain ⟨_, cell, ls, n, rfl, hn, hl0, hl, q⟩ := h
    have G_law_draws : FnOk P w K mg base CX0 1 T.f_law_draws T.d_law_draws ["cell", "count", "size"] (sp_law_draws K) := ok_law_draws T
    refine ⟨_, (pss_one (ps_ret (pe_join pe_str (pe_lc (own := [("k", 3)]) (g := gName 3) (tt := tYes) rfl sc_law_word.nd (pi_list (pe_call G_law_draws hr (by rfl) T.m_law_draws T.F_law_draws.kp T.b_law_draws .nil pass0 (pa_cons (pv 0) (pa_cons (pv 2) (pa_cons (pe_callB call_len_str (by rfl) T.z_len PySem.boot_len (pa_cons (pv 1) pa_nil)) pa_nil))))) (blkOk_by (own := [("k", 3)]) (N := N_law_word) (sc := defScope s_law_word) (by decide +kernel)) (fun _ _ _ _ _ => (pg_name (i := 3) sc_law_word.nd rfl (Or.inl rfl))) (fun _ _ _ _ _ => pts_nil) (fun _ _ _ _ _ => (pe_ix (show IxR _ rIxS from ix_str) (pv 1) (pv 3) (fun _ _ => rfl))))))), ?_⟩
    have hls : ls.length ≤ sizeLine := Nat.le_of_lt (small1000 (by omega))
    refine ⟨⟨_, rfl⟩, ?_⟩
    walk_at "st"
    intro p H1 s1 np hp
    have hps := SqL.of (K := K) hp
    walk_at "st"
    intro D nD
    refine lc_it (walk_list (xs := (rowI n (drawG cell (ls.length : Int))).map V.int) (a := p)) (WdI ls H1 D) ⟨same_upd nD, [], upd_same, rfl, fun y h => by cases h⟩ (fun i H' _ z => sqL_same hps z.e) ?_ ?_
    · rintro i v H2 H3 hi ⟨e2, ys, y1, y2, y3⟩ y
      obtain ⟨rfl, hv⟩ := y
      rw [List.getElem?_map] at hv
      obtain ⟨d, hd, rfl⟩ := Option.map_eq_some_iff.mp hv
      have hin : i < n := by have := (List.getElem?_eq_some_iff.mp hd).1; rwa [rowI_len] at this
      rw [rowI_at hin] at hd
      obtain ⟨d0, d1⟩ := drawG_bound (cell := cell) (size := (ls.length : Int)) (by omega) i
      rw [Option.some.inj hd] at d0 d1
      obtain ⟨c, hc, hcm⟩ := atI_sgn d0 d1
      refine ⟨rfl, ?_⟩
      walk_at "st"
      refine ⟨small1000 (by rw [List.length_map]; omega), same_over e2 nD, ys ++ [⟨#[c]⟩], by rw [upd_same, List.map_append]; rfl, by rw [List.length_append, y2]; rfl, fun y hy => ?_⟩
      rcases List.mem_append.mp hy with hy | hy
      · exact y3 y hy
      · exact ⟨c, List.mem_singleton.mp hy, hcm⟩
    · rintro H2 ⟨e2, ys, y1, y2, y3⟩
      rw [List.length_map, rowI_len] at y2
      have hys := SqL.of (K := K) y1
      obtain ⟨j1, j2⟩ := join_signs y3
      have hsum : (ys.map (fun x => x.length)).sum + ys.length * ("" : Str).length ≤ 16777216 := by
        have h1 := lens_le (m := 1) ys fun y hy => by
          obtain ⟨c, rfl, _⟩ := y3 y hy
          exact Nat.le_refl _
        have h2 : ("" : Str).length = 0 := rfl
        rw [h2]
        omega
      exact ⟨"", D, ys, rfl, rfl, .inl hys, hsum, q _ H2 (s1.trans e2) (j1.trans y2) j2⟩
structure NamI (ls : Str) (m : Nat) (H0 : Hp) (D : Addr) (i : Nat) (σ : L2.St) (st : List (Option V)) (H : Hp) : Prop where
  e : Same H0 H
  ex : ∃ ys : List Str, H D = some (.lst (ys.map V.str)) ∧ ys.length ≤ i ∧ (1 ≤ i → ys ≠ []) ∧ ys.Nodup ∧ ∀ y, y ∈ ys → OfL ls y ∧ 1 ≤ y.length ∧ y.length ≤ m
  sg : ∃ v5 v6 v7 : Option V, σ = st ++ [v5, v6, v7]
def sp_law_names (K : PySem.W.Frag) : Sp := fun vs H Q _ => ∃ (_ : Unit) (cell : Int) (n m : Nat) (ls : Str), vs = [.int cell, .int (n : Int), .str ls, .int (m : Int)] ∧ n ≤ 20 ∧ 1 ≤ m ∧ m ≤ 20 ∧ 0 < ls.length ∧ ls.length ≤ 100 ∧
  ∀ (_ : Unit) (p : Addr) (ys : List Str) H', Same H H' → H p = none → H' p = some (.lst (ys.map V.str)) → ys.length ≤ n → (1 ≤ n → ys ≠ []) → ys.Nodup → (∀ y, y ∈ ys → OfL ls y ∧ 1 ≤ y.length ∧ y.length ≤ m) → Q (.ref p) H'
set_option maxHeartbeats 0 in
theorem ok_law_names (T : Txt K mg) : FnOk P w K mg base CX0 3 T.f_law_names T.d_law_names ["cell", "count", "letters", "longest"] (sp_law_names K) := by
  refine T.F_law_names.ok sc_law_names (fun vs H Q E h => ?_) (fun cdv A outer s H vs Q E hr h => ?_)
  · obtain ⟨_, cell, n, m, ls, rfl, _⟩ := h
    rfl
  · obtain ⟨_, cell, n, m, ls, rfl, hn, hm1, hm, hl0, hl, q⟩ := h
    have G_law_word : FnOk P w K mg base CX0 2 T.f_law_word T.d_law_word ["cell", "letters", "size"] (sp_law_word K) := ok_law_word T
    refine ⟨_, (pss_cons (ps_set (i := 4) sc_law_names.nd rfl (Or.inl rfl) (pe_lst pa_nil))
    (pss_cons (ps_for PassesOwn.never rfl (pi_range1 (by rfl) T.z_range (pa_cons (pv 1) pa_nil)) (pg_name (i := 5) sc_law_names.nd rfl (Or.inl rfl))
      (pss_cons (ps_set (i := 6) sc_law_names.nd rfl (Or.inl rfl) (pe_op op_add pe_int (pe_op op_mod (pe_op op_fdiv (pe_callTy call_int_i (by rfl) T.z_int (by decide +kernel) (pa_cons (pv 0) pa_nil)) (pe_op op_add (pv 5) pe_int)) (pv 3))))
      (pss_cons (ps_set (i := 7) sc_law_names.nd rfl (Or.inl rfl) (pe_call G_law_word hr (by rfl) T.m_law_word T.F_law_word.kp T.b_law_word .nil pass0 (pa_cons (pe_op op_add (pv 0) (pe_op op_mul (pe_op op_mul pe_int (pv 5)) (pe_op op_add pe_int (pe_op op_mod (pe_callB call_abs (by rfl) T.z_abs (by decide +kernel) (pa_cons (pv 0) pa_nil)) pe_int)))) (pa_cons (pv 2) (pa_cons (pv 6) pa_nil)))))
      (pss_one (ps_if (pt_cmpR op_notIn_seq (pv 7) (pv 4) rfl)
        (pss_one (ps_expr (pe_bm PySem.F.plainAttrs_list PySem.F.slot_list_append PySem.F.type_list_append mt_append (pv 4) (pa_cons (pv 7) pa_nil))))
        pss_nil)))))
    (pss_one (ps_ret (pv 4))))), ?_⟩
    walk_at "st"
    intro D nD
    walk_at "st"
    refine for_range (lo := 0) (n := ((n : Int)).toNat) (fun i σ H' => NamI ls m H D i σ [some (.int cell), some (.int (n : Int)), some (.str ls), some (.int (m : Int)), some (.ref D)] H') ⟨same_upd nD, ⟨[], upd_same, Nat.le_refl _, fun h => by omega, List.nodup_nil, fun y h => by cases h⟩, _, _, _, rfl⟩ ?_ ?_
    · rintro i σ H1 hi ⟨e1, ⟨ys, y1, y2, y3, y4, y5⟩, v5, v6, v7, rfl⟩
      walk_at "st"
      rw [Int.toNat_natCast] at hi
      have d0 := Int.emod_nonneg (cell / (0 + (i : Int) + 1)) (show (m : Int) ≠ 0 by omega)
      have d1 := Int.emod_lt_of_pos (cell / (0 + (i : Int) + 1)) (show (0 : Int) < m by omega)
      obtain ⟨k, hk⟩ : ∃ k : Nat, 1 + cell / (0 + (i : Int) + 1) % (m : Int) = (k : Int) := ⟨(1 + cell / (0 + (i : Int) + 1) % (m : Int)).toNat, by omega⟩
      refine ⟨(), _, ls, k, (by show [V.int _, V.str ls, V.int (1 + cell / (0 + (i : Int) + 1) % (m : Int))] = _; rw [hk]), by omega, hl0, hl, fun y H2 s2 hyl hyo => ?_⟩
      have z1 := s2 _ _ y1
      have hzs := SqL.of (K := K) z1
      have hfl : (ys.map V.str).all flatV = true := by
        rw [List.all_eq_true]
        intro v hv
        obtain ⟨u, _, rfl⟩ := List.mem_map.mp hv
        rfl
      have hin : inV (.str y) (ys.map V.str) = decide (y ∈ ys) := by
        unfold inV
        rw [List.any_map]
        by_cases hm : y ∈ ys
        · rw [decide_eq_true hm]
          exact List.any_eq_true.mpr ⟨y, hm, beq_self_eq_true y⟩
        · rw [decide_eq_false hm]
          exact List.any_eq_false.mpr fun u hu hb => hm (by rw [← beq_iff_eq.mp hb]; exact hu)
      have hlt : (ys.map V.str).length < sizeLine := small1000 (by rw [List.length_map]; omega)
      walk_at "st"
      by_cases hm : y ∈ ys
      · rw [decide_eq_true hm] at hin
        refine iteB (fun h => ?_) (fun _ => ?_)
        · rw [hin] at h; cases h
        walk_at "st"
        exact ⟨e1.trans s2, ⟨ys, z1, by omega, (fun _ e => by rw [e] at hm; cases hm), y4, y5⟩, _, _, _, rfl⟩
      · rw [decide_eq_false hm] at hin
        refine iteB (fun _ => ?_) (fun h => ?_)
        · walk_at "st"
          refine ⟨same_over (e1.trans s2) nD, ⟨ys ++ [y], by rw [upd_same, List.map_append]; rfl, by rw [List.length_append, List.length_singleton]; omega, fun _ => by simp, nodup_snoc y4 hm, fun u hu => ?_⟩, _, _, _, rfl⟩
          rcases List.mem_append.mp hu with hu | hu
          · exact y5 u hu
          · rw [List.mem_singleton.mp hu]
            exact ⟨hyo, by omega, by omega⟩
        · rw [hin] at h; cases h
    · rintro σ H1 ⟨e1, ⟨ys, y1, y2, y3, y4, y5⟩, v5, v6, v7, rfl⟩
      rw [Int.toNat_natCast] at y2 y3
      walk_at "st"
      exact q () D ys H1 e1 nD y1 y2 y3 y4 y5
theorem pick_at {ns : List Int} {d : Int} (h0 : 0 ≤ d) (h1 : d < ns.length) : ∃ v, v ∈ ns ∧ atI (ns.map V.int) d = some (.int v) := by
  have hi : d.toNat < ns.length := by omega
  refine ⟨ns[d.toNat], List.getElem_mem hi, ?_⟩
  have hix : ixN (ns.map V.int).length d = some d.toNat := by
    unfold ixN
    rw [List.length_map, if_pos (by omega), if_pos (by omega)]
  unfold atI
  rw [hix]
  show (ns.map V.int)[d.toNat]? = _
  rw [List.getElem?_map, List.getElem?_eq_getElem hi]
  rfl
theorem abs_nn (c : Int) : 0 ≤ (if c < 0 then -c else c) := by split <;> omega
/-- a number below size -/
def sp_law_number (K : PySem.W.Frag) : Sp := fun vs H Q _ => ∃ (_ : Unit) (cell size : Int), vs = [.int cell, .int size] ∧ 2 ≤ size ∧ size ≤ 1000000007 ∧ ∀ (v : Int) H', Same H H' → 0 ≤ v → v < size → Q (.int v) H'
set_option maxHeartbeats 0 in
theorem ok_law_number (T : Txt K mg) : FnOk P w K mg base CX0 1 T.f_law_number T.d_law_number ["cell", "size"] (sp_law_number K) := by
  refine T.F_law_number.ok sc_law_number (fun vs H Q E h => ?_) (fun cdv A outer s H vs Q E hr h => ?_)
  · obtain ⟨_, cell, size, rfl, _⟩ := h
    rfl
  · obtain ⟨_, cell, size, rfl, h2, hs, q⟩ := h
    refine ⟨_, (pss_one (ps_ret (pe_ix ix_list (pe_lst (pa_cons pe_int (pa_cons pe_int (pa_cons (pe_op op_sub (pv 1) pe_int) (pa_cons (pe_op op_mod (pe_op op_fdiv (pe_callB call_abs (by rfl) T.z_abs (by decide +kernel) (pa_cons (pv 0) pa_nil)) pe_int) (pv 1)) (pa_cons (pe_op op_mod (pe_op op_fdiv (pe_callB call_abs (by rfl) T.z_abs (by decide +kernel) (pa_cons (pv 0) pa_nil)) pe_int) (pe_callB (call_min2 rfl) (by rfl) T.z_min (by decide +kernel) (pa_cons (pv 1) (pa_cons pe_int pa_nil)))) pa_nil)))))) (pe_op op_mod (pe_callB call_abs (by rfl) T.z_abs (by decide +kernel) (pa_cons (pv 0) pa_nil)) pe_int) (fun _ _ => rfl)))), ?_⟩
    walk_at "st"
    intro p np
    generalize hr : (if cell < 0 then -cell else cell) = r
    have r0 : 0 ≤ r := by rw [← hr]; exact abs_nn cell
    have e1 : ∀ z : Int, 0 < z → 0 ≤ r / 7 % z ∧ r / 7 % z < z := fun z hz => ⟨Int.emod_nonneg _ (by omega), Int.emod_lt_of_pos _ hz⟩
    obtain ⟨v, hv, ha⟩ := pick_at (ns := [0, 1, size - 1, r / 7 % size, r / 7 % (if 50 < size then 50 else size)]) (d := r % 5) (Int.emod_nonneg _ (by decide)) (Int.emod_lt_of_pos _ (by decide))
    have hb : 0 ≤ v ∧ v < size := by
      have e2 := e1 size (by omega)
      have e3 := e1 (if 50 < size then 50 else size) (by split <;> omega)
      have e4 : (if 50 < size then (50 : Int) else size) ≤ size := by split <;> omega
      generalize (if 50 < size then (50 : Int) else size) = u at hv e3 e4
      generalize r / 7 % u = y at hv e3
      generalize r / 7 % size = y2 at hv e2
      simp only [List.mem_cons, List.not_mem_nil, or_false] at hv
      omega
    have hS : SqL K (upd H p (.lst ([0, 1, size - 1, r / 7 % size, r / 7 % (if 50 < size then 50 else size)].map V.int))) p ([0, 1, size - 1, r / 7 % size, r / 7 % (if 50 < size then 50 else size)].map V.int) := SqL.of upd_same
    have s1 : Same H (upd H p (.lst ([0, 1, size - 1, r / 7 % size, r / 7 % (if 50 < size then 50 else size)].map V.int))) := same_upd np
    walk_at "st"
    exact ⟨by rw [hr]; exact ha, q v _ s1 hb.1 hb.2⟩
def sp_law_move (K : PySem.W.Frag) : Sp := fun vs H Q _ => ∃ (_ : Unit) (cell : Int), vs = [.int cell] ∧ ∀ (v : Int) H', Same H H' → -1000000 ≤ v → v ≤ 1000000 → Q (.int v) H'
set_option maxHeartbeats 0 in
theorem ok_law_move (T : Txt K mg) : FnOk P w K mg base CX0 1 T.f_law_move T.d_law_move ["cell"] (sp_law_move K) := by
  refine T.F_law_move.ok sc_law_move (fun vs H Q E h => ?_) (fun cdv A outer s H vs Q E hr h => ?_)
  · obtain ⟨_, cell, rfl, _⟩ := h
    rfl
  · obtain ⟨_, cell, rfl, q⟩ := h
    refine ⟨_, (pss_one (ps_ret (pe_ix ix_list (pe_lst (pa_cons (pe_un un_neg pe_int) (pa_cons pe_int (pa_cons pe_int (pa_cons (pe_op op_sub (pe_un un_neg pe_int) (pe_op op_mod (pe_op op_fdiv (pe_callB call_abs (by rfl) T.z_abs (by decide +kernel) (pa_cons (pv 0) pa_nil)) pe_int) pe_int)) (pa_cons (pe_op op_mod (pe_op op_fdiv (pe_callB call_abs (by rfl) T.z_abs (by decide +kernel) (pa_cons (pv 0) pa_nil)) pe_int) pe_int) pa_nil)))))) (pe_op op_mod (pe_callB call_abs (by rfl) T.z_abs (by decide +kernel) (pa_cons (pv 0) pa_nil)) pe_int) (fun _ _ => rfl)))), ?_⟩
    walk_at "st"
    intro p np
    generalize hr : (if cell < 0 then -cell else cell) = r
    have r0 : 0 ≤ r := by rw [← hr]; exact abs_nn cell
    have e1 : ∀ z : Int, 0 < z → 0 ≤ r / 7 % z ∧ r / 7 % z < z := fun z hz => ⟨Int.emod_nonneg _ (by omega), Int.emod_lt_of_pos _ hz⟩
    obtain ⟨v, hv, ha⟩ := pick_at (ns := [-1000000, 1000000, 0, -1 - r / 7 % 999, r / 7 % 1000001]) (d := r % 5) (Int.emod_nonneg _ (by decide)) (Int.emod_lt_of_pos _ (by decide))
    have hb : -1000000 ≤ v ∧ v ≤ 1000000 := by
      have e2 := e1 999 (by decide)
      have e3 := e1 1000001 (by decide)
      generalize r / 7 % 999 = y at hv e2
      generalize r / 7 % 1000001 = y2 at hv e3
      simp only [List.mem_cons, List.not_mem_nil, or_false] at hv
      omega
    have hS : SqL K (upd H p (.lst ([-1000000, 1000000, 0, -1 - r / 7 % 999, r / 7 % 1000001].map V.int))) p ([-1000000, 1000000, 0, -1 - r / 7 % 999, r / 7 % 1000001].map V.int) := SqL.of upd_same
    have s1 : Same H (upd H p (.lst ([-1000000, 1000000, 0, -1 - r / 7 % 999, r / 7 % 1000001].map V.int))) := same_upd np
    walk_at "st"
    exact ⟨by rw [hr]; exact ha, q v _ s1 hb.1 hb.2⟩
/-- a number as a text -/
def numS (n : Int) : Str := Str.ofString (toString n)
def sp_law_instrument (K : PySem.W.Frag) : Sp := fun vs H Q _ => ∃ (_ : Unit) (name : Str) (cell : Int), vs = [.str name, .int cell] ∧ ∀ (_ : Unit) (p : Addr) H' (t l b r : Int), Same H H' → H p = none → H' p = some (.lst ((name :: [t, l, b, r].map numS).map V.str)) →
  (1 ≤ t ∧ t ≤ 10000) → (1 ≤ l ∧ l ≤ 10000) → (0 ≤ b ∧ b ≤ 1000000) → (1 ≤ r ∧ r ≤ 1000000) → r % t = 0 → Q (.ref p) H'
set_option maxHeartbeats 0 in
theorem ok_law_instrument (T : Txt K mg) : FnOk P w K mg base CX0 2 T.f_law_instrument T.d_law_instrument ["name", "cell"] (sp_law_instrument K) := by
  refine T.F_law_instrument.ok sc_law_instrument (fun vs H Q E h => ?_) (fun cdv A outer s H vs Q E hr h => ?_)
  · obtain ⟨_, name, cell, rfl, _⟩ := h
    rfl
  · obtain ⟨_, name, cell, rfl, q⟩ := h
    have G_law_draws : FnOk P w K mg base CX0 1 T.f_law_draws T.d_law_draws ["cell", "count", "size"] (sp_law_draws K) := ok_law_draws T
    have G_law_number : FnOk P w K mg base CX0 1 T.f_law_number T.d_law_number ["cell", "size"] (sp_law_number K) := ok_law_number T
    refine ⟨_, (pss_cons (ps_set (i := 2) sc_law_instrument.nd rfl (Or.inl rfl) (pe_call G_law_draws hr (by rfl) T.m_law_draws T.F_law_draws.kp T.b_law_draws .nil pass0 (pa_cons (pv 1) (pa_cons pe_int (pa_cons pe_int pa_nil)))))
    (pss_cons (ps_set (i := 3) sc_law_instrument.nd rfl (Or.inl rfl) (pe_op op_add pe_int (pe_call G_law_number hr (by rfl) T.m_law_number T.F_law_number.kp T.b_law_number .nil pass0 (pa_cons (pe_ix ix_list (pv 2) pe_int (fun _ _ => rfl)) (pa_cons pe_int pa_nil)))))
    (pss_cons (ps_set (i := 4) sc_law_instrument.nd rfl (Or.inl rfl) (pe_op op_mul (pv 3) (pe_op op_add pe_int (pe_op op_mod (pe_ix ix_list (pv 2) pe_int (fun _ _ => rfl)) (pe_op op_fdiv pe_int (pv 3))))))
    (pss_cons (ps_set (i := 5) sc_law_instrument.nd rfl (Or.inl rfl) (pe_op op_add pe_int (pe_call G_law_number hr (by rfl) T.m_law_number T.F_law_number.kp T.b_law_number .nil pass0 (pa_cons (pe_ix ix_list (pv 2) pe_int (fun _ _ => rfl)) (pa_cons pe_int pa_nil)))))
    (pss_one (ps_ret (pe_lst (pa_cons (pv 0) (pa_cons (pe_callTy call_str_int (by rfl) T.z_str (by decide +kernel) (pa_cons (pv 3) pa_nil)) (pa_cons (pe_callTy call_str_int (by rfl) T.z_str (by decide +kernel) (pa_cons (pv 5) pa_nil)) (pa_cons (pe_callTy call_str_int (by rfl) T.z_str (by decide +kernel) (pa_cons (pe_call G_law_number hr (by rfl) T.m_law_number T.F_law_number.kp T.b_law_number .nil pass0 (pa_cons (pe_ix ix_list (pv 2) pe_int (fun _ _ => rfl)) (pa_cons pe_int pa_nil))) pa_nil)) (pa_cons (pe_callTy call_str_int (by rfl) T.z_str (by decide +kernel) (pa_cons (pv 4) pa_nil)) pa_nil)))))))))))), ?_⟩
    walk_at "st"
    intro p H1 s1 np hp
    have hps := SqL.of (K := K) hp
    have a0 : atI ((rowI 5 (drawG cell 1000001)).map V.int) 0 = some (.int (drawG cell 1000001 0)) := atI_row (i := 0) (by decide)
    have a1 : atI ((rowI 5 (drawG cell 1000001)).map V.int) 1 = some (.int (drawG cell 1000001 1)) := atI_row (i := 1) (by decide)
    have a2 : atI ((rowI 5 (drawG cell 1000001)).map V.int) 2 = some (.int (drawG cell 1000001 2)) := atI_row (i := 2) (by decide)
    have a3 : atI ((rowI 5 (drawG cell 1000001)).map V.int) 3 = some (.int (drawG cell 1000001 3)) := atI_row (i := 3) (by decide)
    have d1 := drawG_bound (cell := cell) (size := 1000001) (by decide) 1
    generalize drawG cell 1000001 0 = x0 at a0
    generalize drawG cell 1000001 1 = x1 at a1 d1
    generalize drawG cell 1000001 2 = x2 at a2
    generalize drawG cell 1000001 3 = x3 at a3
    walk_at "st"
    refine ⟨(), x0, 10000, rfl, by decide, by decide, fun t0 H2 s2 t1 t2 => ?_⟩
    have hps2 := sqL_same hps s2
    have qd0 : 100 ≤ 1000000 / (1 + t0) := Int.le_ediv_of_mul_le (by omega) (by omega)
    have qd1 : 1000000 / (1 + t0) ≤ 1000000 := Int.ediv_le_self _ (by decide)
    have m0 := Int.emod_nonneg x1 (show 1000000 / (1 + t0) ≠ 0 by omega)
    have m1 := Int.emod_lt_of_pos x1 (show 0 < 1000000 / (1 + t0) by omega)
    walk_at "st"
    have hR1 : (1 + t0) * (1 + x1 % (1000000 / (1 + t0))) ≤ 1000000 := Int.le_trans (Int.mul_le_mul_of_nonneg_left (show 1 + x1 % (1000000 / (1 + t0)) ≤ 1000000 / (1 + t0) by omega) (by omega)) (Int.mul_ediv_self_le (by omega))
    have hR0 : 1 ≤ (1 + t0) * (1 + x1 % (1000000 / (1 + t0))) := Int.mul_pos (show (0 : Int) < 1 + t0 by omega) (show (0 : Int) < 1 + x1 % (1000000 / (1 + t0)) by omega)
    have hRm : (1 + t0) * (1 + x1 % (1000000 / (1 + t0))) % (1 + t0) = 0 := Int.mul_emod_right ..
    have gr : ((1 + t0) * (1 + x1 % (1000000 / (1 + t0)))).natAbs.log2 < 1920 := by
      clear m0 m1 qd0 qd1 hRm
      generalize (1 + t0) * (1 + x1 % (1000000 / (1 + t0))) = R at hR1 hR0 ⊢
      exact natAbs_log (k := 100) (by omega) (by decide) (by decide)
    refine ⟨(), x2, 10000, rfl, by decide, by decide, fun l0 H3 s3 l1 l2 => ?_⟩
    have hps3 := sqL_same hps2 s3
    have gt : (1 + t0).natAbs.log2 < 1920 := natAbs_log (k := 100) (by omega) (by decide) (by decide)
    have gl : (1 + l0).natAbs.log2 < 1920 := natAbs_log (k := 100) (by omega) (by decide) (by decide)
    walk_at "st"
    refine ⟨(), x3, 1000001, rfl, by decide, by decide, fun b0 H4 s4 b1 b2 => ?_⟩
    have gb : b0.natAbs.log2 < 1920 := natAbs_log (k := 100) (by omega) (by decide) (by decide)
    walk_at "st"
    intro z nz
    exact q () z _ (1 + t0) (1 + l0) b0 ((1 + t0) * (1 + x1 % (1000000 / (1 + t0)))) (same_over (((s1.trans s2).trans s3).trans s4) (none_same (((s1.trans s2).trans s3).trans s4) nz)) (none_same (((s1.trans s2).trans s3).trans s4) nz) upd_same (by omega) (by omega) (by omega) ⟨hR0, hR1⟩ hRm

end
/-! ### rows of words -/
abbrev rowV (r : List Str) : List V := r.map V.str
structure Lsts {α : Type} (enc : α → List V) (H : Hp) (l : Addr) (ps : List Addr) (xs : List α) : Prop where
  lst : H l = some (.lst (ps.map V.ref))
  len : ps.length = xs.length
  row : ∀ (i : Nat) (p : Addr) (x : α), ps[i]? = some p → xs[i]? = some x → H p = some (.lst (enc x))
  ne : l ∉ ps
theorem Lsts.nil {α : Type} {enc : α → List V} {H : Hp} {l : Addr} (h : H l = some (.lst [])) : Lsts enc H l [] ([] : List α) := ⟨h, rfl, fun _ _ _ e => (by rw [List.getElem?_nil] at e; cases e), List.not_mem_nil⟩
theorem Lsts.same {α : Type} {enc : α → List V} {H H' : Hp} {l : Addr} {ps : List Addr} {xs : List α} (h : Lsts enc H l ps xs) (e : Same H H') : Lsts enc H' l ps xs := ⟨e _ _ h.lst, h.len, fun i p x a b => e _ _ (h.row i p x a b), h.ne⟩
theorem Lsts.push {α : Type} {enc : α → List V} {H G : Hp} {l q : Addr} {ps : List Addr} {xs : List α} {x : α} (h : Lsts enc H l ps xs) (e : Same H G) (nq : q ≠ l) (hq : G q = some (.lst (enc x))) : Lsts enc (upd G l (.lst (ps.map V.ref ++ [V.ref q]))) l (ps ++ [q]) (xs ++ [x]) := by
  refine ⟨by rw [upd_same, List.map_append]; rfl, by rw [List.length_append, List.length_append, h.len]; rfl, fun i p y h1 h2 => ?_, fun z => ?_⟩
  · rcases at_snoc h1 with ⟨k1, k2⟩ | ⟨k1, k2⟩
    · rcases at_snoc h2 with ⟨k3, k4⟩ | ⟨k3, k4⟩
      · exact (upd_ne fun z => h.ne (by rw [← z]; exact List.mem_of_getElem? k2)).trans (e _ _ (h.row i p y k2 k4))
      · have := h.len; omega
    · rcases at_snoc h2 with ⟨k3, k4⟩ | ⟨k3, k4⟩
      · have := h.len; omega
      · rw [k2, k4]
        exact (upd_ne nq).trans hq
  · rcases List.mem_append.mp z with z | z
    · exact h.ne z
    · exact nq (List.mem_singleton.mp z).symm
theorem Lsts.at {α : Type} {enc : α → List V} {H : Hp} {l : Addr} {ps : List Addr} {xs : List α} (h : Lsts enc H l ps xs) {i : Nat} {x : α} (e : xs[i]? = some x) : ∃ p, ps[i]? = some p ∧ atI (ps.map V.ref) (i : Int) = some (.ref p) ∧ H p = some (.lst (enc x)) := by
  have hi := (List.getElem?_eq_some_iff.mp e).1
  have hl : i < ps.length := by rw [h.len]; exact hi
  refine ⟨ps[i], List.getElem?_eq_getElem hl, at_of (j := i) rfl ?_, h.row i _ x (List.getElem?_eq_getElem hl) e⟩
  rw [List.getElem?_map, List.getElem?_eq_getElem hl]
  rfl
def hrow (x : Str × Int) : List Str := ["house", x.1, numS x.2]
def irow (r : RowN) : List Str := "instrument" :: r.1 :: r.2.map numS
def srow (m : List Int) : List Str := "scenario" :: m.map numS
def frow (x : Str × Int) : List Str := ["fund", x.1, numS x.2]
def orow (w : Str) : Option Int → List (List Str)
  | none => []
  | some v => [[w, numS v]]
def rowsT (t : Ter) : List (List Str) := t.hs.map hrow ++ t.ins.map irow ++ t.sc.map srow ++ t.fu.map frow ++ orow "fee" t.fee ++ orow "skin" t.skin
def GH (x : Str × Int) : Prop := wordOf (TL.tl smallT) (TL.tl x.1) 12 = true ∧ 0 ≤ x.2 ∧ x.2 ≤ 1000000000
def GI (r : RowN) : Prop := wordOf (TL.tl capT) (TL.tl r.1) 6 = true ∧ ∃ a l b c : Int, r.2 = [a, l, b, c] ∧ (1 ≤ a ∧ a ≤ 10000) ∧ (1 ≤ l ∧ l ≤ 10000) ∧ (0 ≤ b ∧ b ≤ 1000000) ∧ (1 ≤ c ∧ c ≤ 1000000) ∧ c % a = 0
structure GTer (t : Ter) : Prop where
  hs : ∀ x, x ∈ t.hs → GH x
  hl : t.hs.length ≤ 12
  h1 : t.hs ≠ []
  hn : (keysS t.hs).Nodup
  ins : ∀ r, r ∈ t.ins → GI r
  il : t.ins.length ≤ 6
  inn : (t.ins.map (fun r : RowN => r.1)).Nodup
  sc : ∀ m, m ∈ t.sc → m.length = t.ins.length ∧ ∀ v, v ∈ m → -1000000 ≤ v ∧ v ≤ 1000000
  sl : t.sc.length ≤ 12
  s0 : t.ins = [] → t.sc = []
  fu : ∀ x, x ∈ t.fu → x.1 ∈ keysS t.hs ∧ 0 ≤ x.2 ∧ x.2 ≤ 1000000000
  fn : (keysS t.fu).Nodup
  fl : t.fu.length ≤ 12
  fee : ∀ v, t.fee = some v → 0 ≤ v ∧ v ≤ 1000000
  skin : ∀ v, t.skin = some v → 0 ≤ v ∧ v ≤ 1000000000
/-- while rows are written -/
structure RwI (X : Hp) (D : Addr) (φ : List (List Str) → Prop) (st : List (Option V)) (n : Nat) (σ : L2.St) (H : Hp) : Prop where
  k : KeepL [D] X H
  ex : ∃ (ps : List Addr) (R : List (List Str)), Lsts rowV H D ps R ∧ φ R ∧ R.length ≤ 60
  sg : ∃ vs : List (Option V), σ = st ++ vs ∧ vs.length = n
theorem wordOf_of {ls x : Str} {m : Nat} (h : OfL ls x) (h1 : 1 ≤ x.length) (h2 : x.length ≤ m) : wordOf (TL.tl ls) (TL.tl x) (m : Int) = true := by
  unfold wordOf
  rw [← TL.len_tl, decide_eq_true ⟨h1, by omega⟩, Bool.true_and, List.all_eq_true]
  exact fun c hc => decide_eq_true (h c hc)
theorem map_snoc {α β : Type} (f : α → β) (xs : List α) (x : α) : (xs ++ [x]).map f = xs.map f ++ [f x] := by rw [List.map_append]; rfl
theorem KeepL.updS {H H1 : Hp} {D : Addr} {o : HO} (a : KeepL [D] H H1) : KeepL [D] H (upd H1 D o) := a.set (List.mem_singleton.mpr rfl)
theorem strOk_of {ls x : Str} (h : OfL ls x) (hl : (TL.tl ls).all (fun c => decide (c < 128)) = true) : PyData.strOk x = true := by
  unfold PyData.strOk
  rw [← Array.all_toList, List.all_eq_true]
  intro c hc
  have h1 := of_decide_eq_true (List.all_eq_true.mp hl c (h c hc))
  exact decide_eq_true (by omega)
theorem dpS {K : PySem.W.Frag} {H : Hp} : ∀ xs : List Str, DpAll K H (xs.map V.str) (xs.map PyData.str)
  | [] => .nil
  | x :: r => .cons (.str x) (dpS r)
theorem ne_nil {K : PySem.W.Frag} {H : Hp} {B e : Addr} {zs : List Str} (hB : SqL K H B (zs.map V.str)) (he : SqL K H e []) (ok : ∀ z, z ∈ zs → PyData.strOk z = true) {Q : VK} (q : Q (.bl (!decide (zs = []))) H) : rNeD K (.ref B) (.ref e) H Q := by
  have L := layD_str.list
  refine ⟨.list (zs.map PyData.str), .list (([] : List Str).map PyData.str), .lst hB (dpS zs), .lst he .nil, L.shaped (by decide) (x := zs) ok, L.shaped (by decide) (x := []) (fun x h => by cases h), ?_⟩
  rw [L.eqv zs []]
  exact q
structure MvI (H0 : Hp) (D : Addr) (i : Nat) (H : Hp) : Prop where
  e : Same H0 H
  ex : ∃ ms : List Int, H D = some (.lst (rowV (ms.map numS))) ∧ ms.length = i ∧ ∀ v, v ∈ ms → -1000000 ≤ v ∧ v ≤ 1000000

section
variable {P : Program} {w : World} {K : PySem.W.Frag} {mg : Str → Option Value} {base : Heap}
def sp_law_rows (K : PySem.W.Frag) : Sp := fun vs H Q _ => ∃ (_ : Unit) (a : Addr) (ns : List Int), vs = [.ref a] ∧ SqL K H a (ns.map V.int) ∧ ∀ (_ : Unit) (p : Addr) (H' : Hp) (t : Ter) (ps : List Addr), Same H H' → H p = none → GTer t → Lsts rowV H' p ps (rowsT t) → Q (.ref p) H'
set_option maxHeartbeats 0 in
theorem ok_law_rows (T : Txt K mg) : FnOk P w K mg base CX0 4 T.f_law_rows T.d_law_rows ["script"] (sp_law_rows K) := by
  refine T.F_law_rows.ok sc_law_rows (fun vs H Q E h => ?_) (fun cdv A outer s H vs Q E hr h => ?_)
  · obtain ⟨_, a, ns, rfl, _⟩ := h
    rfl
  · obtain ⟨_, a, ns, rfl, hs, q⟩ := h
    have G_law_names : FnOk P w K mg base CX0 3 T.f_law_names T.d_law_names ["cell", "count", "letters", "longest"] (sp_law_names K) := ok_law_names T
    have G_law_draws : FnOk P w K mg base CX0 1 T.f_law_draws T.d_law_draws ["cell", "count", "size"] (sp_law_draws K) := ok_law_draws T
    have G_law_cell : FnOk P w K mg base CX0 1 T.f_law_cell T.d_law_cell ["script", "k"] (sp_law_cell K) := ok_law_cell T
    have G_law_instrument : FnOk P w K mg base CX0 2 T.f_law_instrument T.d_law_instrument ["name", "cell"] (sp_law_instrument K) := ok_law_instrument T
    have G_law_number : FnOk P w K mg base CX0 1 T.f_law_number T.d_law_number ["cell", "size"] (sp_law_number K) := ok_law_number T
    have G_law_move : FnOk P w K mg base CX0 1 T.f_law_move T.d_law_move ["cell"] (sp_law_move K) := ok_law_move T
    refine ⟨_, (pss_cons (ps_set (i := 1) sc_law_rows.nd rfl (Or.inl rfl) (pe_call G_law_names hr (by rfl) T.m_law_names T.F_law_names.kp T.b_law_names .nil pass0 (pa_cons (pe_call G_law_cell (hr.mono (by decide)) (by rfl) T.m_law_cell T.F_law_cell.kp T.b_law_cell .nil pass0 (pa_cons (pv 0) (pa_cons pe_int pa_nil))) (pa_cons (pe_op op_add pe_int (pe_op op_mod (pe_call G_law_cell (hr.mono (by decide)) (by rfl) T.m_law_cell T.F_law_cell.kp T.b_law_cell .nil pass0 (pa_cons (pv 0) (pa_cons pe_int pa_nil))) pe_int)) (pa_cons pe_str (pa_cons pe_int pa_nil))))))
    (pss_cons (ps_set (i := 2) sc_law_rows.nd rfl (Or.inl rfl) (pe_call G_law_names hr (by rfl) T.m_law_names T.F_law_names.kp T.b_law_names .nil pass0 (pa_cons (pe_call G_law_cell (hr.mono (by decide)) (by rfl) T.m_law_cell T.F_law_cell.kp T.b_law_cell .nil pass0 (pa_cons (pv 0) (pa_cons pe_int pa_nil))) (pa_cons (pe_op op_mod (pe_call G_law_cell (hr.mono (by decide)) (by rfl) T.m_law_cell T.F_law_cell.kp T.b_law_cell .nil pass0 (pa_cons (pv 0) (pa_cons pe_int pa_nil))) pe_int) (pa_cons pe_str (pa_cons pe_int pa_nil))))))
    (pss_cons (ps_set (i := 3) sc_law_rows.nd rfl (Or.inl rfl) (pe_lst pa_nil))
    (pss_cons (ps_set (i := 4) sc_law_rows.nd rfl (Or.inl rfl) (pe_call G_law_draws (hr.mono (by decide)) (by rfl) T.m_law_draws T.F_law_draws.kp T.b_law_draws .nil pass0 (pa_cons (pe_call G_law_cell (hr.mono (by decide)) (by rfl) T.m_law_cell T.F_law_cell.kp T.b_law_cell .nil pass0 (pa_cons (pv 0) (pa_cons pe_int pa_nil))) (pa_cons (pe_callB call_len_seq (by rfl) T.z_len PySem.boot_len (pa_cons (pv 1) pa_nil)) (pa_cons pe_int pa_nil)))))
    (pss_cons (ps_for PassesOwn.never rfl (pi_range1 (by rfl) T.z_range (pa_cons (pe_callB call_len_seq (by rfl) T.z_len PySem.boot_len (pa_cons (pv 1) pa_nil)) pa_nil)) (pg_name (i := 5) sc_law_rows.nd rfl (Or.inl rfl))
      (pss_one (ps_expr (pe_bm PySem.F.plainAttrs_list PySem.F.slot_list_append PySem.F.type_list_append mt_append (pv 3) (pa_cons (pe_lst (pa_cons pe_str (pa_cons (pe_ix ix_list (pv 1) (pv 5) (fun _ _ => rfl)) (pa_cons (pe_callTy call_str_int (by rfl) T.z_str (by decide +kernel) (pa_cons (pe_call G_law_number (hr.mono (by decide)) (by rfl) T.m_law_number T.F_law_number.kp T.b_law_number .nil pass0 (pa_cons (pe_ix ix_list (pv 4) (pv 5) (fun _ _ => rfl)) (pa_cons pe_int pa_nil))) pa_nil)) pa_nil)))) pa_nil)))))
    (pss_cons (ps_for PassesOwn.never rfl (pi_range1 (by rfl) T.z_range (pa_cons (pe_callB call_len_seq (by rfl) T.z_len PySem.boot_len (pa_cons (pv 2) pa_nil)) pa_nil)) (pg_name (i := 5) sc_law_rows.nd rfl (Or.inl rfl))
      (pss_one (ps_expr (pe_bm PySem.F.plainAttrs_list PySem.F.slot_list_append PySem.F.type_list_append mt_append (pv 3) (pa_cons (pe_op op_cat (pe_lst (pa_cons pe_str pa_nil)) (pe_call G_law_instrument (hr.mono (by decide)) (by rfl) T.m_law_instrument T.F_law_instrument.kp T.b_law_instrument .nil pass0 (pa_cons (pe_ix ix_list (pv 2) (pv 5) (fun _ _ => rfl)) (pa_cons (pe_call G_law_cell (hr.mono (by decide)) (by rfl) T.m_law_cell T.F_law_cell.kp T.b_law_cell .nil pass0 (pa_cons (pv 0) (pa_cons (pe_op op_add pe_int (pv 5)) pa_nil))) pa_nil)))) pa_nil)))))
    (C8.pss_cut (ps_if (pt_cmpR (op_neD hr.units) (pv 2) (pe_lst pa_nil) (nomark _))
      (pss_one (ps_for PassesOwn.never rfl (pi_range1 (by rfl) T.z_range (pa_cons (pe_op op_mod (pe_call G_law_cell (hr.mono (by decide)) (by rfl) T.m_law_cell T.F_law_cell.kp T.b_law_cell .nil pass0 (pa_cons (pv 0) (pa_cons pe_int pa_nil))) pe_int) pa_nil)) (pg_name (i := 5) sc_law_rows.nd rfl (Or.inl rfl))
        (pss_cons (ps_set (i := 6) sc_law_rows.nd rfl (Or.inl rfl) (pe_call G_law_draws (hr.mono (by decide)) (by rfl) T.m_law_draws T.F_law_draws.kp T.b_law_draws .nil pass0 (pa_cons (pe_call G_law_cell (hr.mono (by decide)) (by rfl) T.m_law_cell T.F_law_cell.kp T.b_law_cell .nil pass0 (pa_cons (pv 0) (pa_cons (pe_op op_add pe_int (pv 5)) pa_nil))) (pa_cons (pe_callB call_len_seq (by rfl) T.z_len PySem.boot_len (pa_cons (pv 2) pa_nil)) (pa_cons pe_int pa_nil)))))
        (pss_one (ps_expr (pe_bm PySem.F.plainAttrs_list PySem.F.slot_list_append PySem.F.type_list_append mt_append (pv 3) (pa_cons (pe_op op_cat (pe_lst (pa_cons pe_str pa_nil)) (pe_lc (own := [("move", 7)]) (g := gName 7) (tt := tYes) rfl sc_law_rows.nd (pi_list (pv 6)) (blkOk_by (own := [("move", 7)]) (N := N_law_rows) (sc := defScope s_law_rows) (by decide +kernel)) (fun _ _ _ _ _ => (pg_name (i := 7) sc_law_rows.nd rfl (Or.inl rfl))) (fun _ _ _ _ _ => pts_nil) (fun _ _ _ _ _ => (pe_callTy call_str_int (by rfl) T.z_str (by decide +kernel) (pa_cons (pe_call G_law_move (hr.mono (by decide)) (by rfl) T.m_law_move T.F_law_move.kp T.b_law_move .nil pass0 (pa_cons (pv 7) pa_nil)) pa_nil))))) pa_nil)))))))
      pss_nil)
    (pss_cons (ps_set (i := 8) sc_law_rows.nd rfl (Or.inl rfl) (pe_call G_law_draws (hr.mono (by decide)) (by rfl) T.m_law_draws T.F_law_draws.kp T.b_law_draws .nil pass0 (pa_cons (pe_call G_law_cell (hr.mono (by decide)) (by rfl) T.m_law_cell T.F_law_cell.kp T.b_law_cell .nil pass0 (pa_cons (pv 0) (pa_cons pe_int pa_nil))) (pa_cons (pe_callB call_len_seq (by rfl) T.z_len PySem.boot_len (pa_cons (pv 1) pa_nil)) (pa_cons pe_int pa_nil)))))
    (pss_cons (ps_for PassesOwn.never rfl (pi_range1 (by rfl) T.z_range (pa_cons (pe_callB call_len_seq (by rfl) T.z_len PySem.boot_len (pa_cons (pv 1) pa_nil)) pa_nil)) (pg_name (i := 5) sc_law_rows.nd rfl (Or.inl rfl))
      (pss_one (ps_if (pt_cmpR op_ne (pe_op op_mod (pe_ix ix_list (pv 8) (pv 5) (fun _ _ => rfl)) pe_int) pe_int (nomark _))
        (pss_one (ps_expr (pe_bm PySem.F.plainAttrs_list PySem.F.slot_list_append PySem.F.type_list_append mt_append (pv 3) (pa_cons (pe_lst (pa_cons pe_str (pa_cons (pe_ix ix_list (pv 1) (pv 5) (fun _ _ => rfl)) (pa_cons (pe_callTy call_str_int (by rfl) T.z_str (by decide +kernel) (pa_cons (pe_call G_law_number (hr.mono (by decide)) (by rfl) T.m_law_number T.F_law_number.kp T.b_law_number .nil pass0 (pa_cons (pe_ix ix_list (pv 8) (pv 5) (fun _ _ => rfl)) (pa_cons pe_int pa_nil))) pa_nil)) pa_nil)))) pa_nil))))
        pss_nil)))
    (C8.pss_cut (ps_if (pt_cmpR op_ne (pe_op op_mod (pe_call G_law_cell (hr.mono (by decide)) (by rfl) T.m_law_cell T.F_law_cell.kp T.b_law_cell .nil pass0 (pa_cons (pv 0) (pa_cons pe_int pa_nil))) pe_int) pe_int (nomark _))
      (pss_one (ps_expr (pe_bm PySem.F.plainAttrs_list PySem.F.slot_list_append PySem.F.type_list_append mt_append (pv 3) (pa_cons (pe_lst (pa_cons pe_str (pa_cons (pe_callTy call_str_int (by rfl) T.z_str (by decide +kernel) (pa_cons (pe_call G_law_number (hr.mono (by decide)) (by rfl) T.m_law_number T.F_law_number.kp T.b_law_number .nil pass0 (pa_cons (pe_call G_law_cell (hr.mono (by decide)) (by rfl) T.m_law_cell T.F_law_cell.kp T.b_law_cell .nil pass0 (pa_cons (pv 0) (pa_cons pe_int pa_nil))) (pa_cons pe_int pa_nil))) pa_nil)) pa_nil))) pa_nil))))
      pss_nil)
    (pss_cons (ps_if (pt_cmpR op_ne (pe_op op_mod (pe_op op_fdiv (pe_call G_law_cell (hr.mono (by decide)) (by rfl) T.m_law_cell T.F_law_cell.kp T.b_law_cell .nil pass0 (pa_cons (pv 0) (pa_cons pe_int pa_nil))) pe_int) pe_int) pe_int (nomark _))
      (pss_one (ps_expr (pe_bm PySem.F.plainAttrs_list PySem.F.slot_list_append PySem.F.type_list_append mt_append (pv 3) (pa_cons (pe_lst (pa_cons pe_str (pa_cons (pe_callTy call_str_int (by rfl) T.z_str (by decide +kernel) (pa_cons (pe_call G_law_number (hr.mono (by decide)) (by rfl) T.m_law_number T.F_law_number.kp T.b_law_number .nil pass0 (pa_cons (pe_call G_law_cell (hr.mono (by decide)) (by rfl) T.m_law_cell T.F_law_cell.kp T.b_law_cell .nil pass0 (pa_cons (pv 0) (pa_cons pe_int pa_nil))) (pa_cons pe_int pa_nil))) pa_nil)) pa_nil))) pa_nil))))
      pss_nil)
    (pss_one (ps_ret (pv 3)))))))))))))), ?_⟩
    walk_at "st"
    have c0 := Int.emod_nonneg (cellOf ns 1) (show (12 : Int) ≠ 0 by decide)
    have c1 := Int.emod_lt_of_pos (cellOf ns 1) (show (0 : Int) < 12 by decide)
    obtain ⟨n1, hn1⟩ : ∃ n : Nat, 1 + cellOf ns 1 % 12 = (n : Int) := ⟨(1 + cellOf ns 1 % 12).toNat, by omega⟩
    refine ⟨(), cellOf ns 0, n1, 12, smallT, (by show [V.int _, V.int (1 + cellOf ns 1 % 12), V.str _, V.int _] = _; rw [hn1]; rfl), by omega, by decide, by decide, by decide, by decide, fun _ A ys H1 s1 nA hA yl y0 yn yg => ?_⟩
    have hs1 := sqL_same hs s1
    walk_at "st"
    have c2 := Int.emod_nonneg (cellOf ns 3) (show (7 : Int) ≠ 0 by decide)
    have c3 := Int.emod_lt_of_pos (cellOf ns 3) (show (0 : Int) < 7 by decide)
    obtain ⟨n2, hn2⟩ : ∃ n : Nat, cellOf ns 3 % 7 = (n : Int) := ⟨(cellOf ns 3 % 7).toNat, by omega⟩
    refine ⟨(), cellOf ns 2, n2, 6, capT, (by show [V.int _, V.int (cellOf ns 3 % 7), V.str _, V.int _] = _; rw [hn2]; rfl), by omega, by decide, by decide, by decide, by decide, fun _ B zs H2 s2 nB hB zl z0 zn zg => ?_⟩
    have hs2 := sqL_same hs1 s2
    have hA2 := s2 _ _ hA
    have hAS := SqL.of (K := K) hA2
    have y1 : ys ≠ [] := y0 (by omega)
    clear y0 z0
    have zl6 : zs.length ≤ 6 := by omega
    have yl12 : ys.length ≤ 12 := by omega
    clear zl yl
    have s02 := s1.trans s2
    walk_at "st"
    intro D nD
    have hD : upd H2 D (.lst []) D = some (.lst []) := upd_same
    have s3 : Same H2 (upd H2 D (.lst [])) := same_upd nD
    generalize upd H2 D (.lst []) = H3 at hD s3 ⊢
    have hs3 := sqL_same hs2 s3
    have hA3 := s3 _ _ hA2
    have hB3 := s3 _ _ hB
    have hAS3 := SqL.of (K := K) hA3
    have hyl : (ys.map V.str).length = ys.length := List.length_map ..
    walk_at "st"
    intro C H4 s4 nC hC
    have hs4 := sqL_same hs3 s4
    have hD4 := s4 _ _ hD
    have hA4 := s4 _ _ hA3
    have hB4 := s4 _ _ hB3
    have s24 : Same H2 H4 := s3.trans s4
    have hAS4 := SqL.of (K := K) hA4
    have s2K : ∀ G, KeepL [D] H4 G → Same H2 G := fun G k => KeepL.sameN s24 k fun z hz => by rw [List.mem_singleton.mp hz]; exact nD
    have dA : A ∉ [D] := fun z => by rw [List.mem_singleton.mp z, nD] at hA2; cases hA2
    have dB : B ∉ [D] := fun z => by rw [List.mem_singleton.mp z, nD] at hB; cases hB
    have dC : C ∉ [D] := fun z => by rw [List.mem_singleton.mp z, hD] at nC; cases nC
    walk_at "st"
    refine for_range (lo := 0) (n := (((ys.map V.str).length : Nat) : Int).toNat) (fun i σ H' => RwI H4 D (fun R => ∃ hs : List (Str × Int), R = hs.map hrow ∧ hs.map (·.1) = ys.take i ∧ ∀ x, x ∈ hs → 0 ≤ x.2 ∧ x.2 ≤ 1000000000) [some (.ref a), some (.ref A), some (.ref B), some (.ref D), some (.ref C)] 4 σ H') ⟨KeepL.refl _ _, ⟨[], [], Lsts.nil hD4, ⟨[], rfl, rfl, fun x h => by cases h⟩, by decide⟩, _, rfl, rfl⟩ ?_ ?_
    · rintro i σ H5 hi ⟨k5, ⟨ps, R, hR, ⟨hs', rfl, h2, h3⟩, hR60⟩, vs, rfl, hvs⟩
      match vs, hvs with
      | [v5, v6, v7, v8], _ =>
        rw [Int.toNat_natCast, hyl] at hi
        rw [Int.zero_add]
        have hA5 := SqL.of (K := K) (k5 _ _ dA hA4)
        have hC5 := SqL.of (K := K) (k5 _ _ dC hC)
        have hy : ys[i]? = some ys[i] := List.getElem?_eq_getElem hi
        generalize ys[i] = y at hy
        have a1 : atI (ys.map V.str) (i : Int) = some (.str y) := at_of (j := i) rfl (by rw [List.getElem?_map, hy]; rfl)
        have a2 : atI ((rowI (ys.map V.str).length (drawG (cellOf ns 4) 1000000007)).map V.int) (i : Int) = some (.int (drawG (cellOf ns 4) 1000000007 i)) := atI_row (by rw [hyl]; exact hi)
        have hRl := hR.lst
        have hlen : (ps.map V.ref).length < sizeLine := small1000 (by rw [List.length_map, hR.len]; omega)
        walk_at "st"
        refine ⟨(), _, 1000000001, rfl, by decide, by decide, fun v H6 s6 v0 v1 => ?_⟩
        have gv : v.natAbs.log2 < 1920 := natAbs_log (k := 100) (by omega) (by decide) (by decide)
        walk_at "st"
        intro p np
        have er : ([V.str "house", V.str y, V.str (Str.ofString (toString v))] : List V) = rowV (hrow (y, v)) := rfl
        rw [er]
        have s7 := s6.trans (same_upd (o := .lst (rowV (hrow (y, v)))) np)
        have hp : upd H6 p (.lst (rowV (hrow (y, v)))) p = some (.lst (rowV (hrow (y, v)))) := upd_same
        generalize upd H6 p (.lst (rowV (hrow (y, v)))) = H7 at s7 hp ⊢
        have hR7 := s7 _ _ hRl
        have npD : p ≠ D := fun z => by have := s6 _ _ hRl; rw [← z, np] at this; cases this
        walk_at "st"
        refine ⟨(k5.same s7).updS, ⟨_, _, hR.push s7 npD hp, ⟨hs' ++ [(y, v)], (map_snoc hrow hs' (y, v)).symm, by rw [map_snoc, h2, take_succ hy], fun x hx => ?_⟩, by rw [List.length_append, List.length_map, List.length_singleton]; have := congrArg List.length h2; rw [List.length_map, List.length_take] at this; omega⟩, [_, v6, v7, v8], rfl, rfl⟩
        rcases List.mem_append.mp hx with hx | hx
        · exact h3 x hx
        · rw [List.mem_singleton.mp hx]; exact ⟨v0, by omega⟩
    · rintro σ H5 ⟨k5, ⟨ps, R, hR, ⟨hs', rfl, h2, h3⟩, hR60⟩, vs, rfl, hvs⟩
      match vs, hvs with
      | [v5, v6, v7, v8], _ =>
        rw [Int.toNat_natCast, hyl, List.take_length] at h2
        have s25 := s2K H5 k5
        have hB5 := SqL.of (K := K) (s25 _ _ hB)
        have hzl : (zs.map V.str).length = zs.length := List.length_map ..
        walk_at "st"
        have lhs : hs'.length ≤ 12 := by have := congrArg List.length h2; rw [List.length_map] at this; omega
        refine for_range (lo := 0) (n := (((zs.map V.str).length : Nat) : Int).toNat) (fun i σ H' => RwI H4 D (fun R => ∃ ins : List RowN, R = hs'.map hrow ++ ins.map irow ∧ ins.map (·.1) = zs.take i ∧ ∀ r, r ∈ ins → GI r) [some (.ref a), some (.ref A), some (.ref B), some (.ref D), some (.ref C)] 4 σ H') ⟨k5, ⟨ps, _, hR, ⟨[], by rw [List.map_nil, List.append_nil], rfl, fun x h => by cases h⟩, hR60⟩, _, rfl, rfl⟩ ?_ ?_
        · rintro i σ H5 hi ⟨k5, ⟨ps, R, hR, ⟨ins, rfl, i2, i3⟩, hR60⟩, vs, rfl, hvs⟩
          match vs, hvs with
          | [v5, v6, v7, v8], _ =>
            rw [Int.toNat_natCast, hzl] at hi
            rw [Int.zero_add]
            have s25 := s2K H5 k5
            have hB5 := SqL.of (K := K) (s25 _ _ hB)
            have hs5 := sqL_same hs2 s25
            have hz : zs[i]? = some zs[i] := List.getElem?_eq_getElem hi
            generalize zs[i] = z at hz
            have a1 : atI (zs.map V.str) (i : Int) = some (.str z) := at_of (j := i) rfl (by rw [List.getElem?_map, hz]; rfl)
            have hRl := hR.lst
            have hlen : (ps.map V.ref).length < sizeLine := small1000 (by rw [List.length_map, hR.len]; omega)
            walk_at "st"
            intro p np
            have s6 : Same H5 (upd H5 p (.lst (rowV ["instrument"]))) := same_upd np
            have hp : upd H5 p (.lst (rowV ["instrument"])) p = some (.lst (rowV ["instrument"])) := upd_same
            have er : ([V.str "instrument"] : List V) = rowV ["instrument"] := rfl
            rw [er]
            generalize upd H5 p (.lst (rowV ["instrument"])) = H6 at s6 hp ⊢
            have hB6 := sqL_same hB5 s6
            have hs6 := sqL_same hs5 s6
            walk_at "st"
            refine ⟨(), z, _, rfl, fun _ g H7 t l b r s7 ng hg t1 l1 b1 r1 m1 => ?_⟩
            have hp7 := s7 _ _ hp
            have hpS := SqL.of (K := K) hp7
            have hgS := SqL.of (K := K) hg
            walk_at "st"
            refine ⟨len_le rfl, fun c nc => ?_⟩
            have er2 : rowV ["instrument"] ++ (z :: [t, l, b, r].map numS).map V.str = rowV (irow (z, [t, l, b, r])) := rfl
            rw [er2]
            have s57 := s6.trans s7
            have npD : c ≠ D := fun e => by have := s57 _ _ hRl; rw [← e, nc] at this; cases this
            have s8 := s57.trans (same_upd (o := .lst (rowV (irow (z, [t, l, b, r])))) nc)
            have hc : upd H7 c (.lst (rowV (irow (z, [t, l, b, r])))) c = some (.lst (rowV (irow (z, [t, l, b, r])))) := upd_same
            generalize upd H7 c (.lst (rowV (irow (z, [t, l, b, r])))) = H8 at s8 hc ⊢
            have hR8 := s8 _ _ hRl
            walk_at "st"
            obtain ⟨g1, g2, g3⟩ := zg z (List.mem_of_getElem? hz)
            refine ⟨(k5.same s8).updS, ⟨_, _, hR.push s8 npD hc, ⟨ins ++ [(z, [t, l, b, r])], by rw [map_snoc, List.append_assoc], by rw [map_snoc, i2, take_succ hz], fun x hx => ?_⟩, ?_⟩, [_, v6, v7, v8], rfl, rfl⟩
            · rcases List.mem_append.mp hx with hx | hx
              · exact i3 x hx
              · rw [List.mem_singleton.mp hx]
                exact ⟨wordOf_of g1 g2 g3, t, l, b, r, rfl, t1, l1, b1, r1, m1⟩
            · have := congrArg List.length i2
              rw [List.length_map, List.length_take] at this
              rw [List.length_append, List.length_append, List.length_map, List.length_map, List.length_singleton]
              omega
        · rintro σ H5 ⟨k5, ⟨ps, R, hR, ⟨ins, rfl, i2, i3⟩, hR60⟩, vs, rfl, hvs⟩
          match vs, hvs with
          | [v5, v6, v7, v8], _ =>
            rw [Int.toNat_natCast, hzl, List.take_length] at i2
            have s25 := s2K H5 k5
            have hB5 := SqL.of (K := K) (s25 _ _ hB)
            have hs5 := sqL_same hs2 s25
            have lin : ins.length ≤ 6 := by have := congrArg List.length i2; rw [List.length_map] at this; omega
            walk_at "st"
            refine ⟨fun σ' H' => RwI H4 D (fun R => ∃ sc : List (List Int), R = hs'.map hrow ++ ins.map irow ++ sc.map srow ∧ (∀ m, m ∈ sc → m.length = ins.length ∧ ∀ v, v ∈ m → -1000000 ≤ v ∧ v ≤ 1000000) ∧ sc.length ≤ 12 ∧ (ins = [] → sc = [])) [some (.ref a), some (.ref A), some (.ref B), some (.ref D), some (.ref C)] 4 σ' H', ?_, ?_⟩
            · walk_at "st"
              intro e ne
              have s6 : Same H5 (upd H5 e (.lst [])) := same_upd ne
              have heS : SqL K (upd H5 e (.lst [])) e [] := SqL.of upd_same
              generalize upd H5 e (.lst []) = H6 at s6 heS ⊢
              refine ne_nil (sqL_same hB5 s6) heS (fun z hz => strOk_of (zg z hz).1 (by decide +kernel)) ?_
              walk_at "st"
              have k6 := k5.same s6
              have hR6 := hR.same s6
              have hs6 := sqL_same hs5 s6
              by_cases hz : zs = []
              · refine iteB (fun h => ?_) (fun _ => ?_)
                · rw [decide_eq_true hz] at h; cases h
                have hi0 : ins = [] := by
                  rw [hz] at i2
                  exact List.map_eq_nil_iff.mp i2
                walk_at "st"
                exact ⟨k6, ⟨ps, _, hR6, ⟨[], by rw [List.map_nil, List.append_nil], (fun m h => by cases h), by decide, fun _ => rfl⟩, hR60⟩, [v5, v6, v7, v8], rfl, rfl⟩
              · refine iteB (fun _ => ?_) (fun h => ?_)
                · have c11a := Int.emod_nonneg (cellOf ns 11) (show (13 : Int) ≠ 0 by decide)
                  have c11b := Int.emod_lt_of_pos (cellOf ns 11) (show (0 : Int) < 13 by decide)
                  have hine : ins ≠ [] := fun e => hz (by rw [e] at i2; exact i2.symm)
                  walk_at "st"
                  refine for_range (lo := 0) (n := (cellOf ns 11 % 13).toNat) (fun i σ H' => RwI H4 D (fun R => ∃ sc : List (List Int), R = hs'.map hrow ++ ins.map irow ++ sc.map srow ∧ (∀ m, m ∈ sc → m.length = ins.length ∧ ∀ v, v ∈ m → -1000000 ≤ v ∧ v ≤ 1000000) ∧ sc.length ≤ i) [some (.ref a), some (.ref A), some (.ref B), some (.ref D), some (.ref C)] 4 σ H') ⟨k6, ⟨ps, _, hR6, ⟨[], by rw [List.map_nil, List.append_nil], (fun m h => by cases h), Nat.le_refl _⟩, hR60⟩, [v5, v6, v7, v8], rfl, rfl⟩ ?_ ?_
                  · rintro i σ H7 hi ⟨k7, ⟨ps, R, hR, ⟨sc, rfl, j2, j3⟩, hR60⟩, vs, rfl, hvs⟩
                    match vs, hvs with
                    | [v5, v6, v7, v8], _ =>
                      have s27 := s2K H7 k7
                      have hB7 := SqL.of (K := K) (s27 _ _ hB)
                      have hs7 := sqL_same hs2 s27
                      have hRl := hR.lst
                      have hlen : (ps.map V.ref).length < sizeLine := small1000 (by rw [List.length_map, hR.len]; omega)
                      rw [Int.zero_add]
                      walk_at "st"
                      intro M H8 s8 nM hM
                      have hMl : ((rowI (zs.map V.str).length (drawG (cellOf ns (12 + i)) 10000019)).map V.int).length = ins.length := by
                        have := congrArg List.length i2
                        rw [List.length_map] at this
                        rw [List.length_map, rowI_len, List.length_map, ← this]
                      generalize (rowI (zs.map V.str).length (drawG (cellOf ns (12 + i)) 10000019)) = mv at hM hMl
                      rw [List.length_map] at hMl
                      have hMS := SqL.of (K := K) hM
                      have hRl8 := s8 _ _ hRl
                      walk_at "st"
                      intro p np
                      have s9 : Same H8 (upd H8 p (.lst (rowV ["scenario"]))) := same_upd np
                      have hp : upd H8 p (.lst (rowV ["scenario"])) p = some (.lst (rowV ["scenario"])) := upd_same
                      have er : ([V.str "scenario"] : List V) = rowV ["scenario"] := rfl
                      rw [er]
                      generalize upd H8 p (.lst (rowV ["scenario"])) = H9 at s9 hp ⊢
                      have hMS9 := sqL_same hMS s9
                      have s79 := s8.trans s9
                      walk_at "st"
                      intro E nE
                      refine lc_it (walk_list (xs := mv.map V.int) (a := M)) (MvI H9 E) ⟨same_upd nE, [], upd_same, rfl, fun v h => by cases h⟩ (fun j H' _ z => sqL_same hMS9 z.e) ?_ ?_
                      · rintro j v Hj Hk hj ⟨ej, ms, m1, m2, m3⟩ y
                        obtain ⟨rfl, hv⟩ := y
                        rw [List.getElem?_map] at hv
                        obtain ⟨d, hd, rfl⟩ := Option.map_eq_some_iff.mp hv
                        have hjm : j < ins.length := by rw [← hMl]; exact (List.getElem?_eq_some_iff.mp hd).1
                        refine ⟨rfl, ?_⟩
                        walk_at "st"
                        refine ⟨(), d, rfl, fun v Hm sm v0 v1 => ?_⟩
                        have gv : v.natAbs.log2 < 1920 := natAbs_log (k := 100) (by omega) (by decide) (by decide)
                        have m1' := sm _ _ m1
                        walk_at "st"
                        refine ⟨small1000 (by rw [List.length_map, List.length_map]; omega), same_over (ej.trans sm) nE, ms ++ [v], by rw [upd_same, map_snoc numS]; exact congrArg (fun z => some (HO.lst z)) (map_snoc V.str _ _).symm, by rw [List.length_append, m2]; rfl, fun u hu => ?_⟩
                        rcases List.mem_append.mp hu with hu | hu
                        · exact m3 u hu
                        · rw [List.mem_singleton.mp hu]; exact ⟨v0, v1⟩
                      · rintro Hj ⟨ej, ms, m1, m2, m3⟩
                        rw [List.length_map, hMl] at m2
                        have hpj := ej _ _ hp
                        have hpS := SqL.of (K := K) hpj
                        have hmS := SqL.of (K := K) m1
                        walk_at "st"
                        refine ⟨Nat.le_of_lt (small1000 (by rw [List.length_map, List.length_map, List.length_map]; simp only [List.length_cons, List.length_nil]; omega)), fun c nc => ?_⟩
                        have er2 : rowV ["scenario"] ++ rowV (ms.map numS) = rowV (srow ms) := rfl
                        rw [er2]
                        have s7j := s79.trans ej
                        have npD : c ≠ D := fun e => by have := s7j _ _ hRl; rw [← e, nc] at this; cases this
                        have s8j := s7j.trans (same_upd (o := .lst (rowV (srow ms))) nc)
                        have hc : upd Hj c (.lst (rowV (srow ms))) c = some (.lst (rowV (srow ms))) := upd_same
                        generalize upd Hj c (.lst (rowV (srow ms))) = Hq at s8j hc ⊢
                        have hRq := s8j _ _ hRl
                        walk_at "st"
                        refine ⟨(k7.same s8j).updS, ⟨_, _, hR.push s8j npD hc, ⟨sc ++ [ms], by rw [map_snoc, List.append_assoc], fun m hm => ?_, by rw [List.length_append, List.length_singleton]; omega⟩, ?_⟩, [_, _, v7, v8], rfl, rfl⟩
                        · rcases List.mem_append.mp hm with hm | hm
                          · exact j2 m hm
                          · rw [List.mem_singleton.mp hm]
                            exact ⟨m2, m3⟩
                        · rw [List.length_append, List.length_append, List.length_append, List.length_map, List.length_map, List.length_map, List.length_singleton]
                          omega
                  · rintro σ H7 ⟨k7, ⟨ps, R, hR, ⟨sc, rfl, j2, j3⟩, hR60⟩, vs, rfl, hvs⟩
                    exact ⟨k7, ⟨ps, _, hR, ⟨sc, rfl, j2, by omega, fun e => absurd e hine⟩, hR60⟩, vs, rfl, hvs⟩
                · rw [decide_eq_false hz] at h; cases h
            · rintro σ H7 ⟨k7, ⟨ps, R, hR, ⟨sc, rfl, j2, j3, j4⟩, hR60⟩, vs, rfl, hvs⟩
              match vs, hvs with
              | [v5, v6, v7, v8], _ =>
                have s27 := s2K H7 k7
                have hA7 := SqL.of (K := K) (s27 _ _ hA2)
                have hs7 := sqL_same hs2 s27
                walk_at "st"
                intro F H8 s8 nF hF
                have hA8 := sqL_same hA7 s8
                have k8 := k7.same s8
                have hR8 := hR.same s8
                have dF : F ∉ [D] := fun z => by
                  have := hR.lst
                  rw [List.mem_singleton.mp z, this] at nF
                  cases nF
                clear hR k7
                walk_at "st"
                refine for_range (lo := 0) (n := (((ys.map V.str).length : Nat) : Int).toNat) (fun i σ H' => RwI H8 D (fun R => ∃ fu : List (Str × Int), R = hs'.map hrow ++ ins.map irow ++ sc.map srow ++ fu.map frow ∧ (fu.map (·.1)).Sublist (ys.take i) ∧ ∀ x, x ∈ fu → 0 ≤ x.2 ∧ x.2 ≤ 1000000000) [some (.ref a), some (.ref A), some (.ref B), some (.ref D), some (.ref C)] 4 σ H' ∧ σ[8]? = some (some (.ref F))) ⟨⟨KeepL.refl _ _, ⟨ps, _, hR8, ⟨[], by rw [List.map_nil, List.append_nil], List.nil_sublist _, fun x h => by cases h⟩, hR60⟩, [v5, v6, v7, some (.ref F)], rfl, rfl⟩, rfl⟩ ?_ ?_
                · rintro i σ H9 hi ⟨⟨k9, ⟨ps, R, hR, ⟨fu, rfl, f2, f3⟩, hR60⟩, vs, rfl, hvs⟩, hsg⟩
                  match vs, hvs, hsg with
                  | [v5, v6, v7, v8], _, hsg =>
                    obtain rfl : v8 = some (.ref F) := Option.some.inj hsg
                    rw [Int.toNat_natCast, hyl] at hi
                    rw [Int.zero_add]
                    have s29 := s2K H9 (k8.trans k9)
                    have hA9 := SqL.of (K := K) (s29 _ _ hA2)
                    have hF9 := SqL.of (K := K) (k9 _ _ dF hF)
                    have hy : ys[i]? = some ys[i] := List.getElem?_eq_getElem hi
                    generalize ys[i] = y at hy
                    have a1 : atI (ys.map V.str) (i : Int) = some (.str y) := at_of (j := i) rfl (by rw [List.getElem?_map, hy]; rfl)
                    have a2 : atI ((rowI (ys.map V.str).length (drawG (cellOf ns 24) 1000000007)).map V.int) (i : Int) = some (.int (drawG (cellOf ns 24) 1000000007 i)) := atI_row (by rw [hyl]; exact hi)
                    generalize drawG (cellOf ns 24) 1000000007 i = dv at a2
                    have hRl := hR.lst
                    have hlen : (ps.map V.ref).length < sizeLine := small1000 (by rw [List.length_map, hR.len]; omega)
                    walk_at "st"
                    have lfu : fu.length ≤ i := by
                      have h1 := f2.length_le
                      rw [List.length_map, List.length_take] at h1
                      omega
                    have base60 : (hs'.map hrow ++ ins.map irow ++ sc.map srow ++ fu.map frow).length = hs'.length + ins.length + sc.length + fu.length := by
                      rw [List.length_append, List.length_append, List.length_append, List.length_map, List.length_map, List.length_map, List.length_map]
                    refine iteB (fun _ => ?_) (fun _ => ?_)
                    · walk_at "st"
                      refine ⟨(), _, 1000000001, rfl, by decide, by decide, fun v H10 s10 v0 v1 => ?_⟩
                      have gv : v.natAbs.log2 < 1920 := natAbs_log (k := 100) (by omega) (by decide) (by decide)
                      walk_at "st"
                      intro p np
                      have er : ([V.str "fund", V.str y, V.str (Str.ofString (toString v))] : List V) = rowV (frow (y, v)) := rfl
                      rw [er]
                      have s11 := s10.trans (same_upd (o := .lst (rowV (frow (y, v)))) np)
                      have hp : upd H10 p (.lst (rowV (frow (y, v)))) p = some (.lst (rowV (frow (y, v)))) := upd_same
                      have npD : p ≠ D := fun z => by have := s10 _ _ hRl; rw [← z, np] at this; cases this
                      generalize upd H10 p (.lst (rowV (frow (y, v)))) = H11 at s11 hp ⊢
                      have hR11 := s11 _ _ hRl
                      walk_at "st"
                      refine ⟨⟨(k9.same s11).updS, ⟨_, _, hR.push s11 npD hp, ⟨fu ++ [(y, v)], by rw [map_snoc, List.append_assoc], by rw [map_snoc, take_succ hy]; exact f2.append (List.Sublist.refl _), fun x hx => ?_⟩, by rw [List.length_append, base60, List.length_singleton]; omega⟩, [_, v6, v7, some (.ref F)], rfl, rfl⟩, rfl⟩
                      rcases List.mem_append.mp hx with hx | hx
                      · exact f3 x hx
                      · rw [List.mem_singleton.mp hx]; exact ⟨v0, by omega⟩
                    · walk_at "st"
                      exact ⟨⟨k9, ⟨_, _, hR, ⟨fu, rfl, by rw [take_succ hy]; exact f2.trans (List.sublist_append_left _ _), f3⟩, hR60⟩, [_, v6, v7, some (.ref F)], rfl, rfl⟩, rfl⟩
                · rintro σ H9 ⟨⟨k9, ⟨ps, R, hR, ⟨fu, rfl, f2, f3⟩, hR60⟩, vs, rfl, hvs⟩, hsg⟩
                  match vs, hvs with
                  | [v5, v6, v7, v8], _ =>
                    rw [Int.toNat_natCast, hyl, List.take_length] at f2
                    have k49 := k8.trans k9
                    have s29 := s2K H9 k49
                    have hs9 := sqL_same hs2 s29
                    walk_at "st"
                    have lfu : fu.length ≤ 12 := by
                      have h1 := f2.length_le
                      rw [List.length_map] at h1
                      omega
                    have base60 : (hs'.map hrow ++ ins.map irow ++ sc.map srow ++ fu.map frow).length = hs'.length + ins.length + sc.length + fu.length := by
                      rw [List.length_append, List.length_append, List.length_append, List.length_map, List.length_map, List.length_map, List.length_map]
                    have hRl := hR.lst
                    have hlen : (ps.map V.ref).length < sizeLine := small1000 (by rw [List.length_map, hR.len]; omega)
                    have m25a := Int.emod_nonneg (cellOf ns 25) (show (3 : Int) ≠ 0 by decide)
                    refine ⟨fun σ' H' => RwI H4 D (fun R => ∃ fe : Option Int, R = hs'.map hrow ++ ins.map irow ++ sc.map srow ++ fu.map frow ++ orow "fee" fe ∧ ∀ v, fe = some v → 0 ≤ v ∧ v ≤ 1000000) [some (.ref a), some (.ref A), some (.ref B), some (.ref D), some (.ref C)] 4 σ' H', ?_, ?_⟩
                    · walk_at "st"
                      refine iteB (fun _ => ?_) (fun _ => ?_)
                      · walk_at "st"
                        refine ⟨(), _, 1000001, rfl, by decide, by decide, fun v H10 sH10 v0 v1 => ?_⟩
                        have gv : v.natAbs.log2 < 1920 := natAbs_log (k := 100) (by omega) (by decide) (by decide)
                        walk_at "st"
                        intro p np
                        have er : ([V.str "fee", V.str (Str.ofString (toString v))] : List V) = rowV ["fee", numS v] := rfl
                        rw [er]
                        have s11 := sH10.trans (same_upd (o := .lst (rowV ["fee", numS v])) np)
                        have hp : upd H10 p (.lst (rowV ["fee", numS v])) p = some (.lst (rowV ["fee", numS v])) := upd_same
                        have npD : p ≠ D := fun z => by have := sH10 _ _ hRl; rw [← z, np] at this; cases this
                        generalize upd H10 p (.lst (rowV ["fee", numS v])) = H11 at s11 hp ⊢
                        have hR11 := s11 _ _ hRl
                        walk_at "st"
                        refine ⟨(k49.same s11).updS, ⟨_, _, hR.push s11 npD hp, ⟨some v, rfl, fun u e => by cases e; exact ⟨v0, by omega⟩⟩, by rw [List.length_append, base60, List.length_singleton]; omega⟩, [v5, v6, v7, v8], rfl, rfl⟩
                      · walk_at "st"
                        exact ⟨k49, ⟨_, _, hR, ⟨none, (List.append_nil _).symm, fun u e => by cases e⟩, hR60⟩, [v5, v6, v7, v8], rfl, rfl⟩
                    · clear hRl hlen
                      rintro σ H12 ⟨k12, ⟨ps, R, hR, ⟨fe, rfl, e1⟩, hR60⟩, vs, rfl, hvs⟩
                      match vs, hvs with
                      | [v5, v6, v7, v8], _ =>
                      have s2c := s2K H12 k12
                      have hs12 := sqL_same hs2 s2c
                      have hRl := hR.lst
                      have hlen : (ps.map V.ref).length < sizeLine := small1000 (by rw [List.length_map, hR.len]; omega)
                      have lfe : (hs'.map hrow ++ ins.map irow ++ sc.map srow ++ fu.map frow ++ orow "fee" fe).length ≤ hs'.length + ins.length + sc.length + fu.length + 1 := by
                        rw [List.length_append, base60]
                        cases fe
                        · exact Nat.le_succ _
                        · exact Nat.le_refl _
                      have fin : ∀ (Hf : Hp) (sk : Option Int) (qs : List Addr), KeepL [D] H4 Hf → (∀ v, sk = some v → 0 ≤ v ∧ v ≤ 1000000000) → Lsts rowV Hf D qs (hs'.map hrow ++ ins.map irow ++ sc.map srow ++ fu.map frow ++ orow "fee" fe ++ orow "skin" sk) → Q (.ref D) Hf := fun Hf sk qs kf es hl => by
                        refine q () D Hf ⟨hs', ins, sc, fu, fe, sk⟩ qs (s02.trans (s2K Hf kf)) (none_same s02 nD) ⟨fun x hx => ?_, lhs, fun e => ?_, ?_, i3, lin, ?_, j2, j3, j4, fun x hx => ⟨?_, f3 x hx⟩, yn.sublist f2, lfu, e1, es⟩ hl
                        · obtain ⟨g1, g2, g3⟩ := yg x.1 (by rw [← h2]; exact List.mem_map.mpr ⟨x, hx, rfl⟩)
                          exact ⟨wordOf_of g1 g2 g3, h3 x hx⟩
                        · have e' : hs' = [] := e
                          rw [e'] at h2
                          exact y1 h2.symm
                        · show (hs'.map (·.1)).Nodup
                          rw [h2]
                          exact yn
                        · show (ins.map (fun r : RowN => r.1)).Nodup
                          rw [i2]
                          exact zn
                        · show x.1 ∈ hs'.map (·.1)
                          rw [h2]
                          exact f2.subset (List.mem_map.mpr ⟨x, hx, rfl⟩)
                      walk_at "st"
                      refine iteB (fun _ => ?_) (fun _ => ?_)
                      · walk_at "st"
                        refine ⟨(), _, 1000000001, rfl, by decide, by decide, fun v H13 sH13 v0 v1 => ?_⟩
                        have gv : v.natAbs.log2 < 1920 := natAbs_log (k := 100) (by omega) (by decide) (by decide)
                        walk_at "st"
                        intro p np
                        have er : ([V.str "skin", V.str (Str.ofString (toString v))] : List V) = rowV ["skin", numS v] := rfl
                        rw [er]
                        have s11 := sH13.trans (same_upd (o := .lst (rowV ["skin", numS v])) np)
                        have hp : upd H13 p (.lst (rowV ["skin", numS v])) p = some (.lst (rowV ["skin", numS v])) := upd_same
                        have npD : p ≠ D := fun z => by have := sH13 _ _ hRl; rw [← z, np] at this; cases this
                        generalize upd H13 p (.lst (rowV ["skin", numS v])) = H11 at s11 hp ⊢
                        have hR11 := s11 _ _ hRl
                        walk_at "st"
                        exact fin _ (some v) _ (k12.same s11).updS (fun u e => by cases e; exact ⟨v0, by omega⟩) (hR.push s11 npD hp)
                      · walk_at "st"
                        exact fin _ none _ k12 (fun u e => by cases e) (by rw [show orow "skin" none = [] from rfl, List.append_nil]; exact hR)

end
def keptL (w : Str) (R : List (List Str)) : List (List Str) := (R.filter fun r => decide (r.head? = some w)).map List.tail
structure KpI (w : Str) (R : List (List Str)) (H0 : Hp) (D : Addr) (i : Nat) (H : Hp) : Prop where
  e : Same H0 H
  ex : ∃ qs, Lsts rowV H D qs (keptL w (R.take i))
theorem keptL_len (w : Str) (R : List (List Str)) : (keptL w R).length ≤ R.length := by unfold keptL; rw [List.length_map]; exact List.length_filter_le ..
theorem keptL_snoc (w : Str) (R : List (List Str)) (r : List Str) : keptL w (R ++ [r]) = if r.head? = some w then keptL w R ++ [r.tail] else keptL w R := by
  unfold keptL
  rw [List.filter_append, List.map_append]
  by_cases h : r.head? = some w
  · rw [if_pos h, List.filter_cons_of_pos (by simpa using h)]
    rfl
  · rw [if_neg h, List.filter_cons_of_neg (by simpa using h)]
    simp
theorem int_numS {v : Int} (h : v.natAbs < 10 ^ 20) : intText? (numS v) = some v ∧ (numS v).length ≤ 21 := by
  have e : TL.tl (numS v) = numI v := tl_numI v
  have hd : isD (dm (TL.tl (numS v))) = true := by rw [e, dm_numI]; exact isD_numL h
  obtain ⟨h1, h2, _⟩ := int_of_num hd
  rw [e, valN_numI] at h1
  exact ⟨h1, h2⟩
theorem cut_tail {a : V} {r : List V} : cutV (a :: r) (some 1) none = r := by
  rw [cutV_drop (by decide) (by rw [List.length_cons]; omega)]
  rfl

theorem strOk_num (v : Int) : PyData.strOk (numS v) = true := by
  unfold PyData.strOk
  rw [← Array.all_toList, List.all_eq_true]
  intro c hc
  have e : TL.tl (numS v) = numI v := tl_numI v
  have hc2 : c ∈ numI v := by rw [← e]; exact hc
  rcases numI_sign hc2 with z | z
  · rw [z]; rfl
  · exact decide_eq_true (by omega)
theorem dpS2 {K : PySem.W.Frag} {H : Hp} {l : Addr} {ps : List Addr} {R : List (List Str)} (h : Lsts rowV H l ps R) : Dp K H (.ref l) (.list (R.map fun r => PyData.list (r.map PyData.str))) :=
  .lst (SqL.of h.lst) (dpAll_refs h.len fun i p x e1 e2 => .lst (SqL.of (h.row i p x e1 e2)) (dpS x))
theorem at_nat {xs : List V} {i : Nat} {v : V} (h : xs[i]? = some v) : atI xs (i : Int) = some v := at_of (j := i) rfl h

section
variable {P : Program} {w : World} {K : PySem.W.Frag} {mg : Str → Option Value} {base : Heap}
def sp_law_kept (K : PySem.W.Frag) : Sp := fun vs H Q _ => ∃ (_ : Unit) (l : Addr) (w : Str) (ps : List Addr) (R : List (List Str)), vs = [.ref l, .str w] ∧ Lsts rowV H l ps R ∧ (∀ r, r ∈ R → r ≠ [] ∧ r.length ≤ 20) ∧ R.length ≤ 100 ∧
  ∀ (_ : Unit) (p : Addr) (qs : List Addr) H', Same H H' → H p = none → Lsts rowV H' p qs (keptL w R) → Q (.ref p) H'
set_option maxHeartbeats 0 in
theorem ok_law_kept (T : Txt K mg) : FnOk P w K mg base CX0 1 T.f_law_kept T.d_law_kept ["rows", "word"] (sp_law_kept K) := by
  refine T.F_law_kept.ok sc_law_kept (fun vs H Q E h => ?_) (fun cdv A outer s H vs Q E hr h => ?_)
  · obtain ⟨_, l, w, ps, R, rfl, _⟩ := h
    rfl
  · obtain ⟨_, l, w, ps, R, rfl, hR, hne, hl, q⟩ := h
    refine ⟨_, (pss_one (ps_ret (pe_lc (own := [("row", 2)]) (g := gName 2) rfl sc_law_kept.nd (pi_list (pv 0)) (blkOk_by (own := [("row", 2)]) (N := N_law_kept) (sc := defScope s_law_kept) (by decide +kernel)) (fun _ _ _ _ _ => (pg_name (i := 2) sc_law_kept.nd rfl (Or.inl rfl))) (fun _ _ _ _ _ => pts_one (pt_cmpR op_eq (pe_ix (show IxR _ (rIxL K) from ix_list) (pv 2) pe_int (fun _ _ => rfl)) (pv 1) (nomark _))) (fun _ _ _ _ _ => (pe_slice (show SlR _ (rSlL K) from sl_list) (pv 2) (po_some pe_int) po_none))))), ?_⟩
    have hRS := SqL.of (K := K) hR.lst
    walk_at "st"
    intro D nD
    refine lc_it (walk_list (xs := ps.map V.ref) (a := l)) (KpI w R H D) ⟨same_upd nD, [], by rw [List.take_zero]; exact (Lsts.nil upd_same : Lsts rowV (upd H D (.lst [])) D [] [])⟩ (fun i H' _ z => sqL_same hRS z.e) ?_ ?_
    · rintro i v H1 H2 hi ⟨e1, qs, hq⟩ y
      obtain ⟨rfl, hv⟩ := y
      obtain ⟨a, ha, rfl⟩ := refs_at hv
      have hiR : i < R.length := by rw [← hR.len]; exact (List.getElem?_eq_some_iff.mp ha).1
      have hr : R[i]? = some R[i] := List.getElem?_eq_getElem hiR
      have hra := e1 _ _ (hR.row i a _ ha hr)
      obtain ⟨n1, n2⟩ := hne _ (List.mem_of_getElem? hr)
      generalize R[i] = r at hr hra n1 n2
      have hraS := SqL.of (K := K) hra
      cases r with
      | nil => exact absurd rfl n1
      | cons x xr =>
        have a0 : atI (rowV (x :: xr)) 0 = some (.str x) := at_of (j := 0) rfl rfl
        refine ⟨rfl, ?_⟩
        walk_at "st"
        have hq1 := take_succ hr
        refine iteB (fun h => ?_) (fun h => ?_)
        · have hx : x = w := V.str.inj (dec_t h)
          walk_at "st"
          intro p np
          rw [show cutV (rowV (x :: xr)) (some 1) none = rowV xr from cut_tail]
          have s2 : Same H2 (upd H2 p (.lst (rowV xr))) := same_upd np
          have hp : upd H2 p (.lst (rowV xr)) p = some (.lst (rowV xr)) := upd_same
          have npD : p ≠ D := fun z => by have := hq.lst; rw [← z, np] at this; cases this
          generalize upd H2 p (.lst (rowV xr)) = H3 at s2 hp ⊢
          refine ⟨_, s2 _ _ hq.lst, small1000 ?_, same_over (e1.trans s2) nD, qs ++ [p], ?_⟩
          · rw [List.length_map, hq.len]
            have := keptL_len w (R.take i)
            rw [List.length_take] at this
            omega
          · rw [hq1, keptL_snoc, if_pos (show (x :: xr).head? = some w from congrArg some hx)]
            exact hq.push s2 npD hp
        · have hx : ¬ (x :: xr).head? = some w := fun z => dec_f h (by rw [Option.some.inj z])
          refine ⟨e1, qs, ?_⟩
          rw [hq1, keptL_snoc, if_neg hx]
          exact hq
    · rintro H1 ⟨e1, qs, hq⟩
      rw [List.length_map, hR.len, List.take_length] at hq
      walk_at "st"
      exact q () D qs H1 e1 nD hq
def sp_law_numbers (K : PySem.W.Frag) : Sp := fun vs H Q _ => ∃ (_ : Unit) (l : Addr) (n : Str) (ns : List Int), vs = [.ref l] ∧ SqL K H l (rowV (n :: ns.map numS)) ∧ ns.length ≤ 10 ∧ (∀ v, v ∈ ns → v.natAbs < 10 ^ 20) ∧
  ∀ (_ : Unit) (p : Addr) H', Same H H' → H p = none → H' p = some (.lst (encR (n, ns))) → Q (.ref p) H'
set_option maxHeartbeats 0 in
theorem ok_law_numbers (T : Txt K mg) : FnOk P w K mg base CX0 1 T.f_law_numbers T.d_law_numbers ["row"] (sp_law_numbers K) := by
  refine T.F_law_numbers.ok sc_law_numbers (fun vs H Q E h => ?_) (fun cdv A outer s H vs Q E hr h => ?_)
  · obtain ⟨_, l, n, ns, rfl, _⟩ := h
    rfl
  · obtain ⟨_, l, n, ns, rfl, hl, hn, hv, q⟩ := h
    refine ⟨_, (pss_one (ps_ret (pe_op op_cat (pe_lst (pa_cons (pe_ix ix_list (pv 0) pe_int (fun _ _ => rfl)) pa_nil)) (pe_lc (own := [("word", 1)]) (g := gName 1) (tt := tYes) rfl sc_law_numbers.nd (pi_list (pe_slice sl_list (pv 0) (po_some pe_int) po_none)) (blkOk_by (own := [("word", 1)]) (N := N_law_numbers) (sc := defScope s_law_numbers) (by decide +kernel)) (fun _ _ _ _ _ => (pg_name (i := 1) sc_law_numbers.nd rfl (Or.inl rfl))) (fun _ _ _ _ _ => pts_nil) (fun _ _ _ _ _ => (pe_callTy call_int_str (by rfl) T.z_int (by decide +kernel) (pa_cons (pv 1) pa_nil))))))), ?_⟩
    have a0 : atI (rowV (n :: ns.map numS)) 0 = some (.str n) := at_of (j := 0) rfl rfl
    walk_at "st"
    intro p np
    have s1 : Same H (upd H p (.lst [V.str n])) := same_upd np
    have hp : upd H p (.lst [V.str n]) p = some (.lst [V.str n]) := upd_same
    generalize upd H p (.lst [V.str n]) = H1 at s1 hp ⊢
    have hl1 := sqL_same hl s1
    walk_at "st"
    intro c nc
    rw [show cutV (rowV (n :: ns.map numS)) (some 1) none = rowV (ns.map numS) from cut_tail]
    have s2 : Same H1 (upd H1 c (.lst (rowV (ns.map numS)))) := same_upd nc
    have hc : upd H1 c (.lst (rowV (ns.map numS))) c = some (.lst (rowV (ns.map numS))) := upd_same
    generalize upd H1 c (.lst (rowV (ns.map numS))) = H2 at s2 hc ⊢
    have hcS := SqL.of (K := K) hc
    have hp2 := s2 _ _ hp
    walk_at "st"
    intro D nD
    refine lc_it (walk_list (xs := rowV (ns.map numS)) (a := c)) (fun i H' => Same H2 H' ∧ H' D = some (.lst ((ns.take i).map V.int))) ⟨same_upd nD, upd_same⟩ (fun i H' _ z => sqL_same hcS z.1) ?_ ?_
    · rintro i v H3 H4 hi ⟨e, hD⟩ y
      obtain ⟨rfl, hv2⟩ := y
      rw [List.getElem?_map, List.getElem?_map] at hv2
      cases hnv : ns[i]? with
      | none => rw [hnv] at hv2; cases hv2
      | some v0 =>
        rw [hnv] at hv2
        cases hv2
        have hin : i < ns.length := (List.getElem?_eq_some_iff.mp hnv).1
        obtain ⟨k1, k2⟩ := int_numS (hv v0 (List.mem_of_getElem? hnv))
        have k3 : (numS v0).length ≤ 640 := by omega
        refine ⟨rfl, ?_⟩
        walk_at "st"
        refine ⟨small1000 (by rw [List.length_map, List.length_take]; omega), same_over e nD, ?_⟩
        rw [upd_same, take_succ hnv, List.map_append]
        rfl
    · rintro H3 ⟨e, hD⟩
      rw [List.take_of_length_le (by simp)] at hD
      have hp3 := e _ _ hp2
      have hpS := SqL.of (K := K) hp3
      have hDS := SqL.of (K := K) hD
      have s3 := (s1.trans s2).trans e
      walk_at "st"
      refine ⟨Nat.le_of_lt (small1000 (by rw [List.length_map]; simp only [List.length_cons, List.length_nil]; omega)), fun z nz => ?_⟩
      exact q () z _ (same_over s3 (none_same s3 nz)) (none_same s3 nz) upd_same

def sp_law_last (K : PySem.W.Frag) : Sp := fun vs H Q _ => ∃ (_ : Unit) (l : Addr) (w : Str) (ps : List Addr) (R : List (List Str)) (o : Option Int), vs = [.ref l, .str w] ∧ Lsts rowV H l ps R ∧ (∀ r, r ∈ R → r ≠ [] ∧ r.length ≤ 20) ∧ R.length ≤ 100 ∧ keptL w R = o.toList.map (fun v => [numS v]) ∧ (∀ v, o = some v → v.natAbs < 10 ^ 20) ∧
  ∀ H', Same H H' → Q (.int (o.getD 0)) H'
set_option maxHeartbeats 0 in
theorem ok_law_last (T : Txt K mg) : FnOk P w K mg base CX0 2 T.f_law_last T.d_law_last ["rows", "word"] (sp_law_last K) := by
  refine T.F_law_last.ok sc_law_last (fun vs H Q E h => ?_) (fun cdv A outer s H vs Q E hr h => ?_)
  · obtain ⟨_, l, wd, ps, R, o, rfl, _⟩ := h
    rfl
  · obtain ⟨_, l, wd, ps, R, o, rfl, hR, hne, hl, hk, ho, q⟩ := h
    have G_law_kept : FnOk P w K mg base CX0 1 T.f_law_kept T.d_law_kept ["rows", "word"] (sp_law_kept K) := ok_law_kept T
    refine ⟨_, (pss_cons (ps_set (i := 2) sc_law_last.nd rfl (Or.inl rfl) (pe_call G_law_kept hr (by rfl) T.m_law_kept T.F_law_kept.kp T.b_law_kept .nil pass0 (pa_cons (pv 0) (pa_cons (pv 1) pa_nil))))
    (pss_cons (ps_if (pt_cmpR (op_eqD hr.units) (pv 2) (pe_lst pa_nil) (nomark _))
      (pss_one (ps_ret pe_int))
      pss_nil)
    (pss_one (ps_ret (pe_callTy call_int_str (by rfl) T.z_int (by decide +kernel) (pa_cons (pe_ix ix_list (pe_ix ix_list (pv 2) pe_int (fun _ _ => rfl)) pe_int (fun _ _ => rfl)) pa_nil)))))), ?_⟩
    walk_at "st"
    refine ⟨(), l, wd, ps, R, rfl, hR, hne, hl, fun _ p qs H1 s1 np hq => ?_⟩
    rw [hk] at hq
    walk_at "st"
    intro e ne
    have s2 : Same H1 (upd H1 e (.lst [])) := same_upd ne
    have he : upd H1 e (.lst []) e = some (.lst []) := upd_same
    generalize upd H1 e (.lst []) = H2 at s2 he ⊢
    have hq2 := hq.same s2
    have L := layD_str.list.list
    refine ⟨_, .list ([].map fun r : List Str => PyData.list (r.map PyData.str)), dpS2 hq2, .lst (SqL.of he) .nil, L.shaped (by decide) (x := o.toList.map fun v => [numS v]) (fun r hr x hx => ?_), L.shaped (by decide) (x := []) (fun r hr => by cases hr), ?_⟩
    · obtain ⟨v, _, rfl⟩ := List.mem_map.mp hr
      rw [List.mem_singleton.mp hx]
      exact strOk_num v
    rw [L.eqv (o.toList.map fun v => [numS v]) []]
    cases o with
    | none =>
      walk_at "st"
      refine iteB (fun _ => ?_) (fun h => absurd h (by decide))
      walk_at "st"
      exact q H2 (s1.trans s2)
    | some v =>
      obtain ⟨a, a1, a2, a3⟩ := hq2.at (i := 0) (x := [numS v]) rfl
      have hqS := SqL.of (K := K) hq2.lst
      have haS := SqL.of (K := K) a3
      have a0 : atI (rowV [numS v]) 0 = some (.str (numS v)) := at_of (j := 0) rfl rfl
      have a2' : atI (qs.map V.ref) 0 = some (.ref a) := a2
      obtain ⟨k1, k2⟩ := int_numS (ho v rfl)
      have k3 : (numS v).length ≤ 640 := by omega
      walk_at "st"
      exact q H2 (s1.trans s2)
def sp_law_same_moves (K : PySem.W.Frag) : Sp := fun vs H Q _ => ∃ (_ : Unit) (a b : Addr) (as bs : List Addr) (sc : List (List Int)), vs = [.ref a, .ref b] ∧ H a = some (.lst (as.map V.ref)) ∧ as.length = sc.length ∧ (∀ (i : Nat) (p : Addr) (m : List Int), as[i]? = some p → sc[i]? = some m → H p = some (.lst (m.map V.int))) ∧
  Lsts rowV H b bs (sc.map fun m => m.map numS) ∧ sc.length ≤ 100 ∧ (∀ m, m ∈ sc → m.length ≤ 20 ∧ ∀ v, v ∈ m → v.natAbs < 10 ^ 20) ∧ ∀ H', Same H H' → Q (.bl true) H'
set_option maxHeartbeats 0 in
theorem ok_law_same_moves (T : Txt K mg) : FnOk P w K mg base CX0 1 T.f_law_same_moves T.d_law_same_moves ["actual", "due"] (sp_law_same_moves K) := by
  refine T.F_law_same_moves.ok sc_law_same_moves (fun vs H Q E h => ?_) (fun cdv A outer s H vs Q E hr h => ?_)
  · obtain ⟨_, a, b, as, bs, sc, rfl, _⟩ := h
    rfl
  · obtain ⟨_, a, b, as, bs, sc, rfl, ha, hal, hrw, hb, hl, hm, q⟩ := h
    refine ⟨_, (pss_cons (ps_if (PW.pt (pw_or (pt_not (pt_val (pe_callB call_isi (by rfl) T.z_isinstance (by decide +kernel) (pa_cons (pv 0) (pa_cons (pe_bltn (v := .ty "list") (u := .type "list") (by rfl) T.z_list (by decide +kernel) rfl) pa_nil))))) (pw_or1 (pt_cmpR op_ne (pe_callB call_len_seq (by rfl) T.z_len PySem.boot_len (pa_cons (pv 0) pa_nil)) (pe_callB call_len_seq (by rfl) T.z_len PySem.boot_len (pa_cons (pv 1) pa_nil)) (nomark _)))))
      (pss_one (ps_ret pe_bl))
      pss_nil)
    (pss_cons (ps_for PassesOwn.never rfl (pi_range1 (by rfl) T.z_range (pa_cons (pe_callB call_len_seq (by rfl) T.z_len PySem.boot_len (pa_cons (pv 1) pa_nil)) pa_nil)) (pg_name (i := 2) sc_law_same_moves.nd rfl (Or.inl rfl))
      (pss_one (ps_if (PW.pt (pw_or (pt_not (pt_val (pe_callB call_isi (by rfl) T.z_isinstance (by decide +kernel) (pa_cons (pe_ix ix_list (pv 0) (pv 2) (fun _ _ => rfl)) (pa_cons (pe_bltn (v := .ty "list") (u := .type "list") (by rfl) T.z_list (by decide +kernel) rfl) pa_nil))))) (pw_or1 (pt_cmpR (op_neD hr.units) (pe_ix ix_list (pv 0) (pv 2) (fun _ _ => rfl)) (pe_lc (own := [("word", 3)]) (g := gName 3) (tt := tYes) rfl sc_law_same_moves.nd (pi_list (pe_ix ix_list (pv 1) (pv 2) (fun _ _ => rfl))) (blkOk_by (own := [("word", 3)]) (N := N_law_same_moves) (sc := defScope s_law_same_moves) (by decide +kernel)) (fun _ _ _ _ _ => (pg_name (i := 3) sc_law_same_moves.nd rfl (Or.inl rfl))) (fun _ _ _ _ _ => pts_nil) (fun _ _ _ _ _ => (pe_callTy call_int_str (by rfl) T.z_int (by decide +kernel) (pa_cons (pv 3) pa_nil)))) (nomark _)))))
        (pss_one (ps_ret pe_bl))
        pss_nil)))
    (pss_one (ps_ret pe_bl)))), ?_⟩
    have haS := SqL.of (K := K) ha
    have hbS := SqL.of (K := K) hb.lst
    have el : (as.map V.ref).length = (bs.map V.ref).length := by rw [List.length_map, List.length_map, hb.len, List.length_map, hal]
    walk_at "st"
    refine ⟨_, _, true, rfl, .ty _, .base (.lst ha), kit_ty (by decide +kernel), ?_⟩
    walk_at "st"
    refine iteB (fun h => ?_) (fun _ => ?_)
    · rw [el] at h
      simp at h
    have hlb : (bs.map V.ref).length = sc.length := by rw [List.length_map, hb.len, List.length_map]
    walk_at "st"
    refine for_range (lo := 0) (n := (((bs.map V.ref).length : Nat) : Int).toNat) (fun i σ H' => Same H H' ∧ ∃ v2 v3 : Option V, σ = [some (.ref a), some (.ref b), v2, v3]) ⟨Same.refl _, _, _, rfl⟩ ?_ ?_
    · rintro i σ H1 hi ⟨e1, v2, v3, rfl⟩
      rw [Int.toNat_natCast, hlb] at hi
      rw [Int.zero_add]
      have hmi : sc[i]? = some sc[i] := List.getElem?_eq_getElem hi
      generalize sc[i] = m at hmi
      have hia : i < as.length := by rw [hal]; exact hi
      have hai : as[i]? = some as[i] := List.getElem?_eq_getElem hia
      generalize as[i] = p at hai
      have a1 : atI (as.map V.ref) (i : Int) = some (.ref p) := at_nat (by rw [List.getElem?_map, hai]; rfl)
      have hp1 := e1 _ _ (hrw i p m hai hmi)
      have hpS := SqL.of (K := K) hp1
      obtain ⟨p2, b1, b2, b3⟩ := (hb.same e1).at (i := i) (x := m.map numS) (by rw [List.getElem?_map, hmi]; rfl)
      have hp2S := SqL.of (K := K) b3
      obtain ⟨hml, hmv⟩ := hm m (List.mem_of_getElem? hmi)
      have ha1 := sqL_same haS e1
      have hb1 := sqL_same hbS e1
      walk_at "st"
      refine ⟨_, _, true, rfl, .ty _, .base (.lst hp1), kit_ty (by decide +kernel), ?_⟩
      walk_at "st"
      intro D nD
      refine lc_it (walk_list (xs := rowV (m.map numS)) (a := p2)) (fun j H' => Same H1 H' ∧ H' D = some (.lst ((m.take j).map V.int))) ⟨same_upd nD, upd_same⟩ (fun j H' _ z => sqL_same hp2S z.1) ?_ ?_
      · rintro j v H3 H4 hj ⟨e, hD⟩ y
        obtain ⟨rfl, hv2⟩ := y
        rw [List.getElem?_map, List.getElem?_map] at hv2
        cases hnv : m[j]? with
        | none => rw [hnv] at hv2; cases hv2
        | some v0 =>
          rw [hnv] at hv2
          cases hv2
          have hin : j < m.length := (List.getElem?_eq_some_iff.mp hnv).1
          obtain ⟨k1, k2⟩ := int_numS (hmv v0 (List.mem_of_getElem? hnv))
          have k3 : (numS v0).length ≤ 640 := by omega
          refine ⟨rfl, ?_⟩
          walk_at "st"
          refine ⟨small1000 (by rw [List.length_map, List.length_take]; omega), same_over e nD, ?_⟩
          rw [upd_same, take_succ hnv, List.map_append]
          rfl
      · rintro H3 ⟨e, hD⟩
        rw [List.take_of_length_le (by simp)] at hD
        have L := layD_int.list
        have hpS3 := sqL_same hpS e
        refine ⟨.list (m.map .int), .list (m.map .int), .lst hpS3 (dpI m), .lst (SqL.of hD) (dpI m), L.shaped (by decide) (x := m) (fun _ _ => trivial), L.shaped (by decide) (x := m) (fun _ _ => trivial), ?_⟩
        rw [L.eqv m m, decide_eq_true rfl]
        walk_at "st"
        refine iteB (fun h => absurd h (by decide)) (fun _ => ?_)
        walk_at "st"
        exact ⟨e1.trans e, _, _, rfl⟩
    · rintro σ H1 ⟨e1, v2, v3, rfl⟩
      walk_at "st"
      exact q H1 e1
def sp_law_same_rows (K : PySem.W.Frag) : Sp := fun vs H Q _ => ∃ (_ : Unit) (a b : Addr) (as bs : List Addr) (D : List RowN), vs = [.ref a, .ref b] ∧ Tups encR H a as D ∧ Lsts encR H b bs D ∧ D.length ≤ 100 ∧ (∀ r, r ∈ D → r.2.length ≤ 20) ∧ ∀ H', Same H H' → Q (.bl true) H'
set_option maxHeartbeats 0 in
theorem ok_law_same_rows (T : Txt K mg) : FnOk P w K mg base CX0 1 T.f_law_same_rows T.d_law_same_rows ["actual", "due"] (sp_law_same_rows K) := by
  refine T.F_law_same_rows.ok sc_law_same_rows (fun vs H Q E h => ?_) (fun cdv A outer s H vs Q E hr h => ?_)
  · obtain ⟨_, a, b, as, bs, D, rfl, _⟩ := h
    rfl
  · obtain ⟨_, a, b, as, bs, D, rfl, hT, hb, hl, hm, q⟩ := h
    refine ⟨_, (pss_cons (ps_if (PW.pt (pw_or (pt_not (pt_val (pe_callB call_isi (by rfl) T.z_isinstance (by decide +kernel) (pa_cons (pv 0) (pa_cons (pe_bltn (v := .ty "list") (u := .type "list") (by rfl) T.z_list (by decide +kernel) rfl) pa_nil))))) (pw_or1 (pt_cmpR op_ne (pe_callB call_len_seq (by rfl) T.z_len PySem.boot_len (pa_cons (pv 0) pa_nil)) (pe_callB call_len_seq (by rfl) T.z_len PySem.boot_len (pa_cons (pv 1) pa_nil)) (nomark _)))))
      (pss_one (ps_ret pe_bl))
      pss_nil)
    (pss_cons (ps_for PassesOwn.never rfl (pi_range1 (by rfl) T.z_range (pa_cons (pe_callB call_len_seq (by rfl) T.z_len PySem.boot_len (pa_cons (pv 1) pa_nil)) pa_nil)) (pg_name (i := 2) sc_law_same_rows.nd rfl (Or.inl rfl))
      (pss_cons (ps_if (PW.pt (pw_or (pt_not (pt_val (pe_callB call_isi (by rfl) T.z_isinstance (by decide +kernel) (pa_cons (pe_ix ix_list (pv 0) (pv 2) (fun _ _ => rfl)) (pa_cons (pe_bltn (v := .ty "tuple") (u := .type "tuple") (by rfl) T.z_tuple (by decide +kernel) rfl) pa_nil))))) (pw_or1 (pt_cmpR op_ne (pe_callB call_len_seq (by rfl) T.z_len PySem.boot_len (pa_cons (pe_ix ix_list (pv 0) (pv 2) (fun _ _ => rfl)) pa_nil)) (pe_callB call_len_seq (by rfl) T.z_len PySem.boot_len (pa_cons (pe_ix ix_list (pv 1) (pv 2) (fun _ _ => rfl)) pa_nil)) (nomark _)))))
        (pss_one (ps_ret pe_bl))
        pss_nil)
      (pss_one (ps_for PassesOwn.never rfl (pi_range1 (by rfl) T.z_range (pa_cons (pe_callB call_len_seq (by rfl) T.z_len PySem.boot_len (pa_cons (pe_ix ix_list (pv 1) (pv 2) (fun _ _ => rfl)) pa_nil)) pa_nil)) (pg_name (i := 3) sc_law_same_rows.nd rfl (Or.inl rfl))
        (pss_one (ps_if (PW.pt (pw_or (pt_val (pe_callB call_isi (by rfl) T.z_isinstance (by decide +kernel) (pa_cons (pe_ix ix_tup (pe_ix ix_list (pv 0) (pv 2) (fun _ _ => rfl)) (pv 3) (fun _ _ => rfl)) (pa_cons (pe_bltn (v := .ty "bool") (u := .type "bool") (by rfl) T.z_bool (by decide +kernel) rfl) pa_nil)))) (pw_or1 (pt_cmpR op_ne (pe_ix ix_tup (pe_ix ix_list (pv 0) (pv 2) (fun _ _ => rfl)) (pv 3) (fun _ _ => rfl)) (pe_ix ix_list (pe_ix ix_list (pv 1) (pv 2) (fun _ _ => rfl)) (pv 3) (fun _ _ => rfl)) (nomark _)))))
          (pss_one (ps_ret pe_bl))
          pss_nil))))))
    (pss_one (ps_ret pe_bl)))), ?_⟩
    have haS := SqL.of (K := K) hT.lst
    have hbS := SqL.of (K := K) hb.lst
    have el : (as.map V.ref).length = (bs.map V.ref).length := by rw [List.length_map, List.length_map, hb.len, hT.len]
    walk_at "st"
    refine ⟨_, _, true, rfl, .ty _, .base (.lst hT.lst), kit_ty (by decide +kernel), ?_⟩
    walk_at "st"
    refine iteB (fun h => ?_) (fun _ => ?_)
    · rw [el] at h
      simp at h
    have hlb : (bs.map V.ref).length = D.length := by rw [List.length_map, hb.len]
    walk_at "st"
    refine for_range (lo := 0) (n := (((bs.map V.ref).length : Nat) : Int).toNat) (fun i σ H' => Same H H' ∧ ∃ v2 v3 : Option V, σ = [some (.ref a), some (.ref b), v2, v3]) ⟨Same.refl _, _, _, rfl⟩ ?_ ?_
    · rintro i σ H1 hi ⟨e1, v2, v3, rfl⟩
      rw [Int.toNat_natCast, hlb] at hi
      rw [Int.zero_add]
      have hmi : D[i]? = some D[i] := List.getElem?_eq_getElem hi
      generalize D[i] = r at hmi
      obtain ⟨p, a1, a2, a3⟩ := (hT.same e1).at hmi
      obtain ⟨p2, b1, b2, b3⟩ := (hb.same e1).at hmi
      have hpS := SqT.of (K := K) a3
      have hp2S := SqL.of (K := K) b3
      have hml := hm r (List.mem_of_getElem? hmi)
      have ha1 := sqL_same haS e1
      have hb1 := sqL_same hbS e1
      have hrl : (encR r).length ≤ 30 := by unfold encR; rw [List.length_cons, List.length_map]; omega
      walk_at "st"
      refine ⟨_, _, true, rfl, .ty _, .base (.tup a3), kit_ty (by decide +kernel), ?_⟩
      walk_at "st"
      refine iteB (fun h => ?_) (fun _ => ?_)
      · simp at h
      walk_at "st"
      refine for_range (lo := 0) (n := (((encR r).length : Nat) : Int).toNat) (fun j σ H' => Same H H' ∧ Same H1 H' ∧ ∃ v3 : Option V, σ = [some (.ref a), some (.ref b), some (.int (i : Int)), v3]) ⟨e1, Same.refl _, _, rfl⟩ ?_ ?_
      · rintro j σ H2 hj ⟨e2, e12, v3, rfl⟩
        rw [Int.toNat_natCast] at hj
        rw [Int.zero_add]
        have hx : (encR r)[j]? = some (encR r)[j] := List.getElem?_eq_getElem hj
        generalize (encR r)[j] = x at hx
        have ax : atI (encR r) (j : Int) = some x := at_nat hx
        have hpS2 : SqT K H2 p (encR r) := SqT.of (e12 _ _ a3)
        have hp2S2 := sqL_same hp2S e12
        have ha2 := sqL_same ha1 e12
        have hb2 := sqL_same hb1 e12
        have hxk : x = .str r.1 ∨ ∃ n, x = .int n := by
          have := List.mem_of_getElem? hx
          unfold encR at this
          rcases List.mem_cons.mp this with z | z
          · exact .inl z
          · obtain ⟨n, _, z⟩ := List.mem_map.mp z
            exact .inr ⟨n, z.symm⟩
        rcases hxk with rfl | ⟨n, rfl⟩
        · walk_at "st"
          refine ⟨_, _, false, rfl, .ty _, .base (.str _), kit_ty (by decide +kernel), ?_⟩
          walk_at "st"
          refine iteB (fun h => ?_) (fun _ => ?_)
          · simp at h
          walk_at "st"
          first | exact ⟨e2, e12, _, rfl⟩ | exact ⟨_, rfl⟩
        · walk_at "st"
          refine ⟨_, _, false, rfl, .ty _, .base (.int _), kit_ty (by decide +kernel), ?_⟩
          walk_at "st"
          refine iteB (fun h => ?_) (fun _ => ?_)
          · simp at h
          walk_at "st"
          first | exact ⟨e2, e12, _, rfl⟩ | exact ⟨_, rfl⟩
      · rintro σ H2 ⟨e2, e12, v3, rfl⟩
        exact ⟨e2, _, _, rfl⟩
    · rintro σ H1 ⟨e1, v2, v3, rfl⟩
      walk_at "st"
      exact q H1 e1

end
theorem keptL_append (w : Str) (A B : List (List Str)) : keptL w (A ++ B) = keptL w A ++ keptL w B := by unfold keptL; rw [List.filter_append, List.map_append]
theorem keptL_blk {α : Type} (w w' : Str) (f : α → List Str) (hf : ∀ x, (f x).head? = some w') : ∀ xs : List α, keptL w (xs.map f) = if w' = w then xs.map (fun x => (f x).tail) else []
  | [] => by unfold keptL; split <;> rfl
  | x :: xs => by
    have ih := keptL_blk w w' f hf xs
    rw [List.map_cons, show f x :: xs.map f = [f x] ++ xs.map f from rfl, keptL_append, ih]
    unfold keptL
    by_cases h : w' = w
    · rw [if_pos h, if_pos h, List.filter_cons_of_pos (by rw [hf x, h]; exact decide_eq_true rfl)]
      rfl
    · rw [if_neg h, if_neg h, List.filter_cons_of_neg (by rw [hf x]; simpa using h)]
      rfl
theorem keptL_orow (w w' : Str) (o : Option Int) : keptL w (orow w' o) = if w' = w then o.toList.map (fun v => [numS v]) else [] := by
  cases o with
  | none => split <;> rfl
  | some v => exact keptL_blk w w' (fun v : Int => [w', numS v]) (fun _ => rfl) [v]
def rowW (r : RowN) : List Str := r.1 :: r.2.map numS
theorem keptL_rows (w : Str) (d : Ter) : keptL w (rowsT d) = (if ("house" : Str) = w then (d.hs.map rowH).map rowW else []) ++ (if ("instrument" : Str) = w then d.ins.map rowW else []) ++ (if ("scenario" : Str) = w then d.sc.map (fun m => m.map numS) else []) ++ (if ("fund" : Str) = w then (d.fu.map rowH).map rowW else []) ++ (if ("fee" : Str) = w then d.fee.toList.map (fun v => [numS v]) else []) ++ (if ("skin" : Str) = w then d.skin.toList.map (fun v => [numS v]) else []) := by
  unfold rowsT
  rw [keptL_append, keptL_append, keptL_append, keptL_append, keptL_append, keptL_orow, keptL_orow, keptL_blk w "house" hrow (fun _ => rfl), keptL_blk w "instrument" irow (fun _ => rfl), keptL_blk w "scenario" srow (fun _ => rfl), keptL_blk w "fund" frow (fun _ => rfl), List.map_map, List.map_map]
  rfl
theorem kept_house (d : Ter) : keptL "house" (rowsT d) = (d.hs.map rowH).map rowW := by
  rw [keptL_rows, if_pos rfl, if_neg (by decide +kernel), if_neg (by decide +kernel), if_neg (by decide +kernel), if_neg (by decide +kernel), if_neg (by decide +kernel)]
  simp only [List.append_nil]
theorem kept_ins (d : Ter) : keptL "instrument" (rowsT d) = d.ins.map rowW := by
  rw [keptL_rows, if_neg (by decide +kernel), if_pos rfl, if_neg (by decide +kernel), if_neg (by decide +kernel), if_neg (by decide +kernel), if_neg (by decide +kernel)]
  simp only [List.append_nil, List.nil_append]
theorem kept_sc (d : Ter) : keptL "scenario" (rowsT d) = d.sc.map fun m => m.map numS := by
  rw [keptL_rows, if_neg (by decide +kernel), if_neg (by decide +kernel), if_pos rfl, if_neg (by decide +kernel), if_neg (by decide +kernel), if_neg (by decide +kernel)]
  simp only [List.append_nil, List.nil_append]
theorem kept_fund (d : Ter) : keptL "fund" (rowsT d) = (d.fu.map rowH).map rowW := by
  rw [keptL_rows, if_neg (by decide +kernel), if_neg (by decide +kernel), if_neg (by decide +kernel), if_pos rfl, if_neg (by decide +kernel), if_neg (by decide +kernel)]
  simp only [List.append_nil, List.nil_append]
theorem kept_fee (d : Ter) : keptL "fee" (rowsT d) = d.fee.toList.map fun v => [numS v] := by
  rw [keptL_rows, if_neg (by decide +kernel), if_neg (by decide +kernel), if_neg (by decide +kernel), if_neg (by decide +kernel), if_pos rfl, if_neg (by decide +kernel)]
  simp only [List.append_nil, List.nil_append]
theorem kept_skin (d : Ter) : keptL "skin" (rowsT d) = d.skin.toList.map fun v => [numS v] := by
  rw [keptL_rows, if_neg (by decide +kernel), if_neg (by decide +kernel), if_neg (by decide +kernel), if_neg (by decide +kernel), if_neg (by decide +kernel), if_pos rfl]
  simp only [List.append_nil, List.nil_append]
theorem rows_ne {d : Ter} (G : GTer d) : (∀ r, r ∈ rowsT d → r ≠ [] ∧ r.length ≤ 20) ∧ (rowsT d).length ≤ 60 := by
  have ho : ∀ (w : Str) (o : Option Int), (∀ r, r ∈ orow w o → r ≠ [] ∧ r.length ≤ 20) ∧ (orow w o).length ≤ 1 := fun w o => by
    cases o with
    | none => exact ⟨fun r h => (by cases h), Nat.zero_le _⟩
    | some v => exact ⟨fun r h => by rw [List.mem_singleton.mp h]; exact ⟨(fun z => by cases z), Nat.le_of_ble_eq_true rfl⟩, Nat.le_refl _⟩
  constructor
  · intro r hr
    unfold rowsT at hr
    rcases List.mem_append.mp hr with hr | hr
    · rcases List.mem_append.mp hr with hr | hr
      · rcases List.mem_append.mp hr with hr | hr
        · rcases List.mem_append.mp hr with hr | hr
          · rcases List.mem_append.mp hr with hr | hr
            · obtain ⟨x, _, rfl⟩ := List.mem_map.mp hr
              exact ⟨(fun z => by cases z), Nat.le_of_ble_eq_true rfl⟩
            · obtain ⟨x, hx, rfl⟩ := List.mem_map.mp hr
              obtain ⟨_, a, l, b, c, e, _⟩ := G.ins x hx
              refine ⟨(fun z => by cases z), ?_⟩
              unfold irow
              rw [e]
              exact Nat.le_of_ble_eq_true rfl
          · obtain ⟨x, hx, rfl⟩ := List.mem_map.mp hr
            refine ⟨(fun z => by cases z), ?_⟩
            have h1 := (G.sc x hx).1
            have h2 := G.il
            unfold srow
            rw [List.length_cons, List.length_map]
            omega
        · obtain ⟨x, _, rfl⟩ := List.mem_map.mp hr
          exact ⟨(fun z => by cases z), Nat.le_of_ble_eq_true rfl⟩
      · exact (ho _ _).1 r hr
    · exact (ho _ _).1 r hr
  · unfold rowsT
    have h1 := G.hl
    have h2 := G.il
    have h3 := G.sl
    have h4 := G.fl
    have h5 := (ho "fee" d.fee).2
    have h6 := (ho "skin" d.skin).2
    simp only [List.length_append, List.length_map]
    omega
structure SameT (d' d : Ter) : Prop where
  hs : d'.hs.Perm d.hs
  ins : d'.ins.Perm d.ins
  sc : d'.sc = d.sc
  fu : d'.fu.Perm d.fu
  fee : d'.fee.getD 0 = d.fee.getD 0
  skin : d'.skin.getD 0 = d.skin.getD 0
theorem keys_rowH (l : List (Str × Int)) : (l.map rowH).map (fun r : RowN => r.1) = keysS l := by
  unfold keysS
  rw [List.map_map]
  rfl
/-- the three comparisons: the word, and the list that it belongs to -/
def triW : List (Str × Str) := [("h", "house"), ("i", "instrument"), ("f", "fund")]
structure NmI (R : List RowN) (H0 : Hp) (D : Addr) (i : Nat) (H : Hp) : Prop where
  e : Same H0 H
  ex : ∃ qs, Lsts encR H D qs (R.take i)
theorem kept_rowW {d : Ter} (G : GTer d) : ∀ x, x ∈ d.hs.map rowH ∨ x ∈ d.ins ∨ x ∈ d.fu.map rowH → x.2.length ≤ 10 ∧ ∀ v, v ∈ x.2 → v.natAbs < 10 ^ 20 := by
  rintro x (h | h | h)
  · obtain ⟨y, hy, rfl⟩ := List.mem_map.mp h
    obtain ⟨_, h1, h2⟩ := G.hs y hy
    refine ⟨Nat.le_of_ble_eq_true rfl, fun v hv => ?_⟩
    rw [List.mem_singleton.mp hv]
    have : y.2.natAbs ≤ 1000000000 := by omega
    exact Nat.lt_of_le_of_lt this (by decide)
  · obtain ⟨_, a, l, b, c, e, h1, h2, h3, h4, _⟩ := G.ins x h
    rw [e]
    refine ⟨Nat.le_of_ble_eq_true rfl, fun v hv => ?_⟩
    have : v.natAbs ≤ 1000000000 := by
      simp only [List.mem_cons, List.not_mem_nil, or_false] at hv
      omega
    exact Nat.lt_of_le_of_lt this (by decide)
  · obtain ⟨y, hy, rfl⟩ := List.mem_map.mp h
    obtain ⟨_, h1, h2⟩ := G.fu y hy
    refine ⟨Nat.le_of_ble_eq_true rfl, fun v hv => ?_⟩
    rw [List.mem_singleton.mp hv]
    have : y.2.natAbs ≤ 1000000000 := by omega
    exact Nat.lt_of_le_of_lt this (by decide)
theorem lsts_zipS {H : Hp} {p : Addr} {as : List Addr} {D : List RowN} (hl : as.length = D.length) (hr : ∀ (i : Nat) (a : Addr) (x : RowN), as[i]? = some a → D[i]? = some x → H a = some (.lst (encR x))) (hp : H p = some (.lst (((zipS layL as D).map (·.1)).map V.ref))) (np : p ∉ as) : Lsts encR H p ((zipS layL as D).map (·.1)) (D.mergeSort leN) :=
  ⟨hp, by rw [List.length_map, zipS_len layL hl, List.length_mergeSort], fun i a x e1 e2 => by
    obtain ⟨j, j1, j2⟩ := zipS_at layL hl e1 e2
    exact hr j a x j1 j2, fun z => by
    obtain ⟨y, hy, e⟩ := List.mem_map.mp z
    have hm := List.mem_mergeSort.mp hy
    exact np (by rw [← e]; exact (List.of_mem_zip hm).1)⟩

section
variable {P : Program} {w : World} {K : PySem.W.Frag} {mg : Str → Option Value} {base : Heap}
def sp_law_terms (K : PySem.W.Frag) (C : Addr) : Sp := fun vs H Q _ => ∃ (_ : Unit) (t dt M1 M2 M3 M4 l : Addr) (d' d : Ter) (ps : List Addr), vs = [.ref t, .ref l] ∧ TerAt C H t dt M1 M2 M3 M4 d' ∧ Lsts rowV H l ps (rowsT d) ∧ GTer d ∧ SameT d' d ∧ ∀ H', Same H H' → Q (.bl true) H'
set_option maxHeartbeats 0 in
theorem ok_law_terms (T : Txt K mg) : FnOk P w K mg base CX0 3 T.f_law_terms T.d_law_terms ["terms", "rows"] (sp_law_terms K T.c_Terms) := by
  refine T.F_law_terms.ok sc_law_terms (fun vs H Q E h => ?_) (fun cdv A outer s H vs Q E hr h => ?_)
  · obtain ⟨_, t, dt, M1, M2, M3, M4, l, d', d, ps, rfl, _⟩ := h
    rfl
  · obtain ⟨_, t, dt, M1, M2, M3, M4, l, d', d, ps, rfl, B, hR, G, S, q⟩ := h
    have G_law_same_moves : FnOk P w K mg base CX0 1 T.f_law_same_moves T.d_law_same_moves ["actual", "due"] (sp_law_same_moves K) := ok_law_same_moves T
    have G_law_same_rows : FnOk P w K mg base CX0 1 T.f_law_same_rows T.d_law_same_rows ["actual", "due"] (sp_law_same_rows K) := ok_law_same_rows T
    have G_law_kept : FnOk P w K mg base CX0 1 T.f_law_kept T.d_law_kept ["rows", "word"] (sp_law_kept K) := ok_law_kept T
    have G_law_last : FnOk P w K mg base CX0 2 T.f_law_last T.d_law_last ["rows", "word"] (sp_law_last K) := ok_law_last T
    have G_law_numbers : FnOk P w K mg base CX0 1 T.f_law_numbers T.d_law_numbers ["row"] (sp_law_numbers K) := ok_law_numbers T
    refine ⟨_, (pss_cons (ps_for PassesOwn.never rfl (pi_tup (pe_tup (pa_cons (pe_tup (pa_cons pe_str (pa_cons pe_str pa_nil))) (pa_cons (pe_tup (pa_cons pe_str (pa_cons pe_str pa_nil))) (pa_cons (pe_tup (pa_cons pe_str (pa_cons pe_str pa_nil))) pa_nil))))) (pg_tup rfl (pgs_cons (pg_name (i := 2) sc_law_terms.nd rfl (Or.inl rfl)) (pgs_cons (pg_name (i := 3) sc_law_terms.nd rfl (Or.inl rfl)) pgs_nil)))
      (pss_cons (ps_set (i := 4) sc_law_terms.nd rfl (Or.inl rfl) (pe_callB (cr_sortG hr sortK_L) (by rfl) T.z_sorted (by decide +kernel) (pa_cons (pe_lc (own := [("row", 5)]) (g := gName 5) (tt := tYes) rfl sc_law_terms.nd (pi_list (pe_call G_law_kept (hr.mono (by decide)) (by rfl) T.m_law_kept T.F_law_kept.kp T.b_law_kept .nil pass0 (pa_cons (pv 1) (pa_cons (pv 3) pa_nil)))) (blkOk_by (own := [("row", 5)]) (N := N_law_terms) (sc := defScope s_law_terms) (by decide +kernel)) (fun _ _ _ _ _ => (pg_name (i := 5) sc_law_terms.nd rfl (Or.inl rfl))) (fun _ _ _ _ _ => pts_nil) (fun _ _ _ _ _ => (pe_call G_law_numbers (hr.mono (by decide)) (by rfl) T.m_law_numbers T.F_law_numbers.kp T.b_law_numbers .nil pass0 (pa_cons (pv 5) pa_nil)))) pa_nil)))
      (pss_cons (ps_set (i := 6) sc_law_terms.nd rfl (Or.inl rfl) (pe_fld (pv 0) rfl))
      (pss_cons (ps_if (pt_cmpR op_eq (pv 2) pe_str (nomark _))
        (pss_one (ps_set (i := 6) sc_law_terms.nd rfl (Or.inl rfl) (pe_fld (pv 0) rfl)))
        pss_nil)
      (pss_cons (ps_if (pt_cmpR op_eq (pv 2) pe_str (nomark _))
        (pss_one (ps_set (i := 6) sc_law_terms.nd rfl (Or.inl rfl) (pe_fld (pv 0) rfl)))
        pss_nil)
      (pss_one (ps_if (pt_not (pt_val (pe_call G_law_same_rows (hr.mono (by decide)) (by rfl) T.m_law_same_rows T.F_law_same_rows.kp T.b_law_same_rows .nil pass0 (pa_cons (pv 6) (pa_cons (pv 4) pa_nil)))))
        (pss_one (ps_ret pe_bl))
        pss_nil)))))))
    (pss_cons (ps_if (pt_not (pt_val (pe_call G_law_same_moves (hr.mono (by decide)) (by rfl) T.m_law_same_moves T.F_law_same_moves.kp T.b_law_same_moves .nil pass0 (pa_cons (pe_fld (pv 0) rfl) (pa_cons (pe_call G_law_kept (hr.mono (by decide)) (by rfl) T.m_law_kept T.F_law_kept.kp T.b_law_kept .nil pass0 (pa_cons (pv 1) (pa_cons pe_str pa_nil))) pa_nil)))))
      (pss_one (ps_ret pe_bl))
      pss_nil)
    (pss_cons (ps_if (PW.pt (pw_or (pt_val (pe_callB call_isi (by rfl) T.z_isinstance (by decide +kernel) (pa_cons (pe_fld (pv 0) rfl) (pa_cons (pe_bltn (v := .ty "bool") (u := .type "bool") (by rfl) T.z_bool (by decide +kernel) rfl) pa_nil)))) (pw_or1 (pt_val (pe_callB call_isi (by rfl) T.z_isinstance (by decide +kernel) (pa_cons (pe_fld (pv 0) rfl) (pa_cons (pe_bltn (v := .ty "bool") (u := .type "bool") (by rfl) T.z_bool (by decide +kernel) rfl) pa_nil)))))))
      (pss_one (ps_ret pe_bl))
      pss_nil)
    (pss_one (ps_ret (pe_and (pe_cmpR op_eq (pe_fld (pv 0) rfl) (pe_call G_law_last hr (by rfl) T.m_law_last T.F_law_last.kp T.b_law_last .nil pass0 (pa_cons (pv 1) (pa_cons pe_str pa_nil))) (nomark _)) (pe_one (pe_cmpR op_eq (pe_fld (pv 0) rfl) (pe_call G_law_last hr (by rfl) T.m_law_last T.F_law_last.kp T.b_law_last .nil pass0 (pa_cons (pv 1) (pa_cons pe_str pa_nil))) (nomark _))))))))), ?_⟩
    have fact_Terms_0 := T.cl_Terms; have fact_Terms_1 := T.na_Terms_houses; have fact_Terms_2 := T.na_Terms_instruments; have fact_Terms_3 := T.na_Terms_scenarios; have fact_Terms_4 := T.na_Terms_fund; have fact_Terms_5 := T.na_Terms_fee; have fact_Terms_6 := T.na_Terms_skin
    obtain ⟨rne, rl60⟩ := rows_ne G
    walk_at "st"
    intro T1 n1
    have s1 : Same H (upd H T1 (.tup [.str "h", .str "house"])) := same_upd n1
    have h1 : upd H T1 (.tup [.str "h", .str "house"]) T1 = some (.tup [.str "h", .str "house"]) := upd_same
    generalize upd H T1 (.tup [.str "h", .str "house"]) = H1 at s1 h1 ⊢
    walk_at "st"
    intro T2 n2
    have s2 : Same H1 (upd H1 T2 (.tup [.str "i", .str "instrument"])) := same_upd n2
    have h2 : upd H1 T2 (.tup [.str "i", .str "instrument"]) T2 = some (.tup [.str "i", .str "instrument"]) := upd_same
    generalize upd H1 T2 (.tup [.str "i", .str "instrument"]) = H2 at s2 h2 ⊢
    walk_at "st"
    intro T3 n3
    have s3 : Same H2 (upd H2 T3 (.tup [.str "f", .str "fund"])) := same_upd n3
    have h3 : upd H2 T3 (.tup [.str "f", .str "fund"]) T3 = some (.tup [.str "f", .str "fund"]) := upd_same
    generalize upd H2 T3 (.tup [.str "f", .str "fund"]) = H3 at s3 h3 ⊢
    walk_at "st"
    intro T4 n4
    have s4 : Same H3 (upd H3 T4 (.tup [.ref T1, .ref T2, .ref T3])) := same_upd n4
    have h4 : upd H3 T4 (.tup [.ref T1, .ref T2, .ref T3]) T4 = some (.tup [.ref T1, .ref T2, .ref T3]) := upd_same
    generalize upd H3 T4 (.tup [.ref T1, .ref T2, .ref T3]) = H4 at s4 h4 ⊢
    have s04 := ((s1.trans s2).trans s3).trans s4
    have t1 := s4 _ _ (s3 _ _ (s2 _ _ h1))
    have t2 := s4 _ _ (s3 _ _ h2)
    have t3 := s4 _ _ h3
    have h4S := SqT.of (K := K) h4
    walk_at "st"
    refine for_it (walk_tup (K := K) (a := T4) (xs := [V.ref T1, V.ref T2, V.ref T3])) (fun i σ H' => Same H4 H' ∧ ∃ v2 v3 v4 v5 v6 : Option V, σ = [some (.ref t), some (.ref l), v2, v3, v4, v5, v6]) ⟨Same.refl _, _, _, _, _, _, rfl⟩ (fun i σ H' _ z => SqT.of (z.1 _ _ h4)) ?_ ?_
    · rintro i v σ H5 H6 hi ⟨e5, v2, v3, v4, v5, v6, rfl⟩ y
      obtain ⟨rfl, hv⟩ := y
      have B6 := B.same (s04.trans e5)
      have hR6 := hR.same (s04.trans e5)
      obtain ⟨Tp, nm, wd, D, M, as, rfl, hTp, hkl, hTu, hok, hcase⟩ : ∃ (Tp : Addr) (nm wd : Str) (D : List RowN) (M : Addr) (as : List Addr), v = .ref Tp ∧ H6 Tp = some (.tup [.str nm, .str wd]) ∧ keptL wd (rowsT d) = D.map rowW ∧ Tups encR H6 M as (D.mergeSort leN) ∧ ((∀ x, x ∈ D → x.2.length ≤ 10 ∧ ∀ v, v ∈ x.2 → v.natAbs < 10 ^ 20) ∧ D.length ≤ 60) ∧
          ((nm = "h" ∧ M = M1) ∨ (nm = "i" ∧ M = M2) ∨ (nm = "f" ∧ M = M4)) := by
        obtain ⟨a1, g1⟩ := B6.h
        obtain ⟨a2, g2⟩ := B6.i
        obtain ⟨a4, g4⟩ := B6.f
        have kr := kept_rowW G
        have hl := G.hl
        have il := G.il
        have fl := G.fl
        match i, hv with
        | 0, hv =>
          refine ⟨T1, "h", "house", d.hs.map rowH, M1, a1, (Option.some.inj hv).symm, e5 _ _ t1, kept_house d, by rw [← sortN_perm (S.hs.map rowH) (by rw [keys_rowH]; exact ((S.hs.map _).nodup_iff).mpr G.hn)]; exact g1, ⟨fun x hx => kr x (.inl hx), by rw [List.length_map]; omega⟩, .inl ⟨rfl, rfl⟩⟩
        | 1, hv =>
          refine ⟨T2, "i", "instrument", d.ins, M2, a2, (Option.some.inj hv).symm, e5 _ _ t2, kept_ins d, ?_, ⟨fun x hx => kr x (.inr (.inl hx)), by omega⟩, .inr (.inl ⟨rfl, rfl⟩)⟩
          rw [← sortN_perm S.ins (((S.ins.map _).nodup_iff).mpr G.inn)]
          exact g2
        | 2, hv =>
          refine ⟨T3, "f", "fund", d.fu.map rowH, M4, a4, (Option.some.inj hv).symm, e5 _ _ t3, kept_fund d, by rw [← sortN_perm (S.fu.map rowH) (by rw [keys_rowH]; exact ((S.fu.map _).nodup_iff).mpr G.fn)]; exact g4, ⟨fun x hx => kr x (.inr (.inr hx)), by rw [List.length_map]; omega⟩, .inr (.inr ⟨rfl, rfl⟩)⟩
        | n + 3, hv => exact absurd hi (by simp only [List.length_cons, List.length_nil]; omega)
      clear hv hi t1 t2 t3
      have hTpS := SqT.of (K := K) hTp
      walk_at "st"
      refine ⟨(), l, wd, ps, rowsT d, rfl, hR6, rne, by omega, fun _ p qs H7 s7 np hq => ?_⟩
      rw [hkl] at hq
      have hqS := SqL.of (K := K) hq.lst
      obtain ⟨hok1, hok2⟩ := hok
      have hqlen : qs.length = D.length := by rw [hq.len, List.length_map]
      walk_at "st"
      intro E nE
      refine lc_it (walk_list (xs := qs.map V.ref) (a := p)) (NmI D H7 E) ⟨same_upd nE, [], by rw [List.take_zero]; exact (Lsts.nil upd_same : Lsts encR (upd H7 E (.lst [])) E [] [])⟩ (fun j H' _ z => sqL_same hqS z.e) ?_ ?_
      · rintro j v H8 H9 hj ⟨e8, ds, hd⟩ y
        obtain ⟨rfl, hv⟩ := y
        obtain ⟨a, ha, rfl⟩ := refs_at hv
        have hjD : j < D.length := by rw [← hqlen]; exact (List.getElem?_eq_some_iff.mp ha).1
        have hxj : D[j]? = some D[j] := List.getElem?_eq_getElem hjD
        generalize D[j] = x at hxj
        have hra := e8 _ _ (hq.row j a (rowW x) ha (by rw [List.getElem?_map, hxj]; rfl))
        obtain ⟨k1, k2⟩ := hok1 x (List.mem_of_getElem? hxj)
        refine ⟨rfl, ?_⟩
        walk_at "st"
        refine ⟨(), a, x.1, x.2, rfl, SqL.of hra, k1, k2, fun _ c H10 s10 nc hc => ?_⟩
        have ncE : c ≠ E := fun z => by have := hd.lst; rw [← z, nc] at this; cases this
        refine ⟨_, s10 _ _ hd.lst, small1000 (by rw [List.length_map, hd.len, List.length_take]; omega), same_over (e8.trans s10) nE, ds ++ [c], ?_⟩
        rw [take_succ hxj]
        exact hd.push s10 ncE hc
      · rintro H8 ⟨e8, ds, hd⟩
        rw [List.length_map, hqlen, List.take_length] at hd
        walk_at "st"
        refine ⟨(), E, ds, D, rfl, SqL.of hd.lst, hd.len, fun i a x e1 e2 => dpL x a (hd.row i a x e1 e2), by omega, fun _ z nz => ?_⟩
        have hzL : Lsts encR (upd H8 z (.lst (((zipS layL ds D).map (·.1)).map V.ref))) z ((zipS layL ds D).map (·.1)) (D.mergeSort leN) :=
          lsts_zipS hd.len (fun i a x e1 e2 => (upd_ne (ne_of_none (hd.row i a x e1 e2) nz)).trans (hd.row i a x e1 e2)) upd_same (fun hm => by
            obtain ⟨i, r, g1, g2⟩ := mem_at hd.len hm
            have := hd.row i z r g1 g2
            rw [nz] at this
            cases this)
        have sz : Same H8 (upd H8 z (.lst (((zipS layL ds D).map (·.1)).map V.ref))) := same_upd nz
        generalize upd H8 z (.lst (((zipS layL ds D).map (·.1)).map V.ref)) = H9 at hzL sz ⊢
        generalize (zipS layL ds D).map (·.1) = zp at hzL
        have s69 := (s7.trans e8).trans sz
        have B9 := B6.same s69
        have hob9 := B9.ob
        have hT9 := hTu.same s69
        have fin : ∀ (σ' : _root_.L2.St), (∃ v2 v3 v4 v5 v6 : Option V, σ' = [some (.ref t), some (.ref l), v2, v3, v4, v5, v6]) → Same H4 H9 ∧ ∃ v2 v3 v4 v5 v6 : Option V, σ' = [some (.ref t), some (.ref l), v2, v3, v4, v5, v6] := fun σ' h => ⟨e5.trans s69, h⟩
        have hDl : (D.mergeSort leN).length ≤ 100 := by rw [List.length_mergeSort]; omega
        have hDr : ∀ r, r ∈ D.mergeSort leN → r.2.length ≤ 20 := fun r hr => by have := (hok1 r (List.mem_mergeSort.mp hr)).1; omega
        rcases hcase with ⟨rfl, rfl⟩ | ⟨rfl, rfl⟩ | ⟨rfl, rfl⟩
        · walk_at "st"
          refine ⟨(), M, z, as, zp, D.mergeSort leN, rfl, hT9, hzL, hDl, hDr, fun H10 s10 => ?_⟩
          walk_at "st"
          exact ⟨e5.trans (s69.trans s10), _, _, _, _, _, rfl⟩
        · walk_at "st"
          refine ⟨(), M, z, as, zp, D.mergeSort leN, rfl, hT9, hzL, hDl, hDr, fun H10 s10 => ?_⟩
          walk_at "st"
          exact ⟨e5.trans (s69.trans s10), _, _, _, _, _, rfl⟩
        · walk_at "st"
          refine ⟨(), M, z, as, zp, D.mergeSort leN, rfl, hT9, hzL, hDl, hDr, fun H10 s10 => ?_⟩
          walk_at "st"
          exact ⟨e5.trans (s69.trans s10), _, _, _, _, _, rfl⟩
    · rintro σ H5 ⟨e5, v2, v3, v4, v5, v6, rfl⟩
      have B5 := B.same (s04.trans e5)
      have hR5 := hR.same (s04.trans e5)
      have hob5 := B5.ob
      walk_at "st"
      refine ⟨(), l, "scenario", ps, rowsT d, rfl, hR5, rne, by omega, fun _ p qs H7 s7 np hq => ?_⟩
      rw [kept_sc] at hq
      have B7 := B5.same s7
      obtain ⟨as, c1, c2, c3⟩ := B7.s
      rw [S.sc] at c2 c3
      walk_at "st"
      refine ⟨(), M3, p, as, qs, d.sc, rfl, c1, c2, c3, hq, by have := G.sl; omega, fun m hm => ?_, fun H8 s8 => ?_⟩
      · obtain ⟨g1, g2⟩ := G.sc m hm
        have := G.il
        refine ⟨by omega, fun v hv => ?_⟩
        have := g2 v hv
        have h10 : v.natAbs ≤ 1000000 := by omega
        exact Nat.lt_of_le_of_lt h10 (by decide)
      have B8 := B7.same s8
      have hob8 := B8.ob
      have s48 := ((s04.trans e5).trans s7).trans s8
      have hR8 := hR.same s48
      walk_at "st"
      refine ⟨_, _, false, rfl, .ty _, .base (.int _), kit_ty (by decide +kernel), ?_⟩
      walk_at "st"
      refine ⟨_, _, false, rfl, .ty _, .base (.int _), kit_ty (by decide +kernel), ?_⟩
      walk_at "st"
      have small : ∀ v : Int, 0 ≤ v ∧ v ≤ 1000000000 → v.natAbs < 10 ^ 20 := fun v hv => by
        have h10 : v.natAbs ≤ 1000000000 := by omega
        exact Nat.lt_of_le_of_lt h10 (by decide)
      refine ⟨(), l, "fee", ps, rowsT d, d.fee, rfl, hR8, rne, by omega, kept_fee d, fun v hv => small v (by have := G.fee v hv; omega), fun H9 s9 => ?_⟩
      have hob9 := (B8.same s9).ob
      rw [S.fee]
      walk_at "st"
      refine iteB (fun _ => ?_) (fun h => ?_)
      · walk_at "st"
        refine ⟨(), l, "skin", ps, rowsT d, d.skin, rfl, hR8.same s9, rne, by omega, kept_skin d, fun v hv => small v (G.skin v hv), fun H10 s10 => ?_⟩
        rw [S.skin]
        walk_at "st"
        rw [decide_eq_true rfl]
        exact q H10 ((s48.trans s9).trans s10)
      · simp at h

end
/-! ### the rows in the order in which the text has them -/
def foldT : List (List Str) → Ter → Option Ter
  | [], d => some d
  | r :: R, d => (takeP d r).bind (foldT R)
theorem foldT_append : ∀ (A B : List (List Str)) (d : Ter), foldT (A ++ B) d = (foldT A d).bind (foldT B)
  | [], B, d => rfl
  | r :: A, B, d => by
    show (takeP d r).bind (foldT (A ++ B)) = ((takeP d r).bind (foldT A)).bind (foldT B)
    cases takeP d r with
    | none => rfl
    | some d' => exact foldT_append A B d'
theorem readN_num {v lo hi : Int} (hlo : -(10 ^ 18) ≤ lo) (hhi : hi ≤ 10 ^ 18) (h : lo ≤ v ∧ v ≤ hi) : readN (TL.tl (numS v)) lo hi = some v := (readN_iff hlo hhi).mpr ⟨(tl_numI v).symm, h.1, h.2⟩
theorem movesP_num : ∀ m : List Int, (∀ v, v ∈ m → -1000000 ≤ v ∧ v ≤ 1000000) → movesP (m.map numS) = some m
  | [], _ => rfl
  | v :: m, h => by
    rw [List.map_cons]
    unfold movesP
    rw [readN_num (by decide) (by decide) (h v List.mem_cons_self), movesP_num m fun u hu => h u (List.mem_cons_of_mem _ hu)]
theorem take_house (d : Ter) (x : Str × Int) : takeP d (hrow x) = houseP d x.1 (numS x.2) := if_pos ⟨rfl, rfl⟩
theorem take_ins (d : Ter) (n : Str) (a l b c : Int) : takeP d (irow (n, [a, l, b, c])) = insP d n (numS a) (numS l) (numS b) (numS c) :=
  (if_neg (fun z => absurd (show (6 : Nat) = 3 from z.1) (by decide))).trans (if_pos ⟨rfl, rfl⟩)
theorem some_ne {a b : Str} (h : a ≠ b) : ¬ (some a = some b) := fun e => h (Option.some.inj e)
theorem take_sc (d : Ter) (m : List Int) : takeP d (srow m) = scP d (m.map numS) :=
  (if_neg (fun z => some_ne (a := "scenario") (b := "house") (by decide +kernel) z.2)).trans ((if_neg (fun z => some_ne (a := "scenario") (b := "instrument") (by decide +kernel) z.2)).trans (if_pos ⟨Nat.succ_le_succ (Nat.zero_le _), rfl⟩))
theorem take_fund (d : Ter) (x : Str × Int) : takeP d (frow x) = shareP d x.1 (numS x.2) :=
  (if_neg (fun z => some_ne (a := "fund") (b := "house") (by decide +kernel) z.2)).trans ((if_neg (fun z => some_ne (a := "fund") (b := "instrument") (by decide +kernel) z.2)).trans ((if_neg (fun z => some_ne (a := "fund") (b := "scenario") (by decide +kernel) z.2)).trans (if_pos ⟨rfl, rfl⟩)))
theorem take_fee (d : Ter) (v : Int) : takeP d ["fee", numS v] = feeP d (numS v) :=
  (if_neg (fun z => some_ne (a := "fee") (b := "house") (by decide +kernel) z.2)).trans ((if_neg (fun z => some_ne (a := "fee") (b := "instrument") (by decide +kernel) z.2)).trans ((if_neg (fun z => some_ne (a := "fee") (b := "scenario") (by decide +kernel) z.2)).trans ((if_neg (fun z => some_ne (a := "fee") (b := "fund") (by decide +kernel) z.2)).trans (if_pos ⟨rfl, rfl⟩))))
theorem take_skin (d : Ter) (v : Int) : takeP d ["skin", numS v] = skinP d (numS v) :=
  (if_neg (fun z => some_ne (a := "skin") (b := "house") (by decide +kernel) z.2)).trans ((if_neg (fun z => some_ne (a := "skin") (b := "instrument") (by decide +kernel) z.2)).trans ((if_neg (fun z => some_ne (a := "skin") (b := "scenario") (by decide +kernel) z.2)).trans ((if_neg (fun z => some_ne (a := "skin") (b := "fund") (by decide +kernel) z.2)).trans ((if_neg (fun z => some_ne (a := "skin") (b := "fee") (by decide +kernel) z.2)).trans (if_pos ⟨rfl, rfl⟩)))))
theorem fold_hs : ∀ (xs : List (Str × Int)) (d : Ter), (∀ x, x ∈ xs → GH x) → (keysS d.hs ++ keysS xs).Nodup → d.hs.length + xs.length ≤ 12 → foldT (xs.map hrow) d = some { d with hs := d.hs ++ xs }
  | [], d, _, _, _ => by rw [List.append_nil]; rfl
  | x :: xs, d, hg, hn, hl => by
    obtain ⟨g1, g2, g3⟩ := hg x List.mem_cons_self
    rw [List.length_cons] at hl
    have hx : x.1 ∉ keysS d.hs := fun z => (List.nodup_append.mp hn).2.2 _ z x.1 List.mem_cons_self rfl
    show (takeP d (hrow x)).bind (foldT (xs.map hrow)) = _
    rw [take_house, houseP_iff.mpr ⟨x.2, readN_num (by decide) (by decide) ⟨g2, g3⟩, ⟨g1, hx, by omega⟩, rfl⟩]
    show foldT (xs.map hrow) { d with hs := d.hs ++ [(x.1, x.2)] } = _
    rw [fold_hs xs { d with hs := d.hs ++ [(x.1, x.2)] } (fun y hy => hg y (List.mem_cons_of_mem _ hy)) (by
      show (keysS (d.hs ++ [(x.1, x.2)]) ++ keysS xs).Nodup
      rw [keysS_snoc, List.append_assoc]
      exact hn) (by show (d.hs ++ [(x.1, x.2)]).length + _ ≤ 12; rw [List.length_append, List.length_singleton]; omega)]
    show some { d with hs := (d.hs ++ [(x.1, x.2)]) ++ xs } = _
    rw [List.append_assoc]
    rfl
theorem fold_ins : ∀ (xs : List RowN) (d : Ter), (∀ x, x ∈ xs → GI x) → (d.ins.map (fun r : RowN => r.1) ++ xs.map (fun r : RowN => r.1)).Nodup → d.ins.length + xs.length ≤ 6 → d.sc = [] → foldT (xs.map irow) d = some { d with ins := d.ins ++ xs }
  | [], d, _, _, _, _ => by rw [List.append_nil]; rfl
  | (n, ns) :: xs, d, hg, hn, hl, hs => by
    obtain ⟨g1, a, l, b, c, g2, h1, h2, h3, h4, h5⟩ := hg (n, ns) List.mem_cons_self
    obtain rfl : ns = [a, l, b, c] := g2
    rw [List.length_cons] at hl
    have hx : n ∉ d.ins.map (fun r : RowN => r.1) := fun z => (List.nodup_append.mp hn).2.2 _ z n List.mem_cons_self rfl
    show (takeP d (irow (n, [a, l, b, c]))).bind (foldT (xs.map irow)) = _
    rw [take_ins, insP_iff.mpr ⟨a, l, b, c, ⟨readN_num (by decide) (by decide) h1, readN_num (by decide) (by decide) h2, readN_num (by decide) (by decide) h3, readN_num (by decide) (by decide) h4⟩, ⟨g1, h5, hx, by omega, hs⟩, rfl⟩]
    show foldT (xs.map irow) { d with ins := d.ins ++ [(n, [a, l, b, c])] } = _
    rw [fold_ins xs { d with ins := d.ins ++ [(n, [a, l, b, c])] } (fun y hy => hg y (List.mem_cons_of_mem _ hy)) (by
      show ((d.ins ++ [(n, [a, l, b, c])]).map (fun r : RowN => r.1) ++ _).Nodup
      rw [List.map_append, List.append_assoc]
      exact hn) (by show (d.ins ++ [(n, [a, l, b, c])]).length + _ ≤ 6; rw [List.length_append, List.length_singleton]; omega) hs]
    show some { d with ins := (d.ins ++ [(n, [a, l, b, c])]) ++ xs } = _
    rw [List.append_assoc]
    rfl
theorem fold_sc : ∀ (xs : List (List Int)) (d : Ter), (∀ m, m ∈ xs → m.length = d.ins.length ∧ ∀ v, v ∈ m → -1000000 ≤ v ∧ v ≤ 1000000) → (xs = [] ∨ d.ins ≠ []) → d.sc.length + xs.length ≤ 12 → foldT (xs.map srow) d = some { d with sc := d.sc ++ xs }
  | [], d, _, _, _ => by rw [List.append_nil]; rfl
  | m :: xs, d, hg, hi, hl => by
    obtain ⟨g1, g2⟩ := hg m List.mem_cons_self
    rw [List.length_cons] at hl
    have hi' : d.ins ≠ [] := hi.resolve_left fun z => by cases z
    have hm : m ≠ [] := fun z => by
      rw [z] at g1
      exact hi' (List.length_eq_zero_iff.mp g1.symm)
    show (takeP d (srow m)).bind (foldT (xs.map srow)) = _
    rw [take_sc, scP_iff.mpr ⟨m, movesP_num m g2, ⟨g1, hm, by omega⟩, rfl⟩]
    show foldT (xs.map srow) { d with sc := d.sc ++ [m] } = _
    rw [fold_sc xs { d with sc := d.sc ++ [m] } (fun y hy => hg y (List.mem_cons_of_mem _ hy)) (.inr hi') (by show (d.sc ++ [m]).length + _ ≤ 12; rw [List.length_append, List.length_singleton]; omega)]
    show some { d with sc := (d.sc ++ [m]) ++ xs } = _
    rw [List.append_assoc]
    rfl
theorem fold_fu : ∀ (xs : List (Str × Int)) (d : Ter), (∀ x, x ∈ xs → x.1 ∈ keysS d.hs ∧ 0 ≤ x.2 ∧ x.2 ≤ 1000000000) → (keysS d.fu ++ keysS xs).Nodup → foldT (xs.map frow) d = some { d with fu := d.fu ++ xs }
  | [], d, _, _ => by rw [List.append_nil]; rfl
  | x :: xs, d, hg, hn => by
    obtain ⟨g1, g2, g3⟩ := hg x List.mem_cons_self
    have hx : x.1 ∉ keysS d.fu := fun z => (List.nodup_append.mp hn).2.2 _ z x.1 List.mem_cons_self rfl
    show (takeP d (frow x)).bind (foldT (xs.map frow)) = _
    rw [take_fund, shareP_iff.mpr ⟨x.2, readN_num (by decide) (by decide) ⟨g2, g3⟩, ⟨g1, hx⟩, rfl⟩]
    show foldT (xs.map frow) { d with fu := d.fu ++ [(x.1, x.2)] } = _
    rw [fold_fu xs { d with fu := d.fu ++ [(x.1, x.2)] } (fun y hy => hg y (List.mem_cons_of_mem _ hy)) (by
      show (keysS (d.fu ++ [(x.1, x.2)]) ++ keysS xs).Nodup
      rw [keysS_snoc, List.append_assoc]
      exact hn)]
    show some { d with fu := (d.fu ++ [(x.1, x.2)]) ++ xs } = _
    rw [List.append_assoc]
    rfl
theorem fold_fee (o : Option Int) (d : Ter) (hd : d.fee = none) (h : ∀ v, o = some v → 0 ≤ v ∧ v ≤ 1000000) : foldT (orow "fee" o) d = some { d with fee := o } := by
  cases o with
  | none => cases d; cases hd; rfl
  | some v =>
    show (takeP d ["fee", numS v]).bind some = _
    rw [take_fee, feeP_iff.mpr ⟨v, readN_num (by decide) (by decide) (h v rfl), hd, rfl⟩]
    rfl
theorem fold_skin (o : Option Int) (d : Ter) (hd : d.skin = none) (h : ∀ v, o = some v → 0 ≤ v ∧ v ≤ 1000000000) : foldT (orow "skin" o) d = some { d with skin := o } := by
  cases o with
  | none => cases d; cases hd; rfl
  | some v =>
    show (takeP d ["skin", numS v]).bind some = _
    rw [take_skin, skinP_iff.mpr ⟨v, readN_num (by decide) (by decide) (h v rfl), hd, rfl⟩]
    rfl
/-- where a row goes: 0 to the front, 1 behind, 2 to the end -/
def clsR (a b c : Bool) (r : List Str) : Nat :=
  if (r.head? = some ("fee" : Str) ∨ r.head? = some ("skin" : Str)) ∧ a = true then 0 else if r.head? = some ("instrument" : Str) ∧ b = true then 0 else if r.head? = some ("scenario" : Str) ∧ c = true then 2 else 1
def partR (a b c : Bool) (k : Nat) (R : List (List Str)) : List (List Str) := R.filter fun r => decide (clsR a b c r = k)
theorem partR_append (a b c : Bool) (k : Nat) (A B : List (List Str)) : partR a b c k (A ++ B) = partR a b c k A ++ partR a b c k B := List.filter_append ..
theorem partR_all {a b c : Bool} {k : Nat} {A : List (List Str)} (h : ∀ r, r ∈ A → clsR a b c r = k) : partR a b c k A = A := List.filter_eq_self.mpr fun r hr => decide_eq_true (h r hr)
theorem partR_none {a b c : Bool} {k j : Nat} {A : List (List Str)} (h : ∀ r, r ∈ A → clsR a b c r = j) (hk : j ≠ k) : partR a b c k A = [] := List.filter_eq_nil_iff.mpr fun r hr z => hk ((h r hr).symm.trans (of_decide_eq_true z))
theorem cls_h (a b c : Bool) (x : Str × Int) : clsR a b c (hrow x) = 1 :=
  (if_neg (fun z => z.1.elim (some_ne (a := "house") (b := "fee") (by decide +kernel)) (some_ne (a := "house") (b := "skin") (by decide +kernel)))).trans ((if_neg (fun z => some_ne (a := "house") (b := "instrument") (by decide +kernel) z.1)).trans (if_neg (fun z => some_ne (a := "house") (b := "scenario") (by decide +kernel) z.1)))
theorem cls_f (a b c : Bool) (x : Str × Int) : clsR a b c (frow x) = 1 :=
  (if_neg (fun z => z.1.elim (some_ne (a := "fund") (b := "fee") (by decide +kernel)) (some_ne (a := "fund") (b := "skin") (by decide +kernel)))).trans ((if_neg (fun z => some_ne (a := "fund") (b := "instrument") (by decide +kernel) z.1)).trans (if_neg (fun z => some_ne (a := "fund") (b := "scenario") (by decide +kernel) z.1)))
theorem cls_i (a b c : Bool) (x : RowN) : clsR a b c (irow x) = if b = true then 0 else 1 := by
  refine (if_neg (fun z => z.1.elim (some_ne (a := "instrument") (b := "fee") (by decide +kernel)) (some_ne (a := "instrument") (b := "skin") (by decide +kernel)))).trans ?_
  by_cases h : b = true
  · rw [if_pos h]; exact if_pos ⟨rfl, h⟩
  · rw [if_neg h]; exact (if_neg fun z => h z.2).trans (if_neg (fun z => some_ne (a := "instrument") (b := "scenario") (by decide +kernel) z.1))
theorem cls_s (a b c : Bool) (m : List Int) : clsR a b c (srow m) = if c = true then 2 else 1 := by
  refine (if_neg (fun z => z.1.elim (some_ne (a := "scenario") (b := "fee") (by decide +kernel)) (some_ne (a := "scenario") (b := "skin") (by decide +kernel)))).trans ((if_neg (fun z => some_ne (a := "scenario") (b := "instrument") (by decide +kernel) z.1)).trans ?_)
  by_cases h : c = true
  · rw [if_pos h]; exact if_pos ⟨rfl, h⟩
  · rw [if_neg h]; exact if_neg fun z => h z.2
theorem cls_o (a b c : Bool) {w : Str} (hw : w = "fee" ∨ w = "skin") (o : Option Int) : ∀ r, r ∈ orow w o → clsR a b c r = if a = true then 0 else 1 := by
  intro r hr
  cases o with
  | none => cases hr
  | some v =>
    rw [List.mem_singleton.mp hr]
    rcases hw with rfl | rfl
    · by_cases h : a = true
      · rw [if_pos h]; exact if_pos ⟨.inl rfl, h⟩
      · rw [if_neg h]; exact (if_neg fun z => h z.2).trans ((if_neg (fun z => some_ne (a := "fee") (b := "instrument") (by decide +kernel) z.1)).trans (if_neg (fun z => some_ne (a := "fee") (b := "scenario") (by decide +kernel) z.1)))
    · by_cases h : a = true
      · rw [if_pos h]; exact if_pos ⟨.inr rfl, h⟩
      · rw [if_neg h]; exact (if_neg fun z => h z.2).trans ((if_neg (fun z => some_ne (a := "skin") (b := "instrument") (by decide +kernel) z.1)).trans (if_neg (fun z => some_ne (a := "skin") (b := "scenario") (by decide +kernel) z.1)))

theorem part_map {α : Type} {a b c : Bool} {f : α → List Str} {j : Nat} (k : Nat) (h : ∀ x, clsR a b c (f x) = j) (xs : List α) : partR a b c k (xs.map f) = if j = k then xs.map f else [] := by
  have h2 : ∀ r, r ∈ xs.map f → clsR a b c r = j := fun r hr => by
    obtain ⟨x, _, rfl⟩ := List.mem_map.mp hr
    exact h x
  by_cases e : j = k
  · rw [if_pos e]; exact partR_all fun r hr => (h2 r hr).trans e
  · rw [if_neg e]; exact partR_none h2 e
theorem part_orow {a b c : Bool} (k : Nat) {w : Str} (hw : w = "fee" ∨ w = "skin") (o : Option Int) : partR a b c k (orow w o) = if (if a = true then 0 else 1) = k then orow w o else [] := by
  by_cases e : (if a = true then 0 else 1) = k
  · rw [if_pos e]; exact partR_all fun r hr => (cls_o a b c hw o r hr).trans e
  · rw [if_neg e]; exact partR_none (cls_o a b c hw o) e
theorem orow_rev (w : Str) (o : Option Int) : (orow w o).reverse = orow w o := by cases o <;> rfl
/-- the text tells the terms, whatever the order -/
theorem order_ok {d : Ter} (G : GTer d) (a b c : Bool) : ∃ d', foldT ((partR a b c 0 (rowsT d)).reverse ++ partR a b c 1 (rowsT d) ++ partR a b c 2 (rowsT d)) ter0 = some d' ∧ SameT d' d := by
  have p : ∀ k, partR a b c k (rowsT d) = (if 1 = k then d.hs.map hrow else []) ++ (if (if b = true then 0 else 1) = k then d.ins.map irow else []) ++ (if (if c = true then 2 else 1) = k then d.sc.map srow else []) ++ (if 1 = k then d.fu.map frow else []) ++ (if (if a = true then 0 else 1) = k then orow "fee" d.fee else []) ++ (if (if a = true then 0 else 1) = k then orow "skin" d.skin else []) := fun k => by
    unfold rowsT
    rw [partR_append, partR_append, partR_append, partR_append, partR_append, part_map k (cls_h a b c), part_map k (cls_i a b c), part_map k (cls_s a b c), part_map k (cls_f a b c), part_orow k (.inl rfl), part_orow k (.inr rfl)]
  have hnin : (d.ins.reverse.map (fun r : RowN => r.1)).Nodup := by
    rw [List.map_reverse]
    exact (List.reverse_perm _).nodup_iff.mpr G.inn
  have gi2 : ∀ x, x ∈ d.ins.reverse → GI x := fun x hx => G.ins x (List.mem_reverse.mp hx)
  have lrev : d.ins.reverse.length ≤ 6 := by rw [List.length_reverse]; exact G.il
  have hh : ∀ e : Ter, e.hs = [] → foldT (d.hs.map hrow) e = some { e with hs := d.hs } := fun e he => by
    have := fold_hs d.hs e G.hs (by rw [he]; exact G.hn) (by rw [he]; have := G.hl; simp only [List.length_nil]; omega)
    rw [he] at this
    exact this
  have hi : ∀ (e : Ter) (xs : List RowN), (xs = d.ins ∨ xs = d.ins.reverse) → e.ins = [] → e.sc = [] → foldT (xs.map irow) e = some { e with ins := xs } := fun e xs hx he hs => by
    have := fold_ins xs e (by rcases hx with z | z <;> rw [z] <;> first | exact G.ins | exact gi2) (by rw [he]; rcases hx with z | z <;> rw [z] <;> first | exact G.inn | exact hnin) (by rw [he]; have := G.il; rcases hx with z | z <;> rw [z] <;> simp only [List.length_nil, List.length_reverse] <;> omega) hs
    rw [he] at this
    exact this
  have hsc : ∀ e : Ter, e.ins.length = d.ins.length → e.sc = [] → foldT (d.sc.map srow) e = some { e with sc := d.sc } := fun e he hs => by
    have := fold_sc d.sc e (fun m hm => by rw [he]; exact G.sc m hm) (by
      by_cases z : d.ins = []
      · exact .inl (G.s0 z)
      · exact .inr fun y => z (List.length_eq_zero_iff.mp (by rw [← he, y]; rfl))) (by rw [hs]; have := G.sl; simp only [List.length_nil]; omega)
    rw [hs] at this
    exact this
  have hf : ∀ e : Ter, e.hs = d.hs → e.fu = [] → foldT (d.fu.map frow) e = some { e with fu := d.fu } := fun e he hs => by
    have := fold_fu d.fu e (by rw [he]; exact G.fu) (by rw [hs]; exact G.fn)
    rw [hs] at this
    exact this
  have lr : d.ins.reverse.length = d.ins.length := List.length_reverse
  have hi1 := fun e => hi e d.ins (.inl rfl)
  have hi2 := fun e => hi e d.ins.reverse (.inr rfl)
  have ff : ∀ e : Ter, e.fee = none → foldT (orow "fee" d.fee) e = some { e with fee := d.fee } := fun e he => fold_fee _ _ he G.fee
  have fs : ∀ e : Ter, e.skin = none → foldT (orow "skin" d.skin) e = some { e with skin := d.skin } := fun e he => fold_skin _ _ he G.skin
  have hi2' : ∀ e : Ter, e.ins = [] → e.sc = [] → foldT (d.ins.map irow).reverse e = some { e with ins := d.ins.reverse } := fun e a b => by rw [← List.map_reverse]; exact hi2 e a b
  rw [p 0, p 1, p 2]
  cases b
  · refine ⟨⟨d.hs, d.ins, d.sc, d.fu, d.fee, d.skin⟩, ?_, ⟨.refl _, .refl _, rfl, .refl _, rfl, rfl⟩⟩
    cases a <;> cases c <;> simp [foldT_append, hh, hi1, hsc, hf, ff, fs, ter0, orow_rev]
  · refine ⟨⟨d.hs, d.ins.reverse, d.sc, d.fu, d.fee, d.skin⟩, ?_, ⟨.refl _, List.reverse_perm _, rfl, .refl _, rfl, rfl⟩⟩
    cases a <;> cases c <;> simp [foldT_append, hh, hi2', hsc, hf, ff, fs, ter0, lr, orow_rev]

/-! ### lines of a text of terms -/
def effL (L : List Str) : List (List Str) := (L.filter fun x => !skipL x).map wordsC
theorem effL_append (A B : List Str) : effL (A ++ B) = effL A ++ effL B := by unfold effL; rw [List.filter_append, List.map_append]
theorem effL_skip {x : Str} (h : skipL x = true) : effL [x] = [] := by
  unfold effL
  rw [List.filter_cons_of_neg (by rw [h]; decide)]
  rfl
theorem effL_row {x : Str} {r : List Str} (h : skipL x = false) (hw : wordsC x = r) : effL [x] = [r] := by
  unfold effL
  rw [List.filter_cons_of_pos (by rw [h]; decide)]
  show [wordsC x] = [r]
  rw [hw]
theorem parse_eff : ∀ (L : List Str) (n : Nat) (d t : Ter), foldT (effL L) d = some t → parseLs n L d = .ok t
  | [], _, d, t, h => by cases h; rfl
  | x :: L, n, d, t, h => by
    rw [show x :: L = [x] ++ L from rfl, effL_append] at h
    unfold parseLs
    cases hs : skipL x with
    | true =>
      rw [effL_skip hs] at h
      rw [if_pos rfl]
      exact parse_eff L (n + 1) d t h
    | false =>
      rw [effL_row hs rfl] at h
      have h2 : (takeP d (wordsC x)).bind (foldT (effL L)) = some t := h
      rw [if_neg Bool.false_ne_true]
      cases hk : takeP d (wordsC x) with
      | none => rw [hk] at h2; cases h2
      | some d' =>
        rw [hk] at h2
        exact parse_eff L (n + 1) d' t h2
structure WdsOk (r : List Str) : Prop where
  ne : r ≠ []
  wd : ∀ p, p ∈ r → 32 ∉ TL.tl p ∧ 10 ∉ TL.tl p ∧ p.length ≤ 21
  ln : r.length ≤ 8
  hd : ∃ a, r.head? = some a ∧ (TL.tl a).take 1 ≠ [35] ∧ (TL.tl a) ≠ []
theorem num_wd {v : Int} (h : v.natAbs < 10 ^ 20) : 32 ∉ TL.tl (numS v) ∧ 10 ∉ TL.tl (numS v) ∧ (numS v).length ≤ 21 := by
  have e : TL.tl (numS v) = numI v := tl_numI v
  rw [e]
  exact ⟨fun z => by rcases numI_sign z with y | y <;> omega, fun z => by rcases numI_sign z with y | y <;> omega, (int_numS h).2⟩
theorem name_wd {ls x : Str} {m : Nat} (hm : m ≤ 21) (h : wordOf (TL.tl ls) (TL.tl x) (m : Int) = true) (hl : (TL.tl ls).all (fun c => decide (c ≠ 32 ∧ c ≠ 10)) = true) : 32 ∉ TL.tl x ∧ 10 ∉ TL.tl x ∧ x.length ≤ 21 := by
  unfold wordOf at h
  rw [Bool.and_eq_true, List.all_eq_true] at h
  obtain ⟨h1, h2⟩ := h
  have h3 := of_decide_eq_true h1
  have g : ∀ c, c ∈ TL.tl x → c ≠ 32 ∧ c ≠ 10 := fun c hc => of_decide_eq_true (List.all_eq_true.mp hl c (of_decide_eq_true (h2 c hc)))
  exact ⟨fun z => (g 32 z).1 rfl, fun z => (g 10 z).2 rfl, by rw [TL.len_tl]; omega⟩
theorem rows_wd {d : Ter} (G : GTer d) : ∀ r, r ∈ rowsT d → WdsOk r := by
  have cw : ∀ w, w ∈ (["house", "instrument", "scenario", "fund", "fee", "skin"] : List Str) → (32 ∉ TL.tl w ∧ 10 ∉ TL.tl w ∧ w.length ≤ 21) ∧ (TL.tl w).take 1 ≠ [35] ∧ TL.tl w ≠ [] := by decide +kernel
  have two : ∀ (w n : Str) (v : Int), w ∈ (["house", "instrument", "scenario", "fund", "fee", "skin"] : List Str) → (32 ∉ TL.tl n ∧ 10 ∉ TL.tl n ∧ n.length ≤ 21) → v.natAbs < 10 ^ 20 → WdsOk [w, n, numS v] := fun w n v hw hn hv => by
    obtain ⟨c1, c2, c3⟩ := cw w hw
    refine ⟨(fun z => by cases z), fun p hp => ?_, Nat.le_of_ble_eq_true rfl, w, rfl, c2, c3⟩
    simp only [List.mem_cons, List.not_mem_nil, or_false] at hp
    rcases hp with rfl | rfl | rfl
    · exact c1
    · exact hn
    · exact num_wd hv
  have small : ∀ v : Int, -1000000000 ≤ v ∧ v ≤ 1000000000 → v.natAbs < 10 ^ 20 := fun v hv => by
    have h10 : v.natAbs ≤ 1000000000 := by omega
    exact Nat.lt_of_le_of_lt h10 (by decide)
  have one : ∀ (w : Str) (o : Option Int), w ∈ (["house", "instrument", "scenario", "fund", "fee", "skin"] : List Str) → (∀ v, o = some v → v.natAbs < 10 ^ 20) → ∀ r, r ∈ orow w o → WdsOk r := fun w o hw ho r hr => by
    cases o with
    | none => cases hr
    | some v =>
      rw [List.mem_singleton.mp hr]
      obtain ⟨c1, c2, c3⟩ := cw w hw
      refine ⟨(fun z => by cases z), fun p hp => ?_, Nat.le_of_ble_eq_true rfl, w, rfl, c2, c3⟩
      simp only [List.mem_cons, List.not_mem_nil, or_false] at hp
      rcases hp with rfl | rfl
      · exact c1
      · exact num_wd (ho v rfl)
  have houses : ∀ n, n ∈ keysS d.hs → 32 ∉ TL.tl n ∧ 10 ∉ TL.tl n ∧ n.length ≤ 21 := fun n hn => by
    obtain ⟨x, hx, rfl⟩ := List.mem_map.mp hn
    exact name_wd (m := 12) (by decide) (G.hs x hx).1 (by decide +kernel)
  intro r hr
  unfold rowsT at hr
  rcases List.mem_append.mp hr with hr | hr
  · rcases List.mem_append.mp hr with hr | hr
    · rcases List.mem_append.mp hr with hr | hr
      · rcases List.mem_append.mp hr with hr | hr
        · rcases List.mem_append.mp hr with hr | hr
          · obtain ⟨x, hx, rfl⟩ := List.mem_map.mp hr
            obtain ⟨_, g2, g3⟩ := G.hs x hx
            exact two _ _ _ (by simp) (houses x.1 (List.mem_map.mpr ⟨x, hx, rfl⟩)) (small x.2 (by omega))
          · obtain ⟨x, hx, rfl⟩ := List.mem_map.mp hr
            obtain ⟨n, ns⟩ := x
            obtain ⟨g1, a, l, b, c, g2, h1, h2, h3, h4, _⟩ := G.ins (n, ns) hx
            obtain rfl : ns = [a, l, b, c] := g2
            obtain ⟨c1, c2, c3⟩ := cw "instrument" (by simp)
            refine ⟨(fun z => by cases z), fun p hp => ?_, Nat.le_of_ble_eq_true rfl, _, rfl, c2, c3⟩
            unfold irow at hp
            simp only [List.map_cons, List.map_nil, List.mem_cons, List.not_mem_nil, or_false] at hp
            rcases hp with rfl | rfl | rfl | rfl | rfl | rfl
            · exact c1
            · exact name_wd (m := 6) (by decide) g1 (by decide +kernel)
            · exact num_wd (small a (by omega))
            · exact num_wd (small l (by omega))
            · exact num_wd (small b (by omega))
            · exact num_wd (small c (by omega))
        · obtain ⟨m, hm, rfl⟩ := List.mem_map.mp hr
          obtain ⟨g1, g2⟩ := G.sc m hm
          have il := G.il
          obtain ⟨c1, c2, c3⟩ := cw "scenario" (by simp)
          refine ⟨(fun z => by cases z), fun p hp => ?_, by unfold srow; rw [List.length_cons, List.length_map]; omega, _, rfl, c2, c3⟩
          unfold srow at hp
          rcases List.mem_cons.mp hp with rfl | hp
          · exact c1
          · obtain ⟨v, hv, rfl⟩ := List.mem_map.mp hp
            have := g2 v hv
            exact num_wd (small v (by omega))
      · obtain ⟨x, hx, rfl⟩ := List.mem_map.mp hr
        obtain ⟨g1, g2, g3⟩ := G.fu x hx
        exact two _ _ _ (by simp) (houses x.1 g1) (small x.2 (by omega))
    · exact one "fee" d.fee (by simp) (fun v hv => small v (by have := G.fee v hv; omega)) r hr
  · exact one "skin" d.skin (by simp) (fun v hv => small v (by have := G.skin v hv; omega)) r hr
theorem row_line {r : List Str} (h : WdsOk r) : wordsC (lineC r) = r ∧ skipL (lineC r) = false ∧ 10 ∉ TL.tl (lineC r) ∧ (lineC r).length ≤ 200 ∧ lineC r ≠ "" := by
  have hw := words_line h.ne fun p hp => (h.wd p hp).1
  have hl := line_len (m := 21) (ws := r) fun p hp => (h.wd p hp).2.2
  have h10 := line_mem (c := 10) (by decide) fun p hp => (h.wd p hp).2.1
  obtain ⟨a, h1, h2, h3⟩ := h.hd
  have ht : (TL.tl (lineC r)).take 1 = (TL.tl a).take 1 ∧ TL.tl (lineC r) ≠ [] := by
    cases r with
    | nil => cases h1
    | cons b s =>
      obtain rfl : b = a := Option.some.inj h1
      cases s with
      | nil => rw [line_one]; exact ⟨rfl, h3⟩
      | cons c s =>
        rw [line_cons]
        cases hb : TL.tl b with
        | nil => exact absurd hb h3
        | cons y z => exact ⟨rfl, fun e => by cases e⟩
  have hne : lineC r ≠ "" := fun z => ht.2 (by rw [z]; rfl)
  have h8 := h.ln
  refine ⟨hw, decide_eq_false fun z => z.elim hne fun y => h2 (by rw [← ht.1]; exact y), h10, ?_, hne⟩
  have : r.length * (21 + 1) ≤ 8 * (21 + 1) := Nat.mul_le_mul_right _ h8
  omega
theorem tl_nl : TL.tl ("\n" : Str) = [10] := rfl
theorem lines_join {ls : List Str} (h : ls ≠ []) (hp : ∀ p, p ∈ ls → 10 ∉ TL.tl p) : linesC (Txt.join "\n" ls) = ls := TL.split_join tl_nl (by decide +kernel) h hp
theorem tl_lines (ls : List Str) : TL.tl (Txt.join "\n" ls) = TL.joinL [10] (ls.map TL.tl) := by rw [TL.join_eq, TL.tl_join] <;> rfl
theorem joinN_len {m : Nat} : ∀ {ps : List (List Nat)}, (∀ p, p ∈ ps → p.length ≤ m) → (TL.joinL [10] ps).length ≤ ps.length * (m + 1)
  | [], _ => Nat.zero_le _
  | [p], h => by
    have := h p List.mem_cons_self
    show p.length ≤ 1 * (m + 1)
    omega
  | p :: q :: r, h => by
    have ih := joinN_len (m := m) (ps := q :: r) fun x hx => h x (List.mem_cons_of_mem _ hx)
    have h1 := h p List.mem_cons_self
    show (p ++ ([10] ++ TL.joinL [10] (q :: r))).length ≤ ((q :: r).length + 1) * (m + 1)
    rw [List.length_append, List.length_append, List.length_singleton, Nat.succ_mul]
    omega
theorem lines_len {m : Nat} {ls : List Str} (h : ∀ p, p ∈ ls → p.length ≤ m) : (Txt.join "\n" ls).length ≤ ls.length * (m + 1) := by
  have := joinN_len (m := m) (ps := ls.map TL.tl) fun p hp => by
    obtain ⟨y, hy, rfl⟩ := List.mem_map.mp hp
    have := h y hy
    rwa [TL.len_tl] at this
  rw [List.length_map] at this
  rw [TL.len_tl, tl_lines]
  exact this
theorem joinN_snoc : ∀ {ps : List (List Nat)}, ps ≠ [] → TL.joinL [10] (ps ++ [[]]) = TL.joinL [10] ps ++ [10]
  | [], h => absurd rfl h
  | [p], _ => by
    show p ++ ([10] ++ []) = p ++ [10]
    rfl
  | p :: q :: r, _ => by
    have ih := joinN_snoc (ps := q :: r) (fun z => by cases z)
    show p ++ ([10] ++ TL.joinL [10] ((q :: r) ++ [[]])) = (p ++ ([10] ++ TL.joinL [10] (q :: r))) ++ [10]
    rw [ih]
    simp only [List.append_assoc]
theorem lines_snoc {ls : List Str} (h : ls ≠ []) : Txt.join "\n" ls ++ ("\n" : Str) = Txt.join "\n" (ls ++ ([""] : List Str)) := by
  refine TL.ext_tl ?_
  rw [tl_lines, List.map_append]
  show _ = TL.joinL [10] (ls.map TL.tl ++ [[]])
  rw [joinN_snoc (fun z => h (List.map_eq_nil_iff.mp z)), ← tl_lines]
  exact TL.tl_append ..
/-- while the text is written -/
structure TxI (a b c : Bool) (rows cell : V) (R : List (List Str)) (H0 : Hp) (k : Nat) (ln : Nat) (σ : L2.St) (H : Hp) : Prop where
  e : Same H0 H
  ex : ∃ (Dl Dm : Addr) (L M : List Str) (v4 v5 : Option V), σ = [some rows, some cell, some (.ref Dl), some (.ref Dm), v4, v5] ∧ Dl ≠ Dm ∧ H Dl = some (.lst (rowV L)) ∧ H Dm = some (.lst (rowV M)) ∧ H0 Dl = none ∧ H0 Dm = none ∧
    effL L = (partR a b c 0 (R.take k)).reverse ++ partR a b c 1 (R.take k) ∧ effL M = partR a b c 2 (R.take k) ∧ (∀ x, (x ∈ L ∨ x ∈ M) → 10 ∉ TL.tl x ∧ x.length ≤ 200) ∧ L.length ≤ ln ∧ M.length ≤ k
theorem joinS (r : List Str) : Txt.join " " r = lineC r := rfl
theorem partR_snoc (a b c : Bool) (k : Nat) (R : List (List Str)) (r : List Str) : partR a b c k (R ++ [r]) = if clsR a b c r = k then partR a b c k R ++ [r] else partR a b c k R := by
  rw [partR_append]
  by_cases h : clsR a b c r = k
  · rw [if_pos h, partR_all (A := [r]) fun x hx => by rw [List.mem_singleton.mp hx]; exact h]
  · rw [if_neg h, partR_none (A := [r]) (fun x hx => by rw [List.mem_singleton.mp hx]) h, List.append_nil]
theorem pickS_at {ns : List Str} {d : Int} (h0 : 0 ≤ d) (h1 : d < ns.length) : ∃ v, v ∈ ns ∧ atI (ns.map V.str) d = some (.str v) := by
  have hi : d.toNat < ns.length := by omega
  refine ⟨ns[d.toNat], List.getElem_mem hi, ?_⟩
  have hix : ixN (ns.map V.str).length d = some d.toNat := by
    unfold ixN
    rw [List.length_map, if_pos (by omega), if_pos (by omega)]
  unfold atI
  rw [hix]
  show (ns.map V.str)[d.toNat]? = _
  rw [List.getElem?_map, List.getElem?_eq_getElem hi]
  rfl
def notes4 : List Str := ["", "# note", "#", "#house a 1"]
theorem notes_ok : ∀ y, y ∈ notes4 → skipL y = true ∧ 10 ∉ TL.tl y ∧ y.length ≤ 200 := by decide +kernel

structure GoodX (t : Ter) (x : Str) : Prop where
  len : x.length ≤ 100000
  ln : (linesC x).length ≤ 1000
  ls : ∀ l, l ∈ linesC x → l.length ≤ 900
  ok : ∃ d', parseLs 1 (linesC x) ter0 = .ok d' ∧ SameT d' t
theorem goodX {t : Ter} (G : GTer t) {L : List Str} {a b c : Bool} (e : effL L = (partR a b c 0 (rowsT t)).reverse ++ partR a b c 1 (rowsT t) ++ partR a b c 2 (rowsT t)) (g : ∀ x, x ∈ L → 10 ∉ TL.tl x ∧ x.length ≤ 200) (hl : L.length ≤ 200) :
    GoodX t (Txt.join "\n" L) ∧ GoodX t (Txt.join "\n" L ++ ("\n" : Str)) := by
  obtain ⟨d', h1, h2⟩ := order_ok G a b c
  rw [← e] at h1
  have hne : L ≠ [] := fun z => by
    rw [z] at h1
    have h3 : some ter0 = some d' := h1
    cases h3
    exact G.h1 (List.Perm.eq_nil h2.hs.symm)
  have key : ∀ M : List Str, M ≠ [] → (∀ x, x ∈ M → 10 ∉ TL.tl x ∧ x.length ≤ 200) → M.length ≤ 201 → effL M = effL L → GoodX t (Txt.join "\n" M) := fun M h3 h4 h5 h6 => by
    have h7 := lines_join h3 fun p hp => (h4 p hp).1
    have h8 := lines_len (m := 200) (ls := M) fun p hp => (h4 p hp).2
    have h9 : M.length * (200 + 1) ≤ 201 * (200 + 1) := Nat.mul_le_mul_right _ h5
    refine ⟨by omega, by rw [h7]; omega, fun l hl => ?_, d', ?_, h2⟩
    · rw [h7] at hl
      have := (h4 l hl).2
      omega
    · rw [h7]
      exact parse_eff M 1 ter0 d' (by rw [h6]; exact h1)
  refine ⟨key L hne g (by omega) rfl, ?_⟩
  rw [lines_snoc hne]
  refine key _ (fun z => hne (List.append_eq_nil_iff.mp z).1) (fun x hx => ?_) (by rw [List.length_append]; simp only [List.length_cons, List.length_nil]; omega) ?_
  · rcases List.mem_append.mp hx with hx | hx
    · exact g x hx
    · rw [List.mem_singleton.mp hx]; exact ⟨List.not_mem_nil, Nat.zero_le _⟩
  · rw [effL_append, effL_skip (x := "") (by decide +kernel), List.append_nil]

/-! ### the text of the terms -/
def layS (r : List Str) : PyData := .list (r.map .str)
theorem alike_strs : ∀ xs ys : List Str, PySem.W.alikeAll (xs.map PyData.str) (ys.map PyData.str) = true
  | [], ys => by simp [PySem.W.alikeAll]
  | x :: xs, [] => by simp [PySem.W.alikeAll]
  | x :: xs, y :: ys => by
    show PySem.W.alikeAll (.str x :: xs.map .str) (.str y :: ys.map .str) = true
    rw [PySem.W.alikeAll, alike_strs xs ys]
    simp [PySem.W.alike]
theorem depth_strs : ∀ xs : List Str, PyData.depthAll (xs.map PyData.str) = 0
  | [] => by simp [PyData.depthAll]
  | x :: xs => by
    show PyData.depthAll (.str x :: xs.map .str) = 0
    rw [PyData.depthAll, depth_strs xs]
    simp [PyData.depth]
theorem sortK_S : SortK layS := by
  refine ⟨fun x y => ?_, fun D => PySem.W.Sortable.others fun b => ⟨(fun z => by cases z), (fun xs z => by cases z)⟩, fun x => ?_⟩
  · unfold layS
    simp only [PySem.W.alike]
    exact alike_strs x y
  · unfold layS
    simp only [PyData.depth, depth_strs]
    decide
def leS : List Str → List Str → Bool := PySem.W.dataLe false layS
theorem leS_name {x y : RowN} (h : x.1 ≠ y.1) : leS (rowW x) (rowW y) = decide (TL.tl x.1 ≤ TL.tl y.1) := by
  show (!PySem.W.dataLt (layS (rowW y)) (layS (rowW x))) = _
  unfold layS rowW
  rw [PySem.W.dataLt_list, List.map_cons, List.map_cons, PySem.W.dataLt_cons (by simp [PySem.W.alike])]
  have e : PyData.eqv (.str y.1) (.str x.1) = false := by
    simp only [PyData.eqv]
    rw [Bool.beq_eq_decide_eq]
    exact decide_eq_false (Ne.symm h)
  rw [e, if_neg Bool.false_ne_true, PySem.W.dataLt_str, PySem.W.not_lt_str] <;> rfl
theorem same_name {F : List RowN} (hF : (F.map (fun r : RowN => r.1)).Nodup) {a b : RowN} (ha : a ∈ F) (hb : b ∈ F) (e : a.1 = b.1) : a = b := by
  obtain ⟨i, hi⟩ := List.mem_iff_getElem?.mp ha
  obtain ⟨j, hj⟩ := List.mem_iff_getElem?.mp hb
  have h1 := (List.getElem?_eq_some_iff.mp hi).1
  have hij : i = j := (List.getElem?_inj (by rw [List.length_map]; exact h1) hF).mp (by rw [List.getElem?_map, List.getElem?_map, hi, hj]; exact congrArg some e)
  rw [hij, hj] at hi
  exact (Option.some.inj hi).symm
/-- rows of words sort as the rows of numbers do -/
theorem sort_words {D : List RowN} (hn : (D.map (fun r : RowN => r.1)).Nodup) : (D.map rowW).mergeSort leS = (D.mergeSort leN).map rowW := by
  refine (List.map_mergeSort fun a ha b hb => ?_).symm
  by_cases e : a.1 = b.1
  · obtain rfl := same_name hn ha hb e
    show leN a a = leS (rowW a) (rowW a)
    have h1 : leN a a = true := by
      show (!PySem.W.dataLt (layT a) (layT a)) = true
      rw [show PySem.W.dataLt (layT a) (layT a) = false from lex_irrefl _]
      rfl
    have h2 : leS (rowW a) (rowW a) = true := by
      show (!PySem.W.dataLt (layS (rowW a)) (layS (rowW a))) = true
      rw [show PySem.W.dataLt (layS (rowW a)) (layS (rowW a)) = false from lex_irrefl _]
      rfl
    rw [h1, h2]
  · rw [le_name e, leS_name e]
theorem sort_twice {D : List RowN} (hn : (D.map (fun r : RowN => r.1)).Nodup) : (D.mergeSort leN).mergeSort leN = D.mergeSort leN :=
  sortN_perm (List.mergeSort_perm _ _) ((((List.mergeSort_perm D leN).map (fun r : RowN => r.1)).nodup_iff).mpr hn)
theorem lsts_zipW {H : Hp} {p : Addr} {as : List Addr} {D : List (List Str)} (hl : as.length = D.length) (hr : ∀ (i : Nat) (a : Addr) (x : List Str), as[i]? = some a → D[i]? = some x → H a = some (.lst (rowV x))) (hp : H p = some (.lst (((zipS layS as D).map (·.1)).map V.ref))) (np : p ∉ as) : Lsts rowV H p ((zipS layS as D).map (·.1)) (D.mergeSort leS) :=
  ⟨hp, by rw [List.length_map, zipS_len layS hl, List.length_mergeSort], fun i a x e1 e2 => by
    obtain ⟨j, j1, j2⟩ := zipS_at layS hl e1 e2
    exact hr j a x j1 j2, fun z => by
    obtain ⟨y, hy, e⟩ := List.mem_map.mp z
    have hm := List.mem_mergeSort.mp hy
    exact np (by rw [← e]; exact (List.of_mem_zip hm).1)⟩
/-- a word, or a number -/
def txtV : V → Str
  | .str s => s
  | .int n => numS n
  | _ => ""
/-- the rows that are written, with their words -/
def wordsOf (d : Ter) : List (List Str) := ((d.hs.map rowH).mergeSort leN).map (fun r => ("house" : Str) :: rowW r) ++ (d.ins.mergeSort leN).map (fun r => ("instrument" : Str) :: rowW r) ++ d.sc.map srow ++ ((d.fu.map rowH).mergeSort leN).map (fun r => ("fund" : Str) :: rowW r) ++ ([[("fee" : Str), numS (d.fee.getD 0)], [("skin" : Str), numS (d.skin.getD 0)]] : List (List Str))
def textOf (d : Ter) : Str := Txt.join "" ((wordsOf d).map fun r => lineC r ++ ("\n" : Str))
theorem wordsOf_same {d' d : Ter} (S : SameT d' d) (G : GTer d) : wordsOf d' = wordsOf d := by
  unfold wordsOf
  rw [sortN_perm (S.hs.map rowH) (by rw [keys_rowH]; exact ((S.hs.map _).nodup_iff).mpr G.hn), sortN_perm S.ins (((S.ins.map _).nodup_iff).mpr G.inn), S.sc, sortN_perm (S.fu.map rowH) (by rw [keys_rowH]; exact ((S.fu.map _).nodup_iff).mpr G.fn), S.fee, S.skin]
def sortH (l : List (Str × Int)) : List (Str × Int) := l.mergeSort fun a b => leN (rowH a) (rowH b)
theorem sortH_map (l : List (Str × Int)) : (sortH l).map rowH = (l.map rowH).mergeSort leN := List.map_mergeSort fun a _ b _ => rfl
theorem sortH_perm (l : List (Str × Int)) : (sortH l).Perm l := List.mergeSort_perm _ _
/-- the terms as they are written -/
def terS (d : Ter) : Ter := ⟨sortH d.hs, d.ins.mergeSort leN, d.sc, sortH d.fu, some (d.fee.getD 0), some (d.skin.getD 0)⟩
theorem words_rows (d : Ter) : wordsOf d = rowsT (terS d) := by
  unfold wordsOf rowsT terS
  rw [← sortH_map, ← sortH_map, List.map_map, List.map_map]
  show _ = _ ++ [[("fee" : Str), numS (d.fee.getD 0)]] ++ [[("skin" : Str), numS (d.skin.getD 0)]]
  simp only [List.append_assoc]
  rfl
theorem terS_good {d : Ter} (G : GTer d) : GTer (terS d) ∧ SameT (terS d) d := by
  have p1 := sortH_perm d.hs
  have p2 : (d.ins.mergeSort leN).Perm d.ins := List.mergeSort_perm _ _
  have p3 := sortH_perm d.fu
  have l2 : (d.ins.mergeSort leN).length = d.ins.length := p2.length_eq
  refine ⟨⟨fun x hx => G.hs x (p1.subset hx), by show (sortH d.hs).length ≤ 12; rw [p1.length_eq]; exact G.hl, fun e => G.h1 (List.Perm.eq_nil (p1.symm.trans (by rw [show sortH d.hs = [] from e]))), ((p1.map _).nodup_iff).mpr G.hn, fun r hr => G.ins r (p2.subset hr), by show (d.ins.mergeSort leN).length ≤ 6; rw [l2]; exact G.il, ((p2.map _).nodup_iff).mpr G.inn, fun m hm => by show m.length = (d.ins.mergeSort leN).length ∧ _; rw [l2]; exact G.sc m hm, G.sl, fun e => G.s0 (List.length_eq_zero_iff.mp (by rw [← l2, show d.ins.mergeSort leN = [] from e]; rfl)), fun x hx => ?_, ((p3.map _).nodup_iff).mpr G.fn, by show (sortH d.fu).length ≤ 12; rw [p3.length_eq]; exact G.fl, fun v hv => ?_, fun v hv => ?_⟩, ⟨p1, p2, rfl, p3, rfl, rfl⟩⟩
  · obtain ⟨g1, g2⟩ := G.fu x (p3.subset hx)
    exact ⟨((p1.map _).mem_iff).mpr g1, g2⟩
  · cases hv
    cases h : d.fee with
    | none => decide
    | some u => exact G.fee u h
  · cases hv
    cases h : d.skin with
    | none => decide
    | some u => exact G.skin u h
theorem SameT.trans {a b c : Ter} (x : SameT a b) (y : SameT b c) : SameT a c := ⟨x.hs.trans y.hs, x.ins.trans y.ins, x.sc.trans y.sc, x.fu.trans y.fu, x.fee.trans y.fee, x.skin.trans y.skin⟩
theorem cls_off (r : List Str) : clsR false false false r = 1 := by
  unfold clsR
  rw [if_neg (fun z => Bool.false_ne_true z.2), if_neg (fun z => Bool.false_ne_true z.2), if_neg (fun z => Bool.false_ne_true z.2)]
theorem plain_ok {d : Ter} (G : GTer d) : ∃ d', foldT (rowsT d) ter0 = some d' ∧ SameT d' d := by
  obtain ⟨d', h1, h2⟩ := order_ok G false false false
  rw [partR_none (k := 0) (fun r _ => cls_off r) (by decide), partR_none (k := 2) (fun r _ => cls_off r) (by decide), partR_all (k := 1) (fun r _ => cls_off r), List.append_nil] at h1
  exact ⟨d', h1, h2⟩
theorem effL_rows : ∀ {R : List (List Str)}, (∀ r, r ∈ R → WdsOk r) → effL (R.map lineC) = R
  | [], _ => rfl
  | r :: R, h => by
    obtain ⟨k1, k2, _⟩ := row_line (h r List.mem_cons_self)
    rw [List.map_cons, show lineC r :: R.map lineC = [lineC r] ++ R.map lineC from rfl, effL_append, effL_row k2 k1, effL_rows fun x hx => h x (List.mem_cons_of_mem _ hx)]
    rfl
theorem joinE_snoc : ∀ ps : List (List Nat), TL.joinL [] (ps.map fun p => p ++ [10]) = TL.joinL [10] (ps ++ [[]])
  | [] => rfl
  | [p] => rfl
  | p :: q :: r => by
    have ih := joinE_snoc (q :: r)
    show (p ++ [10]) ++ ([] ++ TL.joinL [] ((q :: r).map fun p => p ++ [10])) = p ++ ([10] ++ TL.joinL [10] ((q :: r) ++ [[]]))
    rw [ih]
    simp only [List.append_assoc, List.nil_append]
theorem text_lines (ls : List Str) : Txt.join "" (ls.map fun l => l ++ ("\n" : Str)) = Txt.join "\n" (ls ++ ([""] : List Str)) := by
  refine TL.ext_tl ?_
  rw [tl_lines, List.map_append]
  have e : TL.tl (Txt.join "" (ls.map fun l => l ++ ("\n" : Str))) = TL.joinL [] ((ls.map fun l => l ++ ("\n" : Str)).map TL.tl) := by rw [(congrArg TL.tl (TL.join_eq "" _)).trans (TL.tl_join "" _)]; rfl
  rw [e, List.map_map]
  have e2 : (TL.tl ∘ fun l : Str => l ++ ("\n" : Str)) = (fun p => p ++ [10]) ∘ TL.tl := by
    funext l
    exact TL.tl_append ..
  rw [e2, ← List.map_map]
  exact joinE_snoc _
/-- the written text is read -/
theorem text_good {d : Ter} (G : GTer d) : GoodX d (textOf d) := by
  obtain ⟨G2, S2⟩ := terS_good G
  obtain ⟨d', h1, h2⟩ := plain_ok G2
  have hw := rows_wd G2
  have e : textOf d = Txt.join "\n" ((rowsT (terS d)).map lineC ++ ([""] : List Str)) := by
    unfold textOf
    rw [words_rows, ← text_lines, List.map_map]
    rfl
  have hg : ∀ x, x ∈ (rowsT (terS d)).map lineC ++ ([""] : List Str) → 10 ∉ TL.tl x ∧ x.length ≤ 200 := fun x hx => by
    rcases List.mem_append.mp hx with hx | hx
    · obtain ⟨r, hr, rfl⟩ := List.mem_map.mp hx
      obtain ⟨_, _, k3, k4, _⟩ := row_line (hw r hr)
      exact ⟨k3, k4⟩
    · rw [List.mem_singleton.mp hx]; exact ⟨List.not_mem_nil, Nat.zero_le _⟩
  have h3 : (rowsT (terS d)).map lineC ++ ([""] : List Str) ≠ [] := by simp
  have h7 := lines_join h3 fun p hp => (hg p hp).1
  have h8 := lines_len (m := 200) fun p hp => (hg p hp).2
  have hl : ((rowsT (terS d)).map lineC ++ ([""] : List Str)).length ≤ 61 := by
    rw [List.length_append, List.length_map]
    have := (rows_ne G2).2
    simp only [List.length_cons, List.length_nil]
    omega
  have h9 := Nat.mul_le_mul_right (200 + 1) hl
  rw [← e] at h7 h8
  refine ⟨by omega, by rw [h7]; omega, fun l hl => ?_, d', ?_, h2.trans S2⟩
  · rw [h7] at hl
    have := (hg l hl).2
    omega
  · rw [h7]
    refine parse_eff _ 1 ter0 d' ?_
    rw [effL_append, effL_skip (x := "") (by decide +kernel), List.append_nil, effL_rows hw]
    exact h1
/-- the rows' own text is read -/
theorem rows_good {d : Ter} (G : GTer d) : GoodX d (Txt.join "\n" ((rowsT d).map lineC)) := by
  obtain ⟨d', h1, h2⟩ := plain_ok G
  have hw := rows_wd G
  have hg : ∀ x, x ∈ (rowsT d).map lineC → 10 ∉ TL.tl x ∧ x.length ≤ 200 := fun x hx => by
    obtain ⟨r, hr, rfl⟩ := List.mem_map.mp hx
    obtain ⟨_, _, k3, k4, _⟩ := row_line (hw r hr)
    exact ⟨k3, k4⟩
  have h3 : (rowsT d).map lineC ≠ [] := fun z => by
    have h0 : (rowsT d).length = 0 := by rw [List.map_eq_nil_iff.mp z]; rfl
    unfold rowsT at h0
    simp only [List.length_append, List.length_map] at h0
    exact G.h1 (List.length_eq_zero_iff.mp (by omega))
  have h7 := lines_join h3 fun p hp => (hg p hp).1
  have h8 := lines_len (m := 200) fun p hp => (hg p hp).2
  have hl : ((rowsT d).map lineC).length ≤ 60 := by rw [List.length_map]; exact (rows_ne G).2
  have h9 := Nat.mul_le_mul_right (200 + 1) hl
  refine ⟨by omega, by rw [h7]; omega, fun l hl => ?_, d', ?_, h2⟩
  · rw [h7] at hl
    have := (hg l hl).2
    omega
  · rw [h7]
    refine parse_eff _ 1 ter0 d' ?_
    rw [effL_rows hw]
    exact h1

def idV (x : List V) : List V := x
theorem Tups.cat2 {α : Type} {enc : α → List V} {H : Hp} {l m : Addr} {ps qs : List Addr} {xs ys : List α} (h : Tups enc H l ps xs) (g : Tups enc H m qs ys) : Tups enc (upd H l (.lst (ps.map V.ref ++ qs.map V.ref))) l (ps ++ qs) (xs ++ ys) := by
  have off : ∀ {p : Addr} {u : List V}, H p = some (.tup u) → p ≠ l := fun {p u} e z => by have := h.lst; rw [← z, e] at this; cases this
  refine ⟨by rw [upd_same, List.map_append], by rw [List.length_append, List.length_append, h.len, g.len], fun i p x e1 e2 => ?_⟩
  by_cases hi : i < ps.length
  · rw [List.getElem?_append_left hi] at e1
    rw [List.getElem?_append_left (by rw [← h.len]; exact hi)] at e2
    have := h.row i p x e1 e2
    exact (upd_ne (off this)).trans this
  · rw [List.getElem?_append_right (by omega)] at e1
    rw [List.getElem?_append_right (by have := h.len; omega)] at e2
    have := g.row (i - ps.length) p x e1 (by rw [h.len]; exact e2)
    exact (upd_ne (off this)).trans this
structure StI (wd : Str) (L : List (List V)) (H0 : Hp) (D : Addr) (i : Nat) (H : Hp) : Prop where
  e : Same H0 H
  ex : ∃ ps, Tups idV H D ps ((L.take i).map fun x => V.str wd :: x)
theorem StI.start {wd : Str} {L : List (List V)} {H0 : Hp} {D : Addr} (n : H0 D = none) : StI wd L H0 D 0 (upd H0 D (.lst [])) := ⟨same_upd n, [], by rw [List.take_zero]; exact (Tups.nil upd_same : Tups idV (upd H0 D (.lst [])) D [] [])⟩
theorem StI.next {wd : Str} {L : List (List V)} {H0 H : Hp} {D p : Addr} {i : Nat} {x : List V} (B : StI wd L H0 D i H) (hx : L[i]? = some x) (n : H0 D = none) (np : H p = none) (hl : L.length ≤ 900) :
    ∃ acc, upd H p (.tup (V.str wd :: x)) D = some (.lst acc) ∧ acc.length < sizeLine ∧ StI wd L H0 D (i + 1) (upd (upd H p (.tup (V.str wd :: x))) D (.lst (acc ++ [V.ref p]))) := by
  obtain ⟨ps, h⟩ := B.ex
  have s : Same H (upd H p (.tup (V.str wd :: x))) := same_upd np
  refine ⟨_, s _ _ h.lst, small1000 (by rw [List.length_map, h.len, List.length_map, List.length_take]; omega), same_over (B.e.trans s) n, ps ++ [p], ?_⟩
  rw [take_succ hx, map_snoc (fun x => V.str wd :: x)]
  exact h.push s np upd_same
/-- what a row of values is written as -/
def outV (x : List V) : Str := lineC (x.map txtV) ++ ("\n" : Str)
theorem txt_encR (r : RowN) : (encR r).map txtV = rowW r := by
  unfold encR rowW
  rw [List.map_cons, List.map_map]
  rfl
theorem numsV (m : List Int) : (m.map V.int).map txtV = m.map numS := by rw [List.map_map]; rfl
structure FmtOk (d : Ter) : Prop where
  g : ∀ x, (x ∈ d.hs.map rowH ∨ x ∈ d.ins ∨ x ∈ d.fu.map rowH) → x.1.length ≤ 21 ∧ x.2.length ≤ 6 ∧ ∀ v, v ∈ x.2 → v.natAbs < 10 ^ 20
  sc : ∀ m, m ∈ d.sc → m.length ≤ 6 ∧ ∀ v, v ∈ m → v.natAbs < 10 ^ 20
  fe : (d.fee.getD 0).natAbs < 10 ^ 20 ∧ (d.skin.getD 0).natAbs < 10 ^ 20
  sz : d.hs.length ≤ 12 ∧ d.ins.length ≤ 6 ∧ d.sc.length ≤ 12 ∧ d.fu.length ≤ 12
  nd : (keysS d.hs).Nodup ∧ (d.ins.map (fun r : RowN => r.1)).Nodup ∧ (keysS d.fu).Nodup
def GoodVs (x : List V) : Prop := x.length ≤ 8 ∧ ∀ v, v ∈ x → (∃ s : Str, v = .str s ∧ s.length ≤ 21) ∨ ∃ n : Int, v = .int n ∧ n.natAbs < 10 ^ 20
theorem goodR {r : RowN} {wd : Str} (hw : wd.length ≤ 21) (h : r.1.length ≤ 21 ∧ r.2.length ≤ 6 ∧ ∀ v, v ∈ r.2 → v.natAbs < 10 ^ 20) : GoodVs (V.str wd :: encR r) := by
  refine ⟨by unfold encR; rw [List.length_cons, List.length_cons, List.length_map]; omega, fun v hv => ?_⟩
  unfold encR at hv
  rcases List.mem_cons.mp hv with rfl | hv
  · exact .inl ⟨_, rfl, hw⟩
  · rcases List.mem_cons.mp hv with rfl | hv
    · exact .inl ⟨_, rfl, h.1⟩
    · obtain ⟨n, hn, rfl⟩ := List.mem_map.mp hv
      exact .inr ⟨n, rfl, h.2.2 n hn⟩
theorem log_of {n : Int} (h : n.natAbs < 10 ^ 20) : n.natAbs.log2 < 1920 := natAbs_log (k := 100) (Nat.lt_trans h (by decide)) (by decide) (by decide)
theorem txt_len {v : V} (h : (∃ s : Str, v = .str s ∧ s.length ≤ 21) ∨ ∃ n : Int, v = .int n ∧ n.natAbs < 10 ^ 20) : (txtV v).length ≤ 21 := by
  rcases h with ⟨s, rfl, h⟩ | ⟨n, rfl, h⟩
  · exact h
  · exact (int_numS h).2
def outRows (d : Ter) : List (List V) := (((d.hs.map rowH).mergeSort leN).map encR).map (fun x => V.str "house" :: x) ++ ((d.ins.mergeSort leN).map encR).map (fun x => V.str "instrument" :: x) ++ (d.sc.map fun m => m.map V.int).map (fun x => V.str "scenario" :: x) ++ (((d.fu.map rowH).mergeSort leN).map encR).map (fun x => V.str "fund" :: x) ++ [[V.str "fee", V.int (d.fee.getD 0)]] ++ [[V.str "skin", V.int (d.skin.getD 0)]]
theorem out_blk (wd : Str) (L : List RowN) : ((L.map encR).map fun x => V.str wd :: x).map outV = (L.map fun r => wd :: rowW r).map fun r => lineC r ++ ("\n" : Str) := by
  rw [List.map_map, List.map_map, List.map_map]
  refine List.map_congr_left fun r _ => ?_
  show lineC ((V.str wd :: encR r).map txtV) ++ _ = _
  rw [List.map_cons, txt_encR]
  rfl
theorem out_text (d : Ter) : Txt.join "" ((outRows d).map outV) = textOf d := by
  unfold textOf outRows wordsOf
  have e : ((d.sc.map fun m => m.map V.int).map fun x => V.str "scenario" :: x).map outV = (d.sc.map srow).map fun r => lineC r ++ ("\n" : Str) := by
    rw [List.map_map, List.map_map, List.map_map]
    refine List.map_congr_left fun m _ => ?_
    show lineC ((V.str "scenario" :: m.map V.int).map txtV) ++ _ = _
    rw [List.map_cons, numsV]
    rfl
  simp only [List.map_append, out_blk, e, List.append_assoc]
  rfl
theorem out_good {d : Ter} (F : FmtOk d) : (∀ x, x ∈ outRows d → GoodVs x) ∧ (outRows d).length ≤ 50 := by
  obtain ⟨z1, z2, z3, z4⟩ := F.sz
  have blk : ∀ (wd : Str) (L : List RowN), wd.length ≤ 21 → (∀ r, r ∈ L → r.1.length ≤ 21 ∧ r.2.length ≤ 6 ∧ ∀ v, v ∈ r.2 → v.natAbs < 10 ^ 20) → ∀ x, x ∈ ((L.mergeSort leN).map encR).map (fun x => V.str wd :: x) → GoodVs x := fun wd L hw h x hx => by
    obtain ⟨y, hy, rfl⟩ := List.mem_map.mp hx
    obtain ⟨r, hr, rfl⟩ := List.mem_map.mp hy
    exact goodR hw (h r (List.mem_mergeSort.mp hr))
  have one : ∀ (wd : Str) (n : Int), wd.length ≤ 21 → n.natAbs < 10 ^ 20 → GoodVs [V.str wd, V.int n] := fun wd n hw hn => by
    refine ⟨Nat.le_of_ble_eq_true rfl, fun v hv => ?_⟩
    rcases List.mem_cons.mp hv with rfl | hv
    · exact .inl ⟨_, rfl, hw⟩
    · rw [List.mem_singleton.mp hv]; exact .inr ⟨_, rfl, hn⟩
  constructor
  · intro x hx
    unfold outRows at hx
    rcases List.mem_append.mp hx with hx | hx
    · rcases List.mem_append.mp hx with hx | hx
      · rcases List.mem_append.mp hx with hx | hx
        · rcases List.mem_append.mp hx with hx | hx
          · rcases List.mem_append.mp hx with hx | hx
            · exact blk "house" _ (by decide) (fun r hr => F.g r (.inl hr)) x hx
            · exact blk "instrument" _ (by decide) (fun r hr => F.g r (.inr (.inl hr))) x hx
          · obtain ⟨y, hy, rfl⟩ := List.mem_map.mp hx
            obtain ⟨m, hm, rfl⟩ := List.mem_map.mp hy
            obtain ⟨g1, g2⟩ := F.sc m hm
            refine ⟨by rw [List.length_cons, List.length_map]; omega, fun v hv => ?_⟩
            rcases List.mem_cons.mp hv with rfl | hv
            · exact .inl ⟨_, rfl, by decide⟩
            · obtain ⟨n, hn, rfl⟩ := List.mem_map.mp hv
              exact .inr ⟨n, rfl, g2 n hn⟩
        · exact blk "fund" _ (by decide) (fun r hr => F.g r (.inr (.inr hr))) x hx
      · rw [List.mem_singleton.mp hx]; exact one _ _ (by decide) F.fe.1
    · rw [List.mem_singleton.mp hx]; exact one _ _ (by decide) F.fe.2
  · unfold outRows
    simp only [List.length_append, List.length_map, List.length_mergeSort, List.length_cons, List.length_nil]
    omega
theorem out_len {x : List V} (h : GoodVs x) : (outV x).length ≤ 180 := by
  have g1 := line_len (m := 21) (ws := x.map txtV) fun y hy => by
    obtain ⟨v, hv, rfl⟩ := List.mem_map.mp hy
    exact txt_len (h.2 v hv)
  rw [List.length_map] at g1
  have g4 := Nat.mul_le_mul_right (21 + 1) h.1
  unfold outV
  rw [TL.len_tl, TL.tl_append, List.length_append, ← TL.len_tl, ← TL.len_tl]
  have g3 : ("\n" : Str).length = 1 := rfl
  omega

section
variable {P : Program} {w : World} {K : PySem.W.Frag} {mg : Str → Option Value} {base : Heap}
def sp_written_line (K : PySem.W.Frag) : Sp := fun vs H Q _ => ∃ (_ : Unit) (p : Addr) (x : List V), vs = [.ref p] ∧ H p = some (.tup x) ∧ GoodVs x ∧ ∀ H', Same H H' → Q (.str (outV x)) H'
set_option maxHeartbeats 0 in
theorem ok_written_line (T : Txt K mg) : FnOk P w K mg base CX0 1 T.f_written_line T.d_written_line ["row"] (sp_written_line K) := by
  refine T.F_written_line.ok sc_written_line (fun vs H Q E h => ?_) (fun cdv A outer s H vs Q E hr h => ?_)
  · obtain ⟨_, p, x, rfl, _⟩ := h
    rfl
  · obtain ⟨_, p, x, rfl, hp, hg, q⟩ := h
    refine ⟨_, (pss_one (ps_ret (pe_op op_add_str (pe_join pe_str (pe_lc (own := [("word", 1)]) (g := gName 1) (tt := tYes) rfl sc_written_line.nd (pi_tup (pv 0)) (blkOk_by (own := [("word", 1)]) (N := N_written_line) (sc := defScope s_written_line) (by decide +kernel)) (fun _ _ _ _ _ => (pg_name (i := 1) sc_written_line.nd rfl (Or.inl rfl))) (fun _ _ _ _ _ => pts_nil) (fun _ _ _ _ _ => (pe_callTy (CallR.or SkE.call_str_str call_str_int) (by rfl) T.z_str (by decide +kernel) (pa_cons (pv 1) pa_nil))))) pe_str))), ?_⟩
    have hpS := SqT.of (K := K) hp
    walk_at "st"
    refine ⟨⟨_, rfl⟩, ?_⟩
    walk_at "st"
    intro D nD
    refine lc_it (walk_tup (xs := x) (a := p)) (fun i H' => Same H H' ∧ H' D = some (.lst (rowV ((x.take i).map txtV)))) ⟨same_upd nD, upd_same⟩ (fun i H' _ z => SqT.of (z.1 _ _ hp)) ?_ ?_
    · rintro i v H1 H2 hi ⟨e, hD⟩ y
      obtain ⟨rfl, hv⟩ := y
      have hiv := (List.getElem?_eq_some_iff.mp hv).1
      have hgl := hg.1
      have fin : ∃ acc, H2 D = some (.lst acc) ∧ acc.length < sizeLine ∧ Same H (upd H2 D (.lst (acc ++ [V.str (txtV v)]))) ∧ upd H2 D (.lst (acc ++ [V.str (txtV v)])) D = some (.lst (rowV ((x.take (i + 1)).map txtV))) := by
        refine ⟨_, hD, small1000 (by rw [List.length_map, List.length_map, List.length_take]; omega), same_over e nD, ?_⟩
        rw [upd_same, take_succ hv, map_snoc txtV]
        exact congrArg (fun z => some (HO.lst z)) (map_snoc V.str _ _).symm
      refine ⟨rfl, ?_⟩
      walk_at "st"
      rcases hg.2 v (List.mem_of_getElem? hv) with ⟨s0, rfl, hs⟩ | ⟨n0, rfl, hn⟩
      · exact .inl ⟨_, rfl, fin⟩
      · exact .inr ⟨_, rfl, log_of hn, fin⟩
    · rintro H1 ⟨e, hD⟩
      rw [List.take_of_length_le (Nat.le_refl _)] at hD
      have hDS := SqL.of (K := K) hD
      have hgl := hg.1
      have hwl : ∀ y, y ∈ x.map txtV → y.length ≤ 21 := fun y hy => by
        obtain ⟨v, hv, rfl⟩ := List.mem_map.mp hy
        exact txt_len (hg.2 v hv)
      have hsum : ((x.map txtV).map (fun x => x.length)).sum + (x.map txtV).length * (" " : Str).length ≤ 16777216 := by
        have g1 := lens_le (m := 21) _ hwl
        have g3 : (" " : Str).length = 1 := rfl
        rw [List.length_map] at g1
        rw [g3, List.length_map]
        omega
      refine ⟨" ", D, x.map txtV, rfl, rfl, .inl hDS, hsum, ?_⟩
      have hlen : (lineC (x.map txtV)).length + ("\n" : Str).length ≤ sizeLine := by
        have g1 := line_len (m := 21) hwl
        rw [List.length_map] at g1
        have g3 : ("\n" : Str).length = 1 := rfl
        have g4 := Nat.mul_le_mul_right (21 + 1) hgl
        rw [g3, sizeLine_eq]
        omega
      rw [joinS]
      walk_at "st"
      exact q H1 e
def sp_format_terms (K : PySem.W.Frag) (C : Addr) : Sp := fun vs H Q _ => ∃ (_ : Unit) (t dt M1 M2 M3 M4 : Addr) (d : Ter), vs = [.ref t] ∧ TerAt C H t dt M1 M2 M3 M4 d ∧ FmtOk d ∧ ∀ H', Same H H' → Q (.str (textOf d)) H'
set_option maxHeartbeats 0 in
theorem ok_format_terms (T : Txt K mg) : FnOk P w K mg base CX0 2 T.f_format_terms T.d_format_terms ["terms"] (sp_format_terms K T.c_Terms) := by
  refine T.F_format_terms.ok sc_format_terms (fun vs H Q E h => ?_) (fun cdv A outer s H vs Q E hr h => ?_)
  · obtain ⟨_, t, dt, M1, M2, M3, M4, d, rfl, _⟩ := h
    rfl
  · obtain ⟨_, t, dt, M1, M2, M3, M4, d, rfl, B, F, q⟩ := h
    have G_written_line : FnOk P w K mg base CX0 1 T.f_written_line T.d_written_line ["row"] (sp_written_line K) := ok_written_line T
    refine ⟨_, (pss_cons (ps_setLc (i := 1) (own := [("house", 2)]) (g := gName 2) (tt := tYes) rfl sc_format_terms.nd rfl rfl (sw_true rfl rfl rfl (by decide +kernel)) (pi_list (pe_callB (cr_sortG hr sortK_T) (by rfl) T.z_sorted (by decide +kernel) (pa_cons (pe_fld (pv 0) rfl) pa_nil))) (blkOk_by (own := [("house", 2)]) (N := N_format_terms) (sc := defScope s_format_terms) (by decide +kernel)) (fun _ _ _ _ _ => (pg_name (i := 2) sc_format_terms.nd rfl (Or.inl rfl))) (fun _ _ _ _ _ => pts_nil) (fun _ _ _ _ _ => (pe_tup (pa_cons pe_str (show PA _ _ (StX.tStar K _ _) from StX.pa_star (pv 2) pa_nil)))))
    (pss_cons (ps_expr (pe_bm PySem.F.plainAttrs_list PySem.F.slot_list_extend PySem.F.type_list_extend mt_extend (pv 1) (pa_cons (pe_lc (own := [("instrument", 3)]) (g := gName 3) (tt := tYes) rfl sc_format_terms.nd (pi_list (pe_callB (cr_sortG hr sortK_T) (by rfl) T.z_sorted (by decide +kernel) (pa_cons (pe_fld (pv 0) rfl) pa_nil))) (blkOk_by (own := [("instrument", 3)]) (N := N_format_terms) (sc := defScope s_format_terms) (by decide +kernel)) (fun _ _ _ _ _ => (pg_name (i := 3) sc_format_terms.nd rfl (Or.inl rfl))) (fun _ _ _ _ _ => pts_nil) (fun _ _ _ _ _ => (pe_tup (pa_cons pe_str (show PA _ _ (StX.tStar K _ _) from StX.pa_star (pv 3) pa_nil))))) pa_nil)))
    (pss_cons (ps_expr (pe_bm PySem.F.plainAttrs_list PySem.F.slot_list_extend PySem.F.type_list_extend mt_extend (pv 1) (pa_cons (pe_lc (own := [("moves", 4)]) (g := gName 4) (tt := tYes) rfl sc_format_terms.nd (pi_list (pe_fld (pv 0) rfl)) (blkOk_by (own := [("moves", 4)]) (N := N_format_terms) (sc := defScope s_format_terms) (by decide +kernel)) (fun _ _ _ _ _ => (pg_name (i := 4) sc_format_terms.nd rfl (Or.inl rfl))) (fun _ _ _ _ _ => pts_nil) (fun _ _ _ _ _ => (pe_tup (pa_cons pe_str (show PA _ _ (StX.tStar K _ _) from StX.pa_star (pv 4) pa_nil))))) pa_nil)))
    (pss_cons (ps_expr (pe_bm PySem.F.plainAttrs_list PySem.F.slot_list_extend PySem.F.type_list_extend mt_extend (pv 1) (pa_cons (pe_lc (own := [("share", 5)]) (g := gName 5) (tt := tYes) rfl sc_format_terms.nd (pi_list (pe_callB (cr_sortG hr sortK_T) (by rfl) T.z_sorted (by decide +kernel) (pa_cons (pe_fld (pv 0) rfl) pa_nil))) (blkOk_by (own := [("share", 5)]) (N := N_format_terms) (sc := defScope s_format_terms) (by decide +kernel)) (fun _ _ _ _ _ => (pg_name (i := 5) sc_format_terms.nd rfl (Or.inl rfl))) (fun _ _ _ _ _ => pts_nil) (fun _ _ _ _ _ => (pe_tup (pa_cons pe_str (show PA _ _ (StX.tStar K _ _) from StX.pa_star (pv 5) pa_nil))))) pa_nil)))
    (pss_cons (ps_expr (pe_bm PySem.F.plainAttrs_list PySem.F.slot_list_append PySem.F.type_list_append mt_append (pv 1) (pa_cons (pe_tup (pa_cons pe_str (pa_cons (pe_fld (pv 0) rfl) pa_nil))) pa_nil)))
    (pss_cons (ps_expr (pe_bm PySem.F.plainAttrs_list PySem.F.slot_list_append PySem.F.type_list_append mt_append (pv 1) (pa_cons (pe_tup (pa_cons pe_str (pa_cons (pe_fld (pv 0) rfl) pa_nil))) pa_nil)))
    (pss_one (ps_ret (pe_join pe_str (pe_lc (own := [("row", 6)]) (g := gName 6) (tt := tYes) rfl sc_format_terms.nd (pi_list (pv 1)) (blkOk_by (own := [("row", 6)]) (N := N_format_terms) (sc := defScope s_format_terms) (by decide +kernel)) (fun _ _ _ _ _ => (pg_name (i := 6) sc_format_terms.nd rfl (Or.inl rfl))) (fun _ _ _ _ _ => pts_nil) (fun _ _ _ _ _ => (pe_call G_written_line hr (by rfl) T.m_written_line T.F_written_line.kp T.b_written_line .nil pass0 (pa_cons (pv 6) pa_nil))))))))))))), ?_⟩
    have fact_Terms_0 := T.cl_Terms; have fact_Terms_1 := T.na_Terms_houses; have fact_Terms_2 := T.na_Terms_instruments; have fact_Terms_3 := T.na_Terms_scenarios; have fact_Terms_4 := T.na_Terms_fund; have fact_Terms_5 := T.na_Terms_fee; have fact_Terms_6 := T.na_Terms_skin
    have hob := B.ob
    have n1 : (((d.hs.map rowH).mergeSort leN).map (fun r : RowN => r.1)).Nodup := (((List.mergeSort_perm _ leN).map (fun r : RowN => r.1)).nodup_iff).mpr (by rw [keys_rowH]; exact F.nd.1)
    obtain ⟨z1, z2, z3, z4⟩ := F.sz
    obtain ⟨a1, hT1⟩ := B.h
    walk_at "st"
    refine ⟨(), M1, a1, (d.hs.map rowH).mergeSort leN, rfl, SqL.of hT1.lst, hT1.len, fun i a x e1 e2 => dpT x a (hT1.row i a x e1 e2), by rw [List.length_mergeSort, List.length_map]; omega, fun _ p1 np => ?_⟩
    have hS1 := tups_zipS hT1.len (fun i a x e1 e2 => (upd_ne (ne_of_none (hT1.row i a x e1 e2) np)).trans (hT1.row i a x e1 e2)) (H := upd H p1 (.lst (((zipS layT a1 ((d.hs.map rowH).mergeSort leN)).map (·.1)).map V.ref))) (p := p1) upd_same
    rw [sort_twice (by rw [keys_rowH]; exact F.nd.1)] at hS1
    have s1 : Same H (upd H p1 (.lst (((zipS layT a1 ((d.hs.map rowH).mergeSort leN)).map (·.1)).map V.ref))) := same_upd np
    generalize upd H p1 (.lst (((zipS layT a1 ((d.hs.map rowH).mergeSort leN)).map (·.1)).map V.ref)) = H1 at hS1 s1 ⊢
    generalize (zipS layT a1 ((d.hs.map rowH).mergeSort leN)).map (·.1) = q1 at hS1
    have hS1S := SqL.of (K := K) hS1.lst
    walk_at "st"
    intro D1 nD1
    refine lc_it (walk_list (xs := q1.map V.ref) (a := p1)) (StI "house" (((d.hs.map rowH).mergeSort leN).map encR) H1 D1) (StI.start nD1) (fun i H' _ z => sqL_same hS1S z.e) ?_ ?_
    · rintro i v G2 G3 hi z y
      obtain ⟨rfl, hv⟩ := y
      obtain ⟨a, x, ha, hx, rfl, _⟩ := hS1.item hv
      have hr := z.e _ _ (hS1.row i a x ha hx)
      have hrS := SqT.of (K := K) hr
      have hgx := (F.g x (.inl (List.mem_mergeSort.mp (List.mem_of_getElem? hx)))).2.1
      refine ⟨rfl, ?_⟩
      walk_at "st"
      delta tNil
      refine ⟨Nat.le_of_lt (small1000 (by unfold encR; rw [List.length_cons, List.length_append, List.length_cons, List.length_map]; simp only [List.length_nil]; omega)), fun c nc => ?_⟩
      rw [List.append_nil]
      exact z.next (by rw [List.getElem?_map, hx]; rfl) nD1 nc (by rw [List.length_map, List.length_mergeSort, List.length_map]; omega)
    · rintro H2 ⟨e2, ps, hP⟩
      rw [List.take_of_length_le (by rw [List.length_map, List.length_map, hS1.len]; exact Nat.le_refl _)] at hP
      have s02 := s1.trans e2
      have B2 := B.same s02
      have hob2 := B2.ob
      have hPl := hP.lst
      obtain ⟨a2, hT2⟩ := B2.i
      walk_at "st"
      refine ⟨(), M2, a2, (d.ins).mergeSort leN, rfl, SqL.of hT2.lst, hT2.len, fun i a x e1 e2 => dpT x a (hT2.row i a x e1 e2), by rw [List.length_mergeSort]; omega, fun _ p2 np => ?_⟩
      have hS2 := tups_zipS hT2.len (fun i a x e1 e2 => (upd_ne (ne_of_none (hT2.row i a x e1 e2) np)).trans (hT2.row i a x e1 e2)) (H := upd H2 p2 (.lst (((zipS layT a2 ((d.ins).mergeSort leN)).map (·.1)).map V.ref))) (p := p2) upd_same
      rw [sort_twice F.nd.2.1] at hS2
      have s2 : Same H2 (upd H2 p2 (.lst (((zipS layT a2 ((d.ins).mergeSort leN)).map (·.1)).map V.ref))) := same_upd np
      generalize upd H2 p2 (.lst (((zipS layT a2 ((d.ins).mergeSort leN)).map (·.1)).map V.ref)) = H2 at hS2 s2 ⊢
      generalize (zipS layT a2 ((d.ins).mergeSort leN)).map (·.1) = q2 at hS2
      have hS2S := SqL.of (K := K) hS2.lst
      have hP2 := hP.same s2
      walk_at "st"
      intro D2 nD2
      refine lc_it (walk_list (xs := q2.map V.ref) (a := p2)) (StI "instrument" (((d.ins).mergeSort leN).map encR) H2 D2) (StI.start nD2) (fun i H' _ z => sqL_same hS2S z.e) ?_ ?_
      · rintro i v G2 G3 hi z y
        obtain ⟨rfl, hv⟩ := y
        obtain ⟨a, x, ha, hx, rfl, _⟩ := hS2.item hv
        have hr := z.e _ _ (hS2.row i a x ha hx)
        have hrS := SqT.of (K := K) hr
        have hgx := (F.g x (.inr <| .inl (List.mem_mergeSort.mp (List.mem_of_getElem? hx)))).2.1
        refine ⟨rfl, ?_⟩
        walk_at "st"
        delta tNil
        refine ⟨Nat.le_of_lt (small1000 (by unfold encR; rw [List.length_cons, List.length_append, List.length_cons, List.length_map]; simp only [List.length_nil]; omega)), fun c nc => ?_⟩
        rw [List.append_nil]
        exact z.next (by rw [List.getElem?_map, hx]; rfl) nD2 nc (by rw [List.length_map, List.length_mergeSort]; omega)
      · rintro H3 ⟨e3, ps2, hQ⟩
        rw [List.take_of_length_le (by rw [List.length_map, List.length_map, hS2.len]; exact Nat.le_refl _)] at hQ
        have hP3 := hP2.same e3
        have hPl3 := hP3.lst
        have hQl := hQ.lst
        have lA : ps.length ≤ 12 := by rw [hP.len, List.length_map, List.length_map, List.length_mergeSort, List.length_map]; omega
        have lB : ps2.length ≤ 6 := by rw [hQ.len, List.length_map, List.length_map, List.length_mergeSort]; omega
        walk_at "st"
        refine ⟨Nat.le_of_lt (small1000 (by rw [List.length_map, List.length_map]; omega)), ?_⟩
        have nD1H := none_same s1 nD1
        have s03 := same_over (o := .lst (ps.map V.ref ++ ps2.map V.ref)) ((s02.trans s2).trans e3) nD1H
        have hR3 := hP3.cat2 hQ
        generalize upd H3 D1 (.lst (ps.map V.ref ++ ps2.map V.ref)) = H4 at s03 hR3 ⊢
        have B4 := B.same s03
        have hob4 := B4.ob
        obtain ⟨as, c1, c2, c3⟩ := B4.s
        have hcS := SqL.of (K := K) c1
        have hRl := hR3.lst
        walk_at "st"
        intro D3 nD3
        refine lc_it (walk_list (xs := as.map V.ref) (a := M3)) (StI "scenario" (d.sc.map fun m => m.map V.int) H4 D3) (StI.start nD3) (fun i H' _ z => sqL_same hcS z.e) ?_ ?_
        · rintro i v G2 G3 hi z y
          obtain ⟨rfl, hv⟩ := y
          obtain ⟨a, ha, rfl⟩ := refs_at hv
          have his : i < d.sc.length := by rw [← c2]; exact (List.getElem?_eq_some_iff.mp ha).1
          have hx : d.sc[i]? = some d.sc[i] := List.getElem?_eq_getElem his
          have hml := (F.sc _ (List.mem_of_getElem? hx)).1
          generalize d.sc[i] = x at hx hml
          have hr := z.e _ _ (c3 i a x ha hx)
          have hrS := SqL.of (K := K) hr
          refine ⟨rfl, ?_⟩
          walk_at "st"
          delta tNil
          refine ⟨Nat.le_of_lt (small1000 (by rw [List.length_cons, List.length_append, List.length_map]; simp only [List.length_nil]; omega)), fun c nc => ?_⟩
          rw [List.append_nil]
          exact z.next (by rw [List.getElem?_map, hx]; rfl) nD3 nc (by rw [List.length_map]; omega)
        · rintro H5 ⟨e5, ps3, hC⟩
          rw [List.take_of_length_le (by rw [List.length_map, List.length_map, c2]; exact Nat.le_refl _)] at hC
          have hR5 := hR3.same e5
          have hRl5 := hR5.lst
          have hCl := hC.lst
          have lC : ps3.length ≤ 12 := by rw [hC.len, List.length_map, List.length_map]; omega
          walk_at "st"
          refine ⟨Nat.le_of_lt (small1000 (by rw [List.length_map, List.length_map, List.length_append]; omega)), ?_⟩
          have s05 := same_over (o := .lst ((ps ++ ps2).map V.ref ++ ps3.map V.ref)) (s03.trans e5) nD1H
          have hR6 := hR5.cat2 hC
          generalize upd H5 D1 (.lst ((ps ++ ps2).map V.ref ++ ps3.map V.ref)) = H6 at s05 hR6 ⊢
          have B6 := B.same s05
          have hob6 := B6.ob
          have hRl6 := hR6.lst
          obtain ⟨a7, hT7⟩ := B6.f
          walk_at "st"
          refine ⟨(), M4, a7, (d.fu.map rowH).mergeSort leN, rfl, SqL.of hT7.lst, hT7.len, fun i a x e1 e2 => dpT x a (hT7.row i a x e1 e2), by rw [List.length_mergeSort, List.length_map]; omega, fun _ p7 np => ?_⟩
          have hS7 := tups_zipS hT7.len (fun i a x e1 e2 => (upd_ne (ne_of_none (hT7.row i a x e1 e2) np)).trans (hT7.row i a x e1 e2)) (H := upd H6 p7 (.lst (((zipS layT a7 ((d.fu.map rowH).mergeSort leN)).map (·.1)).map V.ref))) (p := p7) upd_same
          rw [sort_twice (by rw [keys_rowH]; exact F.nd.2.2)] at hS7
          have s7 : Same H6 (upd H6 p7 (.lst (((zipS layT a7 ((d.fu.map rowH).mergeSort leN)).map (·.1)).map V.ref))) := same_upd np
          generalize upd H6 p7 (.lst (((zipS layT a7 ((d.fu.map rowH).mergeSort leN)).map (·.1)).map V.ref)) = H7 at hS7 s7 ⊢
          generalize (zipS layT a7 ((d.fu.map rowH).mergeSort leN)).map (·.1) = q7 at hS7
          have hS7S := SqL.of (K := K) hS7.lst
          have hR7 := hR6.same s7
          have hRl7 := hR7.lst
          walk_at "st"
          intro D7 nD7
          refine lc_it (walk_list (xs := q7.map V.ref) (a := p7)) (StI "fund" (((d.fu.map rowH).mergeSort leN).map encR) H7 D7) (StI.start nD7) (fun i H' _ z => sqL_same hS7S z.e) ?_ ?_
          · rintro i v G2 G3 hi z y
            obtain ⟨rfl, hv⟩ := y
            obtain ⟨a, x, ha, hx, rfl, _⟩ := hS7.item hv
            have hr := z.e _ _ (hS7.row i a x ha hx)
            have hrS := SqT.of (K := K) hr
            have hgx := (F.g x (.inr <| .inr (List.mem_mergeSort.mp (List.mem_of_getElem? hx)))).2.1
            refine ⟨rfl, ?_⟩
            walk_at "st"
            delta tNil
            refine ⟨Nat.le_of_lt (small1000 (by unfold encR; rw [List.length_cons, List.length_append, List.length_cons, List.length_map]; simp only [List.length_nil]; omega)), fun c nc => ?_⟩
            rw [List.append_nil]
            exact z.next (by rw [List.getElem?_map, hx]; rfl) nD7 nc (by rw [List.length_map, List.length_mergeSort, List.length_map]; omega)
          · rintro H8 ⟨e8, ps4, hF⟩
            rw [List.take_of_length_le (by rw [List.length_map, List.length_map, hS7.len]; exact Nat.le_refl _)] at hF
            have hR8 := hR7.same e8
            have hRl8 := hR8.lst
            have hFl := hF.lst
            have lD : ps4.length ≤ 12 := by rw [hF.len, List.length_map, List.length_map, List.length_mergeSort, List.length_map]; omega
            walk_at "st"
            refine ⟨Nat.le_of_lt (small1000 (by rw [List.length_map, List.length_map, List.length_append, List.length_append]; omega)), ?_⟩
            have s08 := same_over (o := .lst ((ps ++ ps2 ++ ps3).map V.ref ++ ps4.map V.ref)) ((s05.trans s7).trans e8) nD1H
            have hR9 := hR8.cat2 hF
            generalize upd H8 D1 (.lst ((ps ++ ps2 ++ ps3).map V.ref ++ ps4.map V.ref)) = H9 at s08 hR9 ⊢
            have B9 := B.same s08
            have hob9 := B9.ob
            have hRl9 := hR9.lst
            have hpl : ((ps ++ ps2 ++ ps3 ++ ps4).map V.ref).length ≤ 42 := by rw [List.length_map, List.length_append, List.length_append, List.length_append]; omega
            have hpl1 : ((ps ++ ps2 ++ ps3 ++ ps4).map V.ref).length < sizeLine := small1000 (by omega)
            generalize ps ++ ps2 ++ ps3 ++ ps4 = pq at hR9 hRl9 hpl hpl1 ⊢
            walk_at "st"
            intro c1 nc1
            have s10 : Same H9 (upd H9 c1 (.tup [.str "fee", .int (d.fee.getD 0)])) := same_upd nc1
            have hR10 := hR9.push s10 nc1 (x := [.str "fee", .int (d.fee.getD 0)]) upd_same
            have hRl10 := s10 _ _ hRl9
            have s010 := same_over (o := .lst (pq.map V.ref ++ [V.ref c1])) (s08.trans s10) nD1H
            have B10 := B.same s010
            have hob10 := B10.ob
            have hRl11 := hR10.lst
            have hpl2 : (pq.map V.ref ++ [V.ref c1]).length < sizeLine := small1000 (by rw [List.length_append, List.length_singleton]; omega)
            walk_at "st"
            intro c2 nc2
            have s11 := same_upd (o := .tup [.str "skin", .int (d.skin.getD 0)]) nc2
            have hR11 := hR10.push s11 nc2 (x := [.str "skin", .int (d.skin.getD 0)]) upd_same
            have hRl11' := s11 _ _ hRl11
            have s011 := same_over (o := .lst ((pq ++ [c1]).map V.ref ++ [V.ref c2])) (s010.trans s11) nD1H
            have hpl3 : ((pq ++ [c1]).map V.ref).length < sizeLine := small1000 (by rw [List.length_map, List.length_append, List.length_singleton]; rw [List.length_map] at hpl; omega)
            have hRS := SqL.of (K := K) hR11.lst
            walk_at "st"
            obtain ⟨HF, hHF⟩ : ∃ G, G = upd (upd (upd (upd H9 c1 (.tup [.str "fee", .int (d.fee.getD 0)])) D1 (.lst (pq.map V.ref ++ [V.ref c1]))) c2 (.tup [.str "skin", .int (d.skin.getD 0)])) D1 (.lst ((pq ++ [c1]).map V.ref ++ [V.ref c2])) := ⟨_, rfl⟩
            rw [← hHF] at hR11 s011 hRS
            rw [← hHF]
            clear hHF
            have hX : Tups idV HF D1 (pq ++ [c1] ++ [c2]) (outRows d) := hR11
            clear hR11
            obtain ⟨xg, xl⟩ := out_good F
            have xt := out_text d
            generalize outRows d = X at hX xg xl xt
            generalize pq ++ [c1] ++ [c2] = pX at hX hRS
            refine ⟨⟨_, rfl⟩, ?_⟩
            walk_at "st"
            intro E nE
            refine lc_it (walk_list (xs := pX.map V.ref) (a := D1)) (fun i H' => Same HF H' ∧ H' E = some (.lst (rowV ((X.take i).map outV)))) ⟨same_upd nE, upd_same⟩ (fun i H' _ z => sqL_same hRS z.1) ?_ ?_
            · rintro i v G2 G3 hi ⟨e, hE⟩ y
              obtain ⟨rfl, hv⟩ := y
              obtain ⟨a, x, ha, hx, rfl, _⟩ := hX.item hv
              have hr := e _ _ (hX.row i a x ha hx)
              have hxl := (List.getElem?_eq_some_iff.mp hx).1
              refine ⟨rfl, ?_⟩
              walk_at "st"
              refine ⟨(), a, x, rfl, hr, xg x (List.mem_of_getElem? hx), fun G4 s4 => ?_⟩
              refine ⟨_, s4 _ _ hE, small1000 (by rw [List.length_map, List.length_map, List.length_take]; omega), same_over (e.trans s4) nE, ?_⟩
              rw [upd_same, take_succ hx, map_snoc outV]
              exact congrArg (fun z => some (HO.lst z)) (map_snoc V.str _ _).symm
            · rintro G2 ⟨e, hE⟩
              rw [List.take_of_length_le (by rw [List.length_map, hX.len]; exact Nat.le_refl _)] at hE
              have hES := SqL.of (K := K) hE
              refine ⟨"", E, X.map outV, rfl, rfl, .inl hES, ?_, by rw [xt]; exact q G2 (s011.trans e)⟩
              have g1 := lens_le (m := 180) (X.map outV) fun y hy => by
                obtain ⟨x, hx, rfl⟩ := List.mem_map.mp hy
                exact out_len (xg x hx)
              have g3 : ("" : Str).length = 0 := rfl
              rw [List.length_map] at g1
              rw [g3]
              omega

end
/-! join within a comprehension: its reading names K -/
def rJoinK (K : PySem.W.Frag) : V → List V → Hp → VK → Prop := fun x xs H Q => ∃ a p, ∃ ys : List Str, x = .str a ∧ xs = [.ref p] ∧ (SqL K H p (ys.map V.str) ∨ SqT K H p (ys.map V.str)) ∧ (ys.map (fun y => y.length)).sum + ys.length * a.length ≤ 16777216 ∧ Q (.str (Txt.join a ys)) H
theorem pe_joinK {X : Cx} {o e : Expr} {to te : TE} {apos pos : Pos} (ho : PE X o to) (he : PE X e te) (hs : starEach [e] X.env = [(false, eval e X.env)] := by rfl) (hb : attributeBase o "join" X.env (eval o X.env) = eval o X.env := by rfl) (hl : (apos.endLine == pos.line) = true := by rfl) :
    PE X (.Call (.Attribute o "join" apos) [e] [] pos) (tM1 (rJoinK X.K) to te) := pe_join ho he hs hb hl

structure JnI (wd : Str) (R : List (List Str)) (H0 : Hp) (D : Addr) (i : Nat) (H : Hp) : Prop where
  e : Same H0 H
  l : H D = some (.lst (rowV ((R.take i).map fun r => lineC (wd :: r))))
def blk1 (d : Ter) : List Str := ((d.hs.map rowH).mergeSort leN).map fun r => lineC (("house" : Str) :: rowW r)
def blk2 (d : Ter) : List Str := (d.ins.mergeSort leN).map fun r => lineC (("instrument" : Str) :: rowW r)
def blk3 (d : Ter) : List Str := d.sc.map fun m => lineC (("scenario" : Str) :: m.map numS)
def blk4 (d : Ter) : List Str := ((d.fu.map rowH).mergeSort leN).map fun r => lineC (("fund" : Str) :: rowW r)
def blkT (d : Ter) : List Str := blk1 d ++ blk2 d ++ blk3 d ++ blk4 d ++ [lineC [("fee" : Str), numS (d.fee.getD 0)]] ++ [lineC [("skin" : Str), numS (d.skin.getD 0)]]
theorem blkT_text (d : Ter) : Txt.join "" ((blkT d).map fun l => l ++ ("\n" : Str)) = textOf d := by
  unfold textOf wordsOf blkT blk1 blk2 blk3 blk4
  simp only [List.map_append, List.map_map, List.append_assoc]
  rfl
def blkN (d : Ter) : Nat → List Str
  | 0 => []
  | 1 => blk1 d
  | _ => blk1 d ++ blk2 d
structure LnI (d : Ter) (l : Addr) (H0 : Hp) (i : Nat) (σ : L2.St) (H : Hp) : Prop where
  e : Same H0 H
  ex : ∃ (Dl : Addr) (v2 v3 v4 : Option V), σ = [some (.ref l), some (.ref Dl), v2, v3, v4] ∧ H Dl = some (.lst (rowV (blkN d i))) ∧ H0 Dl = none
theorem wd_h {d : Ter} (G : GTer d) : ∀ r, r ∈ d.hs.map rowH → WdsOk (("house" : Str) :: rowW r) := fun r hr => by
  obtain ⟨x, hx, rfl⟩ := List.mem_map.mp hr
  refine rows_wd G (hrow x) ?_
  unfold rowsT
  exact List.mem_append_left _ (List.mem_append_left _ (List.mem_append_left _ (List.mem_append_left _ (List.mem_append_left _ (List.mem_map.mpr ⟨x, hx, rfl⟩)))))
theorem wd_i {d : Ter} (G : GTer d) : ∀ r, r ∈ d.ins → WdsOk (("instrument" : Str) :: rowW r) := fun r hr => by
  refine rows_wd G (irow r) ?_
  unfold rowsT
  exact List.mem_append_left _ (List.mem_append_left _ (List.mem_append_left _ (List.mem_append_left _ (List.mem_append_right _ (List.mem_map.mpr ⟨r, hr, rfl⟩)))))
theorem wd_s {d : Ter} (G : GTer d) : ∀ m, m ∈ d.sc → WdsOk (("scenario" : Str) :: m.map numS) := fun m hm => by
  refine rows_wd G (srow m) ?_
  unfold rowsT
  exact List.mem_append_left _ (List.mem_append_left _ (List.mem_append_left _ (List.mem_append_right _ (List.mem_map.mpr ⟨m, hm, rfl⟩))))
theorem wd_f {d : Ter} (G : GTer d) : ∀ r, r ∈ d.fu.map rowH → WdsOk (("fund" : Str) :: rowW r) := fun r hr => by
  obtain ⟨x, hx, rfl⟩ := List.mem_map.mp hr
  refine rows_wd G (frow x) ?_
  unfold rowsT
  exact List.mem_append_left _ (List.mem_append_left _ (List.mem_append_right _ (List.mem_map.mpr ⟨x, hx, rfl⟩)))
theorem blk_len (d : Ter) (G : GTer d) : (blk1 d).length ≤ 12 ∧ (blk2 d).length ≤ 6 ∧ (blk3 d).length ≤ 12 ∧ (blk4 d).length ≤ 12 := by
  unfold blk1 blk2 blk3 blk4
  simp only [List.length_map, List.length_mergeSort]
  exact ⟨G.hl, G.il, G.sl, G.fl⟩
theorem wds_sum {r : List Str} (h : WdsOk r) : (r.map (fun x => x.length)).sum + r.length * (" " : Str).length ≤ 16777216 := by
  have g1 := lens_le (m := 21) r fun y hy => (h.wd y hy).2.2
  have g2 := h.ln
  have g3 : (" " : Str).length = 1 := rfl
  rw [g3]
  omega
theorem fee_line (x : Str) : ("fee " : Str) ++ x = lineC [("fee" : Str), x] := TL.ext_tl (by rw [line_cons, line_one, TL.tl_append] <;> rfl)
theorem skin_line (x : Str) : ("skin " : Str) ++ x = lineC [("skin" : Str), x] := TL.ext_tl (by rw [line_cons, line_one, TL.tl_append] <;> rfl)
theorem blkT_rows (d : Ter) : blkT d = (rowsT (terS d)).map lineC := by
  rw [← words_rows]
  unfold wordsOf blkT blk1 blk2 blk3 blk4
  simp only [List.map_append, List.map_map, List.append_assoc]
  rfl
theorem blkT_len {d : Ter} (G : GTer d) : (∀ x, x ∈ blkT d → x.length ≤ 200) ∧ (blkT d).length ≤ 60 := by
  obtain ⟨G2, _⟩ := terS_good G
  rw [blkT_rows]
  refine ⟨fun x hx => ?_, by rw [List.length_map]; exact (rows_ne G2).2⟩
  obtain ⟨r, hr, rfl⟩ := List.mem_map.mp hx
  exact (row_line (rows_wd G2 r hr)).2.2.2.1

section
variable {P : Program} {w : World} {K : PySem.W.Frag} {mg : Str → Option Value} {base : Heap}
def sp_law_due (K : PySem.W.Frag) : Sp := fun vs H Q _ => ∃ (_ : Unit) (l : Addr) (ps : List Addr) (d : Ter), vs = [.ref l] ∧ Lsts rowV H l ps (rowsT d) ∧ GTer d ∧ ∀ H', Same H H' → Q (.str (textOf d)) H'
set_option maxHeartbeats 0 in
theorem ok_law_due (T : Txt K mg) : FnOk P w K mg base CX0 3 T.f_law_due T.d_law_due ["rows"] (sp_law_due K) := by
  refine T.F_law_due.ok sc_law_due (fun vs H Q E h => ?_) (fun cdv A outer s H vs Q E hr h => ?_)
  · obtain ⟨_, l, ps, d, rfl, _⟩ := h
    rfl
  · obtain ⟨_, l, ps, d, rfl, hR, G, q⟩ := h
    have G_law_kept : FnOk P w K mg base CX0 1 T.f_law_kept T.d_law_kept ["rows", "word"] (sp_law_kept K) := ok_law_kept T
    have G_law_last : FnOk P w K mg base CX0 2 T.f_law_last T.d_law_last ["rows", "word"] (sp_law_last K) := ok_law_last T
    refine ⟨_, (pss_cons (ps_set (i := 1) sc_law_due.nd rfl (Or.inl rfl) (pe_lst pa_nil))
    (pss_cons (ps_for PassesOwn.never rfl (pi_tup (pe_tup (pa_cons pe_str (pa_cons pe_str pa_nil)))) (pg_name (i := 2) sc_law_due.nd rfl (Or.inr rfl))
      (pss_one (ps_set (i := 1) sc_law_due.nd rfl (Or.inl rfl) (pe_op op_cat (pv 1) (pe_lc (own := [("row", 3)]) (g := gName 3) (tt := tYes) rfl sc_law_due.nd (pi_list (pe_callB (cr_sortG hr sortK_S) (by rfl) T.z_sorted (by decide +kernel) (pa_cons (pe_call G_law_kept (hr.mono (by decide)) (by rfl) T.m_law_kept T.F_law_kept.kp T.b_law_kept .nil pass0 (pa_cons (pv 0) (pa_cons (pv 2) pa_nil))) pa_nil))) (blkOk_by (own := [("row", 3)]) (N := N_law_due) (sc := defScope s_law_due) (by decide +kernel)) (fun _ _ _ _ _ => (pg_name (i := 3) sc_law_due.nd rfl (Or.inl rfl))) (fun _ _ _ _ _ => pts_nil) (fun _ _ _ _ _ => (show PE _ _ (tM1 (rJoinK K) _ _) from pe_joinK pe_str (pe_op op_cat (pe_lst (pa_cons (pv 2) pa_nil)) (pv 3)))))))))
    (pss_cons (ps_set (i := 1) sc_law_due.nd rfl (Or.inl rfl) (pe_op op_cat (pv 1) (pe_lc (own := [("row", 3)]) (g := gName 3) (tt := tYes) rfl sc_law_due.nd (pi_list (pe_call G_law_kept (hr.mono (by decide)) (by rfl) T.m_law_kept T.F_law_kept.kp T.b_law_kept .nil pass0 (pa_cons (pv 0) (pa_cons pe_str pa_nil)))) (blkOk_by (own := [("row", 3)]) (N := N_law_due) (sc := defScope s_law_due) (by decide +kernel)) (fun _ _ _ _ _ => (pg_name (i := 3) sc_law_due.nd rfl (Or.inl rfl))) (fun _ _ _ _ _ => pts_nil) (fun _ _ _ _ _ => (show PE _ _ (tM1 (rJoinK K) _ _) from pe_joinK pe_str (pe_op op_cat (pe_lst (pa_cons pe_str pa_nil)) (pv 3)))))))
    (pss_cons (ps_set (i := 1) sc_law_due.nd rfl (Or.inl rfl) (pe_op op_cat (pv 1) (pe_lc (own := [("row", 3)]) (g := gName 3) (tt := tYes) rfl sc_law_due.nd (pi_list (pe_callB (cr_sortG hr sortK_S) (by rfl) T.z_sorted (by decide +kernel) (pa_cons (pe_call G_law_kept (hr.mono (by decide)) (by rfl) T.m_law_kept T.F_law_kept.kp T.b_law_kept .nil pass0 (pa_cons (pv 0) (pa_cons pe_str pa_nil))) pa_nil))) (blkOk_by (own := [("row", 3)]) (N := N_law_due) (sc := defScope s_law_due) (by decide +kernel)) (fun _ _ _ _ _ => (pg_name (i := 3) sc_law_due.nd rfl (Or.inl rfl))) (fun _ _ _ _ _ => pts_nil) (fun _ _ _ _ _ => (show PE _ _ (tM1 (rJoinK K) _ _) from pe_joinK pe_str (pe_op op_cat (pe_lst (pa_cons pe_str pa_nil)) (pv 3)))))))
    (pss_cons (ps_expr (pe_bm PySem.F.plainAttrs_list PySem.F.slot_list_append PySem.F.type_list_append mt_append (pv 1) (pa_cons (pe_op op_add_str pe_str (pe_callTy call_str_int (by rfl) T.z_str (by decide +kernel) (pa_cons (pe_call G_law_last hr (by rfl) T.m_law_last T.F_law_last.kp T.b_law_last .nil pass0 (pa_cons (pv 0) (pa_cons pe_str pa_nil))) pa_nil))) pa_nil)))
    (pss_cons (ps_expr (pe_bm PySem.F.plainAttrs_list PySem.F.slot_list_append PySem.F.type_list_append mt_append (pv 1) (pa_cons (pe_op op_add_str pe_str (pe_callTy call_str_int (by rfl) T.z_str (by decide +kernel) (pa_cons (pe_call G_law_last hr (by rfl) T.m_law_last T.F_law_last.kp T.b_law_last .nil pass0 (pa_cons (pv 0) (pa_cons pe_str pa_nil))) pa_nil))) pa_nil)))
    (pss_one (ps_ret (pe_join pe_str (pe_lc (own := [("line", 4)]) (g := gName 4) (tt := tYes) rfl sc_law_due.nd (pi_list (pv 1)) (blkOk_by (own := [("line", 4)]) (N := N_law_due) (sc := defScope s_law_due) (by decide +kernel)) (fun _ _ _ _ _ => (pg_name (i := 4) sc_law_due.nd rfl (Or.inl rfl))) (fun _ _ _ _ _ => pts_nil) (fun _ _ _ _ _ => (pe_op op_add_str (pv 4) pe_str)))))))))))), ?_⟩
    obtain ⟨rne, rl60⟩ := rows_ne G
    obtain ⟨b1, b2, b3, b4⟩ := blk_len d G
    walk_at "st"
    intro D0 n0
    have s0 : Same H (upd H D0 (.lst [])) := same_upd n0
    have h0 : upd H D0 (.lst []) D0 = some (.lst []) := upd_same
    generalize upd H D0 (.lst []) = H0 at s0 h0 ⊢
    walk_at "st"
    intro Tq nT
    have s1 : Same H0 (upd H0 Tq (.tup [.str "house", .str "instrument"])) := same_upd nT
    have hT : upd H0 Tq (.tup [.str "house", .str "instrument"]) Tq = some (.tup [.str "house", .str "instrument"]) := upd_same
    generalize upd H0 Tq (.tup [.str "house", .str "instrument"]) = H1 at s1 hT ⊢
    have s01 := s0.trans s1
    have h01 := s1 _ _ h0
    have hTS := SqT.of (K := K) hT
    walk_at "st"
    refine for_it (walk_tup (K := K) (a := Tq) (xs := [.str "house", .str "instrument"])) (fun i σ H' => LnI d l H i σ H' ∧ H' Tq = some (.tup [.str "house", .str "instrument"])) ⟨⟨s01, D0, _, _, _, rfl, h01, n0⟩, hT⟩ (fun i σ H' _ z => SqT.of z.2) ?_ ?_
    · rintro i v σ H2 H3 hi ⟨⟨e2, Dl, v2, v3, v4, rfl, hDl, nDl⟩, hT2⟩ y
      obtain ⟨rfl, hv⟩ := y
      obtain ⟨wd, D, rfl, hk, hn, hw, hb, hlen⟩ : ∃ (wd : Str) (D : List RowN), v = .str wd ∧ keptL wd (rowsT d) = D.map rowW ∧ (D.map (fun r : RowN => r.1)).Nodup ∧ (∀ r, r ∈ D → WdsOk (wd :: rowW r)) ∧ blkN d (i + 1) = blkN d i ++ (D.mergeSort leN).map (fun r => lineC (wd :: rowW r)) ∧ D.length ≤ 12 := by
        match i, hv with
        | 0, hv => exact ⟨"house", d.hs.map rowH, (Option.some.inj hv).symm, kept_house d, by rw [keys_rowH]; exact G.hn, wd_h G, rfl, by rw [List.length_map]; exact G.hl⟩
        | 1, hv => exact ⟨"instrument", d.ins, (Option.some.inj hv).symm, kept_ins d, G.inn, wd_i G, rfl, Nat.le_trans G.il (by decide)⟩
        | n + 2, hv => exact absurd hi (by simp only [List.length_cons, List.length_nil]; omega)
      have hbl : (blkN d i).length ≤ 18 := by
        match i with
        | 0 => exact Nat.zero_le _
        | 1 => exact Nat.le_trans b1 (by decide)
        | n + 2 => show (blk1 d ++ blk2 d).length ≤ 18; rw [List.length_append]; omega
      have hR3 := hR.same e2
      walk_at "st"
      refine ⟨(), l, wd, ps, rowsT d, rfl, hR3, rne, by omega, fun _ p qs H4 s4 np hq => ?_⟩
      rw [hk] at hq
      walk_at "st"
      refine ⟨(), p, qs, D.map rowW, rfl, SqL.of hq.lst, hq.len, fun i a x e1 e2 => .lst (SqL.of (hq.row i a x e1 e2)) (dpS x), by rw [List.length_map]; omega, fun _ z nz => ?_⟩
      have hZ : Lsts rowV (upd H4 z (.lst (((zipS layS qs (D.map rowW)).map (·.1)).map V.ref))) z ((zipS layS qs (D.map rowW)).map (·.1)) ((D.map rowW).mergeSort leS) :=
        lsts_zipW hq.len (fun i a x e1 e2 => (upd_ne (ne_of_none (hq.row i a x e1 e2) nz)).trans (hq.row i a x e1 e2)) upd_same (fun hm => by
          obtain ⟨i, r, g1, g2⟩ := mem_at hq.len hm
          have := hq.row i z r g1 g2
          rw [nz] at this
          cases this)
      have s5 : Same H4 (upd H4 z (.lst (((zipS layS qs (D.map rowW)).map (·.1)).map V.ref))) := same_upd nz
      generalize upd H4 z (.lst (((zipS layS qs (D.map rowW)).map (·.1)).map V.ref)) = H5 at hZ s5 ⊢
      generalize (zipS layS qs (D.map rowW)).map (·.1) = zq at hZ
      have hZw : ∀ r, r ∈ (D.map rowW).mergeSort leS → WdsOk (wd :: r) := fun r hr => by
        obtain ⟨x, hx, rfl⟩ := List.mem_map.mp (List.mem_mergeSort.mp hr)
        exact hw x hx
      have hZl : ((D.map rowW).mergeSort leS).length ≤ 12 := by rw [List.length_mergeSort, List.length_map]; exact hlen
      have hZS := SqL.of (K := K) hZ.lst
      walk_at "st"
      intro E nE
      refine lc_it (walk_list (xs := zq.map V.ref) (a := z)) (JnI wd ((D.map rowW).mergeSort leS) H5 E) ⟨same_upd nE, upd_same⟩ (fun i H' _ y => sqL_same hZS y.e) ?_ ?_
      · rintro j v G2 G3 hj ⟨ej, hE⟩ y
        obtain ⟨rfl, hv⟩ := y
        obtain ⟨a, ha, rfl⟩ := refs_at hv
        have hjR : j < (((D.map rowW).mergeSort leS)).length := by rw [← hZ.len]; exact (List.getElem?_eq_some_iff.mp ha).1
        have hx : (((D.map rowW).mergeSort leS))[j]? = some (((D.map rowW).mergeSort leS))[j] := List.getElem?_eq_getElem hjR
        generalize (((D.map rowW).mergeSort leS))[j] = r at hx
        have hr := ej _ _ (hZ.row j a r ha hx)
        have hwr := hZw r (List.mem_of_getElem? hx)
        have hrl : r.length ≤ 7 := by have := hwr.ln; rw [List.length_cons] at this; omega
        refine ⟨rfl, ?_⟩
        walk_at "st"
        refine ⟨⟨_, rfl⟩, ?_⟩
        walk_at "st"
        intro c nc
        have sc : Same G3 (upd G3 c (.lst (rowV [wd]))) := same_upd nc
        have hc : upd G3 c (.lst (rowV [wd])) c = some (.lst (rowV [wd])) := upd_same
        have er : ([V.str wd] : List V) = rowV [wd] := rfl
        rw [er]
        generalize upd G3 c (.lst (rowV [wd])) = G4 at sc hc ⊢
        have hr4 := sc _ _ hr
        walk_at "st"
        refine ⟨Nat.le_of_lt (small1000 (by rw [List.length_map, List.length_map]; simp only [List.length_cons, List.length_nil]; omega)), fun g ng => ?_⟩
        have er2 : rowV [wd] ++ rowV r = rowV (wd :: r) := rfl
        rw [er2]
        have sg := sc.trans (same_upd (o := .lst (rowV (wd :: r))) ng)
        have hg : SqL K (upd G4 g (.lst (rowV (wd :: r)))) g (rowV (wd :: r)) := SqL.of upd_same
        refine ⟨" ", g, wd :: r, rfl, rfl, .inl hg, wds_sum hwr, ?_⟩
        rw [joinS]
        refine ⟨_, sg _ _ hE, small1000 (by rw [List.length_map, List.length_map, List.length_take]; omega), same_over (ej.trans sg) nE, ?_⟩
        rw [upd_same, take_succ hx, map_snoc (fun r => lineC (wd :: r))]
        exact congrArg (fun z => some (HO.lst z)) (map_snoc V.str _ _).symm
      · rintro H6 ⟨e6, hE⟩
        rw [List.take_of_length_le (by rw [List.length_map, hZ.len]; exact Nat.le_refl _), sort_words hn, List.map_map] at hE
        have s26 := (s4.trans s5).trans e6
        have hDl6 := s26 _ _ hDl
        walk_at "st"
        refine ⟨Nat.le_of_lt (small1000 (by rw [List.length_map, List.length_map, List.length_map, List.length_mergeSort]; omega)), fun g ng => ?_⟩
        have s2g := s26.trans (same_upd (o := .lst (rowV (blkN d i) ++ rowV ((D.mergeSort leN).map ((fun r => lineC (wd :: r)) ∘ rowW)))) ng)
        refine ⟨⟨e2.trans s2g, g, _, _, _, rfl, upd_same.trans ?_, none_same (e2.trans s26) ng⟩, s2g _ _ hT2⟩
        rw [hb]
        exact congrArg (fun z => some (HO.lst z)) (List.map_append ..).symm
    · rintro σ H2 ⟨⟨e2, Dl, v2, v3, v4, rfl, hDl, nDl⟩, hT2⟩
      have hR2 := hR.same e2
      have bl2 : (blkN d ([.str "house", .str "instrument"] : List V).length).length ≤ 18 := by show (blk1 d ++ blk2 d).length ≤ 18; rw [List.length_append]; omega
      have hbe : blkN d ([.str "house", .str "instrument"] : List V).length = blk1 d ++ blk2 d := rfl
      rw [hbe] at hDl bl2
      walk_at "st"
      refine ⟨(), l, "scenario", ps, rowsT d, rfl, hR2, rne, by omega, fun _ p qs H4 s4 np hq => ?_⟩
      rw [kept_sc] at hq
      have hqS := SqL.of (K := K) hq.lst
      have hqw : ∀ r, r ∈ d.sc.map (fun m => m.map numS) → WdsOk (("scenario" : Str) :: r) := fun r hr => by
        obtain ⟨m, hm, rfl⟩ := List.mem_map.mp hr
        exact wd_s G m hm
      have hql : (d.sc.map (fun m => m.map numS)).length ≤ 12 := by rw [List.length_map]; exact G.sl
      walk_at "st"
      intro E nE
      refine lc_it (walk_list (xs := qs.map V.ref) (a := p)) (JnI ("scenario" : Str) (d.sc.map (fun m => m.map numS)) H4 E) ⟨same_upd nE, upd_same⟩ (fun i H' _ y => sqL_same hqS y.e) ?_ ?_
      · rintro j v G2 G3 hj ⟨ej, hE⟩ y
        obtain ⟨rfl, hv⟩ := y
        obtain ⟨a, ha, rfl⟩ := refs_at hv
        have hjR : j < ((d.sc.map (fun m => m.map numS))).length := by rw [← hq.len]; exact (List.getElem?_eq_some_iff.mp ha).1
        have hx : ((d.sc.map (fun m => m.map numS)))[j]? = some ((d.sc.map (fun m => m.map numS)))[j] := List.getElem?_eq_getElem hjR
        generalize ((d.sc.map (fun m => m.map numS)))[j] = r at hx
        have hr := ej _ _ (hq.row j a r ha hx)
        have hwr := hqw r (List.mem_of_getElem? hx)
        have hrl : r.length ≤ 7 := by have := hwr.ln; rw [List.length_cons] at this; omega
        refine ⟨rfl, ?_⟩
        walk_at "st"
        refine ⟨⟨_, rfl⟩, ?_⟩
        walk_at "st"
        intro c nc
        have sc : Same G3 (upd G3 c (.lst (rowV [("scenario" : Str)]))) := same_upd nc
        have hc : upd G3 c (.lst (rowV [("scenario" : Str)])) c = some (.lst (rowV [("scenario" : Str)])) := upd_same
        have er : ([V.str ("scenario" : Str)] : List V) = rowV [("scenario" : Str)] := rfl
        rw [er]
        generalize upd G3 c (.lst (rowV [("scenario" : Str)])) = G4 at sc hc ⊢
        have hr4 := sc _ _ hr
        walk_at "st"
        refine ⟨Nat.le_of_lt (small1000 (by rw [List.length_map, List.length_map]; simp only [List.length_cons, List.length_nil]; omega)), fun g ng => ?_⟩
        have er2 : rowV [("scenario" : Str)] ++ rowV r = rowV (("scenario" : Str) :: r) := rfl
        rw [er2]
        have sg := sc.trans (same_upd (o := .lst (rowV (("scenario" : Str) :: r))) ng)
        have hg : SqL K (upd G4 g (.lst (rowV (("scenario" : Str) :: r)))) g (rowV (("scenario" : Str) :: r)) := SqL.of upd_same
        refine ⟨" ", g, ("scenario" : Str) :: r, rfl, rfl, .inl hg, wds_sum hwr, ?_⟩
        rw [joinS]
        refine ⟨_, sg _ _ hE, small1000 (by rw [List.length_map, List.length_map, List.length_take]; omega), same_over (ej.trans sg) nE, ?_⟩
        rw [upd_same, take_succ hx, map_snoc (fun r => lineC (("scenario" : Str) :: r))]
        exact congrArg (fun z => some (HO.lst z)) (map_snoc V.str _ _).symm
      · rintro H6 ⟨e6, hE⟩
        rw [List.take_of_length_le (by have h1 := hq.len; simp only [List.length_map] at h1 ⊢; omega), List.map_map] at hE
        have s26 := s4.trans e6
        have hDl6 := s26 _ _ hDl
        walk_at "st"
        refine ⟨Nat.le_of_lt (small1000 (by rw [List.length_map, List.length_map, List.length_map]; have := G.sl; omega)), fun g ng => ?_⟩
        have er : rowV (blk1 d ++ blk2 d) ++ rowV (d.sc.map ((fun r => lineC (("scenario" : Str) :: r)) ∘ fun m => m.map numS)) = rowV (blk1 d ++ blk2 d ++ blk3 d) := (List.map_append ..).symm
        rw [er]
        have s7 := s26.trans (same_upd (o := .lst (rowV (blk1 d ++ blk2 d ++ blk3 d))) ng)
        have hg7 : upd H6 g (.lst (rowV (blk1 d ++ blk2 d ++ blk3 d))) g = some (.lst (rowV (blk1 d ++ blk2 d ++ blk3 d))) := upd_same
        have ngH := none_same (e2.trans s26) ng
        generalize upd H6 g (.lst (rowV (blk1 d ++ blk2 d ++ blk3 d))) = H7 at s7 hg7 ⊢
        have s07 := e2.trans s7
        have hR7 := hR.same s07
        clear hq hqS hqw hql hE s26 e6 s4 hDl6 np
        walk_at "st"
        refine ⟨(), l, "fund", ps, rowsT d, rfl, hR7, rne, by omega, fun _ p qs H4 s4 np hq => ?_⟩
        rw [kept_fund] at hq
        obtain ⟨D, hD⟩ : ∃ D, D = d.fu.map rowH := ⟨_, rfl⟩
        have hn : (D.map (fun r : RowN => r.1)).Nodup := by rw [hD, keys_rowH]; exact G.fn
        obtain ⟨wd, hwd⟩ : ∃ wd : Str, wd = "fund" := ⟨_, rfl⟩
        have hw : ∀ r, r ∈ D → WdsOk (wd :: rowW r) := by rw [hD, hwd]; exact wd_f G
        have hlen : D.length ≤ 12 := by rw [hD, List.length_map]; exact G.fl
        have hb4 : blk4 d = (D.mergeSort leN).map fun r => lineC (wd :: rowW r) := by rw [hD, hwd]; rfl
        rw [← hD] at hq
        have hlit : V.str "fund" = V.str wd := by rw [hwd]
        walk_at "st"
        refine ⟨(), p, qs, D.map rowW, rfl, SqL.of hq.lst, hq.len, fun i a x e1 e2 => .lst (SqL.of (hq.row i a x e1 e2)) (dpS x), by rw [List.length_map]; omega, fun _ z nz => ?_⟩
        have hZ : Lsts rowV (upd H4 z (.lst (((zipS layS qs (D.map rowW)).map (·.1)).map V.ref))) z ((zipS layS qs (D.map rowW)).map (·.1)) ((D.map rowW).mergeSort leS) :=
          lsts_zipW hq.len (fun i a x e1 e2 => (upd_ne (ne_of_none (hq.row i a x e1 e2) nz)).trans (hq.row i a x e1 e2)) upd_same (fun hm => by
            obtain ⟨i, r, g1, g2⟩ := mem_at hq.len hm
            have := hq.row i z r g1 g2
            rw [nz] at this
            cases this)
        have s5 : Same H4 (upd H4 z (.lst (((zipS layS qs (D.map rowW)).map (·.1)).map V.ref))) := same_upd nz
        generalize upd H4 z (.lst (((zipS layS qs (D.map rowW)).map (·.1)).map V.ref)) = H5 at hZ s5 ⊢
        generalize (zipS layS qs (D.map rowW)).map (·.1) = zq at hZ
        have hZw : ∀ r, r ∈ (D.map rowW).mergeSort leS → WdsOk (wd :: r) := fun r hr => by
          obtain ⟨x, hx, rfl⟩ := List.mem_map.mp (List.mem_mergeSort.mp hr)
          exact hw x hx
        have hZl : ((D.map rowW).mergeSort leS).length ≤ 12 := by rw [List.length_mergeSort, List.length_map]; exact hlen
        have hZS := SqL.of (K := K) hZ.lst
        walk_at "st"
        rw [show Str.ofString "fund" = wd from hwd.symm]
        intro E nE
        refine lc_it (walk_list (xs := zq.map V.ref) (a := z)) (JnI wd ((D.map rowW).mergeSort leS) H5 E) ⟨same_upd nE, upd_same⟩ (fun i H' _ y => sqL_same hZS y.e) ?_ ?_
        · rintro j v G2 G3 hj ⟨ej, hE⟩ y
          obtain ⟨rfl, hv⟩ := y
          obtain ⟨a, ha, rfl⟩ := refs_at hv
          have hjR : j < (((D.map rowW).mergeSort leS)).length := by rw [← hZ.len]; exact (List.getElem?_eq_some_iff.mp ha).1
          have hx : (((D.map rowW).mergeSort leS))[j]? = some (((D.map rowW).mergeSort leS))[j] := List.getElem?_eq_getElem hjR
          generalize (((D.map rowW).mergeSort leS))[j] = r at hx
          have hr := ej _ _ (hZ.row j a r ha hx)
          have hwr := hZw r (List.mem_of_getElem? hx)
          have hrl : r.length ≤ 7 := by have := hwr.ln; rw [List.length_cons] at this; omega
          refine ⟨rfl, ?_⟩
          walk_at "st"
          refine ⟨⟨_, rfl⟩, ?_⟩
          walk_at "st"
          intro c nc
          have sc : Same G3 (upd G3 c (.lst (rowV [wd]))) := same_upd nc
          have hc : upd G3 c (.lst (rowV [wd])) c = some (.lst (rowV [wd])) := upd_same
          have er : ([V.str wd] : List V) = rowV [wd] := rfl
          rw [er]
          generalize upd G3 c (.lst (rowV [wd])) = G4 at sc hc ⊢
          have hr4 := sc _ _ hr
          walk_at "st"
          refine ⟨Nat.le_of_lt (small1000 (by rw [List.length_map, List.length_map]; simp only [List.length_cons, List.length_nil]; omega)), fun g ng => ?_⟩
          have er2 : rowV [wd] ++ rowV r = rowV (wd :: r) := rfl
          rw [er2]
          have sg := sc.trans (same_upd (o := .lst (rowV (wd :: r))) ng)
          have hg : SqL K (upd G4 g (.lst (rowV (wd :: r)))) g (rowV (wd :: r)) := SqL.of upd_same
          refine ⟨" ", g, wd :: r, rfl, rfl, .inl hg, wds_sum hwr, ?_⟩
          rw [joinS]
          refine ⟨_, sg _ _ hE, small1000 (by rw [List.length_map, List.length_map, List.length_take]; omega), same_over (ej.trans sg) nE, ?_⟩
          rw [upd_same, take_succ hx, map_snoc (fun r => lineC (wd :: r))]
          exact congrArg (fun z => some (HO.lst z)) (map_snoc V.str _ _).symm
        · rintro H6 ⟨e6, hE⟩
          rw [List.take_of_length_le (by rw [List.length_map, hZ.len]; exact Nat.le_refl _), sort_words hn, List.map_map] at hE
          have s76 := (s4.trans s5).trans e6
          have hg6 := s76 _ _ hg7
          walk_at "st"
          refine ⟨Nat.le_of_lt (small1000 (by rw [List.length_map, List.length_map, List.length_map, List.length_append, List.length_append, List.length_mergeSort]; omega)), fun g2 ng2 => ?_⟩
          have er3 : rowV (blk1 d ++ blk2 d ++ blk3 d) ++ rowV ((D.mergeSort leN).map ((fun r => lineC (wd :: r)) ∘ rowW)) = rowV (blk1 d ++ blk2 d ++ blk3 d ++ blk4 d) := by
            rw [hb4]
            exact (List.map_append ..).symm
          rw [er3]
          have s8 := s76.trans (same_upd (o := .lst (rowV (blk1 d ++ blk2 d ++ blk3 d ++ blk4 d))) ng2)
          have hg8 : upd H6 g2 (.lst (rowV (blk1 d ++ blk2 d ++ blk3 d ++ blk4 d))) g2 = some (.lst (rowV (blk1 d ++ blk2 d ++ blk3 d ++ blk4 d))) := upd_same
          have n2H := none_same (s07.trans s76) ng2
          generalize upd H6 g2 (.lst (rowV (blk1 d ++ blk2 d ++ blk3 d ++ blk4 d))) = H8 at s8 hg8 ⊢
          have s08 := s07.trans s8
          have hR8 := hR.same s08
          have hbl : (blk1 d ++ blk2 d ++ blk3 d ++ blk4 d).length ≤ 42 := by rw [List.length_append, List.length_append, List.length_append]; omega
          generalize hBL : blk1 d ++ blk2 d ++ blk3 d ++ blk4 d = BL at hg8 hbl ⊢
          have small : ∀ (o : Option Int) (m : Int), (∀ v, o = some v → 0 ≤ v ∧ v ≤ m) → m ≤ 1000000000 → (∀ v, o = some v → v.natAbs < 10 ^ 20) ∧ (o.getD 0).natAbs < 10 ^ 20 := fun o m h hm => by
            have k : ∀ v : Int, 0 ≤ v ∧ v ≤ 1000000000 → v.natAbs < 10 ^ 20 := fun v hv => by
              have h10 : v.natAbs ≤ 1000000000 := by omega
              exact Nat.lt_of_le_of_lt h10 (by decide)
            refine ⟨fun v hv => k v (by have := h v hv; omega), ?_⟩
            cases o with
            | none => decide
            | some v => exact k v (by have := h v rfl; show 0 ≤ v ∧ v ≤ _; omega)
          obtain ⟨f1, f2⟩ := small d.fee 1000000 G.fee (by decide)
          obtain ⟨k1, k2⟩ := small d.skin 1000000000 G.skin (by decide)
          have f3 := (int_numS f2).2
          have k3 := (int_numS k2).2
          have f4 := log_of f2
          have k4 := log_of k2
          have zf : ("fee " : Str).length + (numS (d.fee.getD 0)).length ≤ sizeLine := Nat.le_of_lt (small1000 (by have : ("fee " : Str).length = 4 := rfl; omega))
          have zk : ("skin " : Str).length + (numS (d.skin.getD 0)).length ≤ sizeLine := Nat.le_of_lt (small1000 (by have : ("skin " : Str).length = 5 := rfl; omega))
          walk_at "st"
          refine ⟨(), l, "fee", ps, rowsT d, d.fee, rfl, hR8, rne, by omega, kept_fee d, f1, fun H9 s9 => ?_⟩
          have hg9 := s9 _ _ hg8
          have l9 : (rowV BL).length < sizeLine := small1000 (by rw [List.length_map]; omega)
          walk_at "st"
          have s10 := same_over (o := .lst (rowV BL ++ [V.str (("fee " : Str) ++ numS (d.fee.getD 0))])) (s08.trans s9) n2H
          have hg10 : upd H9 g2 (.lst (rowV BL ++ [V.str (("fee " : Str) ++ numS (d.fee.getD 0))])) g2 = some (.lst (rowV (BL ++ [lineC [("fee" : Str), numS (d.fee.getD 0)]]))) := by
            rw [fee_line]
            exact upd_same.trans (congrArg (fun z => some (HO.lst z)) (map_snoc V.str BL _).symm)
          have el : (V.str (("fee " : Str) ++ numS (d.fee.getD 0))) = V.str (("fee " : Str) ++ Str.ofString (toString (d.fee.getD 0))) := rfl
          rw [el] at s10 hg10
          obtain ⟨HA, hHA⟩ : ∃ G, G = upd H9 g2 (.lst (rowV BL ++ [V.str (("fee " : Str) ++ Str.ofString (toString (d.fee.getD 0)))])) := ⟨_, rfl⟩
          rw [← hHA] at s10 hg10
          rw [← hHA]
          clear hHA
          refine ⟨(), l, "skin", ps, rowsT d, d.skin, rfl, hR.same s10, rne, by omega, kept_skin d, k1, fun HB sB => ?_⟩
          have hgB := sB _ _ hg10
          have lB : (rowV (BL ++ [lineC [("fee" : Str), numS (d.fee.getD 0)]])).length < sizeLine := small1000 (by rw [List.length_map, List.length_append, List.length_singleton]; omega)
          walk_at "st"
          have s11 := same_over (o := .lst (rowV (BL ++ [lineC [("fee" : Str), numS (d.fee.getD 0)]]) ++ [V.str (("skin " : Str) ++ Str.ofString (toString (d.skin.getD 0)))])) (s10.trans sB) n2H
          have hg11 : upd HB g2 (.lst (rowV (BL ++ [lineC [("fee" : Str), numS (d.fee.getD 0)]]) ++ [V.str (("skin " : Str) ++ Str.ofString (toString (d.skin.getD 0)))])) g2 = some (.lst (rowV (BL ++ [lineC [("fee" : Str), numS (d.fee.getD 0)]] ++ [lineC [("skin" : Str), numS (d.skin.getD 0)]]))) := by
            have e := skin_line (numS (d.skin.getD 0))
            rw [show numS (d.skin.getD 0) = Str.ofString (toString (d.skin.getD 0)) from rfl] at e ⊢
            rw [e]
            exact upd_same.trans (congrArg (fun z => some (HO.lst z)) (map_snoc V.str _ _).symm)
          obtain ⟨HC, hHC⟩ : ∃ G, G = upd HB g2 (.lst (rowV (BL ++ [lineC [("fee" : Str), numS (d.fee.getD 0)]]) ++ [V.str (("skin " : Str) ++ Str.ofString (toString (d.skin.getD 0)))])) := ⟨_, rfl⟩
          rw [← hHC] at s11 hg11
          rw [← hHC]
          clear hHC
          obtain ⟨x1, x2⟩ := blkT_len G
          have x3 := blkT_text d
          have eT : BL ++ [lineC [("fee" : Str), numS (d.fee.getD 0)]] ++ [lineC [("skin" : Str), numS (d.skin.getD 0)]] = blkT d := by rw [← hBL]; rfl
          rw [eT] at hg11
          generalize blkT d = BT at hg11 x1 x2 x3
          have hBS := SqL.of (K := K) hg11
          refine ⟨⟨_, rfl⟩, ?_⟩
          walk_at "st"
          intro E nE
          refine lc_it (walk_list (xs := rowV BT) (a := g2)) (fun i H' => Same HC H' ∧ H' E = some (.lst (rowV ((BT.take i).map fun l => l ++ ("\n" : Str))))) ⟨same_upd nE, upd_same⟩ (fun i H' _ z => sqL_same hBS z.1) ?_ ?_
          · rintro i v G2 G3 hi ⟨e, hE⟩ y
            obtain ⟨rfl, hv⟩ := y
            rw [List.getElem?_map] at hv
            obtain ⟨x, hx, rfl⟩ := Option.map_eq_some_iff.mp hv
            have hxl := (List.getElem?_eq_some_iff.mp hx).1
            have hx2 := x1 x (List.mem_of_getElem? hx)
            have g3 : ("\n" : Str).length = 1 := rfl
            have hz : x.length + ("\n" : Str).length ≤ sizeLine := Nat.le_of_lt (small1000 (by omega))
            refine ⟨rfl, ?_⟩
            walk_at "st"
            refine ⟨small1000 (by rw [List.length_map, List.length_map, List.length_take]; omega), same_over e nE, ?_⟩
            rw [upd_same, take_succ hx, map_snoc (fun l => l ++ ("\n" : Str))]
            exact congrArg (fun z => some (HO.lst z)) (map_snoc V.str _ _).symm
          · rintro G2 ⟨e, hE⟩
            rw [List.take_of_length_le (by rw [List.length_map]; exact Nat.le_refl _)] at hE
            have hES := SqL.of (K := K) hE
            refine ⟨"", E, BT.map fun l => l ++ ("\n" : Str), rfl, rfl, .inl hES, ?_, by rw [x3]; exact q G2 (s11.trans e)⟩
            have g1 := lens_le (m := 201) (BT.map fun l => l ++ ("\n" : Str)) fun y hy => by
              obtain ⟨x, hx, rfl⟩ := List.mem_map.mp hy
              have := x1 x hx
              rw [TL.len_tl, TL.tl_append, List.length_append, ← TL.len_tl, ← TL.len_tl]
              have g3 : ("\n" : Str).length = 1 := rfl
              omega
            have g3 : ("" : Str).length = 0 := rfl
            rw [List.length_map] at g1
            rw [g3]
            omega

end
/-- what was read can be written -/
theorem fmt_of {d' d : Ter} (S : SameT d' d) (G : GTer d) : FmtOk d' := by
  have nm : ∀ (wd : Str) (r : RowN), WdsOk (wd :: rowW r) → r.1.length ≤ 21 ∧ r.2.length ≤ 6 := fun wd r h => by
    refine ⟨(h.wd r.1 (List.mem_cons_of_mem _ (List.mem_cons_self ..))).2.2, ?_⟩
    have := h.ln
    unfold rowW at this
    rw [List.length_cons, List.length_cons, List.length_map] at this
    omega
  have k0 : ∀ v : Int, -1000000000 ≤ v ∧ v ≤ 1000000000 → v.natAbs < 10 ^ 20 := fun v hv => by
    have h10 : v.natAbs ≤ 1000000000 := by omega
    exact Nat.lt_of_le_of_lt h10 (by decide)
  have kf : ∀ (o : Option Int) (m : Int), (∀ v, o = some v → 0 ≤ v ∧ v ≤ m) → m ≤ 1000000000 → (o.getD 0).natAbs < 10 ^ 20 := fun o m h hm => by
    cases o with
    | none => decide
    | some v => exact k0 v (by have := h v rfl; show _ ≤ v ∧ v ≤ _; omega)
  refine ⟨fun x hx => ?_, fun m hm => ?_, ?_, ?_, ?_⟩
  · have hx' : x ∈ d.hs.map rowH ∨ x ∈ d.ins ∨ x ∈ d.fu.map rowH := hx.imp (fun h => (S.hs.map rowH).mem_iff.mp h) fun h => h.imp (fun h => S.ins.mem_iff.mp h) fun h => (S.fu.map rowH).mem_iff.mp h
    have hn := (kept_rowW G x hx').2
    rcases hx' with h | h | h
    · exact ⟨(nm _ x (wd_h G x h)).1, (nm _ x (wd_h G x h)).2, hn⟩
    · exact ⟨(nm _ x (wd_i G x h)).1, (nm _ x (wd_i G x h)).2, hn⟩
    · exact ⟨(nm _ x (wd_f G x h)).1, (nm _ x (wd_f G x h)).2, hn⟩
  · rw [S.sc] at hm
    obtain ⟨h1, h2⟩ := G.sc m hm
    exact ⟨by rw [h1]; exact G.il, fun v hv => k0 v (by have := h2 v hv; omega)⟩
  · rw [S.fee, S.skin]
    exact ⟨kf d.fee 1000000 G.fee (by decide), kf d.skin 1000000000 G.skin (by decide)⟩
  · rw [S.hs.length_eq, S.ins.length_eq, S.sc, S.fu.length_eq]
    exact ⟨G.hl, G.il, G.sl, G.fl⟩
  · exact ⟨(S.hs.map _).nodup_iff.mpr G.hn, (S.ins.map _).nodup_iff.mpr G.inn, (S.fu.map _).nodup_iff.mpr G.fn⟩
theorem text_same {d' d : Ter} (S : SameT d' d) (G : GTer d) : textOf d' = textOf d := by
  unfold textOf
  rw [wordsOf_same S G]

section
variable {P : Program} {w : World} {K : PySem.W.Frag} {mg : Str → Option Value} {base : Heap}
def sp_law (K : PySem.W.Frag) : Sp := fun vs H Q _ => ∃ (a : Addr) (ns : List Int), vs = [.ref a] ∧ SqL K H a (ns.map V.int) ∧ ns.length ≤ 63 ∧ ∀ H', Q (.bl true) H'
set_option maxHeartbeats 0 in
theorem ok_law {f : Addr} {fd : FuncData} (T : Txt K mg) (F : Fun K "law" "law" s_law f fd) : FnOk P w K mg base CX0 7 f fd ["script"] (sp_law K) := by
  refine F.ok sc_law (fun vs H Q E h => ?_) (fun cdv A outer s H vs Q E hr h => ?_)
  · obtain ⟨a, ns, rfl, _⟩ := h
    rfl
  · obtain ⟨a, ns, rfl, hs, hl, q⟩ := h
    have G_law_rows : FnOk P w K mg base CX0 4 T.f_law_rows T.d_law_rows ["script"] (sp_law_rows K) := ok_law_rows T
    have G_parse_terms : FnOk P w K mg base CX0 6 T.f_parse_terms T.d_parse_terms ["text"] (sp_parse_terms K T.c_Draft T.c_Terms) := ok_parse_terms T
    have G_format_terms : FnOk P w K mg base CX0 2 T.f_format_terms T.d_format_terms ["terms"] (sp_format_terms K T.c_Terms) := ok_format_terms T
    have G_law_terms : FnOk P w K mg base CX0 3 T.f_law_terms T.d_law_terms ["terms", "rows"] (sp_law_terms K T.c_Terms) := ok_law_terms T
    have G_law_due : FnOk P w K mg base CX0 3 T.f_law_due T.d_law_due ["rows"] (sp_law_due K) := ok_law_due T
    refine ⟨_, (pss_cons (ps_set (i := 1) sc_law.nd rfl (Or.inl rfl) (pe_call G_law_rows (hr.mono (by decide)) (by rfl) T.m_law_rows T.F_law_rows.kp T.b_law_rows .nil pass0 (pa_cons (pv 0) pa_nil)))
    (pss_cons (ps_set (i := 2) sc_law.nd rfl (Or.inl rfl) (pe_call G_parse_terms hr (by rfl) T.m_parse_terms T.F_parse_terms.kp T.b_parse_terms .nil pass0 (pa_cons (pe_join pe_str (pe_lc (own := [("row", 3)]) (g := gName 3) (tt := tYes) rfl sc_law.nd (pi_list (pv 1)) (blkOk_by (own := [("row", 3)]) (N := N_law) (sc := defScope s_law) (by decide +kernel)) (fun _ _ _ _ _ => (pg_name (i := 3) sc_law.nd rfl (Or.inl rfl))) (fun _ _ _ _ _ => pts_nil) (fun _ _ _ _ _ => (show PE _ _ (tM1 (rJoinK K) _ _) from pe_joinK pe_str (pv 3))))) pa_nil)))
    (pss_cons (ps_set (i := 4) sc_law.nd rfl (Or.inl rfl) (pe_call G_format_terms (hr.mono (by decide)) (by rfl) T.m_format_terms T.F_format_terms.kp T.b_format_terms .nil pass0 (pa_cons (pv 2) pa_nil)))
    (pss_cons (ps_if (PW.pt (pw_or (pt_not (pt_val (pe_callB call_isi (by rfl) T.z_isinstance (by decide +kernel) (pa_cons (pv 4) (pa_cons (pe_bltn (v := .ty "str") (u := .type "str") (by rfl) T.z_str (by decide +kernel) rfl) pa_nil))))) (pw_or1 (pt_cmpR op_ne (pv 4) (pe_call G_law_due (hr.mono (by decide)) (by rfl) T.m_law_due T.F_law_due.kp T.b_law_due .nil pass0 (pa_cons (pv 1) pa_nil)) (nomark _)))))
      (pss_one (ps_ret pe_bl))
      pss_nil)
    (pss_one (ps_ret (pe_and (pe_call G_law_terms (hr.mono (by decide)) (by rfl) T.m_law_terms T.F_law_terms.kp T.b_law_terms .nil pass0 (pa_cons (pe_call G_parse_terms hr (by rfl) T.m_parse_terms T.F_parse_terms.kp T.b_parse_terms .nil pass0 (pa_cons (pv 4) pa_nil)) (pa_cons (pv 1) pa_nil))) (pe_one (pe_call G_law_terms (hr.mono (by decide)) (by rfl) T.m_law_terms T.F_law_terms.kp T.b_law_terms .nil pass0 (pa_cons (pv 2) (pa_cons (pv 1) pa_nil))))))))))), ?_⟩
    walk_at "st"
    refine ⟨(), a, ns, rfl, hs, fun _ p H1 t ps s1 np G hR => ?_⟩
    obtain ⟨rne, rl60⟩ := rows_ne G
    have rW := rows_wd G
    have hl1 := SqL.of (K := K) hR.lst
    walk_at "st"
    refine ⟨⟨_, rfl⟩, ?_⟩
    walk_at "st"
    intro E nE
    refine lc_it (walk_list (xs := ps.map V.ref) (a := p)) (fun i H' => Same H1 H' ∧ H' E = some (.lst (rowV (((rowsT t).take i).map lineC)))) ⟨same_upd nE, upd_same⟩ (fun i H' _ y => sqL_same hl1 y.1) ?_ ?_
    · rintro j v G2 G3 hj ⟨ej, hE⟩ y
      obtain ⟨rfl, hv⟩ := y
      obtain ⟨b, hb, rfl⟩ := refs_at hv
      have hjR : j < (rowsT t).length := by rw [← hR.len]; exact (List.getElem?_eq_some_iff.mp hb).1
      have hx : (rowsT t)[j]? = some (rowsT t)[j] := List.getElem?_eq_getElem hjR
      generalize (rowsT t)[j] = r at hx
      have hr := SqL.of (K := K) (ej _ _ (hR.row j b r hb hx))
      have hwr := rW r (List.mem_of_getElem? hx)
      refine ⟨rfl, ?_⟩
      walk_at "st"
      refine ⟨⟨_, rfl⟩, ?_⟩
      walk_at "st"
      refine ⟨r, rfl, rfl, .inl hr, wds_sum hwr, ?_⟩
      rw [joinS]
      refine ⟨_, hE, small1000 (by rw [List.length_map, List.length_map, List.length_take]; omega), same_over ej nE, ?_⟩
      rw [upd_same, take_succ hx, map_snoc lineC]
      exact congrArg (fun z => some (HO.lst z)) (map_snoc V.str _ _).symm
    · rintro H2 ⟨s2, hE⟩
      rw [List.take_of_length_le (by rw [List.length_map, hR.len]; exact Nat.le_refl _)] at hE
      have hES := SqL.of (K := K) hE
      have hR2 := hR.same s2
      refine ⟨"\n", E, (rowsT t).map lineC, rfl, rfl, .inl hES, ?_, ?_⟩
      · have g1 := lens_le (m := 200) ((rowsT t).map lineC) fun y hy => by
          obtain ⟨r, hr, rfl⟩ := List.mem_map.mp hy
          exact (row_line (rW r hr)).2.2.2.1
        rw [List.length_map] at g1
        have g3 : ("\n" : Str).length = 1 := rfl
        rw [List.length_map, g3]
        omega
      have g2 := rows_good G
      have g4 := text_good G
      generalize Txt.join "\n" ((rowsT t).map lineC) = x at g2 ⊢
      obtain ⟨d1, h1, S1⟩ := g2.ok
      obtain ⟨d2, h2, S2⟩ := g4.ok
      refine ⟨(), x, d1, rfl, g2.len, g2.ln, g2.ls, h1, fun _ H3 tm dt M1 M2 M3 M4 s3 _ _ B => ?_⟩
      have hR3 := hR2.same s3
      walk_at "st"
      refine ⟨(), tm, dt, M1, M2, M3, M4, d1, rfl, B, fmt_of S1 G, fun H4 s4 => ?_⟩
      rw [text_same S1 G]
      have hR4 := hR3.same s4
      have B4 := B.same s4
      generalize hX : textOf t = X at g4 h2 ⊢
      walk_at "st"
      refine ⟨_, _, true, rfl, .ty _, .base (.str _), kit_ty (by decide +kernel), ?_⟩
      walk_at "st"
      refine ⟨(), p, ps, t, rfl, hR4, G, fun H5 s5 => ?_⟩
      rw [hX]
      have hR5 := hR4.same s5
      have B5 := B4.same s5
      walk_at "st"
      refine iteB (fun h => (ndec_t h rfl).elim) (fun _ => ?_)
      walk_at "st"
      refine ⟨(), X, d2, rfl, g4.len, g4.ln, g4.ls, h2, fun _ H6 tm2 dt2 N1 N2 N3 N4 s6 _ _ B' => ?_⟩
      have hR6 := hR5.same s6
      have B6 := B5.same s6
      walk_at "st"
      refine ⟨(), tm2, dt2, N1, N2, N3, N4, p, d2, t, ps, rfl, B', hR6, G, S2, fun H7 s7 => ?_⟩
      have hR7 := hR6.same s7
      have B7 := B6.same s7
      walk_at "st"
      exact ⟨(), tm, dt, M1, M2, M3, M4, p, d1, t, ps, rfl, B7, hR7, G, S1, fun H8 _ => q H8⟩

end
set_option maxHeartbeats 0 in
theorem all_mk {l : PySem.W.OpenLaw} {w : World} {K : PySem.W.Frag} {h : Heap} {mg : Str → Option Value} {fa f1 f2 f3 f4 f5 f6 f7 f8 f9 f10 f11 f12 f13 f14 f15 f16 f17 f18 f19 f20 f21 f22 f23 f24 f25 f26 f27 f28 f29 f30 f31 f32 : Addr} (X : K.In h) (G : h.Ns mainGlobals mg) (hfa : mg "law" = some (.ref fa))
    {c_BourseError c_InvalidLine c_Terms c_Draft : Addr}
    {od1 an1 od2 an2 od3 an3 od4 an4 od5 an5 od6 an6 od7 an7 od8 an8 od9 an9 od10 an10 od11 an11 od12 an12 od13 an13 od14 an14 od15 an15 od16 an16 od17 an17 od18 an18 od19 an19 od20 an20 od21 an21 od22 an22 od23 an23 od24 an24 od25 an25 od26 an26 od27 an27 od28 an28 od29 an29 od30 an30 od31 an31 od32 an32 : Option Addr} {sl1 sl2 sl3 sl4 sl5 sl6 sl7 sl8 sl9 sl10 sl11 sl12 sl13 sl14 sl15 sl16 sl17 sl18 sl19 sl20 sl21 sl22 sl23 sl24 sl25 sl26 sl27 sl28 sl29 sl30 sl31 sl32 : Array (Option Value)} {oc1 kV1 dc1 pm1 cd1 ct1 oc2 kV2 dc2 pm2 cd2 ct2 oc3 kV3 dc3 pm3 cd3 ct3 oc4 kV4 dc4 pm4 cd4 ct4 oc5 kV5 dc5 pm5 cd5 ct5 oc6 kV6 dc6 pm6 cd6 ct6 oc7 kV7 dc7 pm7 cd7 ct7 oc8 kV8 dc8 pm8 cd8 ct8 oc9 kV9 dc9 pm9 cd9 ct9 oc10 kV10 dc10 pm10 cd10 ct10 oc11 kV11 dc11 pm11 cd11 ct11 oc12 kV12 dc12 pm12 cd12 ct12 oc13 kV13 dc13 pm13 cd13 ct13 oc14 kV14 dc14 pm14 cd14 ct14 oc15 kV15 dc15 pm15 cd15 ct15 oc16 kV16 dc16 pm16 cd16 ct16 oc17 kV17 dc17 pm17 cd17 ct17 oc18 kV18 dc18 pm18 cd18 ct18 oc19 kV19 dc19 pm19 cd19 ct19 oc20 kV20 dc20 pm20 cd20 ct20 oc21 kV21 dc21 pm21 cd21 ct21 oc22 kV22 dc22 pm22 cd22 ct22 oc23 kV23 dc23 pm23 cd23 ct23 oc24 kV24 dc24 pm24 cd24 ct24 oc25 kV25 dc25 pm25 cd25 ct25 oc26 kV26 dc26 pm26 cd26 ct26 oc27 kV27 dc27 pm27 cd27 ct27 oc28 kV28 dc28 pm28 cd28 ct28 oc29 kV29 dc29 pm29 cd29 ct29 oc30 kV30 dc30 pm30 cd30 ct30 oc31 kV31 dc31 pm31 cd31 ct31 oc32 kV32 dc32 pm32 cd32 ct32 : Value}
    (a1 : PySem.W.nsIn K mainGlobals "is_word_of" = some (some (.ref f1)))
    (l1 : K.lookup f1 = some ⟨oc1, od1, .func (PySem.W.fnOf "is_word_of" "is_word_of" (defArgs s_is_word_of) (defBody s_is_word_of) (defScope s_is_word_of) .none kV1 dc1 pm1 an1 cd1 ct1), sl1⟩) (c1 : PySem.W.codeIn K cd1 "is_word_of" = true) (k1 : PySem.W.keepIn K (.ref f1) = true)
    (a2 : PySem.W.nsIn K mainGlobals "is_digits" = some (some (.ref f2)))
    (l2 : K.lookup f2 = some ⟨oc2, od2, .func (PySem.W.fnOf "is_digits" "is_digits" (defArgs s_is_digits) (defBody s_is_digits) (defScope s_is_digits) .none kV2 dc2 pm2 an2 cd2 ct2), sl2⟩) (c2 : PySem.W.codeIn K cd2 "is_digits" = true) (k2 : PySem.W.keepIn K (.ref f2) = true)
    (a3 : PySem.W.nsIn K mainGlobals "read_number" = some (some (.ref f3)))
    (l3 : K.lookup f3 = some ⟨oc3, od3, .func (PySem.W.fnOf "read_number" "read_number" (defArgs s_read_number) (defBody s_read_number) (defScope s_read_number) .none kV3 dc3 pm3 an3 cd3 ct3), sl3⟩) (c3 : PySem.W.codeIn K cd3 "read_number" = true) (k3 : PySem.W.keepIn K (.ref f3) = true)
    (a4 : PySem.W.findIn K (.ref c_Terms) "__init__" = some (some (.ref f4))) (i4 : PySem.W.isFn K (.ref f4) = true)
    (l4 : K.lookup f4 = some ⟨oc4, od4, .func (PySem.W.fnOf "__init__" "Terms.__init__" (defArgs s_Terms_init) (defBody s_Terms_init) (defScope s_Terms_init) .none kV4 dc4 pm4 an4 cd4 ct4), sl4⟩) (c4 : PySem.W.codeIn K cd4 "Terms.__init__" = true) (k4 : PySem.W.keepIn K (.ref f4) = true)
    (a5 : PySem.W.findIn K (.ref c_Draft) "__init__" = some (some (.ref f5))) (i5 : PySem.W.isFn K (.ref f5) = true)
    (l5 : K.lookup f5 = some ⟨oc5, od5, .func (PySem.W.fnOf "__init__" "Draft.__init__" (defArgs s_Draft_init) (defBody s_Draft_init) (defScope s_Draft_init) .none kV5 dc5 pm5 an5 cd5 ct5), sl5⟩) (c5 : PySem.W.codeIn K cd5 "Draft.__init__" = true) (k5 : PySem.W.keepIn K (.ref f5) = true)
    (a6 : PySem.W.findIn K (.ref c_Draft) "take" = some (some (.ref f6))) (i6 : PySem.W.isFn K (.ref f6) = true)
    (l6 : K.lookup f6 = some ⟨oc6, od6, .func (PySem.W.fnOf "take" "Draft.take" (defArgs s_Draft_take) (defBody s_Draft_take) (defScope s_Draft_take) .none kV6 dc6 pm6 an6 cd6 ct6), sl6⟩) (c6 : PySem.W.codeIn K cd6 "Draft.take" = true) (k6 : PySem.W.keepIn K (.ref f6) = true)
    (a7 : PySem.W.findIn K (.ref c_Draft) "_take_house" = some (some (.ref f7))) (i7 : PySem.W.isFn K (.ref f7) = true)
    (l7 : K.lookup f7 = some ⟨oc7, od7, .func (PySem.W.fnOf "_take_house" "Draft._take_house" (defArgs s_Drafttake_house) (defBody s_Drafttake_house) (defScope s_Drafttake_house) .none kV7 dc7 pm7 an7 cd7 ct7), sl7⟩) (c7 : PySem.W.codeIn K cd7 "Draft._take_house" = true) (k7 : PySem.W.keepIn K (.ref f7) = true)
    (a8 : PySem.W.findIn K (.ref c_Draft) "_take_instrument" = some (some (.ref f8))) (i8 : PySem.W.isFn K (.ref f8) = true)
    (l8 : K.lookup f8 = some ⟨oc8, od8, .func (PySem.W.fnOf "_take_instrument" "Draft._take_instrument" (defArgs s_Drafttake_instrument) (defBody s_Drafttake_instrument) (defScope s_Drafttake_instrument) .none kV8 dc8 pm8 an8 cd8 ct8), sl8⟩) (c8 : PySem.W.codeIn K cd8 "Draft._take_instrument" = true) (k8 : PySem.W.keepIn K (.ref f8) = true)
    (a9 : PySem.W.findIn K (.ref c_Draft) "_take_scenario" = some (some (.ref f9))) (i9 : PySem.W.isFn K (.ref f9) = true)
    (l9 : K.lookup f9 = some ⟨oc9, od9, .func (PySem.W.fnOf "_take_scenario" "Draft._take_scenario" (defArgs s_Drafttake_scenario) (defBody s_Drafttake_scenario) (defScope s_Drafttake_scenario) .none kV9 dc9 pm9 an9 cd9 ct9), sl9⟩) (c9 : PySem.W.codeIn K cd9 "Draft._take_scenario" = true) (k9 : PySem.W.keepIn K (.ref f9) = true)
    (a10 : PySem.W.findIn K (.ref c_Draft) "_take_share" = some (some (.ref f10))) (i10 : PySem.W.isFn K (.ref f10) = true)
    (l10 : K.lookup f10 = some ⟨oc10, od10, .func (PySem.W.fnOf "_take_share" "Draft._take_share" (defArgs s_Drafttake_share) (defBody s_Drafttake_share) (defScope s_Drafttake_share) .none kV10 dc10 pm10 an10 cd10 ct10), sl10⟩) (c10 : PySem.W.codeIn K cd10 "Draft._take_share" = true) (k10 : PySem.W.keepIn K (.ref f10) = true)
    (a11 : PySem.W.findIn K (.ref c_Draft) "_take_fee" = some (some (.ref f11))) (i11 : PySem.W.isFn K (.ref f11) = true)
    (l11 : K.lookup f11 = some ⟨oc11, od11, .func (PySem.W.fnOf "_take_fee" "Draft._take_fee" (defArgs s_Drafttake_fee) (defBody s_Drafttake_fee) (defScope s_Drafttake_fee) .none kV11 dc11 pm11 an11 cd11 ct11), sl11⟩) (c11 : PySem.W.codeIn K cd11 "Draft._take_fee" = true) (k11 : PySem.W.keepIn K (.ref f11) = true)
    (a12 : PySem.W.findIn K (.ref c_Draft) "_take_skin" = some (some (.ref f12))) (i12 : PySem.W.isFn K (.ref f12) = true)
    (l12 : K.lookup f12 = some ⟨oc12, od12, .func (PySem.W.fnOf "_take_skin" "Draft._take_skin" (defArgs s_Drafttake_skin) (defBody s_Drafttake_skin) (defScope s_Drafttake_skin) .none kV12 dc12 pm12 an12 cd12 ct12), sl12⟩) (c12 : PySem.W.codeIn K cd12 "Draft._take_skin" = true) (k12 : PySem.W.keepIn K (.ref f12) = true)
    (a13 : PySem.W.findIn K (.ref c_Draft) "finished" = some (some (.ref f13))) (i13 : PySem.W.isFn K (.ref f13) = true)
    (l13 : K.lookup f13 = some ⟨oc13, od13, .func (PySem.W.fnOf "finished" "Draft.finished" (defArgs s_Draft_finished) (defBody s_Draft_finished) (defScope s_Draft_finished) .none kV13 dc13 pm13 an13 cd13 ct13), sl13⟩) (c13 : PySem.W.codeIn K cd13 "Draft.finished" = true) (k13 : PySem.W.keepIn K (.ref f13) = true)
    (a14 : PySem.W.nsIn K mainGlobals "parse_terms" = some (some (.ref f14)))
    (l14 : K.lookup f14 = some ⟨oc14, od14, .func (PySem.W.fnOf "parse_terms" "parse_terms" (defArgs s_parse_terms) (defBody s_parse_terms) (defScope s_parse_terms) .none kV14 dc14 pm14 an14 cd14 ct14), sl14⟩) (c14 : PySem.W.codeIn K cd14 "parse_terms" = true) (k14 : PySem.W.keepIn K (.ref f14) = true)
    (a15 : PySem.W.nsIn K mainGlobals "format_terms" = some (some (.ref f15)))
    (l15 : K.lookup f15 = some ⟨oc15, od15, .func (PySem.W.fnOf "format_terms" "format_terms" (defArgs s_format_terms) (defBody s_format_terms) (defScope s_format_terms) .none kV15 dc15 pm15 an15 cd15 ct15), sl15⟩) (c15 : PySem.W.codeIn K cd15 "format_terms" = true) (k15 : PySem.W.keepIn K (.ref f15) = true)
    (a16 : PySem.W.nsIn K mainGlobals "_written_line" = some (some (.ref f16)))
    (l16 : K.lookup f16 = some ⟨oc16, od16, .func (PySem.W.fnOf "_written_line" "_written_line" (defArgs s_written_line) (defBody s_written_line) (defScope s_written_line) .none kV16 dc16 pm16 an16 cd16 ct16), sl16⟩) (c16 : PySem.W.codeIn K cd16 "_written_line" = true) (k16 : PySem.W.keepIn K (.ref f16) = true)
    (a17 : PySem.W.nsIn K mainGlobals "_law_cell" = some (some (.ref f17)))
    (l17 : K.lookup f17 = some ⟨oc17, od17, .func (PySem.W.fnOf "_law_cell" "_law_cell" (defArgs s_law_cell) (defBody s_law_cell) (defScope s_law_cell) .none kV17 dc17 pm17 an17 cd17 ct17), sl17⟩) (c17 : PySem.W.codeIn K cd17 "_law_cell" = true) (k17 : PySem.W.keepIn K (.ref f17) = true)
    (a18 : PySem.W.nsIn K mainGlobals "_law_draws" = some (some (.ref f18)))
    (l18 : K.lookup f18 = some ⟨oc18, od18, .func (PySem.W.fnOf "_law_draws" "_law_draws" (defArgs s_law_draws) (defBody s_law_draws) (defScope s_law_draws) .none kV18 dc18 pm18 an18 cd18 ct18), sl18⟩) (c18 : PySem.W.codeIn K cd18 "_law_draws" = true) (k18 : PySem.W.keepIn K (.ref f18) = true)
    (a19 : PySem.W.nsIn K mainGlobals "_law_word" = some (some (.ref f19)))
    (l19 : K.lookup f19 = some ⟨oc19, od19, .func (PySem.W.fnOf "_law_word" "_law_word" (defArgs s_law_word) (defBody s_law_word) (defScope s_law_word) .none kV19 dc19 pm19 an19 cd19 ct19), sl19⟩) (c19 : PySem.W.codeIn K cd19 "_law_word" = true) (k19 : PySem.W.keepIn K (.ref f19) = true)
    (a20 : PySem.W.nsIn K mainGlobals "_law_names" = some (some (.ref f20)))
    (l20 : K.lookup f20 = some ⟨oc20, od20, .func (PySem.W.fnOf "_law_names" "_law_names" (defArgs s_law_names) (defBody s_law_names) (defScope s_law_names) .none kV20 dc20 pm20 an20 cd20 ct20), sl20⟩) (c20 : PySem.W.codeIn K cd20 "_law_names" = true) (k20 : PySem.W.keepIn K (.ref f20) = true)
    (a21 : PySem.W.nsIn K mainGlobals "_law_number" = some (some (.ref f21)))
    (l21 : K.lookup f21 = some ⟨oc21, od21, .func (PySem.W.fnOf "_law_number" "_law_number" (defArgs s_law_number) (defBody s_law_number) (defScope s_law_number) .none kV21 dc21 pm21 an21 cd21 ct21), sl21⟩) (c21 : PySem.W.codeIn K cd21 "_law_number" = true) (k21 : PySem.W.keepIn K (.ref f21) = true)
    (a22 : PySem.W.nsIn K mainGlobals "_law_instrument" = some (some (.ref f22)))
    (l22 : K.lookup f22 = some ⟨oc22, od22, .func (PySem.W.fnOf "_law_instrument" "_law_instrument" (defArgs s_law_instrument) (defBody s_law_instrument) (defScope s_law_instrument) .none kV22 dc22 pm22 an22 cd22 ct22), sl22⟩) (c22 : PySem.W.codeIn K cd22 "_law_instrument" = true) (k22 : PySem.W.keepIn K (.ref f22) = true)
    (a23 : PySem.W.nsIn K mainGlobals "_law_move" = some (some (.ref f23)))
    (l23 : K.lookup f23 = some ⟨oc23, od23, .func (PySem.W.fnOf "_law_move" "_law_move" (defArgs s_law_move) (defBody s_law_move) (defScope s_law_move) .none kV23 dc23 pm23 an23 cd23 ct23), sl23⟩) (c23 : PySem.W.codeIn K cd23 "_law_move" = true) (k23 : PySem.W.keepIn K (.ref f23) = true)
    (a24 : PySem.W.nsIn K mainGlobals "_law_rows" = some (some (.ref f24)))
    (l24 : K.lookup f24 = some ⟨oc24, od24, .func (PySem.W.fnOf "_law_rows" "_law_rows" (defArgs s_law_rows) (defBody s_law_rows) (defScope s_law_rows) .none kV24 dc24 pm24 an24 cd24 ct24), sl24⟩) (c24 : PySem.W.codeIn K cd24 "_law_rows" = true) (k24 : PySem.W.keepIn K (.ref f24) = true)
    (a25 : PySem.W.nsIn K mainGlobals "_law_kept" = some (some (.ref f25)))
    (l25 : K.lookup f25 = some ⟨oc25, od25, .func (PySem.W.fnOf "_law_kept" "_law_kept" (defArgs s_law_kept) (defBody s_law_kept) (defScope s_law_kept) .none kV25 dc25 pm25 an25 cd25 ct25), sl25⟩) (c25 : PySem.W.codeIn K cd25 "_law_kept" = true) (k25 : PySem.W.keepIn K (.ref f25) = true)
    (a26 : PySem.W.nsIn K mainGlobals "_law_numbers" = some (some (.ref f26)))
    (l26 : K.lookup f26 = some ⟨oc26, od26, .func (PySem.W.fnOf "_law_numbers" "_law_numbers" (defArgs s_law_numbers) (defBody s_law_numbers) (defScope s_law_numbers) .none kV26 dc26 pm26 an26 cd26 ct26), sl26⟩) (c26 : PySem.W.codeIn K cd26 "_law_numbers" = true) (k26 : PySem.W.keepIn K (.ref f26) = true)
    (a27 : PySem.W.nsIn K mainGlobals "_law_same_rows" = some (some (.ref f27)))
    (l27 : K.lookup f27 = some ⟨oc27, od27, .func (PySem.W.fnOf "_law_same_rows" "_law_same_rows" (defArgs s_law_same_rows) (defBody s_law_same_rows) (defScope s_law_same_rows) .none kV27 dc27 pm27 an27 cd27 ct27), sl27⟩) (c27 : PySem.W.codeIn K cd27 "_law_same_rows" = true) (k27 : PySem.W.keepIn K (.ref f27) = true)
    (a28 : PySem.W.nsIn K mainGlobals "_law_same_moves" = some (some (.ref f28)))
    (l28 : K.lookup f28 = some ⟨oc28, od28, .func (PySem.W.fnOf "_law_same_moves" "_law_same_moves" (defArgs s_law_same_moves) (defBody s_law_same_moves) (defScope s_law_same_moves) .none kV28 dc28 pm28 an28 cd28 ct28), sl28⟩) (c28 : PySem.W.codeIn K cd28 "_law_same_moves" = true) (k28 : PySem.W.keepIn K (.ref f28) = true)
    (a29 : PySem.W.nsIn K mainGlobals "_law_last" = some (some (.ref f29)))
    (l29 : K.lookup f29 = some ⟨oc29, od29, .func (PySem.W.fnOf "_law_last" "_law_last" (defArgs s_law_last) (defBody s_law_last) (defScope s_law_last) .none kV29 dc29 pm29 an29 cd29 ct29), sl29⟩) (c29 : PySem.W.codeIn K cd29 "_law_last" = true) (k29 : PySem.W.keepIn K (.ref f29) = true)
    (a30 : PySem.W.nsIn K mainGlobals "_law_terms" = some (some (.ref f30)))
    (l30 : K.lookup f30 = some ⟨oc30, od30, .func (PySem.W.fnOf "_law_terms" "_law_terms" (defArgs s_law_terms) (defBody s_law_terms) (defScope s_law_terms) .none kV30 dc30 pm30 an30 cd30 ct30), sl30⟩) (c30 : PySem.W.codeIn K cd30 "_law_terms" = true) (k30 : PySem.W.keepIn K (.ref f30) = true)
    (a31 : PySem.W.nsIn K mainGlobals "_law_due" = some (some (.ref f31)))
    (l31 : K.lookup f31 = some ⟨oc31, od31, .func (PySem.W.fnOf "_law_due" "_law_due" (defArgs s_law_due) (defBody s_law_due) (defScope s_law_due) .none kV31 dc31 pm31 an31 cd31 ct31), sl31⟩) (c31 : PySem.W.codeIn K cd31 "_law_due" = true) (k31 : PySem.W.keepIn K (.ref f31) = true)
    (a32 : PySem.W.nsIn K mainGlobals "law" = some (some (.ref f32)))
    (l32 : K.lookup f32 = some ⟨oc32, od32, .func (PySem.W.fnOf "law" "law" (defArgs s_law) (defBody s_law) (defScope s_law) .none kV32 dc32 pm32 an32 cd32 ct32), sl32⟩) (c32 : PySem.W.codeIn K cd32 "law" = true) (k32 : PySem.W.keepIn K (.ref f32) = true)
    (z_abs : PySem.W.nsIn K mainGlobals "abs" = some none)
    (z_all : PySem.W.nsIn K mainGlobals "all" = some none)
    (z_bool : PySem.W.nsIn K mainGlobals "bool" = some none)
    (z_enumerate : PySem.W.nsIn K mainGlobals "enumerate" = some none)
    (z_int : PySem.W.nsIn K mainGlobals "int" = some none)
    (z_isinstance : PySem.W.nsIn K mainGlobals "isinstance" = some none)
    (z_len : PySem.W.nsIn K mainGlobals "len" = some none)
    (z_list : PySem.W.nsIn K mainGlobals "list" = some none)
    (z_min : PySem.W.nsIn K mainGlobals "min" = some none)
    (z_range : PySem.W.nsIn K mainGlobals "range" = some none)
    (z_sorted : PySem.W.nsIn K mainGlobals "sorted" = some none)
    (z_str : PySem.W.nsIn K mainGlobals "str" = some none)
    (z_tuple : PySem.W.nsIn K mainGlobals "tuple" = some none)
    {t_DIGITS t_MOST_DIGITS t_SMALL t_CAPITAL t_LONGEST_HOUSE t_LONGEST_INSTRUMENT t_MOST_HOUSES t_MOST_INSTRUMENTS t_MOST_SCENARIOS t_MOST_CENTS t_MOST_STEP t_MOST_RATE t_MOST_PRICE t_MOST_MOVE : Tok}
    (v_DIGITS : PySem.W.nsIn K mainGlobals "DIGITS" = some (some (.str "0123456789" t_DIGITS)))
    (v_MOST_DIGITS : PySem.W.nsIn K mainGlobals "MOST_DIGITS" = some (some (.int 20 t_MOST_DIGITS)))
    (v_SMALL : PySem.W.nsIn K mainGlobals "SMALL" = some (some (.str "abcdefghijklmnopqrstuvwxyz" t_SMALL)))
    (v_CAPITAL : PySem.W.nsIn K mainGlobals "CAPITAL" = some (some (.str "ABCDEFGHIJKLMNOPQRSTUVWXYZ" t_CAPITAL)))
    (v_LONGEST_HOUSE : PySem.W.nsIn K mainGlobals "LONGEST_HOUSE" = some (some (.int 12 t_LONGEST_HOUSE)))
    (v_LONGEST_INSTRUMENT : PySem.W.nsIn K mainGlobals "LONGEST_INSTRUMENT" = some (some (.int 6 t_LONGEST_INSTRUMENT)))
    (v_MOST_HOUSES : PySem.W.nsIn K mainGlobals "MOST_HOUSES" = some (some (.int 12 t_MOST_HOUSES)))
    (v_MOST_INSTRUMENTS : PySem.W.nsIn K mainGlobals "MOST_INSTRUMENTS" = some (some (.int 6 t_MOST_INSTRUMENTS)))
    (v_MOST_SCENARIOS : PySem.W.nsIn K mainGlobals "MOST_SCENARIOS" = some (some (.int 12 t_MOST_SCENARIOS)))
    (v_MOST_CENTS : PySem.W.nsIn K mainGlobals "MOST_CENTS" = some (some (.int 1000000000 t_MOST_CENTS)))
    (v_MOST_STEP : PySem.W.nsIn K mainGlobals "MOST_STEP" = some (some (.int 10000 t_MOST_STEP)))
    (v_MOST_RATE : PySem.W.nsIn K mainGlobals "MOST_RATE" = some (some (.int 1000000 t_MOST_RATE)))
    (v_MOST_PRICE : PySem.W.nsIn K mainGlobals "MOST_PRICE" = some (some (.int 1000000 t_MOST_PRICE)))
    (v_MOST_MOVE : PySem.W.nsIn K mainGlobals "MOST_MOVE" = some (some (.int 1000000 t_MOST_MOVE)))
    (g_BourseError : PySem.W.nsIn K mainGlobals "BourseError" = some (some (.ref c_BourseError)))
    (g_InvalidLine : PySem.W.nsIn K mainGlobals "InvalidLine" = some (some (.ref c_InvalidLine)))
    (g_Terms : PySem.W.nsIn K mainGlobals "Terms" = some (some (.ref c_Terms)))
    (pg_Terms : PySem.W.plainGet K c_Terms Str.empty = true)
    (hd_Terms : PySem.W.hasDictIn K c_Terms = true)
    (po_Terms : PySem.W.plainOver K c_Terms = true)
    (sa_Terms : PySem.W.findIn K (.ref c_Terms) "__setattr__" = some (some (.builtin "object.__setattr__")))
    (ma_Terms : PySem.W.makesIn K c_Terms = true)
    (kc_Terms : PySem.W.keepIn K (.ref c_Terms) = true)
    (na_Terms_houses : PySem.W.findIn K (.ref c_Terms) "houses" = some none)
    (na_Terms_instruments : PySem.W.findIn K (.ref c_Terms) "instruments" = some none)
    (na_Terms_scenarios : PySem.W.findIn K (.ref c_Terms) "scenarios" = some none)
    (na_Terms_fund : PySem.W.findIn K (.ref c_Terms) "fund" = some none)
    (na_Terms_fee : PySem.W.findIn K (.ref c_Terms) "fee" = some none)
    (na_Terms_skin : PySem.W.findIn K (.ref c_Terms) "skin" = some none)
    (g_Draft : PySem.W.nsIn K mainGlobals "Draft" = some (some (.ref c_Draft)))
    (pg_Draft : PySem.W.plainGet K c_Draft Str.empty = true)
    (hd_Draft : PySem.W.hasDictIn K c_Draft = true)
    (po_Draft : PySem.W.plainOver K c_Draft = true)
    (sa_Draft : PySem.W.findIn K (.ref c_Draft) "__setattr__" = some (some (.builtin "object.__setattr__")))
    (ma_Draft : PySem.W.makesIn K c_Draft = true)
    (kc_Draft : PySem.W.keepIn K (.ref c_Draft) = true)
    (na_Draft__houses : PySem.W.findIn K (.ref c_Draft) "_houses" = some none)
    (na_Draft__instruments : PySem.W.findIn K (.ref c_Draft) "_instruments" = some none)
    (na_Draft__scenarios : PySem.W.findIn K (.ref c_Draft) "_scenarios" = some none)
    (na_Draft__fund : PySem.W.findIn K (.ref c_Draft) "_fund" = some none)
    (na_Draft__fee : PySem.W.findIn K (.ref c_Draft) "_fee" = some none)
    (na_Draft__skin : PySem.W.findIn K (.ref c_Draft) "_skin" = some none) :
    ∃ fd : FuncData, (∀ (s : Shared) (v : Value), BindsTo s fd ⟨[v], []⟩ [("script", v)]) ∧ ∀ base : Heap, K.In base → base.Ns mainGlobals mg → FnOk l.prog w K mg base CX0 7 fa fd ["script"] (sp_law K) := by
  have e := hfa.symm.trans (PySem.W.mg_of X G a32)
  cases e
  have F1 := fun_mk (st := s_is_word_of) l1 c1 k1
  have b1 := F1.binds (ps := ["letters", "most", "text"]) fun _ _ _ _ _ _ us hl => match us, hl with | [_, _, _], _ => rfl
  have F2 := fun_mk (st := s_is_digits) l2 c2 k2
  have b2 := F2.binds (ps := ["text"]) fun _ _ _ _ _ _ us hl => match us, hl with | [_], _ => rfl
  have F3 := fun_mk (st := s_read_number) l3 c3 k3
  have b3 := F3.binds (ps := ["text", "least", "most"]) fun _ _ _ _ _ _ us hl => match us, hl with | [_, _, _], _ => rfl
  have F4 := fun_mk (st := s_Terms_init) l4 c4 k4
  have b4 := F4.binds (ps := ["self"]) fun _ _ _ _ _ _ us hl => match us, hl with | [_], _ => rfl
  have F5 := fun_mk (st := s_Draft_init) l5 c5 k5
  have b5 := F5.binds (ps := ["self"]) fun _ _ _ _ _ _ us hl => match us, hl with | [_], _ => rfl
  have F6 := fun_mk (st := s_Draft_take) l6 c6 k6
  have b6 := F6.binds (ps := ["self", "words"]) fun _ _ _ _ _ _ us hl => match us, hl with | [_, _], _ => rfl
  have F7 := fun_mk (st := s_Drafttake_house) l7 c7 k7
  have b7 := F7.binds (ps := ["self", "name", "cash"]) fun _ _ _ _ _ _ us hl => match us, hl with | [_, _, _], _ => rfl
  have F8 := fun_mk (st := s_Drafttake_instrument) l8 c8 k8
  have b8 := F8.binds (ps := ["self", "name", "tick", "lot", "band", "reference"]) fun _ _ _ _ _ _ us hl => match us, hl with | [_, _, _, _, _, _], _ => rfl
  have F9 := fun_mk (st := s_Drafttake_scenario) l9 c9 k9
  have b9 := F9.binds (ps := ["self", "words"]) fun _ _ _ _ _ _ us hl => match us, hl with | [_, _], _ => rfl
  have F10 := fun_mk (st := s_Drafttake_share) l10 c10 k10
  have b10 := F10.binds (ps := ["self", "house", "share"]) fun _ _ _ _ _ _ us hl => match us, hl with | [_, _, _], _ => rfl
  have F11 := fun_mk (st := s_Drafttake_fee) l11 c11 k11
  have b11 := F11.binds (ps := ["self", "rate"]) fun _ _ _ _ _ _ us hl => match us, hl with | [_, _], _ => rfl
  have F12 := fun_mk (st := s_Drafttake_skin) l12 c12 k12
  have b12 := F12.binds (ps := ["self", "cents"]) fun _ _ _ _ _ _ us hl => match us, hl with | [_, _], _ => rfl
  have F13 := fun_mk (st := s_Draft_finished) l13 c13 k13
  have b13 := F13.binds (ps := ["self"]) fun _ _ _ _ _ _ us hl => match us, hl with | [_], _ => rfl
  have F14 := fun_mk (st := s_parse_terms) l14 c14 k14
  have b14 := F14.binds (ps := ["text"]) fun _ _ _ _ _ _ us hl => match us, hl with | [_], _ => rfl
  have F15 := fun_mk (st := s_format_terms) l15 c15 k15
  have b15 := F15.binds (ps := ["terms"]) fun _ _ _ _ _ _ us hl => match us, hl with | [_], _ => rfl
  have F16 := fun_mk (st := s_written_line) l16 c16 k16
  have b16 := F16.binds (ps := ["row"]) fun _ _ _ _ _ _ us hl => match us, hl with | [_], _ => rfl
  have F17 := fun_mk (st := s_law_cell) l17 c17 k17
  have b17 := F17.binds (ps := ["script", "k"]) fun _ _ _ _ _ _ us hl => match us, hl with | [_, _], _ => rfl
  have F18 := fun_mk (st := s_law_draws) l18 c18 k18
  have b18 := F18.binds (ps := ["cell", "count", "size"]) fun _ _ _ _ _ _ us hl => match us, hl with | [_, _, _], _ => rfl
  have F19 := fun_mk (st := s_law_word) l19 c19 k19
  have b19 := F19.binds (ps := ["cell", "letters", "size"]) fun _ _ _ _ _ _ us hl => match us, hl with | [_, _, _], _ => rfl
  have F20 := fun_mk (st := s_law_names) l20 c20 k20
  have b20 := F20.binds (ps := ["cell", "count", "letters", "longest"]) fun _ _ _ _ _ _ us hl => match us, hl with | [_, _, _, _], _ => rfl
  have F21 := fun_mk (st := s_law_number) l21 c21 k21
  have b21 := F21.binds (ps := ["cell", "size"]) fun _ _ _ _ _ _ us hl => match us, hl with | [_, _], _ => rfl
  have F22 := fun_mk (st := s_law_instrument) l22 c22 k22
  have b22 := F22.binds (ps := ["name", "cell"]) fun _ _ _ _ _ _ us hl => match us, hl with | [_, _], _ => rfl
  have F23 := fun_mk (st := s_law_move) l23 c23 k23
  have b23 := F23.binds (ps := ["cell"]) fun _ _ _ _ _ _ us hl => match us, hl with | [_], _ => rfl
  have F24 := fun_mk (st := s_law_rows) l24 c24 k24
  have b24 := F24.binds (ps := ["script"]) fun _ _ _ _ _ _ us hl => match us, hl with | [_], _ => rfl
  have F25 := fun_mk (st := s_law_kept) l25 c25 k25
  have b25 := F25.binds (ps := ["rows", "word"]) fun _ _ _ _ _ _ us hl => match us, hl with | [_, _], _ => rfl
  have F26 := fun_mk (st := s_law_numbers) l26 c26 k26
  have b26 := F26.binds (ps := ["row"]) fun _ _ _ _ _ _ us hl => match us, hl with | [_], _ => rfl
  have F27 := fun_mk (st := s_law_same_rows) l27 c27 k27
  have b27 := F27.binds (ps := ["actual", "due"]) fun _ _ _ _ _ _ us hl => match us, hl with | [_, _], _ => rfl
  have F28 := fun_mk (st := s_law_same_moves) l28 c28 k28
  have b28 := F28.binds (ps := ["actual", "due"]) fun _ _ _ _ _ _ us hl => match us, hl with | [_, _], _ => rfl
  have F29 := fun_mk (st := s_law_last) l29 c29 k29
  have b29 := F29.binds (ps := ["rows", "word"]) fun _ _ _ _ _ _ us hl => match us, hl with | [_, _], _ => rfl
  have F30 := fun_mk (st := s_law_terms) l30 c30 k30
  have b30 := F30.binds (ps := ["terms", "rows"]) fun _ _ _ _ _ _ us hl => match us, hl with | [_, _], _ => rfl
  have F31 := fun_mk (st := s_law_due) l31 c31 k31
  have b31 := F31.binds (ps := ["rows"]) fun _ _ _ _ _ _ us hl => match us, hl with | [_], _ => rfl
  have F32 := fun_mk (st := s_law) l32 c32 k32
  have b32 := F32.binds (ps := ["script"]) fun _ _ _ _ _ _ us hl => match us, hl with | [_], _ => rfl
  have T : Txt K mg := ⟨f1, _, F1, PySem.W.mg_of X G a1, b1, f2, _, F2, PySem.W.mg_of X G a2, b2, f3, _, F3, PySem.W.mg_of X G a3, b3, f4, _, F4, b4, f5, _, F5, b5, f6, _, F6, b6, f7, _, F7, b7, f8, _, F8, b8, f9, _, F9, b9, f10, _, F10, b10, f11, _, F11, b11, f12, _, F12, b12, f13, _, F13, b13, f14, _, F14, PySem.W.mg_of X G a14, b14, f15, _, F15, PySem.W.mg_of X G a15, b15, f16, _, F16, PySem.W.mg_of X G a16, b16, f17, _, F17, PySem.W.mg_of X G a17, b17, f18, _, F18, PySem.W.mg_of X G a18, b18, f19, _, F19, PySem.W.mg_of X G a19, b19, f20, _, F20, PySem.W.mg_of X G a20, b20, f21, _, F21, PySem.W.mg_of X G a21, b21, f22, _, F22, PySem.W.mg_of X G a22, b22, f23, _, F23, PySem.W.mg_of X G a23, b23, f24, _, F24, PySem.W.mg_of X G a24, b24, f25, _, F25, PySem.W.mg_of X G a25, b25, f26, _, F26, PySem.W.mg_of X G a26, b26, f27, _, F27, PySem.W.mg_of X G a27, b27, f28, _, F28, PySem.W.mg_of X G a28, b28, f29, _, F29, PySem.W.mg_of X G a29, b29, f30, _, F30, PySem.W.mg_of X G a30, b30, f31, _, F31, PySem.W.mg_of X G a31, b31, c_BourseError, PySem.W.mg_of X G g_BourseError, c_InvalidLine, PySem.W.mg_of X G g_InvalidLine, c_Terms, PySem.W.mg_of X G g_Terms, pg_Terms, hd_Terms, po_Terms, sa_Terms, ma_Terms, kc_Terms, ⟨pg_Terms, hd_Terms, po_Terms, sa_Terms⟩, na_Terms_houses, na_Terms_instruments, na_Terms_scenarios, na_Terms_fund, na_Terms_fee, na_Terms_skin, c_Draft, PySem.W.mg_of X G g_Draft, pg_Draft, hd_Draft, po_Draft, sa_Draft, ma_Draft, kc_Draft, ⟨pg_Draft, hd_Draft, po_Draft, sa_Draft⟩, na_Draft__houses, na_Draft__instruments, na_Draft__scenarios, na_Draft__fund, na_Draft__fee, na_Draft__skin, ⟨ma_Terms, a4, i4, kc_Terms⟩, ⟨ma_Draft, a5, i5, kc_Draft⟩, ⟨a6, i6, k6⟩, ⟨a7, i7, k7⟩, ⟨a8, i8, k8⟩, ⟨a9, i9, k9⟩, ⟨a10, i10, k10⟩, ⟨a11, i11, k11⟩, ⟨a12, i12, k12⟩, ⟨a13, i13, k13⟩, PySem.W.mg_none_of X G z_abs, PySem.W.mg_none_of X G z_all, PySem.W.mg_none_of X G z_bool, PySem.W.mg_none_of X G z_enumerate, PySem.W.mg_none_of X G z_int, PySem.W.mg_none_of X G z_isinstance, PySem.W.mg_none_of X G z_len, PySem.W.mg_none_of X G z_list, PySem.W.mg_none_of X G z_min, PySem.W.mg_none_of X G z_range, PySem.W.mg_none_of X G z_sorted, PySem.W.mg_none_of X G z_str, PySem.W.mg_none_of X G z_tuple, t_DIGITS, PySem.W.mg_of X G v_DIGITS, t_MOST_DIGITS, PySem.W.mg_of X G v_MOST_DIGITS, t_SMALL, PySem.W.mg_of X G v_SMALL, t_CAPITAL, PySem.W.mg_of X G v_CAPITAL, t_LONGEST_HOUSE, PySem.W.mg_of X G v_LONGEST_HOUSE, t_LONGEST_INSTRUMENT, PySem.W.mg_of X G v_LONGEST_INSTRUMENT, t_MOST_HOUSES, PySem.W.mg_of X G v_MOST_HOUSES, t_MOST_INSTRUMENTS, PySem.W.mg_of X G v_MOST_INSTRUMENTS, t_MOST_SCENARIOS, PySem.W.mg_of X G v_MOST_SCENARIOS, t_MOST_CENTS, PySem.W.mg_of X G v_MOST_CENTS, t_MOST_STEP, PySem.W.mg_of X G v_MOST_STEP, t_MOST_RATE, PySem.W.mg_of X G v_MOST_RATE, t_MOST_PRICE, PySem.W.mg_of X G v_MOST_PRICE, t_MOST_MOVE, PySem.W.mg_of X G v_MOST_MOVE⟩
  exact ⟨PySem.W.fnOf "law" "law" (defArgs s_law) (defBody s_law) (defScope s_law) .none kV32 dc32 pm32 an32 cd32 ct32, fun s v => .of_eq rfl, fun base _ _ => ok_law T F32⟩
end FB
open PySem PySem.W PyProof.Rows
set_option maxRecDepth 100000 in
set_option maxHeartbeats 0 in
theorem PySem.Challenge.cw_fairbourse_k18_terms_are_written_holds : PySem.Challenge.rw_fairbourse_k18_terms_are_written.Holds := by
  w_on; o_law; k_head; (case hw => w_witness2)
  k_fill
  refine L2.walk_of (l := PySem.Challenge.rw_fairbourse_k18_terms_are_written) (n := 63) (k := 7) (x := "script") (CX := fun _ => L2.CX0) (sp := fun w => FB.sp_law _) rfl (by decide) rfl ⟨rfl, by decide, by decide⟩ (fun w h Y => PySem.W.kIn_of Y) ?F (fun _ _ a ns hl _ hS => ⟨a, ns, rfl, hS, hl, fun _ => rfl⟩) (fun _ _ _ _ _ h => h)
  case F =>
    intro w mg fa h KX G hmg
    refine' FB.all_mk KX G hmg ?a1 ?l1 ?c1 ?k1 ?a2 ?l2 ?c2 ?k2 ?a3 ?l3 ?c3 ?k3 ?a4 ?i4 ?l4 ?c4 ?k4 ?a5 ?i5 ?l5 ?c5 ?k5 ?a6 ?i6 ?l6 ?c6 ?k6 ?a7 ?i7 ?l7 ?c7 ?k7 ?a8 ?i8 ?l8 ?c8 ?k8 ?a9 ?i9 ?l9 ?c9 ?k9 ?a10 ?i10 ?l10 ?c10 ?k10 ?a11 ?i11 ?l11 ?c11 ?k11 ?a12 ?i12 ?l12 ?c12 ?k12 ?a13 ?i13 ?l13 ?c13 ?k13 ?a14 ?l14 ?c14 ?k14 ?a15 ?l15 ?c15 ?k15 ?a16 ?l16 ?c16 ?k16 ?a17 ?l17 ?c17 ?k17 ?a18 ?l18 ?c18 ?k18 ?a19 ?l19 ?c19 ?k19 ?a20 ?l20 ?c20 ?k20 ?a21 ?l21 ?c21 ?k21 ?a22 ?l22 ?c22 ?k22 ?a23 ?l23 ?c23 ?k23 ?a24 ?l24 ?c24 ?k24 ?a25 ?l25 ?c25 ?k25 ?a26 ?l26 ?c26 ?k26 ?a27 ?l27 ?c27 ?k27 ?a28 ?l28 ?c28 ?k28 ?a29 ?l29 ?c29 ?k29 ?a30 ?l30 ?c30 ?k30 ?a31 ?l31 ?c31 ?k31 ?a32 ?l32 ?c32 ?k32 ?z_abs ?z_all ?z_bool ?z_enumerate ?z_int ?z_isinstance ?z_len ?z_list ?z_min ?z_range ?z_sorted ?z_str ?z_tuple ?v_DIGITS ?v_MOST_DIGITS ?v_SMALL ?v_CAPITAL ?v_LONGEST_HOUSE ?v_LONGEST_INSTRUMENT ?v_MOST_HOUSES ?v_MOST_INSTRUMENTS ?v_MOST_SCENARIOS ?v_MOST_CENTS ?v_MOST_STEP ?v_MOST_RATE ?v_MOST_PRICE ?v_MOST_MOVE ?g_BourseError ?g_InvalidLine ?g_Terms ?pg_Terms ?hd_Terms ?po_Terms ?sa_Terms ?ma_Terms ?kc_Terms ?na_Terms_houses ?na_Terms_instruments ?na_Terms_scenarios ?na_Terms_fund ?na_Terms_fee ?na_Terms_skin ?g_Draft ?pg_Draft ?hd_Draft ?po_Draft ?sa_Draft ?ma_Draft ?kc_Draft ?na_Draft__houses ?na_Draft__instruments ?na_Draft__scenarios ?na_Draft__fund ?na_Draft__fee ?na_Draft__skin
    (case g_BourseError => k_is)
    (case g_InvalidLine => k_is)
    (case g_Terms => k_is)
    (case g_Draft => k_is)
    (case a1 => k_is)
    (case l1 => k_is)
    (case c1 => k_is)
    (case k1 => k_is)
    (case a2 => k_is)
    (case l2 => k_is)
    (case c2 => k_is)
    (case k2 => k_is)
    (case a3 => k_is)
    (case l3 => k_is)
    (case c3 => k_is)
    (case k3 => k_is)
    (case a4 => k_is)
    (case i4 => k_is)
    (case l4 => k_is)
    (case c4 => k_is)
    (case k4 => k_is)
    (case a5 => k_is)
    (case i5 => k_is)
    (case l5 => k_is)
    (case c5 => k_is)
    (case k5 => k_is)
    (case a6 => k_is)
    (case i6 => k_is)
    (case l6 => k_is)
    (case c6 => k_is)
    (case k6 => k_is)
    (case a7 => k_is)
    (case i7 => k_is)
    (case l7 => k_is)
    (case c7 => k_is)
    (case k7 => k_is)
    (case a8 => k_is)
    (case i8 => k_is)
    (case l8 => k_is)
    (case c8 => k_is)
    (case k8 => k_is)
    (case a9 => k_is)
    (case i9 => k_is)
    (case l9 => k_is)
    (case c9 => k_is)
    (case k9 => k_is)
    (case a10 => k_is)
    (case i10 => k_is)
    (case l10 => k_is)
    (case c10 => k_is)
    (case k10 => k_is)
    (case a11 => k_is)
    (case i11 => k_is)
    (case l11 => k_is)
    (case c11 => k_is)
    (case k11 => k_is)
    (case a12 => k_is)
    (case i12 => k_is)
    (case l12 => k_is)
    (case c12 => k_is)
    (case k12 => k_is)
    (case a13 => k_is)
    (case i13 => k_is)
    (case l13 => k_is)
    (case c13 => k_is)
    (case k13 => k_is)
    (case a14 => k_is)
    (case l14 => k_is)
    (case c14 => k_is)
    (case k14 => k_is)
    (case a15 => k_is)
    (case l15 => k_is)
    (case c15 => k_is)
    (case k15 => k_is)
    (case a16 => k_is)
    (case l16 => k_is)
    (case c16 => k_is)
    (case k16 => k_is)
    (case a17 => k_is)
    (case l17 => k_is)
    (case c17 => k_is)
    (case k17 => k_is)
    (case a18 => k_is)
    (case l18 => k_is)
    (case c18 => k_is)
    (case k18 => k_is)
    (case a19 => k_is)
    (case l19 => k_is)
    (case c19 => k_is)
    (case k19 => k_is)
    (case a20 => k_is)
    (case l20 => k_is)
    (case c20 => k_is)
    (case k20 => k_is)
    (case a21 => k_is)
    (case l21 => k_is)
    (case c21 => k_is)
    (case k21 => k_is)
    (case a22 => k_is)
    (case l22 => k_is)
    (case c22 => k_is)
    (case k22 => k_is)
    (case a23 => k_is)
    (case l23 => k_is)
    (case c23 => k_is)
    (case k23 => k_is)
    (case a24 => k_is)
    (case l24 => k_is)
    (case c24 => k_is)
    (case k24 => k_is)
    (case a25 => k_is)
    (case l25 => k_is)
    (case c25 => k_is)
    (case k25 => k_is)
    (case a26 => k_is)
    (case l26 => k_is)
    (case c26 => k_is)
    (case k26 => k_is)
    (case a27 => k_is)
    (case l27 => k_is)
    (case c27 => k_is)
    (case k27 => k_is)
    (case a28 => k_is)
    (case l28 => k_is)
    (case c28 => k_is)
    (case k28 => k_is)
    (case a29 => k_is)
    (case l29 => k_is)
    (case c29 => k_is)
    (case k29 => k_is)
    (case a30 => k_is)
    (case l30 => k_is)
    (case c30 => k_is)
    (case k30 => k_is)
    (case a31 => k_is)
    (case l31 => k_is)
    (case c31 => k_is)
    (case k31 => k_is)
    (case a32 => k_is)
    (case l32 => k_is)
    (case c32 => k_is)
    (case k32 => k_is)
    (case z_abs => k_is)
    (case z_all => k_is)
    (case z_bool => k_is)
    (case z_enumerate => k_is)
    (case z_int => k_is)
    (case z_isinstance => k_is)
    (case z_len => k_is)
    (case z_list => k_is)
    (case z_min => k_is)
    (case z_range => k_is)
    (case z_sorted => k_is)
    (case z_str => k_is)
    (case z_tuple => k_is)
    (case v_DIGITS => k_is)
    (case v_MOST_DIGITS => k_is)
    (case v_SMALL => k_is)
    (case v_CAPITAL => k_is)
    (case v_LONGEST_HOUSE => k_is)
    (case v_LONGEST_INSTRUMENT => k_is)
    (case v_MOST_HOUSES => k_is)
    (case v_MOST_INSTRUMENTS => k_is)
    (case v_MOST_SCENARIOS => k_is)
    (case v_MOST_CENTS => k_is)
    (case v_MOST_STEP => k_is)
    (case v_MOST_RATE => k_is)
    (case v_MOST_PRICE => k_is)
    (case v_MOST_MOVE => k_is)
    (case pg_Terms => k_is)
    (case hd_Terms => k_is)
    (case po_Terms => k_is)
    (case sa_Terms => k_is)
    (case ma_Terms => k_is)
    (case kc_Terms => k_is)
    (case na_Terms_houses => k_is)
    (case na_Terms_instruments => k_is)
    (case na_Terms_scenarios => k_is)
    (case na_Terms_fund => k_is)
    (case na_Terms_fee => k_is)
    (case na_Terms_skin => k_is)
    (case pg_Draft => k_is)
    (case hd_Draft => k_is)
    (case po_Draft => k_is)
    (case sa_Draft => k_is)
    (case ma_Draft => k_is)
    (case kc_Draft => k_is)
    (case na_Draft__houses => k_is)
    (case na_Draft__instruments => k_is)
    (case na_Draft__scenarios => k_is)
    (case na_Draft__fund => k_is)
    (case na_Draft__fee => k_is)
    (case na_Draft__skin => k_is)
