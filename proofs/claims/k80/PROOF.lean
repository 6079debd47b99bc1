import PyProof.Rows.All
import Wide.All
import OpenK.AllK
import Wide.FinOn
import HandS.ForMost
import HandS.ForExc
import HandS.Defaults
import HandS.IsInst
import HandS.Wide
import HandS.StrMore
import HandS.FStr
import HandS.Walk
import HandS.Codes
import HandS.RaiseMore
import HandS.ExcIs
import HandS.MakeKwOnly
import HandS.CallSlots
import HandS.TryMany
import PySem.Challenge.RW_fairbourse_k80_tape_lines_are_read_back
set_option Elab.async false
set_option linter.all false
set_option maxRecDepth 100000
namespace FB
open PySem PySem.Spec PyProof.Rows L2
def topS (i : Nat) : Stmt := PySem.Challenge.pw_fairbourse_k80_tape_lines_are_read_back.main.body.getD i (.Pass ⟨0, 0, 0, 0⟩)
abbrev s_check_of : Stmt := topS 8
abbrev N_check_of : List Str := ["text", "value", "sign"]
theorem sc_check_of : FnScope N_check_of ["text"] (defScope s_check_of) := ⟨rfl, rfl, rfl, by decide +kernel, rfl, by decide +kernel, by decide +kernel⟩
abbrev s_write_line : Stmt := topS 9
abbrev N_write_line : List Str := ["number", "text", "numbered"]
theorem sc_write_line : FnScope N_write_line ["number", "text"] (defScope s_write_line) := ⟨rfl, rfl, rfl, by decide +kernel, rfl, by decide +kernel, by decide +kernel⟩
abbrev s_read_tape : Stmt := topS 10
abbrev N_read_tape : List Str := ["tape", "texts", "length", "text"]
theorem sc_read_tape : FnScope N_read_tape ["tape"] (defScope s_read_tape) := ⟨rfl, rfl, rfl, by decide +kernel, rfl, by decide +kernel, by decide +kernel⟩
abbrev s_text_at : Stmt := topS 11
abbrev N_text_at : List Str := ["tape", "start", "number", "line", "text"]
theorem sc_text_at : FnScope N_text_at ["tape", "start", "number"] (defScope s_text_at) := ⟨rfl, rfl, rfl, by decide +kernel, rfl, by decide +kernel, by decide +kernel⟩
abbrev s_is_text : Stmt := topS 12
abbrev N_is_text : List Str := ["text", "sign"]
theorem sc_is_text : FnScope N_is_text ["text"] (defScope s_is_text) := ⟨rfl, rfl, rfl, by decide +kernel, rfl, by decide +kernel, by decide +kernel⟩
abbrev s_Tape_init : Stmt := inClass (topS 13) 0
abbrev N_Tape_init : List Str := ["self"]
theorem sc_Tape_init : FnScope N_Tape_init ["self"] (defScope s_Tape_init) := ⟨rfl, rfl, rfl, by decide +kernel, rfl, by decide +kernel, by decide +kernel⟩
abbrev s_Tape_append : Stmt := inClass (topS 13) 1
abbrev N_Tape_append : List Str := ["self", "text", "number"]
theorem sc_Tape_append : FnScope N_Tape_append ["self", "text"] (defScope s_Tape_append) := ⟨rfl, rfl, rfl, by decide +kernel, rfl, by decide +kernel, by decide +kernel⟩
abbrev s_Tape_texts : Stmt := inClass (topS 13) 2
abbrev N_Tape_texts : List Str := ["self"]
theorem sc_Tape_texts : FnScope N_Tape_texts ["self"] (defScope s_Tape_texts) := ⟨rfl, rfl, rfl, by decide +kernel, rfl, by decide +kernel, by decide +kernel⟩
abbrev s_Tape_whole : Stmt := inClass (topS 13) 3
abbrev N_Tape_whole : List Str := ["self"]
theorem sc_Tape_whole : FnScope N_Tape_whole ["self"] (defScope s_Tape_whole) := ⟨rfl, rfl, rfl, by decide +kernel, rfl, by decide +kernel, by decide +kernel⟩
abbrev s_law_digit : Stmt := topS 15
abbrev N_law_digit : List Str := ["cell", "base", "k", "left", "step"]
theorem sc_law_digit : FnScope N_law_digit ["cell", "base", "k"] (defScope s_law_digit) := ⟨rfl, rfl, rfl, by decide +kernel, rfl, by decide +kernel, by decide +kernel⟩
abbrev s_law_char : Stmt := topS 16
abbrev N_law_char : List Str := ["k", "chars"]
theorem sc_law_char : FnScope N_law_char ["k"] (defScope s_law_char) := ⟨rfl, rfl, rfl, by decide +kernel, rfl, by decide +kernel, by decide +kernel⟩
abbrev s_law_text : Stmt := topS 17
abbrev N_law_text : List Str := ["cell", "size", "k"]
theorem sc_law_text : FnScope N_law_text ["cell"] (defScope s_law_text) := ⟨rfl, rfl, rfl, by decide +kernel, rfl, by decide +kernel, by decide +kernel⟩
abbrev s_law_check : Stmt := topS 18
abbrev N_law_check : List Str := ["text", "value", "char", "figures"]
theorem sc_law_check : FnScope N_law_check ["text"] (defScope s_law_check) := ⟨rfl, rfl, rfl, by decide +kernel, rfl, by decide +kernel, by decide +kernel⟩
abbrev s_law_raises : Stmt := topS 19
abbrev N_law_raises : List Str := ["number", "text", "e"]
theorem sc_law_raises : FnScope N_law_raises ["number", "text"] (defScope s_law_raises) := ⟨rfl, rfl, rfl, by decide +kernel, rfl, by decide +kernel, by decide +kernel⟩
abbrev s_law_append_raises : Stmt := topS 20
abbrev N_law_append_raises : List Str := ["tape", "text"]
theorem sc_law_append_raises : FnScope N_law_append_raises ["tape", "text"] (defScope s_law_append_raises) := ⟨rfl, rfl, rfl, by decide +kernel, rfl, by decide +kernel, by decide +kernel⟩
abbrev s_law : Stmt := topS 21
abbrev N_law : List Str := ["script", "tape", "texts", "whole", "k", "cell", "text", "body", "line", "bad"]
theorem sc_law : FnScope N_law ["script"] (defScope s_law) := ⟨rfl, rfl, rfl, by decide +kernel, rfl, by decide +kernel, by decide +kernel⟩
set_option maxHeartbeats 0 in
structure Txt (K : PySem.W.Frag) (mg : Str → Option Value) where
  f_check_of : Addr
  d_check_of : FuncData
  F_check_of : Fun K "check_of" "check_of" s_check_of f_check_of d_check_of
  m_check_of : mg "check_of" = some (.ref f_check_of)
  b_check_of : Binds K d_check_of ["text"] []
  f_write_line : Addr
  d_write_line : FuncData
  F_write_line : Fun K "write_line" "write_line" s_write_line f_write_line d_write_line
  m_write_line : mg "write_line" = some (.ref f_write_line)
  b_write_line : Binds K d_write_line ["number", "text"] []
  f_read_tape : Addr
  d_read_tape : FuncData
  F_read_tape : Fun K "read_tape" "read_tape" s_read_tape f_read_tape d_read_tape
  m_read_tape : mg "read_tape" = some (.ref f_read_tape)
  b_read_tape : Binds K d_read_tape ["tape"] []
  f_text_at : Addr
  d_text_at : FuncData
  F_text_at : Fun K "_text_at" "_text_at" s_text_at f_text_at d_text_at
  m_text_at : mg "_text_at" = some (.ref f_text_at)
  b_text_at : Binds K d_text_at ["tape", "start", "number"] []
  f_is_text : Addr
  d_is_text : FuncData
  F_is_text : Fun K "_is_text" "_is_text" s_is_text f_is_text d_is_text
  m_is_text : mg "_is_text" = some (.ref f_is_text)
  b_is_text : Binds K d_is_text ["text"] []
  f_Tape_init : Addr
  d_Tape_init : FuncData
  F_Tape_init : Fun K "__init__" "Tape.__init__" s_Tape_init f_Tape_init d_Tape_init
  b_Tape_init : Binds K d_Tape_init ["self"] []
  f_Tape_append : Addr
  d_Tape_append : FuncData
  F_Tape_append : Fun K "append" "Tape.append" s_Tape_append f_Tape_append d_Tape_append
  b_Tape_append : Binds K d_Tape_append ["self", "text"] []
  f_Tape_texts : Addr
  d_Tape_texts : FuncData
  F_Tape_texts : Fun K "texts" "Tape.texts" s_Tape_texts f_Tape_texts d_Tape_texts
  b_Tape_texts : Binds K d_Tape_texts ["self"] []
  f_Tape_whole : Addr
  d_Tape_whole : FuncData
  F_Tape_whole : Fun K "whole" "Tape.whole" s_Tape_whole f_Tape_whole d_Tape_whole
  b_Tape_whole : Binds K d_Tape_whole ["self"] []
  f_law_digit : Addr
  d_law_digit : FuncData
  F_law_digit : Fun K "_law_digit" "_law_digit" s_law_digit f_law_digit d_law_digit
  m_law_digit : mg "_law_digit" = some (.ref f_law_digit)
  b_law_digit : Binds K d_law_digit ["cell", "base", "k"] []
  f_law_char : Addr
  d_law_char : FuncData
  F_law_char : Fun K "_law_char" "_law_char" s_law_char f_law_char d_law_char
  m_law_char : mg "_law_char" = some (.ref f_law_char)
  b_law_char : Binds K d_law_char ["k"] []
  f_law_text : Addr
  d_law_text : FuncData
  F_law_text : Fun K "_law_text" "_law_text" s_law_text f_law_text d_law_text
  m_law_text : mg "_law_text" = some (.ref f_law_text)
  b_law_text : Binds K d_law_text ["cell"] []
  f_law_check : Addr
  d_law_check : FuncData
  F_law_check : Fun K "_law_check" "_law_check" s_law_check f_law_check d_law_check
  m_law_check : mg "_law_check" = some (.ref f_law_check)
  b_law_check : Binds K d_law_check ["text"] []
  f_law_raises : Addr
  d_law_raises : FuncData
  F_law_raises : Fun K "_law_raises" "_law_raises" s_law_raises f_law_raises d_law_raises
  m_law_raises : mg "_law_raises" = some (.ref f_law_raises)
  b_law_raises : Binds K d_law_raises ["number", "text"] []
  f_law_append_raises : Addr
  d_law_append_raises : FuncData
  F_law_append_raises : Fun K "_law_append_raises" "_law_append_raises" s_law_append_raises f_law_append_raises d_law_append_raises
  m_law_append_raises : mg "_law_append_raises" = some (.ref f_law_append_raises)
  b_law_append_raises : Binds K d_law_append_raises ["tape", "text"] []
  c_BourseError : Addr
  m_BourseError : mg "BourseError" = some (.ref c_BourseError)
  c_BrokenTape : Addr
  m_BrokenTape : mg "BrokenTape" = some (.ref c_BrokenTape)
  x_BrokenTape : PySem.W.excIn K c_BrokenTape [.type "ValueError", .type "Exception", .type "BaseException", .type "object"] "ValueError.__new__" = true
  k_BrokenTape : PySem.W.keepIn K (.ref c_BrokenTape) = true
  b_BrokenTape : PySem.W.subIn K (.ref c_BrokenTape) (.type "BaseException") = some true
  t_BrokenTape : PySem.W.typeIn K (.ref c_BrokenTape) = some (.type "type")
  d_BrokenTape : PySem.W.hasDictIn K c_BrokenTape = true
  s_BrokenTape : PySem.W.subIn K (.ref c_BrokenTape) (.ref c_BrokenTape) = some true
  eg_BrokenTape : PySem.W.findIn K (.ref c_BrokenTape) "__getattribute__" = some (some (.builtin "BaseException.__getattribute__"))
  ek_BrokenTape : PySem.W.findIn K (.ref c_BrokenTape) "__getattr__" = some none
  ea_BrokenTape : PySem.W.findIn K (.ref c_BrokenTape) "__class__" = some (some (.builtin "object.__class__"))
  en_BrokenTape : PySem.W.specialIn K (.builtin "object.__class__") "__get__" = some (some (.builtin "getset_descriptor.__get__"))
  et_BrokenTape : PySem.W.takesIn K (.builtin "object.__class__") = some true
  em_BrokenTape : PySem.W.mroIn K c_BrokenTape (.type "object") = some true
  e_BrokenTape : ExcC K c_BrokenTape
  c_Tape : Addr
  m_Tape : mg "Tape" = some (.ref c_Tape)
  pg_Tape : PySem.W.plainGet K c_Tape Str.empty = true
  hd_Tape : PySem.W.hasDictIn K c_Tape = true
  po_Tape : PySem.W.plainOver K c_Tape = true
  sa_Tape : PySem.W.findIn K (.ref c_Tape) "__setattr__" = some (some (.builtin "object.__setattr__"))
  ma_Tape : PySem.W.makesIn K c_Tape = true
  kc_Tape : PySem.W.keepIn K (.ref c_Tape) = true
  cl_Tape : Cls K c_Tape
  na_Tape__texts : PySem.W.findIn K (.ref c_Tape) "_texts" = some none
  na_Tape__lines : PySem.W.findIn K (.ref c_Tape) "_lines" = some none
  mk_Tape : Mk K c_Tape f_Tape_init
  mt_Tape_append : Meth K c_Tape "append" f_Tape_append
  mt_Tape_texts : Meth K c_Tape "texts" f_Tape_texts
  mt_Tape_whole : Meth K c_Tape "whole" f_Tape_whole
  kt_BrokenTape_BourseError : PySem.W.kitOne K (.ref c_BrokenTape) (.ref c_BourseError) = some true
  z_all : mg "all" = none
  z_enumerate : mg "enumerate" = none
  z_int : mg "int" = none
  z_isinstance : mg "isinstance" = none
  z_len : mg "len" = none
  z_list : mg "list" = none
  z_ord : mg "ord" = none
  z_range : mg "range" = none
  z_str : mg "str" = none
  t_FIRST_VALUE : Tok
  m_FIRST_VALUE : mg "FIRST_VALUE" = some (.int 7 t_FIRST_VALUE)
  t_FACTOR : Tok
  m_FACTOR : mg "FACTOR" = some (.int 31 t_FACTOR)
  t_MODULUS : Tok
  m_MODULUS : mg "MODULUS" = some (.int 9973 t_MODULUS)
  t_BEHIND_TEXT : Tok
  m_BEHIND_TEXT : mg "BEHIND_TEXT" = some (.int 6 t_BEHIND_TEXT)
/-! own short words -/
theorem iteD {p A B : Prop} [Decidable p] (h1 : p → A) (h2 : ¬ p → B) : if decide p = true then A else B := by
  by_cases h : p
  · rw [decide_eq_true h, if_pos rfl]; exact h1 h
  · rw [decide_eq_false h, if_neg Bool.false_ne_true]; exact h2 h
theorem iteDN {p A B : Prop} [Decidable p] (h1 : ¬ p → A) (h2 : p → B) : if (!decide p) = true then A else B := by
  by_cases h : p
  · rw [decide_eq_true h]; exact iteF (h2 h)
  · rw [decide_eq_false h]; exact iteT (h1 h)
theorem len_le {n : Nat} (h : Nat.ble n 1000 = true) : n ≤ sizeLine := Nat.le_trans (Nat.le_of_ble_eq_true h) (by decide)
theorem iteB {b : Bool} {A B : Prop} (h1 : b = true → A) (h2 : b = false → B) : if b = true then A else B := by
  cases b with
  | true => exact iteT (h1 rfl)
  | false => exact iteF (h2 rfl)
theorem cmul_l {i j : Int} (h : -(2 ^ 64) < i) (h' : i < 2 ^ 64) : CMul i j := .inl ⟨h, h'⟩
theorem cmul_r {i j : Int} (h : -(2 ^ 64) < j) (h' : j < 2 ^ 64) : CMul i j := .inr ⟨h, h'⟩
theorem dec_t {p : Prop} [Decidable p] (h : decide p = true) : p := of_decide_eq_true h
theorem dec_f {p : Prop} [Decidable p] (h : decide p = false) : ¬ p := of_decide_eq_false h
theorem ndec_t {p : Prop} [Decidable p] (h : (!decide p) = true) : ¬ p := fun q => by rw [decide_eq_true q] at h; cases h
theorem ndec_f {p : Prop} [Decidable p] (h : (!decide p) = false) : p := by
  by_cases q : p
  · exact q
  · rw [decide_eq_false q] at h; cases h
theorem fld_lt {n : Nat} (h : Nat.ble (n + 1) 1000 = true) : n < 1000 := Nat.le_of_ble_eq_true h
def rLen (K : PySem.W.Frag) : List V → Hp → VK → Prop := fun xs H Q => ∃ p ys, xs = [.ref p] ∧ (SqL K H p ys ∨ SqT K H p ys) ∧ Q (.int ys.length) H
def rListOf (K : PySem.W.Frag) : List V → Hp → VK → Prop := fun xs H Q => ∃ p ys, xs = [.ref p] ∧ (SqL K H p ys ∨ SqT K H p ys) ∧ ∀ l, H l = none → Q (.ref l) (upd H l (.lst ys))
def rTupleOf (K : PySem.W.Frag) : List V → Hp → VK → Prop := fun xs H Q => ∃ p ys, xs = [.ref p] ∧ ((SqL K H p ys ∧ ∀ l, H l = none → Q (.ref l) (upd H l (.tup ys))) ∨ (SqT K H p ys ∧ Q (.ref p) H))
theorem len0 : ([] : List V).length ≤ sizeLine := len_le rfl
theorem len1 {a : V} : [a].length ≤ sizeLine := len_le rfl
theorem len2 {a b : V} : [a, b].length ≤ sizeLine := len_le rfl
theorem len3 {a b c : V} : [a, b, c].length ≤ sizeLine := len_le rfl
theorem len4 {a b c d : V} : [a, b, c, d].length ≤ sizeLine := len_le rfl
theorem len5 {a b c d e : V} : [a, b, c, d, e].length ≤ sizeLine := len_le rfl
local macro_rules | `(tactic| walk_at "st") => `(tactic| repeat (first
  | (apply Exists.intro (α := V))
  | (apply Exists.intro (α := Int))
  | (apply Exists.intro (α := Bool))
  | (apply Exists.intro (α := Addr))
  | (apply Exists.intro (α := List V))
  | (apply Exists.intro (α := List Int))
  | (apply Exists.intro (α := List (Str × V)))
  | (apply Exists.intro (α := Str))
  | (apply And.intro; focus (first | omega | (dsimp only; omega) | (simp only [List.length_map, List.length_replicate]; omega) | exact rfl | assumption | exact SqL.of (by assumption) | exact Or.inl (by assumption) | exact Or.inr (by assumption) | exact Or.inr (SqT.of (by assumption)) | exact Or.inl (Or.inl upd_same) | exact Or.inl (Or.inl (Or.inl upd_same)) | (with_reducible exact len0) | (with_reducible exact len1) | (with_reducible exact len2) | (with_reducible exact len3) | (with_reducible exact len4) | (with_reducible exact len5) | exact upd_same | exact ⟨_, Or.inl (Or.inl upd_same)⟩ | exact ⟨_, SqL.of (by assumption)⟩ | exact ⟨_, by assumption⟩ | exact Or.inl ⟨rfl, _, SqL.of (by assumption)⟩ | exact Or.inl ⟨rfl, _, SqL.of upd_same⟩ | exact cmul_l (by omega) (by omega) | exact cmul_r (by omega) (by omega) | exact ⟨by omega, by omega⟩ | (simp only [List.length_map, List.length_replicate]; omega) | exact Or.inl (SqL.of (by assumption)) | exact SqT.of (by assumption) | exact fld_lt rfl | exact Or.inl ⟨_, by assumption, rfl⟩))))
/-- the script's cell at j, 0 where there is none -/
def cellOf (ns : List Int) (j : Nat) : Int := ns.getD j 0
theorem atI_ints {ns : List Int} {j : Nat} (h : j < ns.length) : atI (ns.map V.int) (j : Int) = some (.int (cellOf ns j)) := by
  refine at_of (j := j) rfl ?_
  rw [List.getElem?_map, List.getElem?_eq_getElem h]
  unfold cellOf
  rw [List.getD_eq_getElem?_getD, List.getElem?_eq_getElem h]
  rfl
theorem cellOf_out {ns : List Int} {j : Nat} (h : ¬ j < ns.length) : cellOf ns j = 0 := by
  unfold cellOf
  rw [List.getD_eq_getElem?_getD, List.getElem?_eq_none (by omega)]
  rfl
theorem same_upd {H : Hp} {p : Addr} {o : HO} (h : H p = none) : Same H (upd H p o) := fun b x e => by
  rw [upd_ne (ne_of_none e h)]
  exact e
/-- a slice of a list of ints -/
def cutI (ns : List Int) (lo hi : Option Int) : List Int := (ns.drop (HT.sIx ns.length 0 lo)).take (HT.sIx ns.length ns.length hi - HT.sIx ns.length 0 lo)
theorem cutV_ints (ns : List Int) (lo hi : Option Int) : cutV (ns.map V.int) lo hi = (cutI ns lo hi).map V.int := by
  unfold cutV cutI
  rw [List.length_map, List.map_take, List.map_drop]
theorem cutI_len (ns : List Int) (lo hi : Option Int) : (cutI ns lo hi).length ≤ ns.length := by
  unfold cutI
  rw [List.length_take, List.length_drop]
  omega
theorem ints_at {ns : List Int} {i : Nat} {x : V} (h : (ns.map V.int)[i]? = some x) : ∃ z, ns[i]? = some z ∧ x = V.int z := by
  rw [List.getElem?_map] at h
  cases e : ns[i]? with
  | none => rw [e] at h; cases h
  | some z => rw [e] at h; exact ⟨z, rfl, (Option.some.inj h).symm⟩
theorem take_succ {α : Type} {xs : List α} {i : Nat} {x : α} (h : xs[i]? = some x) : xs.take (i + 1) = xs.take i ++ [x] := by
  rw [List.take_add_one, h]
  rfl
theorem sum_le_mul : ∀ (ws : List Int) (b : Int), (∀ w, w ∈ ws → w ≤ b) → ws.sum ≤ (ws.length : Int) * b
  | [], b, _ => by show (0 : Int) ≤ ((0 : Nat) : Int) * b; omega
  | w :: ws, b, h => by
    rw [List.sum_cons, List.length_cons, Int.natCast_add, Int.add_mul]
    have h1 := h w List.mem_cons_self
    have h2 := sum_le_mul ws b fun x hx => h x (List.mem_cons_of_mem _ hx)
    omega
theorem ixN_nat {n j : Nat} (h : j < n) : ixN n (j : Int) = some j := by
  unfold ixN
  rw [if_pos (by omega), if_pos (by omega), Int.toNat_natCast]
theorem call_int_i {X : Cx} : CallR X (.type "int") (fun xs H Q => ∃ i : Int, xs = [.int i] ∧ Q (.int i) H) := by
  intro pins s σ H xs us Q I r h
  obtain ⟨i, e, q⟩ := h
  exact call_int1 pins s σ H xs us Q I r (.inl ⟨i, e, q⟩)
theorem dpAll_ints {K : PySem.W.Frag} {H : Hp} : ∀ xs : List Int, DpAll K H (xs.map V.int) (xs.map PyData.int)
  | [] => .nil
  | x :: xs => .cons (.int x) (dpAll_ints xs)
theorem eqvAll_ints : ∀ xs ys : List Int, PyData.eqvAll (xs.map PyData.int) (ys.map PyData.int) = decide (xs = ys)
  | [], [] => by simp [PyData.eqvAll]
  | [], _ :: _ => by simp [PyData.eqvAll]
  | _ :: _, [] => by simp [PyData.eqvAll]
  | x :: xs, y :: ys => by
    rw [List.map_cons, List.map_cons]
    simp only [PyData.eqvAll, PyData.eqv]
    rw [eqvAll_ints xs ys]
    by_cases h : x = y <;> by_cases h2 : xs = ys <;> simp [h, h2]
theorem lay_ints : ∀ xs : List Int, PyData.canLayAll0 (xs.map PyData.int) = true
  | [] => rfl
  | x :: xs => by
    rw [List.map_cons]
    simp only [PyData.canLayAll0, PyData.canLay0, Bool.true_and]
    exact lay_ints xs
theorem depth_ints : ∀ xs : List Int, PyData.depthAll (xs.map PyData.int) = 0
  | [] => rfl
  | x :: xs => by
    rw [List.map_cons]
    simp only [PyData.depthAll, PyData.depth, depth_ints xs]
    rfl
theorem shaped_ints (xs : List Int) : SeqAt.shaped (.list (xs.map PyData.int)) = true := by
  unfold SeqAt.shaped
  simp only [PyData.canLay0, PyData.depth, lay_ints, depth_ints]
  rfl
theorem eqD_ints {K : PySem.W.Frag} {H : Hp} {a b : Addr} {xs ys : List Int} {Q : VK} (h1 : SqL K H a (xs.map V.int)) (h2 : SqL K H b (ys.map V.int)) (q : Q (.bl (decide (xs = ys))) H) : rEqD K (.ref a) (.ref b) H Q :=
  ⟨_, _, .lst h1 (dpAll_ints xs), .lst h2 (dpAll_ints ys), shaped_ints xs, shaped_ints ys, by rw [show PyData.eqv (.list (xs.map PyData.int)) (.list (ys.map PyData.int)) = decide (xs = ys) by simp only [PyData.eqv, eqvAll_ints]]; exact q⟩
theorem neD_ints {K : PySem.W.Frag} {H : Hp} {a b : Addr} {xs ys : List Int} {Q : VK} (h1 : SqL K H a (xs.map V.int)) (h2 : SqL K H b (ys.map V.int)) (q : Q (.bl (!decide (xs = ys))) H) : rNeD K (.ref a) (.ref b) H Q :=
  ⟨_, _, .lst h1 (dpAll_ints xs), .lst h2 (dpAll_ints ys), shaped_ints xs, shaped_ints ys, by rw [show PyData.eqv (.list (xs.map PyData.int)) (.list (ys.map PyData.int)) = decide (xs = ys) by simp only [PyData.eqv, eqvAll_ints]]; exact q⟩

/-- for i, x in enumerate(xs): each turn a new pair -/
theorem for_enum {K : PySem.W.Frag} {a : Addr} {xs : List V} {g : TG} {tb : TS} {D : Ends} {σ : L2.St} {H : Hp} (Pv : Nat → L2.St → Hp → Prop) (h0 : Pv 0 σ H) (hl : ∀ i σ H, i ≤ xs.length → Pv i σ H → SqL K H a xs)
    (hs : ∀ (i : Nat) (x : V) (σ : L2.St) (H : Hp) (T : Addr), xs[i]? = some x → Pv i σ H → H T = none → g (.ref T) σ (upd H T (.tup [.int (i : Int), x])) fun σ2 H2 => tb { D with nx := Pv (i + 1), ct := Pv (i + 1), bk := D.nx } σ2 H2) (hd : ∀ σ H, Pv xs.length σ H → D.nx σ H) :
    ∃ W : Nat → Nat → L2.St → Hp → Prop, (∃ m, W 0 m σ H) ∧ ∀ i m σ H, W i m σ H →
      ((Ite K a).stop i H ∧ D.nx σ H) ∨ ((Ite K a).go i H ∧ ∃ N : L2.St → Hp → Prop, (∀ σ' H', N σ' H' → ∃ m', m' < m ∧ W (i + 1) m' σ' H') ∧ ∀ x H', (Ite K a).yld i H x H' → g x σ H' fun σ2 H2 => tb { D with nx := N, ct := N, bk := D.nx } σ2 H2) := by
  refine ⟨fun i m σ H => m + i = xs.length ∧ Pv i σ H, ⟨xs.length, rfl, h0⟩, ?_⟩
  rintro i m σ H ⟨em, p⟩
  have q := hl i σ H (by omega) p
  by_cases hlt : i < xs.length
  · refine .inr ⟨⟨xs, xs[i], q, List.getElem?_eq_getElem hlt⟩, Pv (i + 1), fun σ' H' p' => ⟨m - 1, by omega, by omega, p'⟩, fun x H' y => ?_⟩
    obtain ⟨T, z, rfl, nT, rfl, hz⟩ := y
    exact hs i z σ H T (hz xs q) p nT
  · have e : i = xs.length := by omega
    subst e
    exact .inl ⟨⟨xs, q, Nat.le_refl _⟩, hd σ H p⟩
theorem call_int_b {X : Cx} : CallR X (.type "int") (fun xs H Q => ∃ b : Bool, xs = [.bl b] ∧ Q (.int (if b = true then 1 else 0)) H) := by
  intro pins s σ H xs us Q I r h
  obtain ⟨i, e, q⟩ := h
  exact call_int1 pins s σ H xs us Q I r (.inr ⟨i, e, q⟩)

section
variable {X : Cx}
/-- isinstance(e, C), e the error that the suite holds, of the class D -/
def rIsE' (K : PySem.W.Frag) (D a : Addr) (cls : Value) (d : Option Addr) : List V → Hp → VK → Prop := fun xs H Q => cls = .ref D ∧ d = none ∧ rIsE K D a xs H Q
theorem call_isE' {a D : Addr} {cls : Value} {d : Option Addr} {oe : Obj} {pn : List (Addr × Obj)} (C : ExcC X.K D) (hz : Zc cls d oe) (hf : ∃ vs, oe.data = .fields vs) : CallR (X.suite a ((a, oe) :: pn)) (.builtin "isinstance") (rIsE' X.K D a cls d) := by
  intro pins s σ H xs us Q I r h
  obtain ⟨rfl, rfl, h⟩ := h
  exact call_isE C hz hf pins s σ H xs us Q I r h
end

/-! one try with any except clauses, with names or without (the library has one named clause, or several without names) -/
section
variable {X : Cx}
inductive Clause (X : Cx) : ExceptHandler → (WX → Ends → WX) → Prop
  | named {x n : Str} {c : Value} {i : Nat} {np pp : Pos} {ff : Stmt} {ss : List Stmt} {tt : Addr → Value → Option Addr → TS} (nm : Names X x c) (at_i : X.N[i]? = some n) (loc_n : X.env.kindOf n = some .local)
      (hsu : ∀ (a : Addr) (o : Obj) (cls : Value) (d : Option Addr) (pn : List (Addr × Obj)), Zc cls d o → (∃ vs, o.data = .fields vs) → PSs (X.suite a ((a, o) :: pn)) (ff :: ss) (tt a cls d)) :
      Clause X (.ExceptHandler (some (.Name x np)) (some n) (ff :: ss) pp) (fun Wn D => wAs X.K c i tt Wn D)
  | plain {x : Str} {c : Value} {np pp : Pos} {ff : Stmt} {ss : List Stmt} {tt : Addr → Value → Option Addr → TS} (nm : Names X x c)
      (hsu : ∀ (a : Addr) (o : Obj) (cls : Value) (d : Option Addr) (pn : List (Addr × Obj)), Zc cls d o → (∃ vs, o.data = .fields vs) → PSs (X.suite a ((a, o) :: pn)) (ff :: ss) (tt a cls d)) :
      Clause X (.ExceptHandler (some (.Name x np)) none (ff :: ss) pp) (fun Wn D cls d σ H => ∃ b, PySem.W.exmOne X.K cls c = some b ∧ (b = true → ∀ a, H a = none → tt a cls d D σ H) ∧ (b = false → Wn cls d σ H))
inductive Clauses (X : Cx) : List ExceptHandler → List (WX → Ends → WX) → Prop
  | nil : Clauses X [] []
  | cons {h : ExceptHandler} {w : WX → Ends → WX} {hs : List ExceptHandler} {ws : List (WX → Ends → WX)} : Clause X h w → Clauses X hs ws → Clauses X (h :: hs) (w :: ws)
def wishes (D : Ends) (Wout : WX) : List (WX → Ends → WX) → WX
  | [] => Wout
  | w :: ws => w (wishes D Wout ws) D
theorem ps_try_any {body : List Stmt} {h0 : ExceptHandler} {hds : List ExceptHandler} {ws : List (WX → Ends → WX)} {pos : Pos} {tb : WX → TS} {Wout : WX} (hst : X.stack = X.env :: X.outer) (hfr : X.env.frame = some X.env.locals) (nd : X.N.Nodup) (tk : Takes X Wout)
    (hbody : ∀ (W : WX) (pn : List (Addr × Obj)) (xe : Value → Shared → Prop), Takes (X.tr pn xe) W → PassesOwn (model X.prog X.w) X.A X.env xe → PSs (X.tr pn xe) body (tb W))
    (cl : Clauses X (h0 :: hds) ws) : PS X (.Try body (h0 :: hds) [] [] pos) (fun D σ H => tb (wishes D Wout ws) D σ H) := by
  refine ⟨fun pins sh st Hh D inv hyp => ?_⟩
  have okX := inv.ok
  have frs0 : X.A.frames = some (X.env :: X.outer) := okX.frames.trans (congrArg some hst)
  refine wpAny_Try_except ?_
  refine wpAny_mono ((hbody (wishes D Wout ws) (X.pn ++ pins) (fun ev q₁ => wpAny (model X.prog X.w) X.A (noteFrame ev X.env) (fun _ q₂ => wpAny (model X.prog X.w) X.A (setFlight ev none) (fun _ q₃ =>
    wpAny (model X.prog X.w) X.A (handleBy ev X.env (h0 :: hds)) (SP X pins D) X.xe q₃) X.xe q₂) X.xe q₁) (fun u z xx => ?_) PassesOwn.looking).run [] sh st Hh D (inv.toTry _) hyp) (fun fl z1 left => ?_) (fun _ _ same => same)
  · obtain ⟨a, B, zI, pins2, st2, Hh2, cls, d, rfl, JT, nb, up, sky, na, os, ag, wish⟩ := xx
    have J : Inv X pins st2 Hh2 zI := JT.ofTry okX
    have skyX : Sky B (X.env :: X.outer) a (Zc cls d) X.env.locals z.heap := hst ▸ sky
    show wpAny (model X.prog X.w) X.A (noteFrame (Value.ref a) X.env) _ _ _
    refine Sky.land Zc.steady frs0 hfr skyX fun hp flz upz => ?_
    have J3 : Inv X pins st2 Hh2 { z with heap := hp } := J.landed nb flz.1 (up.trans upz) os ag
    obtain ⟨oA, vsA, atA, zA, dA⟩ := flz.there
    have apart : a ∉ frs (X.env :: X.outer) := fun hm => by
      obtain ⟨_, o', e', hnf⟩ := flz.2.2.1.mem hm
      rw [atA] at e'
      cases e'
      exact hnf _ dA
    have n1 : a ≠ X.env.locals := fun w => apart (List.mem_filterMap.mpr ⟨X.env, List.mem_cons_self, hfr.trans (congrArg some w.symm)⟩)
    have n2 : a ∉ X.fs := fun hm => by
      obtain ⟨ee, he, q⟩ := List.mem_filterMap.mp hm
      exact apart (List.mem_filterMap.mpr ⟨ee, List.mem_cons_of_mem _ he, q⟩)
    have S3 := J3.suite atA dA na n1 n2
    have onward : ∀ {hs' : List ExceptHandler} {ws' : List (WX → Ends → WX)}, Clauses X hs' ws' → wishes D Wout ws' cls d st2 Hh2 → wpAny (model X.prog X.w) X.A (handleBy (.ref a) X.env hs') (SP X pins D) X.xe { z with heap := hp } := by
      intro hs' ws' all
      induction all with
      | nil =>
        intro out
        refine wpAny_handleBy_nil ?_
        obtain ⟨j1, j2, j3, oC, vC, T, oT, tC, atC, zC, dC, fC, rC⟩ := id flz
        unfold PySem.passOn
        refine wpAny_bind (wpAny_field atC dC fC ?_)
        rw [if_neg (show ¬ ((Value.ref T == Value.none) = true) by simp)]
        have fin : wpAny (model X.prog X.w) X.A (setFlight (.ref a) X.env.frame) (fun _ q4 => wpAny (model X.prog X.w) X.A (throw (.ref a) : Sem Flow) (SP X pins D) X.xe q4) X.xe { z with heap := hp } := by
          rw [hfr]
          refine HandSPX.setFlight_upZ flz fun hq fq uq => wpAny_throw (tk _ _ ?_)
          exact ⟨a, B, zI, pins, st2, Hh2, cls, d, rfl, J, nb, (up.trans upz).trans uq, .inr (.inr (hst.symm ▸ fq)), na, os, ag, out⟩
        first | (exact wpAny_bind (wpAny_pure (wpAny_bind fin))) | (exact wpAny_bind fin)
      | @cons h w more ws2 c1 _ ih =>
        intro wish2
        have looks : PySem.W.Looks (model X.prog X.w) hp (typeOf (.ref a)) cls := fun A Q E s k q => wpAny_typeOf_ref (k _ _ atA) (by rw [zA.1]; exact q)
        have test : ∀ {x' : Str} {c' : Value} {np : Pos} {Q E : Value → Shared → Prop}, Names X x' c' → Q c' { z with heap := hp } → wpAny (model X.prog X.w) (X.A.mark (some (.ref a))) (eval (.Name x' np) X.env) Q E { z with heap := hp } := fun {x' c' np Q E} nm q => by
          rcases nm with ⟨gl, nodb, known | ⟨unk, boot, nn⟩⟩
          · exact ld_glob (X := X.suite a ((a, oA) :: (X.pn ++ pins))) S3 gl known q nodb
          · exact ld_blt (X := X.suite a ((a, oA) :: (X.pn ++ pins))) S3 gl unk boot q nn nodb
        cases c1 with
        | @plain x' c' np pp ff ss tt nm hsu =>
          obtain ⟨b, isb, yes, no⟩ := wish2
          refine wpAny_handleBy_cons (codeAny_handlers_test ?_) (fun q => by cases q)
          refine test nm ((PySem.W.exm_one (M := model X.prog X.w) J3.kIn looks isb).here ?_)
          cases b with
          | false => exact ih (no rfl)
          | true =>
            refine (codeAny_handlers_suite ?_)
            refine HandSPX.lands_againZ flz fun hq flq upq => ?_
            have J4 : Inv X pins st2 Hh2 { z with heap := hq } := J.landed nb flq.1 ((up.trans upz).trans upq) os ag
            obtain ⟨oB, vsB, atB, zB, dB⟩ := flq.there
            have S4 := J4.suite atB dB na n1 n2
            refine wpAny_mono ((hsu a oB cls d (X.pn ++ pins) zB ⟨_, dB⟩).run [] _ _ Hh2 _ S4 (yes rfl a na)) (fun fl r6 got => ?_) (fun _ _ w => False.elim w)
            cases fl with
            | next =>
              obtain ⟨σ6, H6, S6, w⟩ := got
              exact ⟨_, _, S6.unsuite okX, w⟩
            | brk =>
              obtain ⟨σ6, H6, S6, w⟩ := got
              exact ⟨_, _, S6.unsuite okX, w⟩
            | cont =>
              obtain ⟨σ6, H6, S6, w⟩ := got
              exact ⟨_, _, S6.unsuite okX, w⟩
            | ret u =>
              obtain ⟨v6, σ6, H6, S6, r6', w⟩ := got
              exact ⟨_, _, _, S6.unsuite okX, r6', w⟩
        | @named x' n c' i np pp ff ss tt nm at_i loc_n hsu =>
          obtain ⟨b, isb, yes, no⟩ := wish2
          refine wpAny_handleBy_cons (codeAny_handlers_test ?_) (fun q => by cases q)
          refine test nm ((PySem.W.exm_one (M := model X.prog X.w) J3.kIn looks isb).here ?_)
          cases b with
          | false => exact ih (no rfl)
          | true =>
            refine (codeAny_handlers_suite_as ?_)
            refine HandSPX.lands_againZ flz fun hq flq upq => ?_
            have J4 : Inv X pins st2 Hh2 { z with heap := hq } := J.landed nb flq.1 ((up.trans upz).trans upq) os ag
            obtain ⟨oB, vsB, atB, zB, dB⟩ := flq.there
            have S4 := J4.suite atB dB na n1 n2
            refine store_ok (X := X.suite a ((a, oB) :: (X.pn ++ pins))) (v := .ref a) S4 nd at_i (.inl loc_n) rfl (fun r5 S5 => ?_) (.inr loc_n)
            refine wpAny_mono ((hsu a oB cls d (X.pn ++ pins) zB ⟨_, dB⟩).run [] r5 _ Hh2 _ S5 (yes rfl a na)) (fun fl r6 got => ?_) (fun _ _ w => False.elim w)
            have close : ∀ {σ6 : L2.St} {H6 : Hp} {Q : Shared → Prop}, Inv (X.suite a ((a, oB) :: (X.pn ++ pins))) [] σ6 H6 r6 → (∀ r7, Inv X pins (σ6.set i none) H6 r7 → Q r7) →
                wpAny (model X.prog X.w) X.A (do bindName X.env n .none; unbindBehindTheSuite X.env n pp) (fun _ r7 => Q r7) X.xe r6 := fun {σ6 H6 Q} S6 hq => gone_ok (S6.unsuite okX) nd at_i loc_n hq
            cases fl with
            | next =>
              obtain ⟨σ6, H6, S6, w⟩ := got
              exact close S6 fun r7 J7 => ⟨_, _, J7, w⟩
            | brk =>
              obtain ⟨σ6, H6, S6, w⟩ := got
              exact close S6 fun r7 J7 => ⟨_, _, J7, w⟩
            | cont =>
              obtain ⟨σ6, H6, S6, w⟩ := got
              exact close S6 fun r7 J7 => ⟨_, _, J7, w⟩
            | ret u =>
              obtain ⟨v6, σ6, H6, S6, r6', w⟩ := got
              exact close S6 fun r7 J7 => ⟨_, _, _, J7, r6', w⟩
    exact onward cl wish
  · cases fl with
    | next =>
      obtain ⟨σ', H', J', q⟩ := left
      exact wpAny_execs_nil ⟨σ', H', J'.ofTry okX, q⟩
    | brk =>
      obtain ⟨σ', H', J', q⟩ := left
      exact ⟨σ', H', J'.ofTry okX, q⟩
    | cont =>
      obtain ⟨σ', H', J', q⟩ := left
      exact ⟨σ', H', J'.ofTry okX, q⟩
    | ret u =>
      obtain ⟨v, σ', H', J', r, q⟩ := left
      exact ⟨v, σ', H', J'.ofTry okX, r, q⟩
end

/-! methods that raise, methods called with keywords (own rules over the library's run_fnN and methodCall_KW) -/
def tMx (C : Addr) (m : Str) (sp : Sp) (dvs : List V) (E : L2.St → XK) (to : TE) (t : TA) : TE := fun σ H Q => to σ H fun x H1 => ∃ (a dx : Addr) (fs : List (Str × V)), x = .ref a ∧ H1 a = some (.ins C dx fs) ∧ fs.lookup m = none ∧ t σ H1 fun vs H2 => sp (.ref a :: vs ++ dvs) H2 Q (E σ)
theorem passLat {X : Cx} {σ : L2.St} : PassesAt (L2.CX X.prog X.w) X σ E0 := fun pn Hh st ev st' inv got => passL pn σ Hh st ev st' inv got
theorem pass0at {X : Cx} {σ : L2.St} : PassesAt CX0 X σ E0 := fun _ _ _ _ _ _ h => h.elim
def tMk (C : Addr) (m : Str) (n k : Nat) (sp : Sp) (gV : List V → List V → List V) (E : L2.St → XK) (to : TE) (t tk : TA) : TE := fun σ H Q => to σ H fun x H1 => ∃ (a dx : Addr) (fs : List (Str × V)), x = .ref a ∧ H1 a = some (.ins C dx fs) ∧ fs.lookup m = none ∧
  t σ H1 fun vs H2 => tk σ H2 fun zs H3 => vs.length = n ∧ zs.length = k ∧ sp (gV (.ref a :: vs) zs) H3 Q (E σ)
section
variable {X : Cx} {CX : CXT} {k n : Nat} {f C : Addr} {fd : FuncData} {ps ks : List Str} {sp : Sp} {E : L2.St → XK} {m : Str} {pos apos : Pos} {e o : Expr} {es : List Expr} {kws : List Keyword} {to : TE} {t tk : TA} {g : List Value → List Value → List Value} {gV : List V → List V → List V} {pl : Sem Bool} {dvs : List V} {ds : List Value}
theorem run_kw {pn : List (Addr × Obj)} {sh : L2.St} {Hh : Hp} {st : Shared} {Q : VK} {us ws : List Value} {vs zs : List V} (prom : FnOk X.prog X.w X.K X.mg X.base CX k f fd ps sp) (room : Room k X.A) (bnd : KBn X.K fd ps n ks g gV) (way : PassesAt CX X sh (E sh))
    (inv : Inv X pn sh Hh st) (rel : Vals vs us) (relz : Vals zs ws) (len1 : vs.length = n) (len2 : zs.length = ks.length) (hyp : sp (gV vs zs) Hh Q (E sh)) : wpAny (model X.prog X.w) X.A (call (.ref f) us (ks.zip ws)) (EP X pn sh Q) X.xe st := by
  have both := bnd.rel rel relz
  have bind := bnd.to st us ws inv.kIn (rel.length.symm.trans len1) (relz.length.symm.trans len2)
  refine wpAny_call (codeAny_mono (prom.run X.A X.stack st Hh ⟨us, ks.zip ws⟩ (g us ws) (gV vs zs) Q (E sh) room inv.env0 bind both hyp) fun out st' got => ?_)
  cases out with
  | error ev => exact way pn Hh st ev st' inv got
  | ok fl =>
    cases fl with
    | ret u => exact inv.after got
    | next => exact (False.elim got)
    | brk => exact (False.elim got)
    | cont => exact (False.elim got)
theorem pe_mx (obj : PE X o to) (cls : Cls X.K C) (mt : Meth X.K C m f) (prom : FnOk X.prog X.w X.K X.mg X.base CX k f fd ps sp) (room : Room k X.A) (bnd : Binds X.K fd ps ds) (dfl : Vals dvs ds) (way : ∀ σ, PassesAt CX X σ (E σ)) (args : PA X (e :: es) t)
    (st1 : starEach (e :: es) X.env = (false, eval e X.env) :: starEach es X.env := by rfl) (st2 : (backTo pos (starEach es X.env)).any (·.1) = false := by rfl)
    (form : eval (.Call (.Attribute o m apos) (e :: es) [] pos) X.env = (do let ov ← eval o X.env; standAt apos.atName; let (fn, fst) ← holding [ov] (getMethod ov m pl); callWith pos fn fst (backTo pos (starEach (e :: es) X.env)) (backToKw pos (keywordEach [] X.env))) := by rfl) :
    PE X (.Call (.Attribute o m apos) (e :: es) [] pos) (tMx C m sp dvs E to t) := by
  refine ⟨fun pn sh st Hh Q inv hyp => ?_⟩
  refine PySem.W.methodCall_KW (pl := pl) (thn (obj.run pn sh st Hh _ inv hyp) fun ov s1 ⟨x, H1, I1, rel, a, dx, fs, ex, ins, noat, more⟩ => ?_) form
  subst ex
  obtain rfl : ov = Value.ref a := rel
  refine getmeth_ok I1 ins cls mt noat ?_
  refine PySem.W.callWith_K (first := [.ref a]) (h₀ := X.base) I1.ok.mod.kin mt.kp (thn (args.run pos pn s1 st H1 _ I1 more) fun us s2 ⟨vs, H2, I2, rels, fin⟩ => ⟨I2.kIn, ?_⟩) st1 st2
  exact run_fnSD (us := Value.ref a :: us) (vs := V.ref a :: vs) prom room bnd dfl (way st) I2 (.cons rfl rels) fin
/-- o.m(e, .., k = v, ..) -/
theorem pe_mk (obj : PE X o to) (cls : Cls X.K C) (mt : Meth X.K C m f) (prom : FnOk X.prog X.w X.K X.mg X.base CX k f fd ps sp) (room : Room k X.A) (bnd : KBn X.K fd ps (n + 1) ks g gV) (way : ∀ σ, PassesAt CX X σ (E σ)) (args : PA X (e :: es) t) (kargs : PK X kws tk)
    (ka : (backToKw pos (keywordEach kws X.env)).all (·.1.isSome) = true := by rfl) (kn : (backToKw pos (keywordEach kws X.env)).filterMap (·.1) = ks := by rfl)
    (st1 : starEach (e :: es) X.env = (false, eval e X.env) :: starEach es X.env := by rfl)
    (st2 : ((backTo pos (starEach (e :: es) X.env)).any (·.1) || (backToKw pos (keywordEach kws X.env)).any (·.1.isNone)) = false := by rfl)
    (form : eval (.Call (.Attribute o m apos) (e :: es) kws pos) X.env = (do let ov ← eval o X.env; standAt apos.atName; let (fn, fst) ← holding [ov] (getMethod ov m pl); callWith pos fn fst (backTo pos (starEach (e :: es) X.env)) (backToKw pos (keywordEach kws X.env))) := by rfl) :
    PE X (.Call (.Attribute o m apos) (e :: es) kws pos) (tMk C m n ks.length sp gV E to t tk) := by
  refine ⟨fun pn sh st Hh Q inv hyp => ?_⟩
  refine PySem.W.methodCall_KW (pl := pl) (thn (obj.run pn sh st Hh _ inv hyp) fun ov s1 ⟨x, H1, I1, rel, a, dx, fs, ex, ins, noat, more⟩ => ?_) form
  subst ex
  obtain rfl : ov = Value.ref a := rel
  refine getmeth_ok I1 ins cls mt noat ?_
  refine PySem.W.callWith_KW (first := [.ref a]) (h₀ := X.base) I1.ok.mod.kin mt.kp ka (thn (args.run pos pn s1 st H1 _ I1 more) fun us s2 ⟨vs, H2, I2, rels, mid⟩ => ?_) st2 st1
  refine thn (kargs.run pos pn s2 st H2 _ I2 mid) fun ws s3 ⟨zs, H3, I3, relz, l1, l2, fin⟩ => ⟨I3.kIn, ?_⟩
  rw [kn]
  exact run_kw (us := Value.ref a :: us) (vs := V.ref a :: vs) prom room bnd (way st) I3 (.cons rfl rels) relz (congrArg (· + 1) l1) l2 fin
end

/-- a field of an instance, set and read -/
theorem setF {K : PySem.W.Frag} {C x dx : Addr} {fs : List (Str × V)} {f : Str} {y : V} {H : Hp} {W : Hp → Prop} (hx : H x = some (.ins C dx fs)) (c : Cls K C) (na : NoAttr K C f) (hl : Nat.ble (fs.length + 1) 1000 = true)
    (h : W (upd H x (.ins C dx (putF f y fs)))) : ∃ (a C : Addr) (dx : Addr) (fs : List (Str × V)), V.ref x = V.ref a ∧ H a = some (.ins C dx fs) ∧ Cls K C ∧ NoAttr K C f ∧ fs.length < 1000 ∧ W (upd H a (.ins C dx (putF f y fs))) :=
  ⟨x, C, dx, fs, rfl, hx, c, na, Nat.le_of_ble_eq_true hl, h⟩
theorem getF {K : PySem.W.Frag} {C x dx : Addr} {fs : List (Str × V)} {f : Str} {v : V} {H : Hp} {σ : L2.St} {Q : VK} (hx : H x = some (.ins C dx fs)) (c : Cls K C) (na : NoAttr K C f) (hl : fs.lookup f = some v) (h : Q v H) :
    tFld K (tC (.ref x)) f σ H Q := ⟨x, C, dx, fs, v, rfl, hx, c, na, hl, h⟩

/-- all but one object stay -/
def KeepX (x : Addr) (H H' : Hp) : Prop := ∀ z o, z ≠ x → H z = some o → H' z = some o
theorem KeepX.then {x : Addr} {H H1 H2 : Hp} (h : KeepX x H H1) (e : Same H1 H2) : KeepX x H H2 := fun z o nz hz => e z o (h z o nz hz)
theorem KeepX.set {x : Addr} {H H1 : Hp} {o : HO} (h : KeepX x H H1) : KeepX x H (upd H1 x o) := fun z o nz hz => by
  rw [upd_ne nz]
  exact h z o nz hz
theorem keepX_of {x : Addr} {H H' : Hp} (e : Same H H') : KeepX x H H' := fun z o _ hz => e z o hz
theorem KeepX.lst {x : Addr} {H H' : Hp} (k : KeepX x H H') {c d : Addr} {l : List (Str × V)} (hx : H x = some (.ins c d l)) {a : Addr} {xs : List V} (h : H a = some (.lst xs)) : H' a = some (.lst xs) := k a _ (fun z => by rw [z, hx] at h; cases h) h

/-! ### the mathematics of a tape, over lists of codes -/
def chkF (v : Nat) (l : List Nat) : Nat := l.foldl (fun v c => (v * 31 + c) % 9973) v
def dig4 (n : Nat) : List Nat := [48 + n / 1000, 48 + n / 100 % 10, 48 + n / 10 % 10, 48 + n % 10]
/-- a line: what stands ahead of the text, the text, the check -/
def lineP (p t : List Nat) : List Nat := p ++ t ++ ([32] ++ dig4 (chkF 7 (p ++ t)) ++ [10])
def goodT (t : List Nat) : Bool := !t.isEmpty && t.all (fun c => decide (32 ≤ c ∧ c ≤ 126))
theorem goodT_iff {t : List Nat} : goodT t = true ↔ t ≠ [] ∧ ∀ c, c ∈ t → 32 ≤ c ∧ c ≤ 126 := by
  unfold goodT
  rw [Bool.and_eq_true, List.all_eq_true]
  constructor
  · rintro ⟨h1, h2⟩
    refine ⟨fun e => by rw [e] at h1; simp at h1, fun c hc => of_decide_eq_true (h2 c hc)⟩
  · rintro ⟨h1, h2⟩
    refine ⟨?_, fun c hc => decide_eq_true (h2 c hc)⟩
    cases t with
    | nil => exact absurd rfl h1
    | cons a b => rfl
theorem chkF_lt {v : Nat} (h : v < 9973) : ∀ l : List Nat, chkF v l < 9973
  | [] => h
  | c :: l => chkF_lt (v := (v * 31 + c) % 9973) (Nat.mod_lt _ (by decide)) l
theorem chkF_inj : ∀ (l : List Nat) {v w : Nat}, v < 9973 → w < 9973 → chkF v l = chkF w l → v = w
  | [], _, _, _, _, h => h
  | c :: l, v, w, hv, hw, h => by
    have := chkF_inj l (Nat.mod_lt _ (by decide)) (Nat.mod_lt _ (by decide)) h
    omega
theorem chkF_append (v : Nat) (a b : List Nat) : chkF v (a ++ b) = chkF (chkF v a) b := List.foldl_append ..
/-- one sign changed: the check is another one -/
theorem chkF_one {v : Nat} {a b : List Nat} {c d : Nat} (hc : c < 9973) (hd : d < 9973) (h : chkF v (a ++ c :: b) = chkF v (a ++ d :: b)) : c = d := by
  rw [chkF_append, chkF_append] at h
  have := chkF_inj b (v := (chkF v a * 31 + c) % 9973) (w := (chkF v a * 31 + d) % 9973) (Nat.mod_lt _ (by decide)) (Nat.mod_lt _ (by decide)) h
  omega
theorem dig4_inj {n m : Nat} (h : dig4 n = dig4 m) : n = m := by
  unfold dig4 at h
  simp only [List.cons.injEq, and_true] at h
  omega
theorem dig4_no {n : Nat} : 10 ∉ dig4 n := by
  unfold dig4
  simp only [List.mem_cons, List.not_mem_nil, or_false]
  omega
theorem lineP_len (p t : List Nat) : (lineP p t).length = p.length + t.length + 6 := by
  unfold lineP dig4
  simp only [List.length_append, List.length_cons, List.length_nil]
/-- up to the newline -/
def rowOf : List Nat → List Nat
  | [] => []
  | c :: r => if c = 10 then [10] else if 10 ∈ r then c :: rowOf r else []
theorem rowOf_no : ∀ {l : List Nat}, 10 ∉ l → rowOf l = []
  | [], _ => rfl
  | c :: r, h => by
    unfold rowOf
    rw [if_neg fun e => h (by rw [e]; exact List.mem_cons_self), if_neg fun e => h (List.mem_cons_of_mem _ e)]
theorem rowOf_app : ∀ {a b : List Nat}, 10 ∉ a → rowOf (a ++ 10 :: b) = a ++ [10]
  | [], b, _ => by
    show rowOf (10 :: b) = [10]
    unfold rowOf
    rw [if_pos rfl]
  | c :: r, b, h => by
    show rowOf (c :: (r ++ 10 :: b)) = c :: (r ++ [10])
    unfold rowOf
    rw [if_neg fun e => h (by rw [e]; exact List.mem_cons_self), if_pos (by simp), rowOf_app fun e => h (List.mem_cons_of_mem _ e)]
theorem split10 : ∀ {l : List Nat}, 10 ∈ l → ∃ a b, l = a ++ 10 :: b ∧ 10 ∉ a
  | c :: r, h => by
    by_cases hc : c = 10
    · exact ⟨[], r, by rw [hc]; rfl, by simp⟩
    · obtain ⟨a, b, e, n⟩ := split10 (l := r) ((List.mem_cons.mp h).resolve_left fun e => hc e.symm)
      refine ⟨c :: a, b, by rw [e]; rfl, fun z => ?_⟩
      rcases List.mem_cons.mp z with z | z
      · exact hc z.symm
      · exact n z
def bodyOf (k : Nat) (row : List Nat) : List Nat := (row.drop k).take (row.length - 6 - k)
/-- the text that stands at the beginning, if a good line stands there -/
def textAt (p r : List Nat) : Option (List Nat) := if goodT (bodyOf p.length (rowOf r)) = true ∧ lineP p (bodyOf p.length (rowOf r)) = rowOf r then some (bodyOf p.length (rowOf r)) else none
theorem bodyOf_line (p t : List Nat) : bodyOf p.length (lineP p t) = t := by
  unfold bodyOf
  rw [lineP_len, show p.length + t.length + 6 - 6 - p.length = t.length by omega]
  unfold lineP
  rw [List.append_assoc, List.drop_left, List.take_left]
theorem no10_good {t : List Nat} (h : goodT t = true) : 10 ∉ t := fun z => by
  have := (goodT_iff.mp h).2 10 z
  omega
/-- a line without its newline -/
def bareP (p t : List Nat) : List Nat := p ++ t ++ ([32] ++ dig4 (chkF 7 (p ++ t)))
theorem lineP_bare (p t : List Nat) : lineP p t = bareP p t ++ [10] := by
  unfold lineP bareP
  simp only [List.append_assoc]
theorem bareP_no {p t : List Nat} (hp : 10 ∉ p) (ht : 10 ∉ t) : 10 ∉ bareP p t := by
  unfold bareP
  simp only [List.mem_append, not_or]
  exact ⟨⟨hp, ht⟩, by decide, dig4_no⟩
theorem rowOf_line {p t r : List Nat} (hp : 10 ∉ p) (ht : 10 ∉ t) : rowOf (lineP p t ++ r) = lineP p t := by
  rw [lineP_bare, List.append_assoc]
  exact rowOf_app (bareP_no hp ht)
theorem textAt_line {p t r : List Nat} (hp : 10 ∉ p) (ht : goodT t = true) : textAt p (lineP p t ++ r) = some t := by
  unfold textAt
  rw [rowOf_line hp (no10_good ht), bodyOf_line, if_pos ⟨ht, rfl⟩]
theorem textAt_no {p r : List Nat} (h : 10 ∉ r) : textAt p r = none := by
  unfold textAt
  rw [rowOf_no h, show bodyOf p.length [] = [] from by unfold bodyOf; simp]
  exact if_neg fun z => by have := (goodT_iff.mp z.1).1; exact this rfl
theorem textAt_some {p r t : List Nat} (h : textAt p r = some t) : goodT t = true ∧ rowOf r = lineP p t := by
  unfold textAt at h
  split at h
  · rename_i z
    cases h
    exact ⟨z.1, z.2.symm⟩
  · cases h
theorem rowOf_pre : ∀ r : List Nat, rowOf r = [] ∨ ∃ s, r = rowOf r ++ s
  | [] => .inl rfl
  | c :: r => by
    unfold rowOf
    by_cases hc : c = 10
    · rw [if_pos hc]
      exact .inr ⟨r, by rw [hc]; rfl⟩
    · rw [if_neg hc]
      by_cases hr : 10 ∈ r
      · rw [if_pos hr]
        rcases rowOf_pre r with h | ⟨s, h⟩
        · exfalso
          obtain ⟨a, b, e, n⟩ := split10 hr
          rw [e, rowOf_app n] at h
          simp at h
        · exact .inr ⟨s, by rw [List.cons_append, ← h]⟩
      · rw [if_neg hr]
        exact .inl rfl
theorem lineP_ne (p t : List Nat) : lineP p t ≠ [] := fun e => by
  have := congrArg List.length e
  rw [lineP_len] at this
  simp at this
/-- what is read from the line k on: the texts and how long they are -/
inductive Reads (p : Nat → List Nat) : List Nat → Nat → List (List Nat) → Nat → Prop where
  | stop {r k} (h : textAt (p k) r = none) : Reads p r k [] 0
  | step {r k t ts n} (h : textAt (p k) r = some t) (g : Reads p (r.drop (lineP (p k) t).length) (k + 1) ts n) : Reads p r k (t :: ts) ((lineP (p k) t).length + n)
def rowsP (p : Nat → List Nat) : Nat → List (List Nat) → List (List Nat)
  | _, [] => []
  | k, t :: ts => lineP (p k) t :: rowsP p (k + 1) ts
theorem rowsP_len (p : Nat → List Nat) : ∀ (ts : List (List Nat)) (k : Nat), (rowsP p k ts).length = ts.length
  | [], _ => rfl
  | t :: ts, k => by
    show (rowsP p (k + 1) ts).length + 1 = ts.length + 1
    rw [rowsP_len p ts (k + 1)]
theorem rowsP_at (p : Nat → List Nat) : ∀ (ts : List (List Nat)) (k i : Nat), (rowsP p k ts)[i]? = (ts[i]?).map (lineP (p (k + i)))
  | [], _, _ => by simp [rowsP]
  | t :: ts, k, 0 => rfl
  | t :: ts, k, i + 1 => by
    show (rowsP p (k + 1) ts)[i]? = (ts[i]?).map _
    rw [rowsP_at p ts (k + 1) i, show k + 1 + i = k + (i + 1) by omega]
/-- good lines are read -/
theorem reads_ahead {p : Nat → List Nat} (hp : ∀ k, 10 ∉ p k) {r : List Nat} {us : List (List Nat)} {n : Nat} : ∀ (ts : List (List Nat)) (k : Nat), (∀ t, t ∈ ts → goodT t = true) → Reads p r (k + ts.length) us n →
    Reads p ((rowsP p k ts).flatten ++ r) k (ts ++ us) ((rowsP p k ts).flatten.length + n)
  | [], k, _, h => by
    show Reads p ([] ++ r) k ([] ++ us) (0 + n)
    rw [List.nil_append, List.nil_append, Nat.zero_add]
    exact h
  | t :: ts, k, g, h => by
    have ih := reads_ahead hp ts (k + 1) (fun x hx => g x (List.mem_cons_of_mem _ hx)) (by rw [show k + 1 + ts.length = k + (t :: ts).length by rw [List.length_cons]; omega]; exact h)
    show Reads p ((lineP (p k) t ++ (rowsP p (k + 1) ts).flatten) ++ r) k (t :: (ts ++ us)) ((lineP (p k) t ++ (rowsP p (k + 1) ts).flatten).length + n)
    rw [List.length_append, Nat.add_assoc, List.append_assoc]
    refine .step (textAt_line (hp k) (g t List.mem_cons_self)) ?_
    rw [List.drop_left]
    exact ih
/-- how many of the first lines fit -/
def fit : Nat → List (List Nat) → Nat
  | _, [] => 0
  | cut, l :: ls => if l.length ≤ cut then fit (cut - l.length) ls + 1 else 0
theorem fit_le : ∀ (ls : List (List Nat)) (cut : Nat), fit cut ls ≤ ls.length
  | [], _ => Nat.le_refl _
  | l :: ls, cut => by
    unfold fit
    split
    · have := fit_le ls (cut - l.length)
      rw [List.length_cons]
      omega
    · omega
theorem fit_lt : ∀ (ls : List (List Nat)) (cut i : Nat) {l : List Nat}, i ≤ fit cut ls → ls[i]? = some l → (i < fit cut ls ↔ (ls.take i).flatten.length + l.length ≤ cut)
  | [], _, _, _, _, h => by simp at h
  | a :: ls, cut, 0, l, _, h => by
    have e : a = l := by simpa using h
    unfold fit
    rw [e, List.take_zero]
    split <;> simp <;> omega
  | a :: ls, cut, i + 1, l, hi, h => by
    have h2 : ls[i]? = some l := by simpa using h
    unfold fit at hi ⊢
    rw [List.take_succ_cons, List.flatten_cons, List.length_append]
    split
    · rename_i ha
      rw [if_pos ha] at hi
      have := fit_lt ls (cut - a.length) i (by omega) h2
      omega
    · rename_i ha
      rw [if_neg ha] at hi
      omega
/-- a tape that is cut -/
theorem reads_cut {p : Nat → List Nat} (hp : ∀ k, 10 ∉ p k) : ∀ (ts : List (List Nat)) (k cut : Nat), (∀ t, t ∈ ts → goodT t = true) →
    Reads p ((rowsP p k ts).flatten.take cut) k (ts.take (fit cut (rowsP p k ts))) ((rowsP p k ts).take (fit cut (rowsP p k ts))).flatten.length
  | [], k, cut, _ => by
    show Reads p (([] : List Nat).take cut) k [] 0
    rw [List.take_nil]
    exact .stop (textAt_no (by simp))
  | t :: ts, k, cut, g => by
    show Reads p ((lineP (p k) t ++ (rowsP p (k + 1) ts).flatten).take cut) k ((t :: ts).take (fit cut (lineP (p k) t :: rowsP p (k + 1) ts))) ((lineP (p k) t :: rowsP p (k + 1) ts).take (fit cut (lineP (p k) t :: rowsP p (k + 1) ts))).flatten.length
    unfold fit
    by_cases h : (lineP (p k) t).length ≤ cut
    · rw [if_pos h, List.take_succ_cons, List.take_succ_cons, List.flatten_cons, List.length_append, List.take_append, List.take_of_length_le h]
      refine .step (textAt_line (hp k) (g t List.mem_cons_self)) ?_
      rw [List.drop_left]
      exact reads_cut hp ts (k + 1) _ fun x hx => g x (List.mem_cons_of_mem _ hx)
    · rw [if_neg h]
      refine .stop (textAt_no fun z => ?_)
      rw [List.take_append_of_le_length (by omega), lineP_bare, List.take_append_of_le_length (by rw [lineP_bare, List.length_append, List.length_singleton] at h; omega)] at z
      exact bareP_no (hp k) (no10_good (g t List.mem_cons_self)) (List.mem_of_mem_take z)
/-- a line with one other sign is no good line -/
theorem textAt_changed {p t r a b : List Nat} {c d : Nat} (hp : 10 ∉ p) (hpl : ∀ x, x ∈ p → x < 9973) (ht : goodT t = true) (e : bareP p t = a ++ c :: b) (hne : d ≠ c) (hd : d ≠ 10) (hd2 : d < 9973) : textAt p (a ++ d :: b ++ 10 :: r) = none := by
  cases h : textAt p (a ++ d :: b ++ 10 :: r) with
  | none => rfl
  | some u =>
    exfalso
    obtain ⟨gu, hr⟩ := textAt_some h
    have hno := bareP_no hp (no10_good ht)
    rw [e] at hno
    have hno2 : 10 ∉ a ++ d :: b := by
      simp only [List.mem_append, List.mem_cons, not_or] at hno ⊢
      exact ⟨hno.1, fun z => hd z.symm, hno.2.2⟩
    rw [rowOf_app hno2, lineP_bare] at hr
    have h2 : bareP p u = a ++ d :: b := (List.append_cancel_right hr).symm
    have hl : u.length = t.length := by
      have h3 := congrArg List.length h2
      have h4 := congrArg List.length e
      unfold bareP at h3 h4
      simp only [List.length_append, List.length_cons] at h3 h4
      have e1 : (dig4 (chkF 7 (p ++ t))).length = 4 := rfl
      have e2 : (dig4 (chkF 7 (p ++ u))).length = 4 := rfl
      rw [e1] at h4
      rw [e2] at h3
      omega
    -- the numbered parts differ at one place, or are the same
    have hA : ∀ x : List Nat, x.length = t.length → ∀ y, bareP p x = y → p ++ x = y.take (p.length + t.length) ∧ dig4 (chkF 7 (p ++ x)) = y.drop (p.length + t.length + 1) := by
      intro x hx y hy
      rw [← hy]
      unfold bareP
      constructor
      · rw [List.take_append_of_le_length (by rw [List.length_append, hx]; exact Nat.le_refl _), List.take_of_length_le (by rw [List.length_append, hx]; exact Nat.le_refl _)]
      · rw [List.drop_append, List.drop_of_length_le (by rw [List.length_append, hx]; omega), List.nil_append, List.length_append, hx, show p.length + t.length + 1 - (p.length + t.length) = 1 by omega]
        rfl
    obtain ⟨t1, t2⟩ := hA t rfl _ e
    obtain ⟨u1, u2⟩ := hA u hl _ h2
    by_cases hpl2 : a.length < p.length + t.length
    · -- the changed sign stands in the numbered part: the check digits are the same
      have f : ∀ x : Nat, (a ++ x :: b).take (p.length + t.length) = a ++ x :: b.take (p.length + t.length - a.length - 1) := by
        intro x
        rw [List.take_append, List.take_of_length_le (by omega), show p.length + t.length - a.length = (p.length + t.length - a.length - 1) + 1 by omega, List.take_succ_cons, show p.length + t.length - a.length - 1 + 1 - 1 = p.length + t.length - a.length - 1 by omega]
      have g : ∀ x : Nat, (a ++ x :: b).drop (p.length + t.length + 1) = b.drop (p.length + t.length - a.length) := by
        intro x
        rw [List.drop_append, List.drop_of_length_le (by omega), List.nil_append, show p.length + t.length + 1 - a.length = (p.length + t.length - a.length) + 1 by omega, List.drop_succ_cons]
      rw [f] at t1 u1
      rw [g] at t2 u2
      have hc := dig4_inj (t2.trans u2.symm)
      rw [t1, u1] at hc
      have hcl : c < 9973 := by
        have : c ∈ p ++ t := by rw [t1]; simp
        rcases List.mem_append.mp this with z | z
        · exact hpl c z
        · have := (goodT_iff.mp ht).2 c z; omega
      exact hne (chkF_one hcl hd2 hc).symm
    · -- it stands behind: the texts are the same, so the lines are
      have f : ∀ x : Nat, (a ++ x :: b).take (p.length + t.length) = a.take (p.length + t.length) := fun x => List.take_append_of_le_length (by omega)
      rw [f] at t1 u1
      have : t = u := List.append_cancel_left (t1.trans u1.symm)
      rw [← this, e] at h2
      have := List.append_cancel_left h2
      injection this with z _
      exact hne z.symm

/-- how items of one kind are told as data; equal data are equal items -/
structure LayD {α : Type} [DecidableEq α] (L : α → PyData) (k : Nat) (G : α → Prop) : Prop where
  lay : ∀ x, G x → (L x).canLay0 = true
  dep : ∀ x, (L x).depth ≤ k
  eqv : ∀ x y, PyData.eqv (L x) (L y) = decide (x = y)
theorem LayD.shaped {α : Type} [DecidableEq α] {L : α → PyData} {k : Nat} {G : α → Prop} (h : LayD L k G) (hk : k ≤ 64) {x : α} (g : G x) : SeqAt.shaped (L x) = true := by
  have h1 := h.lay x g
  have h2 := h.dep x
  unfold SeqAt.shaped
  rw [h1, Bool.true_and]
  exact decide_eq_true (by omega)
theorem layD_int : LayD PyData.int 0 (fun _ => True) := ⟨fun _ _ => rfl, fun _ => Nat.le_refl _, fun x y => by simp only [PyData.eqv]; exact (Bool.beq_eq_decide_eq x y)⟩
theorem layD_str : LayD PyData.str 0 (fun x => PyData.strOk x = true) := ⟨fun _ h => by simp only [PyData.canLay0]; exact h, fun _ => Nat.le_refl _, fun x y => by simp only [PyData.eqv]; exact (Bool.beq_eq_decide_eq x y)⟩
theorem decide_and2 {p q r : Prop} [Decidable p] [Decidable q] [Decidable r] (h : r ↔ p ∧ q) : (decide p && decide q) = decide r := by
  by_cases hp : p <;> by_cases hq : q <;> simp [h, hp, hq]
theorem layD_all {α : Type} [DecidableEq α] {L : α → PyData} {k : Nat} {G : α → Prop} (h : LayD L k G) : (∀ xs : List α, (∀ x, x ∈ xs → G x) → PyData.canLayAll0 (xs.map L) = true) ∧ (∀ xs : List α, PyData.depthAll (xs.map L) ≤ k) ∧ ∀ xs ys : List α, PyData.eqvAll (xs.map L) (ys.map L) = decide (xs = ys) := by
  refine ⟨fun xs => ?_, fun xs => ?_, fun xs => ?_⟩
  · induction xs with
    | nil => exact fun _ => rfl
    | cons x xs ih =>
      intro g
      rw [List.map_cons]
      simp only [PyData.canLayAll0, ih fun y hy => g y (List.mem_cons_of_mem _ hy), h.lay x (g x List.mem_cons_self)]
      rfl
  · induction xs with
    | nil => exact Nat.zero_le _
    | cons x xs ih => rw [List.map_cons]; simp only [PyData.depthAll]; exact Nat.max_le.mpr ⟨h.dep x, ih⟩
  · induction xs with
    | nil =>
      intro ys
      cases ys with
      | nil => rfl
      | cons y ys => simp [PyData.eqvAll]
    | cons x xs ih =>
      intro ys
      cases ys with
      | nil => simp [PyData.eqvAll]
      | cons y ys =>
        rw [List.map_cons, List.map_cons]
        simp only [PyData.eqvAll]
        rw [ih ys, h.eqv x y]
        exact decide_and2 (by rw [List.cons.injEq])
theorem LayD.list {α : Type} [DecidableEq α] {L : α → PyData} {k : Nat} {G : α → Prop} (h : LayD L k G) : LayD (fun xs : List α => PyData.list (xs.map L)) (k + 1) (fun xs => ∀ x, x ∈ xs → G x) := by
  obtain ⟨h1, h2, h3⟩ := layD_all h
  refine ⟨fun xs g => ?_, fun xs => ?_, fun xs ys => ?_⟩
  · simp only [PyData.canLay0]; exact h1 xs g
  · simp only [PyData.depth]; exact Nat.succ_le_succ (h2 xs)
  · simp only [PyData.eqv]; exact h3 xs ys
theorem LayD.tup2 {α β : Type} [DecidableEq α] [DecidableEq β] {L : α → PyData} {M : β → PyData} {k : Nat} {G : α → Prop} {G2 : β → Prop} (h : LayD L k G) (g : LayD M k G2) : LayD (fun x : α × β => PyData.tuple [L x.1, M x.2]) (k + 1) (fun x => G x.1 ∧ G2 x.2) := by
  refine ⟨fun x a => ?_, fun x => ?_, fun x y => ?_⟩
  · simp only [PyData.canLay0, PyData.canLayAll0, h.lay _ a.1, g.lay _ a.2, Bool.and_true]
  · simp only [PyData.depth, PyData.depthAll]
    have := h.dep x.1
    have := g.dep x.2
    omega
  · simp only [PyData.eqv, PyData.eqvAll, h.eqv, g.eqv, Bool.and_true]
    exact decide_and2 (by rw [Prod.ext_iff])
theorem LayD.tup3 {α β γ : Type} [DecidableEq α] [DecidableEq β] [DecidableEq γ] {L : α → PyData} {M : β → PyData} {N : γ → PyData} {k : Nat} {G : α → Prop} {G2 : β → Prop} {G3 : γ → Prop} (h : LayD L k G) (g : LayD M k G2) (e : LayD N k G3) : LayD (fun x : α × β × γ => PyData.tuple [L x.1, M x.2.1, N x.2.2]) (k + 1) (fun x => G x.1 ∧ G2 x.2.1 ∧ G3 x.2.2) := by
  refine ⟨fun x a => ?_, fun x => ?_, fun x y => ?_⟩
  · simp only [PyData.canLay0, PyData.canLayAll0, h.lay _ a.1, g.lay _ a.2.1, e.lay _ a.2.2, Bool.and_true]
  · simp only [PyData.depth, PyData.depthAll]
    have := h.dep x.1
    have := g.dep x.2.1
    have := e.dep x.2.2
    omega
  · simp only [PyData.eqv, PyData.eqvAll, h.eqv, g.eqv, e.eqv, Bool.and_true]
    rw [decide_and2 (r := x.2 = y.2) (by rw [Prod.ext_iff])]
    exact decide_and2 (by rw [Prod.ext_iff])
theorem LayD.tup4 {α β γ δ : Type} [DecidableEq α] [DecidableEq β] [DecidableEq γ] [DecidableEq δ] {L : α → PyData} {M : β → PyData} {N : γ → PyData} {O : δ → PyData} {k : Nat} {G : α → Prop} {G2 : β → Prop} {G3 : γ → Prop} {G4 : δ → Prop} (h : LayD L k G) (g : LayD M k G2) (e : LayD N k G3) (d : LayD O k G4) : LayD (fun x : α × β × γ × δ => PyData.tuple [L x.1, M x.2.1, N x.2.2.1, O x.2.2.2]) (k + 1) (fun x => G x.1 ∧ G2 x.2.1 ∧ G3 x.2.2.1 ∧ G4 x.2.2.2) := by
  refine ⟨fun x a => ?_, fun x => ?_, fun x y => ?_⟩
  · simp only [PyData.canLay0, PyData.canLayAll0, h.lay _ a.1, g.lay _ a.2.1, e.lay _ a.2.2.1, d.lay _ a.2.2.2, Bool.and_true]
  · simp only [PyData.depth, PyData.depthAll]
    have := h.dep x.1
    have := g.dep x.2.1
    have := e.dep x.2.2.1
    have := d.dep x.2.2.2
    omega
  · simp only [PyData.eqv, PyData.eqvAll, h.eqv, g.eqv, e.eqv, d.eqv, Bool.and_true]
    rw [decide_and2 (r := x.2.2 = y.2.2) (by rw [Prod.ext_iff]), decide_and2 (r := x.2 = y.2) (by rw [Prod.ext_iff])]
    exact decide_and2 (by rw [Prod.ext_iff])
theorem eqL {α : Type} [DecidableEq α] {L : α → PyData} {k : Nat} {G : α → Prop} (h : LayD L k G) (hk : k ≤ 64) {K : PySem.W.Frag} {H : Hp} {x y : V} {a b : α} {Q : VK} (ga : G a) (gb : G b) (h1 : Dp K H x (L a)) (h2 : Dp K H y (L b)) (q : Q (.bl (decide (a = b))) H) : rEqD K x y H Q :=
  ⟨_, _, h1, h2, h.shaped hk ga, h.shaped hk gb, by rw [h.eqv]; exact q⟩
theorem neL {α : Type} [DecidableEq α] {L : α → PyData} {k : Nat} {G : α → Prop} (h : LayD L k G) (hk : k ≤ 64) {K : PySem.W.Frag} {H : Hp} {x y : V} {a b : α} {Q : VK} (ga : G a) (gb : G b) (h1 : Dp K H x (L a)) (h2 : Dp K H y (L b)) (q : Q (.bl (!decide (a = b))) H) : rNeD K x y H Q :=
  ⟨_, _, h1, h2, h.shaped hk ga, h.shaped hk gb, by rw [h.eqv]; exact q⟩
theorem dpAll_refs {α : Type} {L : α → PyData} {K : PySem.W.Frag} {H : Hp} : ∀ {ps : List Addr} {xs : List α}, ps.length = xs.length → (∀ (i : Nat) (p : Addr) (x : α), ps[i]? = some p → xs[i]? = some x → Dp K H (.ref p) (L x)) → DpAll K H (ps.map V.ref) (xs.map L)
  | [], [], _, _ => .nil
  | [], _ :: _, h, _ => by cases h
  | _ :: _, [], h, _ => by cases h
  | p :: ps, x :: xs, h, e => .cons (e 0 p x rfl rfl) (dpAll_refs (Nat.succ.inj h) fun i p' x' h1 h2 => e (i + 1) p' x' h1 h2)

/-! ### texts by their codes -/
def strL (l : List Nat) : Str := ⟨l.toArray⟩
theorem strL_tl (x : Str) : strL (TL.tl x) = x := TL.mk_tl x
theorem tl_strL (l : List Nat) : TL.tl (strL l) = l := TL.tl_mk l
theorem strL_len (l : List Nat) : (strL l).length = l.length := by rw [TL.len_tl, tl_strL]
theorem strL_inj {a b : List Nat} (h : strL a = strL b) : a = b := by rw [← tl_strL a, h, tl_strL]
theorem natAbs_log {c : Int} {k : Nat} (h : c.natAbs < 2 ^ k) (hk : k ≤ 1920) (h0 : 0 < k) : c.natAbs.log2 < 1920 := by
  by_cases z : c.natAbs = 0
  · rw [z]
    decide
  · have := (Nat.log2_lt z).mpr h
    omega
theorem cut_nat {z : Str} {i j : Nat} : TL.tl (cutS z (some (i : Int)) (some (j : Int))) = ((TL.tl z).drop i).take (j - i) := by
  unfold cutS
  rw [TL.tl_mk, HT.sIx_nat, HT.sIx_nat, TL.len_tl]
  show (((TL.tl z).drop (min i (TL.tl z).length)).take (min j (TL.tl z).length - min i (TL.tl z).length)) = _
  rcases Nat.le_total i (TL.tl z).length with h | h
  · rw [Nat.min_eq_left h]
    rcases Nat.le_total j (TL.tl z).length with h2 | h2
    · rw [Nat.min_eq_left h2]
    · rw [Nat.min_eq_right h2, List.take_of_length_le (by rw [List.length_drop]; exact Nat.le_refl _), List.take_of_length_le (by rw [List.length_drop]; omega)]
  · rw [Nat.min_eq_right h, List.drop_of_length_le (Nat.le_refl _), List.drop_of_length_le h, List.take_nil, List.take_nil]
theorem cut_end {z : Str} {i : Nat} : TL.tl (cutS z none (some (i : Int))) = (TL.tl z).take i := by
  unfold cutS
  rw [TL.tl_mk, HT.sIx_nat, HT.sIx_none, TL.len_tl]
  show (((TL.tl z).drop 0).take (min i (TL.tl z).length - 0)) = _
  rw [List.drop_zero, Nat.sub_zero]
  rcases Nat.le_total i (TL.tl z).length with h | h
  · rw [Nat.min_eq_left h]
  · rw [Nat.min_eq_right h, List.take_length, List.take_of_length_le h]
theorem cut_begin {z : Str} {i : Nat} : TL.tl (cutS z (some (i : Int)) none) = (TL.tl z).drop i := by
  unfold cutS
  rw [TL.tl_mk, HT.sIx_nat, HT.sIx_none, TL.len_tl]
  show (((TL.tl z).drop (min i (TL.tl z).length)).take ((TL.tl z).length - min i (TL.tl z).length)) = _
  rcases Nat.le_total i (TL.tl z).length with h | h
  · rw [Nat.min_eq_left h, List.take_of_length_le (by rw [List.length_drop]; exact Nat.le_refl _)]
  · rw [Nat.min_eq_right h, List.drop_of_length_le (Nat.le_refl _), List.drop_of_length_le h, List.take_nil]
theorem cut_body {z : Str} {i : Nat} : TL.tl (cutS z (some (i : Int)) (some (-6))) = bodyOf i (TL.tl z) := by
  unfold cutS bodyOf
  rw [TL.tl_mk, HT.sIx_nat, TL.len_tl]
  show (((TL.tl z).drop (min i (TL.tl z).length)).take ((if (-6 : Int) < 0 then ((-6 : Int) + ((TL.tl z).length : Int)).toNat else min (-6 : Int).toNat (TL.tl z).length) - min i (TL.tl z).length)) = _
  rw [if_pos (by decide), show ((-6 : Int) + ((TL.tl z).length : Int)).toNat = (TL.tl z).length - 6 by omega]
  rcases Nat.le_total i (TL.tl z).length with h | h
  · rw [Nat.min_eq_left h]
  · rw [Nat.min_eq_right h, List.drop_of_length_le (Nat.le_refl _), List.drop_of_length_le h, List.take_nil, List.take_nil]
theorem len_le' {n m : Nat} (h : n ≤ m) (h2 : Nat.ble m 1000 = true) : n ≤ sizeLine := Nat.le_trans h (len_le h2)
/-- the newline from the place s on -/
theorem find_row (x : Str) (s : Nat) (hs : s ≤ x.length) : (Txt.find3 x "\n" (s : Int) = -1 ∧ rowOf ((TL.tl x).drop s) = []) ∨
    (∃ m : Nat, (rowOf ((TL.tl x).drop s)).length = m + 1 ∧ Txt.find3 x "\n" (s : Int) = ((s + m : Nat) : Int) ∧ rowOf ((TL.tl x).drop s) = ((TL.tl x).drop s).take (m + 1) ∧ s + m < x.length) := by
  have hf : PySem.fromIndex x.length (s : Int) = s := by
    unfold PySem.fromIndex
    rw [if_neg (by omega)]
    rfl
  have hlen := TL.len_tl x
  have gd : ∀ v, v < x.length → x.cps.getD v 0 = ((TL.tl x).drop s).getD (v - s) 0 ∨ v < s := by
    intro v hv
    by_cases h : v < s
    · exact .inr h
    · refine .inl ?_
      rw [List.getD_eq_getElem?_getD, List.getElem?_drop, show s + (v - s) = v by omega]
      have h2 : v < (TL.tl x).length := by omega
      rw [List.getElem?_eq_getElem h2]
      exact PySem.StrLaws.getD_of_getElem? (List.getElem?_eq_getElem h2)
  rcases PySem.StrLaws.find3_spec x 10 (s : Int) with ⟨h0, hn⟩ | ⟨k, hk, h1, h2, h3, h4⟩
  · left
    refine ⟨h0, rowOf_no fun z => ?_⟩
    obtain ⟨i, hi⟩ := List.mem_iff_getElem?.mp z
    have hil := (List.getElem?_eq_some_iff.mp hi).1
    rw [List.length_drop] at hil
    rw [hf] at hn
    refine hn (s + i) (by omega) (by omega) ?_
    rcases gd (s + i) (by omega) with e | e
    · rw [e, List.getD_eq_getElem?_getD, show s + i - s = i by omega, hi]
      rfl
    · omega
  · right
    rw [hf] at h1 h4
    have hdl : ((TL.tl x).drop s).length = x.length - s := by rw [List.length_drop, hlen]
    have hat : ((TL.tl x).drop s)[k - s]? = some 10 := by
      rcases gd k h2 with e | e
      · rw [h3, List.getD_eq_getElem?_getD] at e
        have hl : k - s < ((TL.tl x).drop s).length := by omega
        rw [List.getElem?_eq_getElem hl] at e ⊢
        rw [e]
        rfl
      · omega
    have hno : 10 ∉ ((TL.tl x).drop s).take (k - s) := fun z => by
      obtain ⟨i, hi⟩ := List.mem_iff_getElem?.mp z
      have hil := (List.getElem?_eq_some_iff.mp hi).1
      rw [List.length_take] at hil
      rw [List.getElem?_take_of_lt (by omega)] at hi
      refine h4 (s + i) (by omega) (by omega) ?_
      rcases gd (s + i) (by omega) with e | e
      · rw [e, List.getD_eq_getElem?_getD, show s + i - s = i by omega, hi]
        rfl
      · omega
    have hsp : (TL.tl x).drop s = ((TL.tl x).drop s).take (k - s) ++ 10 :: ((TL.tl x).drop s).drop (k - s + 1) := by
      have e1 := List.take_append_drop (k - s) ((TL.tl x).drop s)
      have e2 := List.drop_eq_getElem_cons (l := (TL.tl x).drop s) (i := k - s) (by omega)
      have e3 : ((TL.tl x).drop s)[k - s]'(by omega) = 10 := by
        rw [List.getElem?_eq_getElem (by omega)] at hat
        exact Option.some.inj hat
      rw [e3] at e2
      rw [← e2]
      exact e1.symm
    have hrow : rowOf ((TL.tl x).drop s) = ((TL.tl x).drop s).take (k - s) ++ [10] := by
      rw [hsp]
      have h5 : ((((TL.tl x).drop s).take (k - s) ++ 10 :: ((TL.tl x).drop s).drop (k - s + 1)).take (k - s)) = ((TL.tl x).drop s).take (k - s) := by
        rw [← hsp]
      rw [h5]
      exact rowOf_app hno
    refine ⟨k - s, ?_, ?_, ?_, by omega⟩
    · rw [hrow, List.length_append, List.length_take, List.length_singleton]
      omega
    · have : (Txt.find3 x "\n" (s : Int)) = (k : Int) := hk
      rw [this]
      omega
    · rw [hrow, take_succ hat]

/-! ### {x:04d} -/
theorem pad4 {n : Nat} (h : n < 10000) : List.replicate (4 - (TL.numL n).length) 48 ++ TL.numL n = dig4 n := by
  unfold dig4
  by_cases h1 : n < 10
  · rw [TL.numL_lt h1, show n / 1000 = 0 by omega, show n / 100 % 10 = 0 by omega, show n / 10 % 10 = 0 by omega, show n % 10 = n by omega] <;> rfl
  · rw [TL.numL_step (by omega)]
    by_cases h2 : n / 10 < 10
    · rw [TL.numL_lt h2, show n / 1000 = 0 by omega, show n / 100 % 10 = 0 by omega, show n / 10 % 10 = n / 10 by omega] <;> rfl
    · rw [TL.numL_step (n := n / 10) (by omega)]
      by_cases h3 : n / 10 / 10 < 10
      · rw [TL.numL_lt h3, show n / 1000 = 0 by omega, show n / 100 % 10 = n / 10 / 10 by omega] <;> rfl
      · rw [TL.numL_step (n := n / 10 / 10) (by omega), TL.numL_lt (n := n / 10 / 10 / 10) (by omega), show n / 1000 = n / 10 / 10 / 10 by omega, show n / 100 % 10 = n / 10 / 10 % 10 by omega] <;> rfl
theorem numL_4 {n : Nat} (h : n < 10000) : (TL.numL n).length ≤ 4 ∧ TL.numL n ≠ [] := ⟨TL.numL_len (by decide) (by omega), TL.numL_ne n⟩
section
open Builtin Builtin.Str Builtin.Int Builtin.Float
set_option maxHeartbeats 0 in
theorem fig4 {a : Int} (h0 : 0 ≤ a) (h1 : a < 9973) : ∀ {prog : Program} {w : World} {A : Around} {E : Value → Shared → Prop} {s : Shared} {t : Tok} {Q : Value → Shared → Prop},
    (∀ t' k, Q (.str ⟨(dig4 a.toNat).toArray⟩ t') { s with toks := k }) → wpAny (model prog w) A (formatField (.int a t) "04d") Q E s := by
  intro prog w A E s t Q h
  obtain ⟨n, rfl⟩ := Int.eq_ofNat_of_zero_le h0
  have hn : n < 9973 := by omega
  refine PySem.W.KXf.field_int (y := ⟨(dig4 n).toArray⟩) (spec' := "04d") rfl (by decide +kernel) (by decide +kernel) ?_ h
  intro _
  apply PySem.W.KPc.meets_of
  intro _ _ _ _ _ _ _
  unfold Builtin.«int.__format__»
  refine wpAny_bind (wpAny_of_eq (a := (_, _)) rfl ?_)
  refine wpAny_bind (wpAny_of_eq (a := _) rfl ?_)
  kxf_if
  refine wpAny_bind (wpAny_typeNameOf (T := "str") (typeIs_str _ _ _) (by decide) fun _ => ?_)
  refine wpAny_bind (wpAny_of_eq (a := some _) rfl ?_)
  kxf_if
  kxf_if
  refine wpAny_bind (wpAny_typeNameOfCut_int ?_)
  (repeat kxf_if)
  refine wpAny_bind (wpAny_of_eq (PySem.overDigitLimit_small (natAbs_log (k := 14) (by omega) (by decide) (by decide))) ?_)
  (repeat kxf_if)
  refine (fun e => PySem.W.KXf.ret_text (T := ⟨(dig4 n).toArray⟩) e (by rw [e]; show 4 ≤ sizeLine; decide) (by assumption)) ?_
  rw [show decide ((n : Int) < 0) = false from decide_eq_false (by omega)]
  rw [← pad4 (show n < 10000 by omega)]
  generalize hds : List.map _ (Nat.toDigits _ _) = ds
  have hds2 : ds = TL.numL n := hds.symm.trans (by rfl)
  obtain ⟨hl, hne⟩ := numL_4 (show n < 10000 by omega)
  rw [← hds2] at hl hne ⊢
  clear hds hds2
  rcases ds with _ | ⟨a, _ | ⟨b, _ | ⟨c, _ | ⟨d, _ | ⟨e, r⟩⟩⟩⟩⟩
  · exact absurd rfl hne
  · rfl
  · rfl
  · rfl
  · rfl
  · simp at hl
end
section
variable {X : Cx}
/-- {x:04d}, x from 0 to 9972 -/
def tFmt4 (te : TE) : TE := fun σ H Q => te σ H fun x H1 => ∃ i : Int, x = .int i ∧ 0 ≤ i ∧ i < 9973 ∧ Q (.str ⟨(dig4 i.toNat).toArray⟩) H1
theorem pe_fmt04 {e : Expr} {te : TE} {j : Nat} {p1 p2 pos : Pos} (he : PE X e te) : PE X (.FormattedValue e (-1) (some (.JoinedStr [.Constant (.str "04d") j p1] p2)) pos) (tFmt4 te) := by
  refine ⟨fun pins s σ H Q I h => ?_⟩
  refine wpAny_FormattedValue_spec (thn (he.run pins s σ H _ I h) fun v s1 hv => ?_)
  obtain ⟨x, H1, I1, r1, i, rfl, h0, h1, q⟩ := hv
  obtain ⟨t, rfl⟩ := r1
  refine thn ((pe_joined1 pe_str : PE X (.JoinedStr [.Constant (.str "04d") j p1] p2) (tC (.str "04d"))).run pins s1 σ H1 (fun v H2 => v = .str "04d" ∧ H2 = H1) I1 ⟨rfl, rfl⟩) fun v2 s2 hv2 => ?_
  obtain ⟨x2, H2, I2, r2, rfl, rfl⟩ := hv2
  obtain ⟨t2, rfl⟩ := r2
  exact ⟨_, t2, rfl, fig4 h0 h1 fun t' k => ⟨.str _, _, I2.tok k, ⟨t', rfl⟩, q⟩⟩
end

section
variable {P : Program} {w : World} {K : PySem.W.Frag} {mg : Str → Option Value} {base : Heap}
/-- what stands ahead of the text in the line n -/
def preL (n : Nat) : List Nat := TL.numL n ++ [32]
theorem preL_no (n : Nat) : 10 ∉ preL n := by
  unfold preL
  rw [List.mem_append, not_or]
  exact ⟨TL.numL_free (by decide), by decide⟩
theorem preL_small (n : Nat) : ∀ x, x ∈ preL n → x < 9973 := by
  intro x hx
  unfold preL at hx
  rcases List.mem_append.mp hx with h | h
  · have := TL.numL_digits n x h
    omega
  · rw [List.mem_singleton.mp h]
    decide
theorem numL_3 {n : Nat} (h : n < 1000) : (TL.numL n).length ≤ 3 := TL.numL_len (by decide) (by omega)
theorem at_code {x : Str} {i c : Nat} (hc : x.cps[i]? = some c) : (TL.tl x)[i]? = some c := by
  rw [show TL.tl x = x.cps.toList from rfl, Array.getElem?_toList]
  exact hc
def sp_check_of (K : PySem.W.Frag) : Sp := fun vs H Q _ => ∃ x : Str, vs = [.str x] ∧ x.length ≤ 1000 ∧ Q (.str (strL (dig4 (chkF 7 (TL.tl x))))) H
set_option maxHeartbeats 0 in
theorem ok_check_of (T : Txt K mg) : FnOk P w K mg base CX0 1 T.f_check_of T.d_check_of ["text"] (sp_check_of K) := by
  refine T.F_check_of.ok sc_check_of (fun vs H Q E h => ?_) (fun cdv A outer s H vs Q E hr h => ?_)
  · obtain ⟨x, rfl, _⟩ := h
    rfl
  · obtain ⟨x, rfl, hx, q⟩ := h
    refine ⟨_, (pss_cons (ps_set (i := 1) sc_check_of.nd rfl (Or.inl rfl) (pe_glob (v := .int 7) rfl T.m_FIRST_VALUE ⟨_, rfl⟩))
    (pss_cons (ps_for PassesOwn.never rfl (pi_str (pv 0)) (pg_name (i := 2) sc_check_of.nd rfl (Or.inl rfl))
      (pss_one (ps_set (i := 1) sc_check_of.nd rfl (Or.inl rfl) (pe_op op_mod (pe_op op_add (pe_op op_mul (pv 1) (pe_glob (v := .int 31) rfl T.m_FACTOR ⟨_, rfl⟩)) (pe_callB call_ord (by rfl) T.z_ord (by decide +kernel) (pa_cons (pv 2) pa_nil))) (pe_glob (v := .int 9973) rfl T.m_MODULUS ⟨_, rfl⟩)))))
    (pss_one (ps_ret (pe_joined1 (pe_fmt04 (pv 1))))))), ?_⟩
    walk_at "st"
    refine for_it (walk_str (z := x)) (fun i σ H2 => ∃ v : Option V, σ = [some (.str x), some (.int ((chkF 7 ((TL.tl x).take i) : Nat) : Int)), v] ∧ H2 = H) ⟨none, rfl, rfl⟩ (fun _ _ _ _ _ => trivial) ?_ ?_
    · rintro i v σ H2 H3 hi ⟨v0, rfl, rfl⟩ ⟨rfl, c, hc, rfl⟩
      have hc2 := at_code hc
      walk_at "st"
      have e : (((chkF 7 ((TL.tl x).take i) : Nat) : Int) * 31 + (((⟨#[c]⟩ : Str).cps.getD 0 0 : Nat) : Int)) % 9973 = ((chkF 7 ((TL.tl x).take (i + 1)) : Nat) : Int) := by
        rw [take_succ hc2, chkF_append]
        show _ = (((chkF 7 ((TL.tl x).take i) * 31 + c) % 9973 : Nat) : Int)
        show (((chkF 7 ((TL.tl x).take i) : Nat) : Int) * 31 + ((c : Nat) : Int)) % 9973 = _
        omega
      refine ⟨some (.str ⟨#[c]⟩), ?_, rfl⟩
      rw [← e]
      rfl
    · rintro σ H2 ⟨v0, rfl, rfl⟩
      rw [List.take_of_length_le (by simp)]
      have hb := chkF_lt (v := 7) (by decide) (TL.tl x)
      walk_at "st"
      rw [Int.toNat_natCast]
      exact q
theorem code_le1 (a b : Nat) : (!decide ([a] < [b])) = decide (b ≤ a) := by
  by_cases h : a < b
  · have h2 : [a] < [b] := List.Lex.rel h
    rw [decide_eq_true h2, decide_eq_false (by omega)]
    rfl
  · have : ¬ [a] < [b] := fun z => by
      cases z with
      | rel h2 => exact h h2
      | cons h2 => cases h2
    rw [decide_eq_false this, decide_eq_true (by omega)]
    rfl
def sp_is_text (K : PySem.W.Frag) : Sp := fun vs H Q _ => ∃ x : Str, vs = [.str x] ∧ x.length ≤ 1000 ∧ ∀ H', Same H H' → Q (.bl (goodT (TL.tl x))) H'
set_option maxHeartbeats 0 in
theorem ok_is_text (T : Txt K mg) : FnOk P w K mg base CX0 1 T.f_is_text T.d_is_text ["text"] (sp_is_text K) := by
  refine T.F_is_text.ok sc_is_text (fun vs H Q E h => ?_) (fun cdv A outer s H vs Q E hr h => ?_)
  · obtain ⟨x, rfl, _⟩ := h
    rfl
  · obtain ⟨x, rfl, hx, q⟩ := h
    refine ⟨_, (pss_one (ps_ret (pe_and (pe_cmpR op_ne (pv 0) pe_str (nomark _)) (pe_one (pe_callB (cr_all rfl) (by rfl) T.z_all (by decide +kernel) (pa_cons (pe_lc (own := [("sign", 1)]) (g := gName 1) (tt := tYes) rfl sc_is_text.nd (pi_str (pv 0)) (blkOk_by (own := [("sign", 1)]) (N := N_is_text) (sc := defScope s_is_text) (by decide +kernel)) (fun _ _ _ _ _ => (pg_name (i := 1) sc_is_text.nd rfl (Or.inl rfl))) (fun _ _ _ _ _ => pts_nil) (fun _ _ _ _ _ => (pe_chain op_le_str op_le_str pe_str (pv 1) pe_str))) pa_nil)))))), ?_⟩
    walk_at "st"
    cases e : decide (V.str x = V.str "") with
    | true =>
      have e2 : x = "" := V.str.inj (of_decide_eq_true e)
      rw [e2] at q
      walk_at "st"
      exact q H (.refl H)
    | false =>
      have e2 : TL.tl x ≠ [] := fun z => of_decide_eq_false e (congrArg V.str (TL.ext_tl (x := x) (y := "") z))
      walk_at "st"
      intro D nD
      have s1 : ∀ o, Same H (upd H D o) := fun o => same_upd nD
      refine lc_it (walk_str (z := x)) (fun i H' => H' = upd H D (.lst (((TL.tl x).take i).map fun c => V.bl (decide (32 ≤ c ∧ c ≤ 126))))) rfl (fun _ _ _ _ => trivial) ?_ ?_
      · rintro i v H' H2 hi rfl ⟨rfl, c, hc, rfl⟩
        have hc2 := at_code hc
        have hlt : (((TL.tl x).take i).map fun c => V.bl (decide (32 ≤ c ∧ c ≤ 126))).length < sizeLine := small1000 (by rw [List.length_map, List.length_take, ← TL.len_tl]; omega)
        refine ⟨rfl, ?_⟩
        walk_at "st"
        have l1 : (!decide ((⟨#[c]⟩ : Str).cps.toList < (" " : Str).cps.toList)) = decide (32 ≤ c) := code_le1 c 32
        have l2 : (!decide (("~" : Str).cps.toList < (⟨#[c]⟩ : Str).cps.toList)) = decide (c ≤ 126) := code_le1 126 c
        have fin : ∀ b : Bool, b = decide (32 ≤ c ∧ c ≤ 126) → upd (upd H D (.lst (((TL.tl x).take i).map fun c => V.bl (decide (32 ≤ c ∧ c ≤ 126))))) D (.lst ((((TL.tl x).take i).map fun c => V.bl (decide (32 ≤ c ∧ c ≤ 126))) ++ [V.bl b])) = upd H D (.lst (((TL.tl x).take (i + 1)).map fun c => V.bl (decide (32 ≤ c ∧ c ≤ 126)))) := by
          intro b e
          rw [upd_upd, take_succ hc2, List.map_append, e]
          rfl
        refine iteB (fun h => ?_) (fun h => ?_)
        · refine ⟨_, _, rfl, rfl, _, upd_same, hlt, fin _ ?_⟩
          refine Eq.trans l2 ?_
          have h' := of_decide_eq_true (l1.symm.trans h)
          by_cases z : c ≤ 126
          · rw [decide_eq_true z, decide_eq_true ⟨h', z⟩]
          · rw [decide_eq_false z, decide_eq_false fun q => z q.2]
        · refine ⟨_, upd_same, hlt, fin _ ?_⟩
          have h' := of_decide_eq_false (l1.symm.trans h)
          rw [decide_eq_false fun q => h' q.1]
      · rintro H' rfl
        refine ⟨D, (TL.tl x).map fun c => decide (32 ≤ c ∧ c ≤ 126), rfl, ?_, ?_⟩
        · refine SqL.of (upd_same.trans ?_)
          rw [List.map_map, List.take_of_length_le (by simp)]
          rfl
        · have e3 : goodT (TL.tl x) = (((TL.tl x).map fun c => decide (32 ≤ c ∧ c ≤ 126)).all id) := by
            unfold goodT
            rw [List.all_map]
            cases h : TL.tl x with
            | nil => exact absurd h e2
            | cons a b => rfl
          rw [← e3]
          exact q _ (s1 _)
def sp_write_line (K : PySem.W.Frag) (C : Addr) : Sp := fun vs H Q E => ∃ (n : Nat) (x : Str), vs = [.int (n : Int), .str x] ∧ n < 1000 ∧ x.length ≤ 900 ∧
  (goodT (TL.tl x) = true → ∀ H', Same H H' → Q (.str (strL (lineP (preL n) (TL.tl x)))) H') ∧ (goodT (TL.tl x) = false → ∀ H', Same H H' → E (.ref C) none H')
set_option maxHeartbeats 0 in
theorem ok_write_line (T : Txt K mg) : FnOk P w K mg base (L2.CX P w) 2 T.f_write_line T.d_write_line ["number", "text"] (sp_write_line K T.c_BrokenTape) := by
  refine T.F_write_line.okX sc_write_line (fun vs H Q E h => ?_) (fun cdv A outer s H vs Q E hr h => ?_)
  · obtain ⟨n, x, rfl, _⟩ := h
    rfl
  · obtain ⟨n, x, rfl, hn, hx, q, qe⟩ := h
    have G_is_text : FnOk P w K mg base CX0 1 T.f_is_text T.d_is_text ["text"] (sp_is_text K) := ok_is_text T
    have G_check_of : FnOk P w K mg base CX0 1 T.f_check_of T.d_check_of ["text"] (sp_check_of K) := ok_check_of T
    refine ⟨_, (pss_cons (ps_if (pt_not (pt_val (pe_call G_is_text hr (by rfl) T.m_is_text T.F_is_text.kp T.b_is_text .nil pass0 (pa_cons (pv 1) pa_nil))))
      (pss_one (ps_raise rfl (takes_of rfl rfl rfl rfl) (pmk_own PySem.F.excBase_ValueError T.x_BrokenTape T.m_BrokenTape T.k_BrokenTape (raises_own T.b_BrokenTape T.t_BrokenTape) (by rfl))))
      pss_nil)
    (pss_cons (ps_set (i := 2) sc_write_line.nd rfl (Or.inl rfl) (pe_joined (PJ.cons (pe_fmt (pv 0)) (PJ.cons pe_str (PJ.cons (pe_fmt (pv 1)) PJ.nil)))))
    (pss_one (ps_ret (pe_joined (PJ.cons (pe_fmt (pv 2)) (PJ.cons pe_str (PJ.cons (pe_fmt (pe_call G_check_of hr (by rfl) T.m_check_of T.F_check_of.kp T.b_check_of .nil pass0 (pa_cons (pv 2) pa_nil))) (PJ.cons pe_str PJ.nil))))))))), ?_⟩
    walk_at "st"
    intro H1 s1
    cases hg : goodT (TL.tl x) with
    | false =>
      walk_at "st"
      exact qe hg H1 s1
    | true =>
    have q := q hg
    walk_at "st"
    have hn3 := numL_3 hn
    have e1 : TL.tl (Str.ofString (toString ((n : Nat) : Int))) = TL.numL n := TL.tl_num n
    generalize hs : Str.ofString (toString ((n : Nat) : Int)) = sn at e1
    have ln : sn.length ≤ 3 := by rw [TL.len_tl, e1]; exact hn3
    have b1 : (Str.empty ++ sn).length ≤ 3 := by rw [TL.len_tl, TL.tl_append, ← e1] at *; rw [List.length_append]; exact (by show 0 + _ ≤ 3; omega)
    have b2 : (Str.empty ++ sn ++ (" " : Str)).length ≤ 4 := by rw [TL.len_tl, TL.tl_append, List.length_append, ← TL.len_tl]; exact Nat.add_le_add b1 (Nat.le_refl 1)
    have b3 : (Str.empty ++ sn ++ (" " : Str) ++ x).length ≤ 904 := by rw [TL.len_tl, TL.tl_append, List.length_append, ← TL.len_tl, ← TL.len_tl]; omega
    have e3 : TL.tl (Str.empty ++ sn ++ (" " : Str) ++ x) = preL n ++ TL.tl x := by
      rw [TL.tl_append, TL.tl_append, TL.tl_append, e1]
      rfl
    refine .inr ⟨_, rfl, natAbs_log (k := 10) (by omega) (by decide) (by decide), _, rfl, ?_, ?_⟩
    · rw [hs]
      exact len_le' b1 rfl
    rw [hs]
    refine ⟨_, rfl, len_le' b2 rfl, ⟨_, rfl, .inl ⟨_, rfl, len_le' hx rfl, _, rfl, len_le' b3 rfl, ?_⟩⟩⟩
    generalize Str.empty ++ sn ++ (" " : Str) ++ x = nx at b3 e3
    have c1 : (Str.empty ++ nx).length ≤ 904 := by rw [TL.len_tl, TL.tl_append, List.length_append, ← TL.len_tl nx]; show 0 + _ ≤ _; omega
    have c2 : (Str.empty ++ nx ++ (" " : Str)).length ≤ 905 := by rw [TL.len_tl, TL.tl_append, List.length_append, ← TL.len_tl]; exact Nat.add_le_add c1 (Nat.le_refl 1)
    have c3 : (Str.empty ++ nx ++ (" " : Str) ++ strL (dig4 (chkF 7 (TL.tl nx)))).length ≤ 909 := by rw [TL.len_tl, TL.tl_append, List.length_append, ← TL.len_tl, tl_strL]; exact Nat.add_le_add c2 (Nat.le_refl 4)
    have c4 : (Str.empty ++ nx ++ (" " : Str) ++ strL (dig4 (chkF 7 (TL.tl nx))) ++ ("\n" : Str)).length ≤ 910 := by rw [TL.len_tl, TL.tl_append, List.length_append, ← TL.len_tl]; exact Nat.add_le_add c3 (Nat.le_refl 1)
    have e : Str.empty ++ nx ++ (" " : Str) ++ strL (dig4 (chkF 7 (TL.tl nx))) ++ ("\n" : Str) = strL (lineP (preL n) (TL.tl x)) := by
      refine TL.ext_tl ?_
      rw [TL.tl_append, TL.tl_append, TL.tl_append, TL.tl_append, tl_strL, tl_strL, e3]
      unfold lineP
      show [] ++ (preL n ++ TL.tl x) ++ [32] ++ dig4 _ ++ [10] = _
      simp only [List.append_assoc, List.nil_append]
    have q' := q H1 s1
    rw [← e] at q'
    refine ⟨_, rfl, .inl ⟨_, rfl, len_le' b3 rfl, _, rfl, len_le' c1 rfl, _, rfl, len_le' c2 rfl, ?_⟩⟩
    walk_at "st"
    refine .inl ⟨_, rfl, by rw [strL_len]; exact len_le rfl, _, rfl, len_le' c3 rfl, _, rfl, len_le' c4 rfl, q'⟩
/-- a text, or None -/
def optV : Option (List Nat) → V
  | some t => .str (strL t)
  | none => .non
def sp_text_at (K : PySem.W.Frag) : Sp := fun vs H Q _ => ∃ (x : Str) (s n : Nat), vs = [.str x, .int (s : Int), .int (n : Int)] ∧ x.length ≤ 900 ∧ s ≤ x.length ∧ n < 1000 ∧ ∀ H', Same H H' → Q (optV (textAt (preL n) ((TL.tl x).drop s))) H'
set_option maxHeartbeats 0 in
theorem ok_text_at (T : Txt K mg) : FnOk P w K mg base CX0 3 T.f_text_at T.d_text_at ["tape", "start", "number"] (sp_text_at K) := by
  refine T.F_text_at.ok sc_text_at (fun vs H Q E h => ?_) (fun cdv A outer s H vs Q E hr h => ?_)
  · obtain ⟨x, s, n, rfl, _⟩ := h
    rfl
  · obtain ⟨x, s, n, rfl, hx, hs, hn, q⟩ := h
    have G_is_text : FnOk P w K mg base CX0 1 T.f_is_text T.d_is_text ["text"] (sp_is_text K) := ok_is_text T
    have G_write_line : FnOk P w K mg base (L2.CX P w) 2 T.f_write_line T.d_write_line ["number", "text"] (sp_write_line K T.c_BrokenTape) := ok_write_line T
    have hxl : x.length ≤ sizeLine := len_le' hx rfl
    have hrow : TL.tl (cutS x (some (s : Int)) (some (Txt.find3 x "\n" (s : Int) + 1))) = rowOf ((TL.tl x).drop s) := by
      rcases find_row x s hs with ⟨h1, h2⟩ | ⟨m, h1, h2, h3, h4⟩
      · rw [h1, h2, show (-1 : Int) + 1 = ((0 : Nat) : Int) from rfl, cut_nat, Nat.zero_sub, List.take_zero]
      · rw [h2, show (((s + m : Nat) : Int) + 1) = ((s + m + 1 : Nat) : Int) by omega, cut_nat, h3]
        congr 1
        omega
    have ll := Nat.le_trans (cutS_length x (some (s : Int)) (some (Txt.find3 x "\n" (s : Int) + 1))) hx
    refine ⟨_, (pss_cons (ps_set (i := 3) sc_text_at.nd rfl (Or.inl rfl) (pe_slice sl_str (pv 0) (po_some (pv 1)) (po_some (pe_op op_add (pe_bm PySem.F.plainAttrs_str PySem.F.slot_str_find PySem.F.type_str_find mt_find3 (pv 0) (pa_cons pe_str (pa_cons (pv 1) pa_nil))) pe_int))))
    (pss_cons (ps_set (i := 4) sc_text_at.nd rfl (Or.inl rfl) (pe_slice sl_str (pv 3) (po_some (pe_callB call_len_str (by rfl) T.z_len PySem.boot_len (pa_cons (pe_joined (PJ.cons (pe_fmt (pv 2)) (PJ.cons pe_str PJ.nil))) pa_nil))) (po_some (pe_un un_neg (pe_glob (v := .int 6) rfl T.m_BEHIND_TEXT ⟨_, rfl⟩)))))
    (pss_cons (ps_if (PW.pt (pw_or (pt_not (pt_val (pe_call G_is_text (hr.mono (by decide)) (by rfl) T.m_is_text T.F_is_text.kp T.b_is_text .nil pass0 (pa_cons (pv 4) pa_nil)))) (pw_or1 (pt_cmpR op_ne (pe_call G_write_line hr (by rfl) T.m_write_line T.F_write_line.kp T.b_write_line .nil passL (pa_cons (pv 2) (pa_cons (pv 4) pa_nil))) (pv 3) (nomark _)))))
      (pss_one (ps_ret pe_non))
      pss_nil)
    (pss_one (ps_ret (pv 4)))))), ?_⟩
    walk_at "st"
    generalize hL : cutS x (some (s : Int)) (some (Txt.find3 x "\n" (s : Int) + 1)) = line at hrow ll
    have hn3 := numL_3 hn
    have e1 : TL.tl (Str.ofString (toString ((n : Nat) : Int))) = TL.numL n := TL.tl_num n
    generalize hs : Str.ofString (toString ((n : Nat) : Int)) = sn at e1
    have ln : sn.length ≤ 3 := by rw [TL.len_tl, e1]; exact hn3
    have b1 : (Str.empty ++ sn).length ≤ 3 := by rw [TL.len_tl, TL.tl_append, ← e1] at *; rw [List.length_append]; exact (by show 0 + _ ≤ 3; omega)
    have b2 : (Str.empty ++ sn ++ (" " : Str)).length ≤ 4 := by rw [TL.len_tl, TL.tl_append, List.length_append, ← TL.len_tl]; exact Nat.add_le_add b1 (Nat.le_refl 1)
    have e3 : TL.tl (Str.empty ++ sn ++ (" " : Str)) = preL n := by
      rw [TL.tl_append, TL.tl_append, e1]
      rfl
    refine .inr ⟨_, rfl, natAbs_log (k := 10) (by omega) (by decide) (by decide), _, rfl, ?_, ?_⟩
    · rw [hs]
      exact len_le' b1 rfl
    rw [hs]
    refine ⟨_, rfl, len_le' b2 rfl, _, rfl, len_le' b2 rfl, _, rfl, ?_⟩
    rw [TL.len_tl (Str.empty ++ sn ++ (" " : Str)), e3]
    refine ⟨_, rfl, _, rfl, line, rfl, len_le' ll rfl, ?_⟩
    show gName 4 (V.str (cutS line (some ((preL n).length : Int)) (some (-6)))) _ _ _
    generalize hB : cutS line (some ((preL n).length : Int)) (some (-6)) = body
    have eB : TL.tl body = bodyOf (preL n).length (TL.tl line) := by rw [← hB]; exact cut_body
    have lB : body.length ≤ 900 := by
      rw [← hB]
      exact Nat.le_trans (cutS_length _ _ _) ll
    walk_at "st"
    intro H1 s1
    have hat : ∀ b : Bool, goodT (TL.tl body) = b → b = false → textAt (preL n) ((TL.tl x).drop s) = none := fun b h1 h2 => by
      unfold textAt
      rw [← hrow, ← eB]
      exact if_neg fun z => by rw [h2] at h1; rw [h1] at z; exact Bool.false_ne_true z.1
    cases hg : goodT (TL.tl body) with
    | false =>
      rw [hat _ hg rfl] at q
      walk_at "st"
      exact q H1 s1
    | true =>
      walk_at "st"
      refine ⟨fun _ => ?_, fun z => absurd (hg.symm.trans z) (by decide)⟩
      intro H2 s2
      walk_at "st"
      refine iteDN (fun h => ?_) (fun h => ?_)
      · have : textAt (preL n) ((TL.tl x).drop s) = none := by
          unfold textAt
          rw [← hrow, ← eB]
          refine if_neg fun z => h ?_
          rw [z.2, strL_tl]
        rw [this] at q
        walk_at "st"
        exact q H2 (s1.trans s2)
      · have : textAt (preL n) ((TL.tl x).drop s) = some (TL.tl body) := by
          unfold textAt
          rw [← hrow, ← eB]
          exact if_pos ⟨hg, by rw [← V.str.inj h, tl_strL]⟩
        rw [this] at q
        have q' := q H2 (s1.trans s2)
        rw [show optV (some (TL.tl body)) = V.str body from congrArg V.str (strL_tl body)] at q'
        walk_at "st"
        exact q'
def sp_read_tape (K : PySem.W.Frag) : Sp := fun vs H Q _ => ∃ (x : Str) (ts : List (List Nat)) (m : Nat), vs = [.str x] ∧ x.length ≤ 900 ∧ ts.length ≤ 100 ∧ Reads preL (TL.tl x) 1 ts m ∧
  ∀ p d H', Same H H' → H' p = some (.tup [.ref d, .int (m : Int)]) → H' d = some (.lst (ts.map fun t => V.str (strL t))) → Q (.ref p) H'
set_option maxHeartbeats 0 in
theorem ok_read_tape (T : Txt K mg) : FnOk P w K mg base CX0 4 T.f_read_tape T.d_read_tape ["tape"] (sp_read_tape K) := by
  refine T.F_read_tape.ok sc_read_tape (fun vs H Q E h => ?_) (fun cdv A outer s H vs Q E hr h => ?_)
  · obtain ⟨x, ts, m, rfl, _⟩ := h
    rfl
  · obtain ⟨x, ts, m, rfl, hx, hl, hR, q⟩ := h
    have G_text_at : FnOk P w K mg base CX0 3 T.f_text_at T.d_text_at ["tape", "start", "number"] (sp_text_at K) := ok_text_at T
    have hxl : x.length ≤ sizeLine := len_le' hx rfl
    refine ⟨_, (pss_cons (ps_set (i := 1) sc_read_tape.nd rfl (Or.inl rfl) (pe_lst pa_nil))
    (pss_cons (ps_set (i := 2) sc_read_tape.nd rfl (Or.inl rfl) pe_int)
    (pss_cons (ps_set (i := 3) sc_read_tape.nd rfl (Or.inl rfl) (pe_call G_text_at hr (by rfl) T.m_text_at T.F_text_at.kp T.b_text_at .nil pass0 (pa_cons (pv 0) (pa_cons (pv 2) (pa_cons pe_int pa_nil)))))
    (pss_cons (ps_while PassesOwn.never (pt_cmpR op_notN (pv 3) pe_non (nomark _))
      (pss_cons (ps_expr (pe_bm PySem.F.plainAttrs_list PySem.F.slot_list_append PySem.F.type_list_append mt_append (pv 1) (pa_cons (pv 3) pa_nil)))
      (pss_cons (ps_set (i := 2) sc_read_tape.nd rfl (Or.inl rfl) (pe_op op_add (pe_bm PySem.F.plainAttrs_str PySem.F.slot_str_find PySem.F.type_str_find mt_find3 (pv 0) (pa_cons pe_str (pa_cons (pv 2) pa_nil))) pe_int))
      (pss_one (ps_set (i := 3) sc_read_tape.nd rfl (Or.inl rfl) (pe_call G_text_at hr (by rfl) T.m_text_at T.F_text_at.kp T.b_text_at .nil pass0 (pa_cons (pv 0) (pa_cons (pv 2) (pa_cons (pe_op op_add (pe_callB call_len_seq (by rfl) T.z_len PySem.boot_len (pa_cons (pv 1) pa_nil)) pe_int) pa_nil)))))))))
    (pss_one (ps_ret (pe_tup (pa_cons (pv 1) (pa_cons (pv 2) pa_nil))))))))), ?_⟩
    walk_at "st"
    intro D nD
    walk_at "st"
    intro H1 s1
    have sD : Same H (upd H D (.lst [])) := same_upd nD
    refine while_by (fun σ H2 => ∃ (done rest : List (List Nat)) (L k : Nat), σ = [some (.str x), some (.ref D), some (.int (L : Int)), some (optV (textAt (preL (done.length + 1)) ((TL.tl x).drop L)))] ∧ Same H H2 ∧ H2 D = some (.lst (done.map fun t => V.str (strL t))) ∧ L ≤ x.length ∧ Reads preL ((TL.tl x).drop L) (done.length + 1) rest k ∧ done ++ rest = ts ∧ L + k = m)
      (fun σ _ => match σ with | [_, _, some (.int l), _] => x.length - l.toNat | _ => 0)
      ⟨[], ts, 0, m, rfl, sD.trans s1, s1 _ _ upd_same, Nat.zero_le _, hR, rfl, Nat.zero_add m⟩ ?_ ?_
    · rintro σ H2 ⟨done, rest, L, k, rfl, e2, hD, hLx, hR2, hts, hm⟩
      walk_at "st"
      cases hR2 with
      | stop h =>
        rw [h]
        refine iteDN (fun z => absurd rfl z) (fun _ => ?_)
        walk_at "st"
        intro p np
        rw [List.append_nil] at hts
        rw [← hts] at q
        have hL : (L : Int) = (m : Int) := by omega
        rw [hL]
        refine q p D _ (e2.trans (same_upd np)) upd_same ?_
        rw [upd_ne (ne_of_none hD np)]
        exact hD
      | @step _ _ t rest k h g =>
        rw [h]
        refine iteDN (fun _ => ?_) (fun z => by cases z)
        have hdl : done.length < 100 := by
          have := congrArg List.length hts
          rw [List.length_append, List.length_cons] at this
          omega
        have hlt : (done.map fun t => V.str (strL t)).length < sizeLine := small1000 (by rw [List.length_map]; omega)
        obtain ⟨gt, hrow⟩ := textAt_some h
        have hpl : ∃ j, (rowOf ((TL.tl x).drop L)).length = j + 1 ∧ Txt.find3 x "\n" (L : Int) = ((L + j : Nat) : Int) ∧ L + j < x.length := by
          rcases find_row x L hLx with ⟨_, h2⟩ | ⟨j, h1, h2, _, h4⟩
          · rw [hrow] at h2
            exact absurd h2 (lineP_ne _ _)
          · exact ⟨j, h1, h2, h4⟩
        obtain ⟨j, hj1, hj2, hj3⟩ := hpl
        rw [hrow] at hj1
        walk_at "st"
        change [V.str x, V.int (Txt.find3 x "\n" (L : Int) + 1), V.int (((List.map (fun t => V.str (strL t)) done ++ [optV (some t)]).length : Int) + 1)] = _ ∧ _
        rw [hj2, show (((L + j : Nat) : Int) + 1) = ((L + (lineP (preL (done.length + 1)) t).length : Nat) : Int) by omega, List.length_append, List.length_map, List.length_singleton, show (((done.length + 1 : Nat) : Int) + 1) = ((done.length + 1 + 1 : Nat) : Int) by omega]
        apply And.intro
        · exact rfl
        refine ⟨hx, by omega, by omega, fun H3 s3 => ?_⟩
        walk_at "st"
        have hcast : (((L + j : Nat) : Int) + 1) = ((L + (lineP (preL (done.length + 1)) t).length : Nat) : Int) := by omega
        refine ⟨⟨done ++ [t], rest, L + (lineP (preL (done.length + 1)) t).length, k, ?_, ?_, ?_, by omega, ?_, by rw [List.append_assoc]; exact hts, by omega⟩, ?_⟩
        · rw [List.length_append, List.length_singleton, ← hcast]
          rfl
        · refine Same.trans (fun b o z => ?_) s3
          rw [upd_ne (ne_of_none z nD)]
          exact e2 b o z
        · rw [List.map_append]
          exact s3 _ _ upd_same
        · rw [List.length_append, List.length_singleton, ← List.drop_drop]
          exact g
        · show x.length - (((L + j : Nat) : Int) + 1).toNat < x.length - (L : Int).toNat
          omega
    · intro σ H2 Q1 Q2 hq h
      obtain ⟨v, e, e2, k, e3, h⟩ := h
      exact ⟨v, e, e2, k, e3, hq _ _ h⟩

/-! ### the laws' own texts -/
def digF (c b : Int) : Nat → Int
  | 0 => c
  | k + 1 => digF c b k / b
def sp_law_digit (K : PySem.W.Frag) : Sp := fun vs H Q _ => ∃ (c b : Int) (k : Nat), vs = [.int c, .int b, .int (k : Int)] ∧ 0 < b ∧ b < 1073741824 ∧ k < 1000 ∧ Q (.int (digF c b k % b)) H
set_option maxHeartbeats 0 in
theorem ok_law_digit (T : Txt K mg) : FnOk P w K mg base CX0 1 T.f_law_digit T.d_law_digit ["cell", "base", "k"] (sp_law_digit K) := by
  refine T.F_law_digit.ok sc_law_digit (fun vs H Q E h => ?_) (fun cdv A outer s H vs Q E hr h => ?_)
  · obtain ⟨c, b, k, rfl, _⟩ := h
    rfl
  · obtain ⟨c, b, k, rfl, h0, h1, hk, q⟩ := h
    refine ⟨_, (pss_cons (ps_set (i := 3) sc_law_digit.nd rfl (Or.inl rfl) (pe_callTy call_int_i (by rfl) T.z_int (by decide +kernel) (pa_cons (pv 0) pa_nil)))
    (pss_cons (ps_for PassesOwn.never rfl (pi_range1 (by rfl) T.z_range (pa_cons (pv 2) pa_nil)) (pg_name (i := 4) sc_law_digit.nd rfl (Or.inl rfl))
      (pss_one (ps_set (i := 3) sc_law_digit.nd rfl (Or.inl rfl) (pe_op op_fdiv (pv 3) (pv 1)))))
    (pss_one (ps_ret (pe_op op_mod (pv 3) (pv 1)))))), ?_⟩
    walk_at "st"
    refine for_range (lo := 0) (n := ((k : Int)).toNat) (fun i σ H' => ∃ (v : Option V), σ = [some (.int c), some (.int b), some (.int (k : Int)), some (.int (digF c b i)), v] ∧ H' = H) ⟨none, rfl, rfl⟩ ?_ ?_
    · rintro i σ H' hi ⟨v, rfl, rfl⟩
      walk_at "st"
      exact ⟨_, rfl, rfl⟩
    · rintro σ H' ⟨v, rfl, rfl⟩
      rw [Int.toNat_natCast]
      walk_at "st"
      exact q

theorem sum_small {m : Nat} : ∀ ys : List Str, (∀ y, y ∈ ys → y.length ≤ m) → (ys.map (·.length)).sum ≤ ys.length * m
  | [], _ => by simp
  | y :: ys, h => by
    rw [List.map_cons, List.sum_cons, List.length_cons, Nat.add_mul]
    have h1 := h y List.mem_cons_self
    have h2 := sum_small ys fun z hz => h z (List.mem_cons_of_mem _ hz)
    show y.length + _ ≤ _
    omega
theorem flat_le {m : Nat} : ∀ ls : List (List Nat), (∀ l, l ∈ ls → l.length ≤ m) → ls.flatten.length ≤ ls.length * m
  | [], _ => by simp
  | l :: ls, h => by
    rw [List.flatten_cons, List.length_append, List.length_cons, Nat.add_mul]
    have h1 := h l List.mem_cons_self
    have h2 := flat_le ls fun z hz => h z (List.mem_cons_of_mem _ hz)
    omega
theorem joined (ls : List (List Nat)) : Txt.join "" (ls.map strL) = strL ls.flatten := by
  refine TL.ext_tl ?_
  rw [tl_strL, (congrArg TL.tl (TL.join_eq "" (ls.map strL))).trans (TL.tl_join "" (ls.map strL)), List.map_map, show TL.tl ∘ strL = id from funext tl_strL, List.map_id]
  show TL.joinL [] ls = ls.flatten
  induction ls with
  | nil => rfl
  | cons a r ih =>
    cases r with
    | nil => show a = a ++ []; rw [List.append_nil]
    | cons b t =>
      show a ++ ([] ++ TL.joinL [] (b :: t)) = a ++ (b :: t).flatten
      rw [List.nil_append, ih]
theorem sum_flat : ∀ ls : List (List Nat), (((ls.map strL)).map (·.length)).sum = ls.flatten.length
  | [] => rfl
  | l :: ls => by
    rw [List.map_cons, List.map_cons, List.sum_cons, sum_flat ls, List.flatten_cons, List.length_append, strL_len]
/-! ### what read_tape told, against the texts and their length -/
theorem strOk_good {t : List Nat} (h : goodT t = true) : PyData.strOk (strL t) = true := by
  refine Array.all_eq_true'.mpr ?_
  intro c hc
  have := (goodT_iff.mp h).2 c (by simpa [strL] using hc)
  exact decide_eq_true (by omega)
theorem dpAll_strs {K : PySem.W.Frag} {H : Hp} : ∀ ts : List Str, DpAll K H (ts.map V.str) (ts.map PyData.str)
  | [] => .nil
  | x :: xs => .cons (.str x) (dpAll_strs xs)
theorem eqT {K : PySem.W.Frag} {H : Hp} {p u d e : Addr} {ts : List (List Nat)} {m : Int} {Q : VK} (hg : ∀ t, t ∈ ts → goodT t = true) (h1 : SqT K H p [.ref d, .int m]) (h2 : SqL K H d (ts.map fun t => V.str (strL t)))
    (h3 : SqT K H u [.ref e, .int m]) (h4 : SqL K H e (ts.map fun t => V.str (strL t))) (q : Q (.bl true) H) : rEqD K (.ref p) (.ref u) H Q := by
  have e1 : (ts.map fun t => V.str (strL t)) = (ts.map strL).map V.str := by rw [List.map_map]; rfl
  rw [e1] at h2 h4
  have hG : ∀ x, x ∈ ts.map strL → PyData.strOk x = true := fun x hx => by
    obtain ⟨t, ht, rfl⟩ := List.mem_map.mp hx
    exact strOk_good (hg t ht)
  have LT : LayD (fun x : List Str × Int => PyData.tuple [PyData.list (x.1.map PyData.str), PyData.int x.2]) 2 (fun x => (∀ y, y ∈ x.1 → PyData.strOk y = true) ∧ True) := layD_str.list.tup2 (M := PyData.int) (G2 := fun _ => True) ⟨layD_int.lay, fun x => Nat.le_trans (layD_int.dep x) (Nat.zero_le _), layD_int.eqv⟩
  refine eqL LT (by decide) (a := (ts.map strL, m)) (b := (ts.map strL, m)) ⟨hG, trivial⟩ ⟨hG, trivial⟩ (.tup h1 (.cons (.lst h2 (dpAll_strs _)) (.cons (.int m) .nil))) (.tup h3 (.cons (.lst h4 (dpAll_strs _)) (.cons (.int m) .nil))) ?_
  rw [decide_eq_true rfl]
  exact q


theorem cutV_take {xs : List V} {n : Nat} : cutV xs none (some (n : Int)) = xs.take n := by
  unfold cutV
  rw [HT.sIx_nat, HT.sIx_none, List.drop_zero, Nat.sub_zero]
  rcases Nat.le_total n xs.length with h | h
  · rw [Nat.min_eq_left h]
  · rw [Nat.min_eq_right h, List.take_length, List.take_of_length_le h]
theorem cutV_drop {xs : List V} {n : Nat} : cutV xs (some (n : Int)) none = xs.drop n := by
  unfold cutV
  rw [HT.sIx_nat, HT.sIx_none]
  rcases Nat.le_total n xs.length with h | h
  · rw [Nat.min_eq_left h, List.take_of_length_le (by rw [List.length_drop]; exact Nat.le_refl _)]
  · rw [Nat.min_eq_right h, List.drop_of_length_le (Nat.le_refl _), List.drop_of_length_le h, List.take_nil]
theorem strs_map (ls : List (List Nat)) : (ls.map strL).map V.str = ls.map fun l => V.str (strL l) := by
  rw [List.map_map]
  rfl
theorem rowsP_take (p : Nat → List Nat) : ∀ (ts : List (List Nat)) (k n : Nat), rowsP p k (ts.take n) = (rowsP p k ts).take n
  | [], _, _ => by simp [rowsP]
  | t :: ts, k, 0 => rfl
  | t :: ts, k, n + 1 => by
    show lineP (p k) t :: rowsP p (k + 1) (ts.take n) = lineP (p k) t :: (rowsP p (k + 1) ts).take n
    rw [rowsP_take p ts (k + 1) n]

def strsV (ls : List (List Nat)) : List V := ls.map fun l => V.str (strL l)
theorem cutV_strs (ls : List (List Nat)) (n : Nat) : cutV (strsV ls) none (some (n : Int)) = strsV (ls.take n) ∧ cutV (strsV ls) (some (n : Int)) none = strsV (ls.drop n) := by
  unfold strsV
  rw [cutV_take, cutV_drop, List.map_take, List.map_drop]
  exact ⟨rfl, rfl⟩
theorem cutV_mid {xs : List V} {n m : Nat} : cutV xs (some (n : Int)) (some (m : Int)) = (xs.drop n).take (m - n) := by
  unfold cutV
  rw [HT.sIx_nat, HT.sIx_nat]
  rcases Nat.le_total n xs.length with h | h
  · rw [Nat.min_eq_left h]
    rcases Nat.le_total m xs.length with h2 | h2
    · rw [Nat.min_eq_left h2]
    · rw [Nat.min_eq_right h2, List.take_of_length_le (by rw [List.length_drop]; exact Nat.le_refl _), List.take_of_length_le (by rw [List.length_drop]; omega)]
  · rw [Nat.min_eq_right h, List.drop_of_length_le (Nat.le_refl _), List.drop_of_length_le h, List.take_nil, List.take_nil]
theorem strsV_app (a b : List (List Nat)) : strsV a ++ strsV b = strsV (a ++ b) := by
  unfold strsV
  rw [List.map_append]
theorem strsV_len (a : List (List Nat)) : (strsV a).length = a.length := by
  unfold strsV
  rw [List.length_map]
theorem strsV_at {ls : List (List Nat)} {a : Nat} (h : a < ls.length) : atI (strsV ls) (a : Int) = some (.str (strL (ls.getD a []))) := by
  refine at_of (j := a) rfl ?_
  unfold strsV
  rw [List.getElem?_map, List.getD_eq_getElem?_getD, List.getElem?_eq_getElem h]
  rfl

def charsT : Str := (" !\"#$&'()*+,-./0123456789:;<=>?@ABCDEFGHIJKLMNOPQRSTUVWXYZ[\\]^_`" : Str) ++ ("abcdefghijklmnopqrstuvwxyz{|}~" : Str)
theorem charsT_len : charsT.length = 94 := by decide +kernel
def charF (k : Int) : Nat := charsT.cps.toList.getD (k % 94).toNat 0
theorem charF_ok (k : Int) : 32 ≤ charF k ∧ charF k ≤ 126 := by
  have h : ∀ m : Nat, m < 94 → 32 ≤ charsT.cps.toList.getD m 0 ∧ charsT.cps.toList.getD m 0 ≤ 126 := by decide +kernel
  exact h _ (by omega)
theorem charF_at (k : Int) : atI charsT.cps.toList (k % 94) = some (charF k) := by
  have h0 := Int.emod_nonneg k (by decide : (94 : Int) ≠ 0)
  have h1 := Int.emod_lt_of_pos k (by decide : (0 : Int) < 94)
  obtain ⟨n, hn⟩ := Int.eq_ofNat_of_zero_le h0
  unfold charF
  rw [hn, Int.toNat_natCast]
  refine atI_nat ?_
  have hl : n < charsT.cps.toList.length := by
    have : charsT.cps.toList.length = 94 := charsT_len
    omega
  rw [List.getD_eq_getElem?_getD, List.getElem?_eq_getElem hl]
  rfl
def sp_law_char (K : PySem.W.Frag) : Sp := fun vs H Q _ => ∃ k : Int, vs = [.int k] ∧ Q (.str (strL [charF k])) H
set_option maxHeartbeats 0 in
theorem ok_law_char (T : Txt K mg) : FnOk P w K mg base CX0 1 T.f_law_char T.d_law_char ["k"] (sp_law_char K) := by
  refine T.F_law_char.ok sc_law_char (fun vs H Q E h => ?_) (fun cdv A outer s H vs Q E hr h => ?_)
  · obtain ⟨k, rfl, _⟩ := h
    rfl
  · obtain ⟨k, rfl, q⟩ := h
    refine ⟨_, (pss_cons (ps_set (i := 1) sc_law_char.nd rfl (Or.inl rfl) pe_str)
    (pss_cons (ps_set (i := 1) sc_law_char.nd rfl (Or.inl rfl) (pe_op op_add_str (pv 1) pe_str))
    (pss_one (ps_ret (pe_ix ix_str (pv 1) (pe_op op_mod (pv 0) pe_int) (fun _ _ => rfl)))))), ?_⟩
    walk_at "st"
    refine ⟨by decide +kernel, ?_⟩
    have hl : charsT.length ≤ sizeLine := by rw [charsT_len]; exact len_le rfl
    have hat := charF_at k
    show gName 1 (V.str charsT) _ _ _
    walk_at "st"
    exact q
def partG (c : Int) : List (List Nat) := (List.range (1 + c % 20).toNat).map fun k => [charF (digF (c / 20) 95 k % 95)]
def textG (c : Int) : List Nat := (partG c).flatten
theorem partG_len (c : Int) : (partG c).length = (1 + c % 20).toNat := by
  unfold partG
  rw [List.length_map, List.length_range]
theorem partG_mem {c : Int} {l : List Nat} (h : l ∈ partG c) : l.length = 1 ∧ ∀ x, x ∈ l → 32 ≤ x ∧ x ≤ 126 := by
  unfold partG at h
  obtain ⟨k, _, rfl⟩ := List.mem_map.mp h
  exact ⟨rfl, fun x hx => by rw [List.mem_singleton.mp hx]; exact charF_ok _⟩
theorem flat_ones : ∀ ls : List (List Nat), (∀ l, l ∈ ls → l.length = 1) → ls.flatten.length = ls.length
  | [], _ => rfl
  | l :: ls, h => by
    rw [List.flatten_cons, List.length_append, List.length_cons, flat_ones ls fun z hz => h z (List.mem_cons_of_mem _ hz), h l List.mem_cons_self]
    omega
theorem textG_len (c : Int) : (textG c).length = (1 + c % 20).toNat := by
  unfold textG
  rw [flat_ones _ fun l hl => (partG_mem hl).1, partG_len]
theorem textG_len20 (c : Int) : 1 ≤ (textG c).length ∧ (textG c).length ≤ 20 := by
  rw [textG_len]
  omega
theorem textG_good (c : Int) : goodT (textG c) = true := by
  refine goodT_iff.mpr ⟨fun e => ?_, fun x hx => ?_⟩
  · have := (textG_len20 c).1
    rw [e] at this
    simp at this
  · obtain ⟨l, hl, hx2⟩ := List.mem_flatten.mp hx
    exact (partG_mem hl).2 x hx2
def sp_law_text (K : PySem.W.Frag) : Sp := fun vs H Q _ => ∃ c : Int, vs = [.int c] ∧ ∀ H', Same H H' → Q (.str (strL (textG c))) H'
set_option maxHeartbeats 0 in
theorem ok_law_text (T : Txt K mg) : FnOk P w K mg base CX0 2 T.f_law_text T.d_law_text ["cell"] (sp_law_text K) := by
  refine T.F_law_text.ok sc_law_text (fun vs H Q E h => ?_) (fun cdv A outer s H vs Q E hr h => ?_)
  · obtain ⟨c, rfl, _⟩ := h
    rfl
  · obtain ⟨c, rfl, q⟩ := h
    have G_law_char : FnOk P w K mg base CX0 1 T.f_law_char T.d_law_char ["k"] (sp_law_char K) := ok_law_char T
    have G_law_digit : FnOk P w K mg base CX0 1 T.f_law_digit T.d_law_digit ["cell", "base", "k"] (sp_law_digit K) := ok_law_digit T
    have e1 : 1 + c % 20 = (((1 + c % 20).toNat : Nat) : Int) := by omega
    have hm : (1 + c % 20).toNat ≤ 20 := by omega
    refine ⟨_, (pss_cons (ps_set (i := 1) sc_law_text.nd rfl (Or.inl rfl) (pe_op op_add pe_int (pe_op op_mod (pe_callTy call_int_i (by rfl) T.z_int (by decide +kernel) (pa_cons (pv 0) pa_nil)) pe_int)))
    (pss_one (ps_ret (pe_join pe_str (pe_lc (own := [("k", 2)]) (g := gName 2) (tt := tYes) rfl sc_law_text.nd (pi_range1 (by rfl) T.z_range (pa_cons (pv 1) pa_nil)) (blkOk_by (own := [("k", 2)]) (N := N_law_text) (sc := defScope s_law_text) (by decide +kernel)) (fun _ _ _ _ _ => (pg_name (i := 2) sc_law_text.nd rfl (Or.inl rfl))) (fun _ _ _ _ _ => pts_nil) (fun _ _ _ _ _ => (pe_call G_law_char hr (by rfl) T.m_law_char T.F_law_char.kp T.b_law_char .nil pass0 (pa_cons (pe_call G_law_digit hr (by rfl) T.m_law_digit T.F_law_digit.kp T.b_law_digit .nil pass0 (pa_cons (pe_op op_fdiv (pe_callTy call_int_i (by rfl) T.z_int (by decide +kernel) (pa_cons (pv 0) pa_nil)) pe_int) (pa_cons pe_int (pa_cons (pv 2) pa_nil)))) pa_nil)))))))), ?_⟩
    walk_at "st"
    show gName 1 (V.int (1 + c % 20)) _ _ _
    rw [e1]
    refine ⟨⟨_, rfl⟩, _, rfl, _, rfl, by omega, by omega, fun D nD => ?_⟩
    have sD : ∀ o, Same H (upd H D o) := fun o => same_upd nD
    refine lc_range (lo := 0) (n := (((1 + c % 20).toNat : Nat) : Int).toNat) (fun i H' => H' = upd H D (.lst (strsV ((List.range i).map fun k => [charF (digF (c / 20) 95 k % 95)])))) rfl ?_ ?_
    · rintro i H' hi rfl
      rw [Int.toNat_natCast] at hi
      have hlt : (strsV ((List.range i).map fun k => [charF (digF (c / 20) 95 k % 95)])).length < sizeLine := small1000 (by rw [strsV_len, List.length_map, List.length_range]; omega)
      refine ⟨rfl, ?_⟩
      walk_at "st"
      rw [Nat.zero_add]
      rw [upd_upd, List.range_succ, List.map_append]
      unfold strsV
      rw [List.map_append]
      rfl
    · rintro H' rfl
      rw [Int.toNat_natCast]
      refine ⟨_, D, (partG c).map strL, rfl, rfl, .inl (SqL.of (by rw [upd_same, strs_map]; rfl)), ?_, ?_⟩
      · rw [sum_flat]
        have := (textG_len20 c).2
        unfold textG at this
        show _ + _ * 0 ≤ _
        omega
      rw [joined]
      exact q _ (sD _)
theorem pad4' {n : Nat} (h : n < 10000) : ([48, 48, 48] ++ TL.numL n).drop (3 + (TL.numL n).length - 4) = dig4 n := by
  obtain ⟨h1, h2⟩ := numL_4 h
  rw [← pad4 h]
  generalize TL.numL n = l at h1 h2
  rcases l with _ | ⟨a, _ | ⟨b, _ | ⟨c, _ | ⟨d, _ | ⟨e, r⟩⟩⟩⟩⟩
  · exact absurd rfl h2
  · rfl
  · rfl
  · rfl
  · rfl
  · simp at h1
def sp_law_check (K : PySem.W.Frag) : Sp := fun vs H Q _ => ∃ x : Str, vs = [.str x] ∧ x.length ≤ 1000 ∧ Q (.str (strL (dig4 (chkF 7 (TL.tl x))))) H
set_option maxHeartbeats 0 in
theorem ok_law_check (T : Txt K mg) : FnOk P w K mg base CX0 1 T.f_law_check T.d_law_check ["text"] (sp_law_check K) := by
  refine T.F_law_check.ok sc_law_check (fun vs H Q E h => ?_) (fun cdv A outer s H vs Q E hr h => ?_)
  · obtain ⟨x, rfl, _⟩ := h
    rfl
  · obtain ⟨x, rfl, hx, q⟩ := h
    refine ⟨_, (pss_cons (ps_set (i := 1) sc_law_check.nd rfl (Or.inl rfl) pe_int)
    (pss_cons (ps_for PassesOwn.never rfl (pi_str (pv 0)) (pg_name (i := 2) sc_law_check.nd rfl (Or.inl rfl))
      (pss_one (ps_set (i := 1) sc_law_check.nd rfl (Or.inl rfl) (pe_op op_mod (pe_op op_add (pe_op op_mul pe_int (pv 1)) (pe_callB call_ord (by rfl) T.z_ord (by decide +kernel) (pa_cons (pv 2) pa_nil))) pe_int))))
    (pss_cons (ps_set (i := 3) sc_law_check.nd rfl (Or.inl rfl) (pe_op op_add_str pe_str (pe_callTy call_str_int (by rfl) T.z_str (by decide +kernel) (pa_cons (pv 1) pa_nil))))
    (pss_one (ps_ret (pe_slice sl_str (pv 3) (po_some (pe_op op_sub (pe_callB call_len_str (by rfl) T.z_len PySem.boot_len (pa_cons (pv 3) pa_nil)) pe_int)) po_none)))))), ?_⟩
    walk_at "st"
    refine for_it (walk_str (z := x)) (fun i σ H2 => ∃ v : Option V, σ = [some (.str x), some (.int ((chkF 7 ((TL.tl x).take i) : Nat) : Int)), v, none] ∧ H2 = H) ⟨none, rfl, rfl⟩ (fun _ _ _ _ _ => trivial) ?_ ?_
    · rintro i v σ H2 H3 hi ⟨v0, rfl, rfl⟩ ⟨rfl, c, hc, rfl⟩
      have hc2 := at_code hc
      walk_at "st"
      have e : (31 * ((chkF 7 ((TL.tl x).take i) : Nat) : Int) + (((⟨#[c]⟩ : Str).cps.getD 0 0 : Nat) : Int)) % 9973 = ((chkF 7 ((TL.tl x).take (i + 1)) : Nat) : Int) := by
        rw [take_succ hc2, chkF_append]
        show _ = (((chkF 7 ((TL.tl x).take i) * 31 + c) % 9973 : Nat) : Int)
        show (31 * ((chkF 7 ((TL.tl x).take i) : Nat) : Int) + ((c : Nat) : Int)) % 9973 = _
        omega
      refine ⟨some (.str ⟨#[c]⟩), ?_, rfl⟩
      rw [← e]
      rfl
    · rintro σ H2 ⟨v0, rfl, rfl⟩
      rw [List.take_of_length_le (by simp)]
      have hb := chkF_lt (v := 7) (by decide) (TL.tl x)
      generalize chkF 7 (TL.tl x) = n at hb q
      walk_at "st"
      refine ⟨natAbs_log (k := 14) (by omega) (by decide) (by decide), ?_⟩
      obtain ⟨h1, h2⟩ := numL_4 (show n < 10000 by omega)
      have e1 : TL.tl (Str.ofString (toString ((n : Nat) : Int))) = TL.numL n := TL.tl_num n
      generalize Str.ofString (toString ((n : Nat) : Int)) = sn at e1
      have l1 : sn.length = (TL.numL n).length := by rw [TL.len_tl, e1]
      have h3 : 1 ≤ (TL.numL n).length := by
        cases hh : TL.numL n with
        | nil => exact absurd hh h2
        | cons a b => rw [List.length_cons]; omega
      have l2 : (("000" : Str) ++ sn).length = 3 + (TL.numL n).length := by rw [TL.len_tl, TL.tl_append, List.length_append, e1]; rfl
      refine ⟨_, _, rfl, rfl, len_le' (m := 7) (by show 3 + sn.length ≤ 7; omega) rfl, ?_⟩
      have l3 : (("000" : Str) ++ sn).length ≤ sizeLine := len_le' (m := 7) (by omega) rfl
      walk_at "st"
      rw [l2, show ((3 + (TL.numL n).length : Nat) : Int) - 4 = ((3 + (TL.numL n).length - 4 : Nat) : Int) by omega]
      have e2 : cutS (("000" : Str) ++ sn) (some ((3 + (TL.numL n).length - 4 : Nat) : Int)) none = strL (dig4 n) := by
        refine TL.ext_tl ?_
        rw [cut_begin, TL.tl_append, e1, tl_strL]
        exact pad4' (by omega)
      rw [e2]
      exact q
/-! ### raising -/
def sp_law_raises (K : PySem.W.Frag) : Sp := fun vs H Q _ => ∃ (n : Nat) (x : Str), vs = [.int (n : Int), .str x] ∧ n < 1000 ∧ x.length ≤ 900 ∧ goodT (TL.tl x) = false ∧ ∀ H', Same H H' → Q (.bl true) H'
set_option maxHeartbeats 0 in
theorem ok_law_raises (T : Txt K mg) : FnOk P w K mg base CX0 3 T.f_law_raises T.d_law_raises ["number", "text"] (sp_law_raises K) := by
  refine T.F_law_raises.ok sc_law_raises (fun vs H Q E h => ?_) (fun cdv A outer s H vs Q E hr h => ?_)
  · obtain ⟨n, x, rfl, _⟩ := h
    rfl
  · obtain ⟨n, x, rfl, hn, hx, hg, q⟩ := h
    have G_write_line : FnOk P w K mg base (L2.CX P w) 2 T.f_write_line T.d_write_line ["number", "text"] (sp_write_line K T.c_BrokenTape) := ok_write_line T
    have te := PySem.W.exm_ref T.b_BrokenTape T.d_BrokenTape T.t_BrokenTape T.s_BrokenTape
    refine ⟨_, (pss_cons (ps_try_as (i := 2) rfl rfl sc_law_raises.nd rfl rfl ⟨rfl, by decide, Or.inl T.m_BrokenTape⟩ takes0
      (fun W pn xe tk _ => (pss_one (ps_expr (pe_callS G_write_line hr (by rfl) T.m_write_line T.F_write_line.kp T.b_write_line (fun σ => passAt tk σ) (pa_cons (pv 0) (pa_cons (pv 1) pa_nil))))))
      (fun a oe cls d pn hz hf => (pss_one (ps_ret (pe_callB (call_isE' T.e_BrokenTape hz hf) (by rfl) T.z_isinstance (by decide +kernel) (pa_cons (pv 2) (pa_cons (pe_glob (v := .ref T.c_BourseError) rfl T.m_BourseError rfl) pa_nil)))))))
    (pss_one (ps_ret pe_bl))), ?_⟩
    walk_at "st"
    refine ⟨fun z => absurd (hg.symm.trans z) (by decide), fun _ H' s1 => ?_⟩
    refine ⟨true, te, fun _ a0 _ => ?_, fun q => Bool.noConfusion q⟩
    walk_at "st"
    refine ⟨_, true, rfl, fun u hu => hu, T.kt_BrokenTape_BourseError, ?_⟩
    exact q _ s1
/-- the tape's object -/
structure TapeOk (C dx x t l : Addr) (ts ls : List (List Nat)) (H : Hp) : Prop where
  ins : H x = some (.ins C dx [("_texts", .ref t), ("_lines", .ref l)])
  tx : H t = some (.lst (strsV ts))
  ln : H l = some (.lst (strsV ls))
  ne : t ≠ l
theorem TapeOk.same {C dx x t l : Addr} {ts ls : List (List Nat)} {H H' : Hp} (h : TapeOk C dx x t l ts ls H) (e : Same H H') : TapeOk C dx x t l ts ls H' := ⟨e _ _ h.ins, e _ _ h.tx, e _ _ h.ln, h.ne⟩
def Keep2 (t l : Addr) (H H' : Hp) : Prop := ∀ z o, z ≠ t → z ≠ l → H z = some o → H' z = some o
def sp_Tape_init (K : PySem.W.Frag) (C : Addr) : Sp := fun vs H Q _ => ∃ x dx : Addr, vs = [.ref x] ∧ H x = some (.ins C dx []) ∧ ∀ (_ : Unit) t l H', KeepX x H H' → H t = none → H l = none → TapeOk C dx x t l [] [] H' → Q .non H'
set_option maxHeartbeats 0 in
theorem ok_Tape_init (T : Txt K mg) : FnOk P w K mg base CX0 1 T.f_Tape_init T.d_Tape_init ["self"] (sp_Tape_init K T.c_Tape) := by
  refine T.F_Tape_init.ok sc_Tape_init (fun vs H Q E h => ?_) (fun cdv A outer s H vs Q E hr h => ?_)
  · obtain ⟨x, dx, rfl, _⟩ := h
    rfl
  · obtain ⟨x, dx, rfl, hx, q⟩ := h
    have fact_Tape_0 := T.cl_Tape; have fact_Tape_1 := T.na_Tape__texts; have fact_Tape_2 := T.na_Tape__lines
    refine ⟨_, (pss_cons (ps_fld (pv 0) (pe_lst pa_nil) rfl)
    (pss_one (ps_fld (pv 0) (pe_lst pa_nil) rfl))), ?_⟩
    walk_at "st"
    intro t nt
    have ntx : t ≠ x := fun z => by rw [z, hx] at nt; cases nt
    have hx1 : (upd H t (.lst [])) x = some (.ins T.c_Tape dx []) := by rw [upd_ne ntx.symm]; exact hx
    refine ⟨_, rfl, setF hx1 T.cl_Tape T.na_Tape__texts rfl ?_⟩
    have k2 : KeepX x H (upd (upd H t (.lst [])) x (.ins T.c_Tape dx (putF "_texts" (.ref t) []))) := (keepX_of (same_upd nt)).set
    have hx2 : (upd (upd H t (.lst [])) x (.ins T.c_Tape dx (putF "_texts" (.ref t) []))) x = some (.ins T.c_Tape dx [("_texts", .ref t)]) := upd_same
    have ht2 : (upd (upd H t (.lst [])) x (.ins T.c_Tape dx (putF "_texts" (.ref t) []))) t = some (.lst []) := by rw [upd_ne ntx]; exact upd_same
    generalize upd (upd H t (.lst [])) x (.ins T.c_Tape dx (putF "_texts" (.ref t) [])) = H2 at k2 hx2 ht2
    walk_at "st"
    intro l nl
    have nlx : l ≠ x := fun z => by rw [z, hx2] at nl; cases nl
    have nlt : t ≠ l := fun z => by rw [← z, ht2] at nl; cases nl
    have hx3 : (upd H2 l (.lst [])) x = some (.ins T.c_Tape dx [("_texts", .ref t)]) := by rw [upd_ne nlx.symm]; exact hx2
    refine ⟨_, rfl, setF hx3 T.cl_Tape T.na_Tape__lines rfl ?_⟩
    have nl0 : H l = none := by
      cases e : H l with
      | none => rfl
      | some o => have := k2 l o nlx e; rw [nl] at this; cases this
    refine q () t l _ (k2.then (same_upd nl)).set nt nl0 ⟨upd_same, ?_, ?_, nlt⟩
    · rw [upd_ne ntx, upd_ne nlt]
      exact ht2
    · rw [upd_ne nlx]
      exact upd_same
theorem strsV_one (a : List (List Nat)) (b : List Nat) : strsV a ++ [V.str (strL b)] = strsV (a ++ [b]) := by
  unfold strsV
  rw [List.map_append]
  rfl
def sp_Tape_append (K : PySem.W.Frag) (B C : Addr) : Sp := fun vs H Q E => ∃ (x dx t l : Addr) (ts ls : List (List Nat)) (s : List Nat), vs = [.ref x, .str (strL s)] ∧ TapeOk C dx x t l ts ls H ∧ ts.length ≤ 100 ∧ ls.length ≤ 100 ∧ s.length ≤ 900 ∧
  (goodT s = true → ∀ H', Keep2 t l H H' → TapeOk C dx x t l (ts ++ [s]) (ls ++ [lineP (preL (ts.length + 1)) s]) H' → Q (.int ((ts.length + 1 : Nat) : Int)) H') ∧ (goodT s = false → ∀ H', Same H H' → E (.ref B) none H')
set_option maxHeartbeats 0 in
theorem ok_Tape_append (T : Txt K mg) : FnOk P w K mg base (L2.CX P w) 3 T.f_Tape_append T.d_Tape_append ["self", "text"] (sp_Tape_append K T.c_BrokenTape T.c_Tape) := by
  refine T.F_Tape_append.okX sc_Tape_append (fun vs H Q E h => ?_) (fun cdv A outer s H vs Q E hr h => ?_)
  · obtain ⟨x, dx, t, l, ts, ls, s, rfl, _⟩ := h
    rfl
  · obtain ⟨x, dx, t, l, ts, ls, s, rfl, hT, hn, hm, hs, q, qe⟩ := h
    have G_write_line : FnOk P w K mg base (L2.CX P w) 2 T.f_write_line T.d_write_line ["number", "text"] (sp_write_line K T.c_BrokenTape) := ok_write_line T
    have fact_Tape_0 := T.cl_Tape; have fact_Tape_1 := T.na_Tape__texts; have fact_Tape_2 := T.na_Tape__lines
    have hins := hT.ins
    have htx := hT.tx
    have hln := hT.ln
    have hts := SqL.of (K := K) htx
    have hlook : ([("_texts", V.ref t), ("_lines", V.ref l)] : List (Str × V)).lookup ("_texts" : Str) = some (V.ref t) := rfl
    have hlook2 : ([("_texts", V.ref t), ("_lines", V.ref l)] : List (Str × V)).lookup ("_lines" : Str) = some (V.ref l) := rfl
    refine ⟨_, (pss_cons (ps_set (i := 2) sc_Tape_append.nd rfl (Or.inl rfl) (pe_op op_add (pe_callB call_len_seq (by rfl) T.z_len PySem.boot_len (pa_cons (pe_fld (pv 0) rfl) pa_nil)) pe_int))
    (pss_cons (ps_expr (pe_bm PySem.F.plainAttrs_list PySem.F.slot_list_append PySem.F.type_list_append mt_append (pe_fld (pv 0) rfl) (pa_cons (pe_callS G_write_line hr (by rfl) T.m_write_line T.F_write_line.kp T.b_write_line (fun σ => passAt (takes_of rfl rfl rfl rfl) σ) (pa_cons (pv 2) (pa_cons (pv 1) pa_nil))) pa_nil)))
    (pss_cons (ps_expr (pe_bm PySem.F.plainAttrs_list PySem.F.slot_list_append PySem.F.type_list_append mt_append (pe_fld (pv 0) rfl) (pa_cons (pv 1) pa_nil)))
    (pss_one (ps_ret (pv 2)))))), ?_⟩
    walk_at "st"
    rw [tl_strL, strsV_len]
    refine ⟨by show ts.length + 1 < 1000; omega, by rw [strL_len]; exact hs, fun hg H1 s1 => ?_, fun hg H1 s1 => ?_⟩
    · have h1 := s1 _ _ hins
      have h2 := s1 _ _ htx
      have h3 := s1 _ _ hln
      have hlt : (strsV ls).length < sizeLine := small1000 (by rw [strsV_len]; omega)
      have hlt2 : (strsV ts).length < sizeLine := small1000 (by rw [strsV_len]; omega)
      have ntx : t ≠ x := fun z => by rw [z, hins] at htx; cases htx
      have nlx : l ≠ x := fun z => by rw [z, hins] at hln; cases hln
      have h4 : (upd H1 l (.lst (strsV ls ++ [V.str (strL (lineP (preL (ts.length + 1)) s))]))) x = some (.ins T.c_Tape dx [("_texts", .ref t), ("_lines", .ref l)]) := by rw [upd_ne nlx.symm]; exact h1
      have h5 : (upd H1 l (.lst (strsV ls ++ [V.str (strL (lineP (preL (ts.length + 1)) s))]))) t = some (.lst (strsV ts)) := by rw [upd_ne hT.ne]; exact h2
      walk_at "st"
      refine q hg _ (fun z o z1 z2 z3 => ?_) ⟨?_, ?_, ?_, hT.ne⟩
      · rw [upd_ne z1, upd_ne z2]
        exact s1 _ _ z3
      · rw [upd_ne ntx.symm]
        exact h4
      · rw [upd_same, strsV_one]
      · rw [upd_ne hT.ne.symm, upd_same, strsV_one]
    · exact qe hg H1 s1
def sp_Tape_texts (K : PySem.W.Frag) (C : Addr) : Sp := fun vs H Q _ => ∃ (x dx t l : Addr) (ts ls : List (List Nat)), vs = [.ref x] ∧ TapeOk C dx x t l ts ls H ∧ ∀ (_ : Unit) p H', Same H H' → H' p = some (.lst (strsV ts)) → Q (.ref p) H'
set_option maxHeartbeats 0 in
theorem ok_Tape_texts (T : Txt K mg) : FnOk P w K mg base CX0 1 T.f_Tape_texts T.d_Tape_texts ["self"] (sp_Tape_texts K T.c_Tape) := by
  refine T.F_Tape_texts.ok sc_Tape_texts (fun vs H Q E h => ?_) (fun cdv A outer s H vs Q E hr h => ?_)
  · obtain ⟨x, dx, t, l, ts, ls, rfl, _⟩ := h
    rfl
  · obtain ⟨x, dx, t, l, ts, ls, rfl, hT, q⟩ := h
    have fact_Tape_0 := T.cl_Tape; have fact_Tape_1 := T.na_Tape__texts; have fact_Tape_2 := T.na_Tape__lines
    have hins := hT.ins
    have hts := SqL.of (K := K) hT.tx
    have hlook : ([("_texts", V.ref t), ("_lines", V.ref l)] : List (Str × V)).lookup ("_texts" : Str) = some (V.ref t) := rfl
    refine ⟨_, (pss_one (ps_ret (pe_callTy call_list_of (by rfl) T.z_list (by decide +kernel) (pa_cons (pe_fld (pv 0) rfl) pa_nil)))), ?_⟩
    walk_at "st"
    intro p np
    exact q () p _ (same_upd np) upd_same
def sp_Tape_whole (K : PySem.W.Frag) (C : Addr) : Sp := fun vs H Q _ => ∃ (x dx t l : Addr) (ts ls : List (List Nat)), vs = [.ref x] ∧ TapeOk C dx x t l ts ls H ∧ ls.flatten.length ≤ 900 ∧ ls.length ≤ 100 ∧ Q (.str (strL ls.flatten)) H
set_option maxHeartbeats 0 in
theorem ok_Tape_whole (T : Txt K mg) : FnOk P w K mg base CX0 1 T.f_Tape_whole T.d_Tape_whole ["self"] (sp_Tape_whole K T.c_Tape) := by
  refine T.F_Tape_whole.ok sc_Tape_whole (fun vs H Q E h => ?_) (fun cdv A outer s H vs Q E hr h => ?_)
  · obtain ⟨x, dx, t, l, ts, ls, rfl, _⟩ := h
    rfl
  · obtain ⟨x, dx, t, l, ts, ls, rfl, hT, hl, hn, q⟩ := h
    have fact_Tape_0 := T.cl_Tape; have fact_Tape_1 := T.na_Tape__texts; have fact_Tape_2 := T.na_Tape__lines
    have hins := hT.ins
    have hts := SqL.of (K := K) hT.ln
    have hlook2 : ([("_texts", V.ref t), ("_lines", V.ref l)] : List (Str × V)).lookup ("_lines" : Str) = some (V.ref l) := rfl
    refine ⟨_, (pss_one (ps_ret (pe_join pe_str (pe_fld (pv 0) rfl)))), ?_⟩
    walk_at "st"
    refine ⟨⟨_, rfl⟩, _, rfl, x, T.c_Tape, dx, _, _, rfl, hins, T.cl_Tape, T.na_Tape__lines, hlook2, ?_⟩
    refine ⟨_, l, ls.map strL, rfl, rfl, .inl (by rw [strs_map]; exact hts), ?_, ?_⟩
    · rw [sum_flat]
      show _ + _ * 0 ≤ _
      omega
    rw [joined]
    exact q
def sp_law_append_raises (K : PySem.W.Frag) (C : Addr) : Sp := fun vs H Q _ => ∃ (x dx t l : Addr) (ts ls : List (List Nat)) (s : List Nat), vs = [.ref x, .str (strL s)] ∧ TapeOk C dx x t l ts ls H ∧ ts.length ≤ 100 ∧ ls.length ≤ 100 ∧ s.length ≤ 900 ∧ goodT s = false ∧ ∀ H', Same H H' → Q (.bl true) H'
set_option maxHeartbeats 0 in
theorem ok_law_append_raises (T : Txt K mg) : FnOk P w K mg base CX0 4 T.f_law_append_raises T.d_law_append_raises ["tape", "text"] (sp_law_append_raises K T.c_Tape) := by
  refine T.F_law_append_raises.ok sc_law_append_raises (fun vs H Q E h => ?_) (fun cdv A outer s H vs Q E hr h => ?_)
  · obtain ⟨x, dx, t, l, ts, ls, s, rfl, _⟩ := h
    rfl
  · obtain ⟨x, dx, t, l, ts, ls, s, rfl, hT, hn, hm, hs, hg, q⟩ := h
    have G_Tape_append : FnOk P w K mg base (L2.CX P w) 3 T.f_Tape_append T.d_Tape_append ["self", "text"] (sp_Tape_append K T.c_BrokenTape T.c_Tape) := ok_Tape_append T
    have fact_Tape_0 := T.cl_Tape; have fact_Tape_1 := T.na_Tape__texts; have fact_Tape_2 := T.na_Tape__lines
    have hins := hT.ins
    have te := PySem.W.exm_ref T.b_BrokenTape T.d_BrokenTape T.t_BrokenTape T.s_BrokenTape
    refine ⟨_, (pss_cons (ps_try_any rfl rfl sc_law_append_raises.nd takes0
      (fun W pn xe tk _ => (pss_one (ps_expr (pe_mx (pv 0) T.cl_Tape T.mt_Tape_append G_Tape_append hr T.b_Tape_append .nil (fun σ => passAt tk σ) (pa_cons (pv 1) pa_nil)))))
      (.cons (.plain ⟨rfl, by decide, Or.inl T.m_BrokenTape⟩ (fun a oe cls d pn hz hf => (pss_one (ps_ret pe_bl))))
      .nil))
    (pss_one (ps_ret pe_bl))), ?_⟩
    walk_at "st"
    refine ⟨ts, ls, s, rfl, hT, hn, hm, hs, fun z => absurd (hg.symm.trans z) (by decide), fun _ H1 s1 => ?_⟩
    refine ⟨true, te, fun _ a0 _ => ?_, fun q => Bool.noConfusion q⟩
    walk_at "st"
    exact q _ s1
theorem eqS {K : PySem.W.Frag} {H : Hp} {p u : Addr} {ts : List (List Nat)} {Q : VK} (hg : ∀ t, t ∈ ts → goodT t = true) (h1 : SqL K H p (strsV ts)) (h2 : SqL K H u (strsV ts)) :
    (Q (.bl true) H → rEqD K (.ref p) (.ref u) H Q) ∧ (Q (.bl false) H → rNeD K (.ref p) (.ref u) H Q) := by
  have e1 : strsV ts = (ts.map strL).map V.str := by unfold strsV; rw [List.map_map]; rfl
  rw [e1] at h1 h2
  have hG : ∀ x, x ∈ ts.map strL → PyData.strOk x = true := fun x hx => by
    obtain ⟨t, ht, rfl⟩ := List.mem_map.mp hx
    exact strOk_good (hg t ht)
  constructor
  · intro q
    refine eqL layD_str.list (by decide) (a := ts.map strL) (b := ts.map strL) hG hG (.lst h1 (dpAll_strs _)) (.lst h2 (dpAll_strs _)) ?_
    rw [decide_eq_true rfl]
    exact q
  · intro q
    refine neL layD_str.list (by decide) (a := ts.map strL) (b := ts.map strL) hG hG (.lst h1 (dpAll_strs _)) (.lst h2 (dpAll_strs _)) ?_
    rw [decide_eq_true rfl]
    exact q
def cellsG (ns : List Int) : List Int := cutI ns none (some 12)
theorem cellsG_eq (ns : List Int) : cellsG ns = ns.take 12 := by
  unfold cellsG cutI
  rw [HT.sIx_none, show (12 : Int) = ((12 : Nat) : Int) from rfl, HT.sIx_nat, List.drop_zero, Nat.sub_zero]
  rcases Nat.le_total 12 ns.length with h | h
  · rw [Nat.min_eq_left h]
  · rw [Nat.min_eq_right h, List.take_length, List.take_of_length_le h]
def tsG (ns : List Int) : List (List Nat) := (cellsG ns).map textG
theorem tsG_len (ns : List Int) : (tsG ns).length ≤ 12 := by
  unfold tsG
  rw [List.length_map, cellsG_eq]
  exact List.length_take_le _ _
theorem tsG_good (ns : List Int) : ∀ t, t ∈ tsG ns → goodT t = true := fun t h => by
  obtain ⟨c, _, rfl⟩ := List.mem_map.mp h
  exact textG_good c
def rsG (ns : List Int) : List (List Nat) := rowsP preL 1 (tsG ns)
theorem rsG_len (ns : List Int) : (rsG ns).length = (tsG ns).length := rowsP_len _ _ _
theorem rsG_small (ns : List Int) : ∀ r, r ∈ rsG ns → r.length ≤ 42 := fun r h => by
  obtain ⟨i, hi⟩ := List.mem_iff_getElem?.mp h
  have hil := (List.getElem?_eq_some_iff.mp hi).1
  have hl := tsG_len ns
  rw [rsG_len] at hil
  unfold rsG at hi
  rw [rowsP_at] at hi
  cases e : (tsG ns)[i]? with
  | none => rw [e] at hi; cases hi
  | some t =>
    rw [e] at hi
    have hr : lineP (preL (1 + i)) t = r := Option.some.inj hi
    rw [← hr, lineP_len]
    have ht : t.length ≤ 20 := by
      obtain ⟨c, _, rfl⟩ := List.mem_map.mp (List.mem_of_getElem? e)
      exact (textG_len20 c).2
    have hp : (preL (1 + i)).length ≤ 3 := by
      unfold preL
      rw [List.length_append, List.length_singleton]
      have := TL.numL_len (n := 1 + i) (k := 2) (by decide) (by omega)
      omega
    omega
theorem take_flat_le {ls : List (List Nat)} (hl : ls.length ≤ 12) (hs : ∀ l, l ∈ ls → l.length ≤ 42) (i : Nat) : (ls.take i).flatten.length ≤ 504 := by
  have h1 := flat_le (ls.take i) fun l z => hs l (List.mem_of_mem_take z)
  have h2 : (ls.take i).length * 42 ≤ 12 * 42 := Nat.mul_le_mul_right _ (by rw [List.length_take]; omega)
  omega
def sp_law (K : PySem.W.Frag) : Sp := fun vs H Q _ => ∃ (a : Addr) (ns : List Int), vs = [.ref a] ∧ SqL K H a (ns.map V.int) ∧ ns.length ≤ 63 ∧ ∀ H', Q (.bl true) H'
set_option maxHeartbeats 0 in
theorem ok_law {f : Addr} {fd : FuncData} (T : Txt K mg) (F : Fun K "law" "law" s_law f fd) : FnOk P w K mg base CX0 5 f fd ["script"] (sp_law K) := by
  refine F.ok sc_law (fun vs H Q E h => ?_) (fun cdv A outer s H vs Q E hr h => ?_)
  · obtain ⟨a, ns, rfl, _⟩ := h
    rfl
  · obtain ⟨a, ns, rfl, hs, hlen, q⟩ := h
    have G_Tape_init : FnOk P w K mg base CX0 1 T.f_Tape_init T.d_Tape_init ["self"] (sp_Tape_init K T.c_Tape) := ok_Tape_init T
    have G_law_text : FnOk P w K mg base CX0 2 T.f_law_text T.d_law_text ["cell"] (sp_law_text K) := ok_law_text T
    have G_Tape_append : FnOk P w K mg base (L2.CX P w) 3 T.f_Tape_append T.d_Tape_append ["self", "text"] (sp_Tape_append K T.c_BrokenTape T.c_Tape) := ok_Tape_append T
    have G_Tape_texts : FnOk P w K mg base CX0 1 T.f_Tape_texts T.d_Tape_texts ["self"] (sp_Tape_texts K T.c_Tape) := ok_Tape_texts T
    have G_Tape_whole : FnOk P w K mg base CX0 1 T.f_Tape_whole T.d_Tape_whole ["self"] (sp_Tape_whole K T.c_Tape) := ok_Tape_whole T
    have G_read_tape : FnOk P w K mg base CX0 4 T.f_read_tape T.d_read_tape ["tape"] (sp_read_tape K) := ok_read_tape T
    have G_law_check : FnOk P w K mg base CX0 1 T.f_law_check T.d_law_check ["text"] (sp_law_check K) := ok_law_check T
    have G_check_of : FnOk P w K mg base CX0 1 T.f_check_of T.d_check_of ["text"] (sp_check_of K) := ok_check_of T
    have G_write_line : FnOk P w K mg base (L2.CX P w) 2 T.f_write_line T.d_write_line ["number", "text"] (sp_write_line K T.c_BrokenTape) := ok_write_line T
    have G_law_raises : FnOk P w K mg base CX0 3 T.f_law_raises T.d_law_raises ["number", "text"] (sp_law_raises K) := ok_law_raises T
    have G_law_append_raises : FnOk P w K mg base CX0 4 T.f_law_append_raises T.d_law_append_raises ["tape", "text"] (sp_law_append_raises K T.c_Tape) := ok_law_append_raises T
    have fact_Tape_0 := T.cl_Tape; have fact_Tape_1 := T.na_Tape__texts; have fact_Tape_2 := T.na_Tape__lines
    refine ⟨_, (pss_cons (ps_set (i := 1) sc_law.nd rfl (Or.inl rfl) (pe_make0 T.mk_Tape G_Tape_init (hr.mono (by decide)) (by rfl) T.m_Tape T.b_Tape_init .nil pass0))
    (pss_cons (ps_set (i := 2) sc_law.nd rfl (Or.inl rfl) (pe_lst pa_nil))
    (pss_cons (ps_set (i := 3) sc_law.nd rfl (Or.inl rfl) pe_str)
    (pss_cons (ps_for PassesOwn.never rfl (pi_enum (by rfl) T.z_enumerate (pa_cons (pe_slice sl_list (pv 0) po_none (po_some pe_int)) pa_nil)) (pg_tup rfl (pgs_cons (pg_name (i := 4) sc_law.nd rfl (Or.inl rfl)) (pgs_cons (pg_name (i := 5) sc_law.nd rfl (Or.inl rfl)) pgs_nil)))
      (pss_cons (ps_set (i := 6) sc_law.nd rfl (Or.inl rfl) (pe_call G_law_text (hr.mono (by decide)) (by rfl) T.m_law_text T.F_law_text.kp T.b_law_text .nil pass0 (pa_cons (pv 5) pa_nil)))
      (pss_cons (ps_set (i := 7) sc_law.nd rfl (Or.inl rfl) (pe_op op_add_str (pe_op op_add_str (pe_callTy call_str_int (by rfl) T.z_str (by decide +kernel) (pa_cons (pe_op op_add (pv 4) pe_int) pa_nil)) pe_str) (pv 6)))
      (pss_cons (ps_set (i := 8) sc_law.nd rfl (Or.inl rfl) (pe_op op_add_str (pe_op op_add_str (pe_op op_add_str (pv 7) pe_str) (pe_call G_law_check (hr.mono (by decide)) (by rfl) T.m_law_check T.F_law_check.kp T.b_law_check .nil pass0 (pa_cons (pv 7) pa_nil))) pe_str))
      (pss_cons (ps_if (PW.pt (pw_or (pt_cmpR op_ne (pe_call G_check_of (hr.mono (by decide)) (by rfl) T.m_check_of T.F_check_of.kp T.b_check_of .nil pass0 (pa_cons (pv 6) pa_nil)) (pe_call G_law_check (hr.mono (by decide)) (by rfl) T.m_law_check T.F_law_check.kp T.b_law_check .nil pass0 (pa_cons (pv 6) pa_nil)) (nomark _)) (pw_or1 (pt_cmpR op_ne (pe_call G_write_line (hr.mono (by decide)) (by rfl) T.m_write_line T.F_write_line.kp T.b_write_line .nil passL (pa_cons (pe_op op_add (pv 4) pe_int) (pa_cons (pv 6) pa_nil))) (pv 8) (nomark _)))))
        (pss_one (ps_ret pe_bl))
        pss_nil)
      (pss_cons (ps_set (i := 9) sc_law.nd rfl (Or.inl rfl) (pe_op op_add_str (pe_op op_add_str (pe_slice sl_str (pv 6) po_none (po_some (pe_op op_mod (pe_callTy call_int_i (by rfl) T.z_int (by decide +kernel) (pa_cons (pv 5) pa_nil)) pe_int))) (pe_ix ix_list (pe_lst (pa_cons pe_str (pa_cons pe_str pa_nil))) (pe_op op_mod (pe_callTy call_int_i (by rfl) T.z_int (by decide +kernel) (pa_cons (pv 5) pa_nil)) pe_int) (fun _ _ => rfl))) (pv 6)))
      (pss_cons (ps_if (PW.pt (pw_or (pt_not (pt_val (pe_call G_law_raises (hr.mono (by decide)) (by rfl) T.m_law_raises T.F_law_raises.kp T.b_law_raises .nil pass0 (pa_cons (pe_op op_add (pv 4) pe_int) (pa_cons (pv 9) pa_nil))))) (pw_or1 (pt_not (pt_val (pe_call G_law_raises (hr.mono (by decide)) (by rfl) T.m_law_raises T.F_law_raises.kp T.b_law_raises .nil pass0 (pa_cons (pe_op op_add (pv 4) pe_int) (pa_cons pe_str pa_nil))))))))
        (pss_one (ps_ret pe_bl))
        pss_nil)
      (pss_cons (ps_if (PW.pt (pw_or (pt_not (pt_val (pe_call G_law_append_raises hr (by rfl) T.m_law_append_raises T.F_law_append_raises.kp T.b_law_append_raises .nil pass0 (pa_cons (pv 1) (pa_cons (pv 9) pa_nil))))) (pw_or (pt_not (pt_val (pe_call G_law_append_raises hr (by rfl) T.m_law_append_raises T.F_law_append_raises.kp T.b_law_append_raises .nil pass0 (pa_cons (pv 1) (pa_cons pe_str pa_nil))))) (pw_or1 (pt_cmpR (op_neD hr.units) (pe_meth0 (pv 1) T.cl_Tape T.mt_Tape_texts G_Tape_texts (hr.mono (by decide)) T.b_Tape_texts .nil pass0) (pv 2) (nomark _))))))
        (pss_one (ps_ret pe_bl))
        pss_nil)
      (pss_cons (ps_if (pt_cmpR op_ne (pe_mx (pv 1) T.cl_Tape T.mt_Tape_append G_Tape_append (hr.mono (by decide)) T.b_Tape_append .nil (fun _ => passLat) (pa_cons (pv 6) pa_nil)) (pe_op op_add (pv 4) pe_int) (nomark _))
        (pss_one (ps_ret pe_bl))
        pss_nil)
      (pss_cons (ps_expr (pe_bm PySem.F.plainAttrs_list PySem.F.slot_list_append PySem.F.type_list_append mt_append (pv 2) (pa_cons (pv 6) pa_nil)))
      (pss_one (ps_set (i := 3) sc_law.nd rfl (Or.inl rfl) (pe_op op_add_str (pv 3) (pv 8))))))))))))))
    (pss_one (ps_ret (pe_and (pe_cmpR (op_eqD hr.units) (pe_meth0 (pv 1) T.cl_Tape T.mt_Tape_texts G_Tape_texts (hr.mono (by decide)) T.b_Tape_texts .nil pass0) (pv 2) (nomark _)) (pe_and (pe_cmpR op_eq (pe_meth0 (pv 1) T.cl_Tape T.mt_Tape_whole G_Tape_whole (hr.mono (by decide)) T.b_Tape_whole .nil pass0) (pv 3) (nomark _)) (pe_one (pe_cmpR (op_eqD hr.units) (pe_call G_read_tape hr (by rfl) T.m_read_tape T.F_read_tape.kp T.b_read_tape .nil pass0 (pa_cons (pv 3) pa_nil)) (pe_tup (pa_cons (pv 2) (pa_cons (pe_callB call_len_str (by rfl) T.z_len PySem.boot_len (pa_cons (pv 3) pa_nil)) pa_nil))) (nomark _))))))))))), ?_⟩
    walk_at "st"
    intro x dx nx ndx nex
    refine ⟨x, dx, rfl, ?_, fun _ t l H1 k1 nt nl hT => ?_⟩
    · exact upd_same
    have ntx : t ≠ x := fun z => by rw [z, upd_same] at nt; cases nt
    have nlx : l ≠ x := fun z => by rw [z, upd_same] at nl; cases nl
    have ntd : t ≠ dx := fun z => by rw [upd_ne ntx, z, upd_same] at nt; cases nt
    have nld : l ≠ dx := fun z => by rw [upd_ne nlx, z, upd_same] at nl; cases nl
    have nt0 : H t = none := by rw [upd_ne ntx, upd_ne ntd] at nt; exact nt
    have nl0 : H l = none := by rw [upd_ne nlx, upd_ne nld] at nl; exact nl
    have s1 : Same H H1 := fun z o hz => by
      refine k1 z o (fun e => by rw [e, nx] at hz; cases hz) ?_
      rw [upd_ne (fun e => by rw [e, nx] at hz; cases hz), upd_ne (fun e => by rw [e, ndx] at hz; cases hz)]
      exact hz
    refine ⟨rfl, ?_⟩
    walk_at "st"
    intro Tx nTx
    generalize hH2 : upd H1 Tx _ = H2
    have s2 : Same H1 H2 := hH2 ▸ same_upd nTx
    have hTx := (congrFun hH2 Tx).symm.trans upd_same
    have nTt : Tx ≠ t := fun z => by rw [z, hT.tx] at nTx; cases nTx
    have nTl : Tx ≠ l := fun z => by rw [z, hT.ln] at nTx; cases nTx
    have nT0 : H Tx = none := s1.free nTx
    have hT2 : TapeOk T.c_Tape dx x t l [] [] H2 := ⟨s2 _ _ hT.ins, s2 _ _ hT.tx, s2 _ _ hT.ln, hT.ne⟩
    have hs2 := (s1.trans s2).seq hs
    walk_at "st"
    intro C nC
    generalize hH3 : upd H2 C _ = H3
    have s3 : Same H2 H3 := hH3 ▸ same_upd nC
    have hC := (congrFun hH3 C).symm.trans upd_same
    rw [cutV_ints] at hC
    have nCT : C ≠ Tx := fun z => by rw [z, hTx] at nC; cases nC
    have nCt : C ≠ t := fun z => by rw [z, hT2.tx] at nC; cases nC
    have nCl : C ≠ l := fun z => by rw [z, hT2.ln] at nC; cases nC
    have lk1 : ([("_texts", V.ref t), ("_lines", V.ref l)] : List (Str × V)).lookup ("texts" : Str) = none := rfl
    have lk2 : ([("_texts", V.ref t), ("_lines", V.ref l)] : List (Str × V)).lookup ("whole" : Str) = none := rfl
    have lk3 : ([("_texts", V.ref t), ("_lines", V.ref l)] : List (Str × V)).lookup ("append" : Str) = none := rfl
    have hCl : (cellsG ns).length ≤ 12 := by rw [cellsG_eq]; exact List.length_take_le _ _
    have hrl := rsG_len ns
    have htl := tsG_len ns
    have htl2 : (tsG ns).length = (cellsG ns).length := List.length_map ..
    refine ⟨C, (cellsG ns).map V.int, rfl, SqL.of hC, ?_⟩
    refine for_enum (a := C) (xs := (cellsG ns).map V.int) (fun i σ H' => ∃ v4 v5 v6 v7 v8 v9 : Option V, σ = [some (.ref a), some (.ref x), some (.ref Tx), some (.str (strL ((rsG ns).take i).flatten)), v4, v5, v6, v7, v8, v9] ∧ Same H H' ∧ H' C = some (.lst ((cellsG ns).map V.int)) ∧ H' Tx = some (.lst (strsV ((tsG ns).take i))) ∧ TapeOk T.c_Tape dx x t l ((tsG ns).take i) ((rsG ns).take i) H')
      ⟨none, none, none, none, none, none, rfl, (s1.trans s2).trans s3, hC, by rw [s3 _ _ hTx, List.take_zero]; rfl, ⟨s3 _ _ hT2.ins, s3 _ _ hT2.tx, s3 _ _ hT2.ln, hT.ne⟩⟩ (fun i σ H' _ ⟨_, _, _, _, _, _, _, _, h, _⟩ => SqL.of h) ?_ ?_
    · rintro i y σ H' U hy ⟨v4, v5, v6, v7, v8, v9, rfl, e1, hC', hX, hT'⟩ nU
      obtain ⟨c, hc, rfl⟩ := ints_at hy
      have hi := (List.getElem?_eq_some_iff.mp hc).1
      have sU : ∀ o, Same H' (upd H' U o) := fun o => same_upd nU
      have htx : (tsG ns)[i]? = some (textG c) := by
        unfold tsG
        rw [List.getElem?_map, hc]
        rfl
      have hrow : (rsG ns)[i]? = some (lineP (preL (i + 1)) (textG c)) := by
        unfold rsG
        rw [rowsP_at, htx, Nat.add_comm]
        rfl
      have hg := textG_good c
      have hl20 := (textG_len20 c).2
      walk_at "st"
      intro H4 s4
      generalize ht : textG c = txt at *
      walk_at "st"
      refine ⟨natAbs_log (k := 10) (by omega) (by decide) (by decide), ?_⟩
      rw [show (i : Int) + 1 = ((i + 1 : Nat) : Int) by omega]
      have e3 : TL.tl (Str.ofString (toString ((i + 1 : Nat) : Int)) ++ (" " : Str) ++ strL txt) = preL (i + 1) ++ txt := by
        rw [TL.tl_append, TL.tl_append, TL.tl_num, tl_strL]
        rfl
      have l0 : (Str.ofString (toString ((i + 1 : Nat) : Int))).length ≤ 3 := by rw [TL.len_tl, TL.tl_num]; exact numL_3 (by omega)
      have l1 : (Str.ofString (toString ((i + 1 : Nat) : Int)) ++ (" " : Str)).length ≤ 4 := by rw [TL.len_tl, TL.tl_append, List.length_append, ← TL.len_tl]; exact Nat.add_le_add l0 (Nat.le_refl 1)
      have l2 : (Str.ofString (toString ((i + 1 : Nat) : Int)) ++ (" " : Str) ++ strL txt).length ≤ 24 := by rw [TL.len_tl, TL.tl_append, List.length_append, ← TL.len_tl, tl_strL]; omega
      refine ⟨_, _, rfl, rfl, len_le' (m := 4) (Nat.add_le_add l0 (Nat.le_refl 1)) rfl, ?_⟩
      refine ⟨_, rfl, _, _, rfl, rfl, len_le' (m := 24) (by rw [strL_len]; omega) rfl, ?_⟩
      generalize Str.ofString (toString ((i + 1 : Nat) : Int)) ++ (" " : Str) ++ strL txt = body at l2 e3
      have l3 : (body ++ (" " : Str)).length ≤ 25 := by rw [TL.len_tl, TL.tl_append, List.length_append, ← TL.len_tl]; exact Nat.add_le_add l2 (Nat.le_refl 1)
      have l4 : (body ++ (" " : Str) ++ strL (dig4 (chkF 7 (TL.tl body)))).length ≤ 29 := by rw [TL.len_tl, TL.tl_append, List.length_append, ← TL.len_tl, tl_strL]; exact Nat.add_le_add l3 (Nat.le_refl 4)
      have eL : body ++ (" " : Str) ++ strL (dig4 (chkF 7 (TL.tl body))) ++ ("\n" : Str) = strL (lineP (preL (i + 1)) txt) := by
        refine TL.ext_tl ?_
        rw [TL.tl_append, TL.tl_append, TL.tl_append, tl_strL, tl_strL, e3]
        unfold lineP
        show preL (i + 1) ++ txt ++ [32] ++ dig4 _ ++ [10] = _
        simp only [List.append_assoc]
      walk_at "st"
      refine ⟨len_le' (m := 25) (by show body.length + 1 ≤ 25; omega) rfl, ?_⟩
      walk_at "st"
      refine ⟨len_le' (m := 29) (by rw [strL_len]; exact Nat.add_le_add l3 (Nat.le_refl 4)) rfl, ?_⟩
      refine ⟨_, _, rfl, rfl, len_le' (m := 30) (Nat.add_le_add l4 (Nat.le_refl 1)) rfl, ?_⟩
      rw [eL]
      have hLl := rsG_small ns _ (List.mem_of_getElem? hrow)
      generalize hLL : lineP (preL (i + 1)) txt = lin at *
      have hst : (strL txt).length ≤ 20 := by rw [strL_len]; exact hl20
      walk_at "st"
      rw [decide_eq_true rfl]
      walk_at "st"
      rw [tl_strL]
      refine ⟨fun _ H5 s5 => ?_, fun z => absurd (hg.symm.trans z) (by decide)⟩
      rw [hLL]
      walk_at "st"
      rw [decide_eq_true rfl]
      have hsl : (strL txt).length ≤ sizeLine := len_le' hst rfl
      obtain ⟨sp, hsp, hat⟩ : ∃ sp : List Nat, (sp = [10] ∨ sp = [9]) ∧ atI [V.str "\n", V.str "\t"] (c % 2) = some (.str (strL sp)) := by
        rcases (show c % 2 = 0 ∨ c % 2 = 1 by omega) with e | e
        · rw [e]
          exact ⟨[10], .inl rfl, rfl⟩
        · rw [e]
          exact ⟨[9], .inr rfl, rfl⟩
      walk_at "st"
      intro p6 n6
      generalize hH6 : upd H5 p6 _ = H6
      have s6 : Same H5 H6 := hH6 ▸ same_upd n6
      have hp6 := (congrFun hH6 p6).symm.trans upd_same
      have hp6s := SqL.of (K := K) hp6
      have lsp : (strL sp).length = 1 := by
        rw [strL_len]
        rcases hsp with e | e <;> rw [e] <;> rfl
      have lct := cutS_length (strL txt) none (some (c % 3))
      walk_at "st"
      refine ⟨len_le' (m := 21) (by omega) rfl, ?_⟩
      have lb1 : (cutS (strL txt) none (some (c % 3)) ++ strL sp).length ≤ 21 := by rw [TL.len_tl, TL.tl_append, List.length_append, ← TL.len_tl, ← TL.len_tl]; omega
      refine ⟨_, rfl, _, _, rfl, rfl, len_le' (m := 41) (by omega) rfl, ?_⟩
      have lb2 : (cutS (strL txt) none (some (c % 3)) ++ strL sp ++ strL txt).length ≤ 41 := by rw [TL.len_tl, TL.tl_append, List.length_append, ← TL.len_tl, ← TL.len_tl]; omega
      have gb : goodT (TL.tl (cutS (strL txt) none (some (c % 3)) ++ strL sp ++ strL txt)) = false := by
        cases e : goodT (TL.tl (cutS (strL txt) none (some (c % 3)) ++ strL sp ++ strL txt)) with
        | false => rfl
        | true =>
          exfalso
          have h2 := (goodT_iff.mp e).2
          rw [TL.tl_append, TL.tl_append, tl_strL] at h2
          rcases hsp with z | z
          · have := h2 10 (by rw [z]; simp)
            omega
          · have := h2 9 (by rw [z]; simp)
            omega
      rw [← strL_tl (cutS (strL txt) none (some (c % 3)) ++ strL sp ++ strL txt)]
      rw [TL.len_tl] at lb2
      generalize TL.tl (cutS (strL txt) none (some (c % 3)) ++ strL sp ++ strL txt) = bad at lb2 gb
      have hbl : (strL bad).length ≤ 900 := by rw [strL_len]; omega
      have gb2 : goodT (TL.tl (strL bad)) = false := by rw [tl_strL]; exact gb
      walk_at "st"
      intro H7 s7
      walk_at "st"
      refine ⟨by decide, by decide, fun H8 s8 => ?_⟩
      have e8 : Same H' H8 := (((((sU _).trans s4).trans s5).trans s6).trans s7).trans s8
      have hT8 := hT'.same e8
      have hti : ((tsG ns).take i).length = i := by rw [List.length_take]; omega
      have hri : ((rsG ns).take i).length = i := by rw [List.length_take]; omega
      walk_at "st"
      refine ⟨(tsG ns).take i, (rsG ns).take i, bad, rfl, hT8, by omega, by omega, by omega, gb, fun H9 s9 => ?_⟩
      have hT9 := hT8.same s9
      walk_at "st"
      refine ⟨(tsG ns).take i, (rsG ns).take i, [], rfl, hT9, by omega, by omega, by decide, by decide, fun H10 s10 => ?_⟩
      have hT10 := hT9.same s10
      have hins10 := hT10.ins
      walk_at "st"
      refine ⟨(tsG ns).take i, (rsG ns).take i, rfl, hT10, fun _ p11 H11 s11 hp11 => ?_⟩
      have hT11 := hT10.same s11
      have hins11 := hT11.ins
      have e11 : Same H' H11 := ((e8.trans s9).trans s10).trans s11
      have hX11 := e11 _ _ hX
      walk_at "st"
      refine (eqS (fun z hz => tsG_good ns z (List.mem_of_mem_take hz)) (SqL.of hp11) (SqL.of hX11)).2 ?_
      walk_at "st"
      refine ⟨(tsG ns).take i, (rsG ns).take i, txt, rfl, hT11, by omega, by omega, by omega, fun _ H12 k12 hT12 => ?_, fun z => absurd (hg.symm.trans z) (by decide)⟩
      have hX12 := k12 _ _ nTt nTl hX11
      have hlt12 : (strsV ((tsG ns).take i)).length < sizeLine := small1000 (by rw [strsV_len]; omega)
      have hfi := take_flat_le (ls := rsG ns) (by omega) (rsG_small ns) i
      walk_at "st"
      refine iteDN (fun z => absurd (congrArg V.int (by rw [hti]; omega)) z) (fun _ => ?_)
      walk_at "st"
      refine ⟨len_le' (m := 546) (by rw [strL_len, strL_len]; omega) rfl, ?_⟩
      have hflat : strL ((rsG ns).take i).flatten ++ strL lin = strL ((rsG ns).take (i + 1)).flatten := by
        refine TL.ext_tl ?_
        rw [TL.tl_append, tl_strL, tl_strL, tl_strL, take_succ hrow, List.flatten_append]
        simp
      rw [hti, take_succ htx] at *
      rw [hflat]
      refine ⟨_, _, _, _, _, _, rfl, fun z o y => ?_, ?_, ?_, ?_⟩
      · rw [upd_ne (ne_of_none y nT0)]
        exact k12 z o (ne_of_none y nt0) (ne_of_none y nl0) ((e1.trans e11) z o y)
      · rw [upd_ne nCT]
        exact k12 _ _ nCt nCl (e11 _ _ hC')
      · rw [upd_same, strsV_one]
      · have nTx : Tx ≠ x := fun z => by
          have := hT12.ins
          rw [← z, hX12] at this
          cases this
        refine ⟨?_, ?_, ?_, hT12.ne⟩
        · rw [upd_ne nTx.symm]
          exact hT12.ins
        · rw [upd_ne nTt.symm]
          exact hT12.tx
        · rw [upd_ne nTl.symm, take_succ hrow, ← hLL]
          have := hT12.ln
          exact this
    · rintro σ H' ⟨v4, v5, v6, v7, v8, v9, rfl, e1, hC', hX, hT'⟩
      rw [List.length_map, List.take_of_length_le (by omega), List.take_of_length_le (by omega)] at *
      have hins := hT'.ins
      walk_at "st"
      refine ⟨tsG ns, rsG ns, rfl, hT', fun _ p H5 s5 hp => ?_⟩
      walk_at "st"
      refine (eqS (tsG_good ns) (SqL.of hp) (SqL.of (s5 _ _ hX))).1 ?_
      have hfl := take_flat_le (ls := rsG ns) (by omega) (rsG_small ns) (rsG ns).length
      rw [List.take_length] at hfl
      have hins5 := s5 _ _ hins
      have hT5 : TapeOk T.c_Tape dx x t l (tsG ns) (rsG ns) H5 := ⟨s5 _ _ hT'.ins, s5 _ _ hT'.tx, s5 _ _ hT'.ln, hT'.ne⟩
      walk_at "st"
      refine ⟨tsG ns, rsG ns, rfl, hT5, by omega, by omega, ?_⟩
      walk_at "st"
      have hwl : (strL (rsG ns).flatten).length ≤ sizeLine := by rw [strL_len]; exact len_le' (m := 504) hfl rfl
      rw [decide_eq_true rfl]
      walk_at "st"
      have hRd := reads_ahead preL_no (us := []) (n := 0) (r := []) (tsG ns) 1 (tsG_good ns) (.stop (textAt_no (by simp)))
      rw [List.append_nil, List.append_nil, Nat.add_zero] at hRd
      refine ⟨tsG ns, (rsG ns).flatten.length, rfl, by rw [strL_len]; omega, by omega, by rw [tl_strL]; exact hRd, fun p6 d6 H6 s6 hp6 hd6 => ?_⟩
      walk_at "st"
      intro u nu
      have s7 : ∀ o, Same H6 (upd H6 u o) := fun o => same_upd nu
      rw [strL_len]
      refine eqT (K := K) (tsG_good ns) (SqT.of (s7 _ _ _ hp6)) (SqL.of (s7 _ _ _ hd6)) (SqT.of upd_same) (SqL.of (s7 _ _ _ (s6 _ _ (s5 _ _ hX)))) ?_
      exact q _

end
set_option maxHeartbeats 0 in
theorem all_mk {l : PySem.W.OpenLaw} {w : World} {K : PySem.W.Frag} {h : Heap} {mg : Str → Option Value} {fa f1 f2 f3 f4 f5 f6 f7 f8 f9 f10 f11 f12 f13 f14 f15 f16 : Addr} (X : K.In h) (G : h.Ns mainGlobals mg) (hfa : mg "law" = some (.ref fa))
    {c_BourseError c_BrokenTape c_Tape : Addr}
    {od1 an1 od2 an2 od3 an3 od4 an4 od5 an5 od6 an6 od7 an7 od8 an8 od9 an9 od10 an10 od11 an11 od12 an12 od13 an13 od14 an14 od15 an15 od16 an16 : Option Addr} {sl1 sl2 sl3 sl4 sl5 sl6 sl7 sl8 sl9 sl10 sl11 sl12 sl13 sl14 sl15 sl16 : Array (Option Value)} {oc1 kV1 dc1 pm1 cd1 ct1 oc2 kV2 dc2 pm2 cd2 ct2 oc3 kV3 dc3 pm3 cd3 ct3 oc4 kV4 dc4 pm4 cd4 ct4 oc5 kV5 dc5 pm5 cd5 ct5 oc6 kV6 dc6 pm6 cd6 ct6 oc7 kV7 dc7 pm7 cd7 ct7 oc8 kV8 dc8 pm8 cd8 ct8 oc9 kV9 dc9 pm9 cd9 ct9 oc10 kV10 dc10 pm10 cd10 ct10 oc11 kV11 dc11 pm11 cd11 ct11 oc12 kV12 dc12 pm12 cd12 ct12 oc13 kV13 dc13 pm13 cd13 ct13 oc14 kV14 dc14 pm14 cd14 ct14 oc15 kV15 dc15 pm15 cd15 ct15 oc16 kV16 dc16 pm16 cd16 ct16 : Value}
    (a1 : PySem.W.nsIn K mainGlobals "check_of" = some (some (.ref f1)))
    (l1 : K.lookup f1 = some ⟨oc1, od1, .func (PySem.W.fnOf "check_of" "check_of" (defArgs s_check_of) (defBody s_check_of) (defScope s_check_of) .none kV1 dc1 pm1 an1 cd1 ct1), sl1⟩) (c1 : PySem.W.codeIn K cd1 "check_of" = true) (k1 : PySem.W.keepIn K (.ref f1) = true)
    (a2 : PySem.W.nsIn K mainGlobals "write_line" = some (some (.ref f2)))
    (l2 : K.lookup f2 = some ⟨oc2, od2, .func (PySem.W.fnOf "write_line" "write_line" (defArgs s_write_line) (defBody s_write_line) (defScope s_write_line) .none kV2 dc2 pm2 an2 cd2 ct2), sl2⟩) (c2 : PySem.W.codeIn K cd2 "write_line" = true) (k2 : PySem.W.keepIn K (.ref f2) = true)
    (a3 : PySem.W.nsIn K mainGlobals "read_tape" = some (some (.ref f3)))
    (l3 : K.lookup f3 = some ⟨oc3, od3, .func (PySem.W.fnOf "read_tape" "read_tape" (defArgs s_read_tape) (defBody s_read_tape) (defScope s_read_tape) .none kV3 dc3 pm3 an3 cd3 ct3), sl3⟩) (c3 : PySem.W.codeIn K cd3 "read_tape" = true) (k3 : PySem.W.keepIn K (.ref f3) = true)
    (a4 : PySem.W.nsIn K mainGlobals "_text_at" = some (some (.ref f4)))
    (l4 : K.lookup f4 = some ⟨oc4, od4, .func (PySem.W.fnOf "_text_at" "_text_at" (defArgs s_text_at) (defBody s_text_at) (defScope s_text_at) .none kV4 dc4 pm4 an4 cd4 ct4), sl4⟩) (c4 : PySem.W.codeIn K cd4 "_text_at" = true) (k4 : PySem.W.keepIn K (.ref f4) = true)
    (a5 : PySem.W.nsIn K mainGlobals "_is_text" = some (some (.ref f5)))
    (l5 : K.lookup f5 = some ⟨oc5, od5, .func (PySem.W.fnOf "_is_text" "_is_text" (defArgs s_is_text) (defBody s_is_text) (defScope s_is_text) .none kV5 dc5 pm5 an5 cd5 ct5), sl5⟩) (c5 : PySem.W.codeIn K cd5 "_is_text" = true) (k5 : PySem.W.keepIn K (.ref f5) = true)
    (a6 : PySem.W.findIn K (.ref c_Tape) "__init__" = some (some (.ref f6))) (i6 : PySem.W.isFn K (.ref f6) = true)
    (l6 : K.lookup f6 = some ⟨oc6, od6, .func (PySem.W.fnOf "__init__" "Tape.__init__" (defArgs s_Tape_init) (defBody s_Tape_init) (defScope s_Tape_init) .none kV6 dc6 pm6 an6 cd6 ct6), sl6⟩) (c6 : PySem.W.codeIn K cd6 "Tape.__init__" = true) (k6 : PySem.W.keepIn K (.ref f6) = true)
    (a7 : PySem.W.findIn K (.ref c_Tape) "append" = some (some (.ref f7))) (i7 : PySem.W.isFn K (.ref f7) = true)
    (l7 : K.lookup f7 = some ⟨oc7, od7, .func (PySem.W.fnOf "append" "Tape.append" (defArgs s_Tape_append) (defBody s_Tape_append) (defScope s_Tape_append) .none kV7 dc7 pm7 an7 cd7 ct7), sl7⟩) (c7 : PySem.W.codeIn K cd7 "Tape.append" = true) (k7 : PySem.W.keepIn K (.ref f7) = true)
    (a8 : PySem.W.findIn K (.ref c_Tape) "texts" = some (some (.ref f8))) (i8 : PySem.W.isFn K (.ref f8) = true)
    (l8 : K.lookup f8 = some ⟨oc8, od8, .func (PySem.W.fnOf "texts" "Tape.texts" (defArgs s_Tape_texts) (defBody s_Tape_texts) (defScope s_Tape_texts) .none kV8 dc8 pm8 an8 cd8 ct8), sl8⟩) (c8 : PySem.W.codeIn K cd8 "Tape.texts" = true) (k8 : PySem.W.keepIn K (.ref f8) = true)
    (a9 : PySem.W.findIn K (.ref c_Tape) "whole" = some (some (.ref f9))) (i9 : PySem.W.isFn K (.ref f9) = true)
    (l9 : K.lookup f9 = some ⟨oc9, od9, .func (PySem.W.fnOf "whole" "Tape.whole" (defArgs s_Tape_whole) (defBody s_Tape_whole) (defScope s_Tape_whole) .none kV9 dc9 pm9 an9 cd9 ct9), sl9⟩) (c9 : PySem.W.codeIn K cd9 "Tape.whole" = true) (k9 : PySem.W.keepIn K (.ref f9) = true)
    (a10 : PySem.W.nsIn K mainGlobals "_law_digit" = some (some (.ref f10)))
    (l10 : K.lookup f10 = some ⟨oc10, od10, .func (PySem.W.fnOf "_law_digit" "_law_digit" (defArgs s_law_digit) (defBody s_law_digit) (defScope s_law_digit) .none kV10 dc10 pm10 an10 cd10 ct10), sl10⟩) (c10 : PySem.W.codeIn K cd10 "_law_digit" = true) (k10 : PySem.W.keepIn K (.ref f10) = true)
    (a11 : PySem.W.nsIn K mainGlobals "_law_char" = some (some (.ref f11)))
    (l11 : K.lookup f11 = some ⟨oc11, od11, .func (PySem.W.fnOf "_law_char" "_law_char" (defArgs s_law_char) (defBody s_law_char) (defScope s_law_char) .none kV11 dc11 pm11 an11 cd11 ct11), sl11⟩) (c11 : PySem.W.codeIn K cd11 "_law_char" = true) (k11 : PySem.W.keepIn K (.ref f11) = true)
    (a12 : PySem.W.nsIn K mainGlobals "_law_text" = some (some (.ref f12)))
    (l12 : K.lookup f12 = some ⟨oc12, od12, .func (PySem.W.fnOf "_law_text" "_law_text" (defArgs s_law_text) (defBody s_law_text) (defScope s_law_text) .none kV12 dc12 pm12 an12 cd12 ct12), sl12⟩) (c12 : PySem.W.codeIn K cd12 "_law_text" = true) (k12 : PySem.W.keepIn K (.ref f12) = true)
    (a13 : PySem.W.nsIn K mainGlobals "_law_check" = some (some (.ref f13)))
    (l13 : K.lookup f13 = some ⟨oc13, od13, .func (PySem.W.fnOf "_law_check" "_law_check" (defArgs s_law_check) (defBody s_law_check) (defScope s_law_check) .none kV13 dc13 pm13 an13 cd13 ct13), sl13⟩) (c13 : PySem.W.codeIn K cd13 "_law_check" = true) (k13 : PySem.W.keepIn K (.ref f13) = true)
    (a14 : PySem.W.nsIn K mainGlobals "_law_raises" = some (some (.ref f14)))
    (l14 : K.lookup f14 = some ⟨oc14, od14, .func (PySem.W.fnOf "_law_raises" "_law_raises" (defArgs s_law_raises) (defBody s_law_raises) (defScope s_law_raises) .none kV14 dc14 pm14 an14 cd14 ct14), sl14⟩) (c14 : PySem.W.codeIn K cd14 "_law_raises" = true) (k14 : PySem.W.keepIn K (.ref f14) = true)
    (a15 : PySem.W.nsIn K mainGlobals "_law_append_raises" = some (some (.ref f15)))
    (l15 : K.lookup f15 = some ⟨oc15, od15, .func (PySem.W.fnOf "_law_append_raises" "_law_append_raises" (defArgs s_law_append_raises) (defBody s_law_append_raises) (defScope s_law_append_raises) .none kV15 dc15 pm15 an15 cd15 ct15), sl15⟩) (c15 : PySem.W.codeIn K cd15 "_law_append_raises" = true) (k15 : PySem.W.keepIn K (.ref f15) = true)
    (a16 : PySem.W.nsIn K mainGlobals "law" = some (some (.ref f16)))
    (l16 : K.lookup f16 = some ⟨oc16, od16, .func (PySem.W.fnOf "law" "law" (defArgs s_law) (defBody s_law) (defScope s_law) .none kV16 dc16 pm16 an16 cd16 ct16), sl16⟩) (c16 : PySem.W.codeIn K cd16 "law" = true) (k16 : PySem.W.keepIn K (.ref f16) = true)
    (z_all : PySem.W.nsIn K mainGlobals "all" = some none)
    (z_enumerate : PySem.W.nsIn K mainGlobals "enumerate" = some none)
    (z_int : PySem.W.nsIn K mainGlobals "int" = some none)
    (z_isinstance : PySem.W.nsIn K mainGlobals "isinstance" = some none)
    (z_len : PySem.W.nsIn K mainGlobals "len" = some none)
    (z_list : PySem.W.nsIn K mainGlobals "list" = some none)
    (z_ord : PySem.W.nsIn K mainGlobals "ord" = some none)
    (z_range : PySem.W.nsIn K mainGlobals "range" = some none)
    (z_str : PySem.W.nsIn K mainGlobals "str" = some none)
    {t_FIRST_VALUE t_FACTOR t_MODULUS t_BEHIND_TEXT : Tok}
    (v_FIRST_VALUE : PySem.W.nsIn K mainGlobals "FIRST_VALUE" = some (some (.int 7 t_FIRST_VALUE)))
    (v_FACTOR : PySem.W.nsIn K mainGlobals "FACTOR" = some (some (.int 31 t_FACTOR)))
    (v_MODULUS : PySem.W.nsIn K mainGlobals "MODULUS" = some (some (.int 9973 t_MODULUS)))
    (v_BEHIND_TEXT : PySem.W.nsIn K mainGlobals "BEHIND_TEXT" = some (some (.int 6 t_BEHIND_TEXT)))
    (g_BourseError : PySem.W.nsIn K mainGlobals "BourseError" = some (some (.ref c_BourseError)))
    (g_BrokenTape : PySem.W.nsIn K mainGlobals "BrokenTape" = some (some (.ref c_BrokenTape)))
    (x_BrokenTape : PySem.W.excIn K c_BrokenTape [.type "ValueError", .type "Exception", .type "BaseException", .type "object"] "ValueError.__new__" = true)
    (k_BrokenTape : PySem.W.keepIn K (.ref c_BrokenTape) = true)
    (b_BrokenTape : PySem.W.subIn K (.ref c_BrokenTape) (.type "BaseException") = some true)
    (t_BrokenTape : PySem.W.typeIn K (.ref c_BrokenTape) = some (.type "type"))
    (d_BrokenTape : PySem.W.hasDictIn K c_BrokenTape = true)
    (s_BrokenTape : PySem.W.subIn K (.ref c_BrokenTape) (.ref c_BrokenTape) = some true)
    (eg_BrokenTape : PySem.W.findIn K (.ref c_BrokenTape) "__getattribute__" = some (some (.builtin "BaseException.__getattribute__")))
    (ek_BrokenTape : PySem.W.findIn K (.ref c_BrokenTape) "__getattr__" = some none)
    (ea_BrokenTape : PySem.W.findIn K (.ref c_BrokenTape) "__class__" = some (some (.builtin "object.__class__")))
    (en_BrokenTape : PySem.W.specialIn K (.builtin "object.__class__") "__get__" = some (some (.builtin "getset_descriptor.__get__")))
    (et_BrokenTape : PySem.W.takesIn K (.builtin "object.__class__") = some true)
    (em_BrokenTape : PySem.W.mroIn K c_BrokenTape (.type "object") = some true)
    (g_Tape : PySem.W.nsIn K mainGlobals "Tape" = some (some (.ref c_Tape)))
    (pg_Tape : PySem.W.plainGet K c_Tape Str.empty = true)
    (hd_Tape : PySem.W.hasDictIn K c_Tape = true)
    (po_Tape : PySem.W.plainOver K c_Tape = true)
    (sa_Tape : PySem.W.findIn K (.ref c_Tape) "__setattr__" = some (some (.builtin "object.__setattr__")))
    (ma_Tape : PySem.W.makesIn K c_Tape = true)
    (kc_Tape : PySem.W.keepIn K (.ref c_Tape) = true)
    (na_Tape__texts : PySem.W.findIn K (.ref c_Tape) "_texts" = some none)
    (na_Tape__lines : PySem.W.findIn K (.ref c_Tape) "_lines" = some none)
    (kt_BrokenTape_BourseError : PySem.W.kitOne K (.ref c_BrokenTape) (.ref c_BourseError) = some true) :
    ∃ fd : FuncData, (∀ (s : Shared) (v : Value), BindsTo s fd ⟨[v], []⟩ [("script", v)]) ∧ ∀ base : Heap, K.In base → base.Ns mainGlobals mg → FnOk l.prog w K mg base CX0 5 fa fd ["script"] (sp_law K) := by
  have e := hfa.symm.trans (PySem.W.mg_of X G a16)
  cases e
  have F1 := fun_mk (st := s_check_of) l1 c1 k1
  have b1 := F1.binds (ps := ["text"]) fun _ _ _ _ _ _ us hl => match us, hl with | [_], _ => rfl
  have F2 := fun_mk (st := s_write_line) l2 c2 k2
  have b2 := F2.binds (ps := ["number", "text"]) fun _ _ _ _ _ _ us hl => match us, hl with | [_, _], _ => rfl
  have F3 := fun_mk (st := s_read_tape) l3 c3 k3
  have b3 := F3.binds (ps := ["tape"]) fun _ _ _ _ _ _ us hl => match us, hl with | [_], _ => rfl
  have F4 := fun_mk (st := s_text_at) l4 c4 k4
  have b4 := F4.binds (ps := ["tape", "start", "number"]) fun _ _ _ _ _ _ us hl => match us, hl with | [_, _, _], _ => rfl
  have F5 := fun_mk (st := s_is_text) l5 c5 k5
  have b5 := F5.binds (ps := ["text"]) fun _ _ _ _ _ _ us hl => match us, hl with | [_], _ => rfl
  have F6 := fun_mk (st := s_Tape_init) l6 c6 k6
  have b6 := F6.binds (ps := ["self"]) fun _ _ _ _ _ _ us hl => match us, hl with | [_], _ => rfl
  have F7 := fun_mk (st := s_Tape_append) l7 c7 k7
  have b7 := F7.binds (ps := ["self", "text"]) fun _ _ _ _ _ _ us hl => match us, hl with | [_, _], _ => rfl
  have F8 := fun_mk (st := s_Tape_texts) l8 c8 k8
  have b8 := F8.binds (ps := ["self"]) fun _ _ _ _ _ _ us hl => match us, hl with | [_], _ => rfl
  have F9 := fun_mk (st := s_Tape_whole) l9 c9 k9
  have b9 := F9.binds (ps := ["self"]) fun _ _ _ _ _ _ us hl => match us, hl with | [_], _ => rfl
  have F10 := fun_mk (st := s_law_digit) l10 c10 k10
  have b10 := F10.binds (ps := ["cell", "base", "k"]) fun _ _ _ _ _ _ us hl => match us, hl with | [_, _, _], _ => rfl
  have F11 := fun_mk (st := s_law_char) l11 c11 k11
  have b11 := F11.binds (ps := ["k"]) fun _ _ _ _ _ _ us hl => match us, hl with | [_], _ => rfl
  have F12 := fun_mk (st := s_law_text) l12 c12 k12
  have b12 := F12.binds (ps := ["cell"]) fun _ _ _ _ _ _ us hl => match us, hl with | [_], _ => rfl
  have F13 := fun_mk (st := s_law_check) l13 c13 k13
  have b13 := F13.binds (ps := ["text"]) fun _ _ _ _ _ _ us hl => match us, hl with | [_], _ => rfl
  have F14 := fun_mk (st := s_law_raises) l14 c14 k14
  have b14 := F14.binds (ps := ["number", "text"]) fun _ _ _ _ _ _ us hl => match us, hl with | [_, _], _ => rfl
  have F15 := fun_mk (st := s_law_append_raises) l15 c15 k15
  have b15 := F15.binds (ps := ["tape", "text"]) fun _ _ _ _ _ _ us hl => match us, hl with | [_, _], _ => rfl
  have F16 := fun_mk (st := s_law) l16 c16 k16
  have b16 := F16.binds (ps := ["script"]) fun _ _ _ _ _ _ us hl => match us, hl with | [_], _ => rfl
  have T : Txt K mg := ⟨f1, _, F1, PySem.W.mg_of X G a1, b1, f2, _, F2, PySem.W.mg_of X G a2, b2, f3, _, F3, PySem.W.mg_of X G a3, b3, f4, _, F4, PySem.W.mg_of X G a4, b4, f5, _, F5, PySem.W.mg_of X G a5, b5, f6, _, F6, b6, f7, _, F7, b7, f8, _, F8, b8, f9, _, F9, b9, f10, _, F10, PySem.W.mg_of X G a10, b10, f11, _, F11, PySem.W.mg_of X G a11, b11, f12, _, F12, PySem.W.mg_of X G a12, b12, f13, _, F13, PySem.W.mg_of X G a13, b13, f14, _, F14, PySem.W.mg_of X G a14, b14, f15, _, F15, PySem.W.mg_of X G a15, b15, c_BourseError, PySem.W.mg_of X G g_BourseError, c_BrokenTape, PySem.W.mg_of X G g_BrokenTape, x_BrokenTape, k_BrokenTape, b_BrokenTape, t_BrokenTape, d_BrokenTape, s_BrokenTape, eg_BrokenTape, ek_BrokenTape, ea_BrokenTape, en_BrokenTape, et_BrokenTape, em_BrokenTape, ⟨eg_BrokenTape, ek_BrokenTape, b_BrokenTape, d_BrokenTape, ea_BrokenTape, en_BrokenTape, et_BrokenTape, em_BrokenTape⟩, c_Tape, PySem.W.mg_of X G g_Tape, pg_Tape, hd_Tape, po_Tape, sa_Tape, ma_Tape, kc_Tape, ⟨pg_Tape, hd_Tape, po_Tape, sa_Tape⟩, na_Tape__texts, na_Tape__lines, ⟨ma_Tape, a6, i6, kc_Tape⟩, ⟨a7, i7, k7⟩, ⟨a8, i8, k8⟩, ⟨a9, i9, k9⟩, kt_BrokenTape_BourseError, PySem.W.mg_none_of X G z_all, PySem.W.mg_none_of X G z_enumerate, PySem.W.mg_none_of X G z_int, PySem.W.mg_none_of X G z_isinstance, PySem.W.mg_none_of X G z_len, PySem.W.mg_none_of X G z_list, PySem.W.mg_none_of X G z_ord, PySem.W.mg_none_of X G z_range, PySem.W.mg_none_of X G z_str, t_FIRST_VALUE, PySem.W.mg_of X G v_FIRST_VALUE, t_FACTOR, PySem.W.mg_of X G v_FACTOR, t_MODULUS, PySem.W.mg_of X G v_MODULUS, t_BEHIND_TEXT, PySem.W.mg_of X G v_BEHIND_TEXT⟩
  exact ⟨PySem.W.fnOf "law" "law" (defArgs s_law) (defBody s_law) (defScope s_law) .none kV16 dc16 pm16 an16 cd16 ct16, fun s v => .of_eq rfl, fun base _ _ => ok_law T F16⟩
end FB
open PySem PySem.W PyProof.Rows
set_option maxRecDepth 100000 in
set_option maxHeartbeats 0 in
theorem PySem.Challenge.cw_fairbourse_k80_tape_lines_are_read_back_holds : PySem.Challenge.rw_fairbourse_k80_tape_lines_are_read_back.Holds := by
  w_on; o_law; k_head; (case hw => w_witness2)
  k_fill
  refine L2.walk_of (l := PySem.Challenge.rw_fairbourse_k80_tape_lines_are_read_back) (n := 63) (k := 5) (x := "script") (CX := fun _ => L2.CX0) (sp := fun w => FB.sp_law _) rfl (by decide) rfl ⟨rfl, by decide, by decide⟩ (fun w h Y => PySem.W.kIn_of Y) ?F (fun _ _ a ns hl _ hS => ⟨a, ns, rfl, hS, hl, fun _ => rfl⟩) (fun _ _ _ _ _ h => h)
  case F =>
    intro w mg fa h KX G hmg
    refine' FB.all_mk KX G hmg ?a1 ?l1 ?c1 ?k1 ?a2 ?l2 ?c2 ?k2 ?a3 ?l3 ?c3 ?k3 ?a4 ?l4 ?c4 ?k4 ?a5 ?l5 ?c5 ?k5 ?a6 ?i6 ?l6 ?c6 ?k6 ?a7 ?i7 ?l7 ?c7 ?k7 ?a8 ?i8 ?l8 ?c8 ?k8 ?a9 ?i9 ?l9 ?c9 ?k9 ?a10 ?l10 ?c10 ?k10 ?a11 ?l11 ?c11 ?k11 ?a12 ?l12 ?c12 ?k12 ?a13 ?l13 ?c13 ?k13 ?a14 ?l14 ?c14 ?k14 ?a15 ?l15 ?c15 ?k15 ?a16 ?l16 ?c16 ?k16 ?z_all ?z_enumerate ?z_int ?z_isinstance ?z_len ?z_list ?z_ord ?z_range ?z_str ?v_FIRST_VALUE ?v_FACTOR ?v_MODULUS ?v_BEHIND_TEXT ?g_BourseError ?g_BrokenTape ?x_BrokenTape ?k_BrokenTape ?b_BrokenTape ?t_BrokenTape ?d_BrokenTape ?s_BrokenTape ?eg_BrokenTape ?ek_BrokenTape ?ea_BrokenTape ?en_BrokenTape ?et_BrokenTape ?em_BrokenTape ?g_Tape ?pg_Tape ?hd_Tape ?po_Tape ?sa_Tape ?ma_Tape ?kc_Tape ?na_Tape__texts ?na_Tape__lines ?kt_BrokenTape_BourseError
    (case g_BourseError => k_is)
    (case g_BrokenTape => k_is)
    (case g_Tape => k_is)
    (case a1 => k_is)
    (case l1 => k_is)
    (case c1 => k_is)
    (case k1 => k_is)
    (case a2 => k_is)
    (case l2 => k_is)
    (case c2 => k_is)
    (case k2 => k_is)
    (case a3 => k_is)
    (case l3 => k_is)
    (case c3 => k_is)
    (case k3 => k_is)
    (case a4 => k_is)
    (case l4 => k_is)
    (case c4 => k_is)
    (case k4 => k_is)
    (case a5 => k_is)
    (case l5 => k_is)
    (case c5 => k_is)
    (case k5 => k_is)
    (case a6 => k_is)
    (case i6 => k_is)
    (case l6 => k_is)
    (case c6 => k_is)
    (case k6 => k_is)
    (case a7 => k_is)
    (case i7 => k_is)
    (case l7 => k_is)
    (case c7 => k_is)
    (case k7 => k_is)
    (case a8 => k_is)
    (case i8 => k_is)
    (case l8 => k_is)
    (case c8 => k_is)
    (case k8 => k_is)
    (case a9 => k_is)
    (case i9 => k_is)
    (case l9 => k_is)
    (case c9 => k_is)
    (case k9 => k_is)
    (case a10 => k_is)
    (case l10 => k_is)
    (case c10 => k_is)
    (case k10 => k_is)
    (case a11 => k_is)
    (case l11 => k_is)
    (case c11 => k_is)
    (case k11 => k_is)
    (case a12 => k_is)
    (case l12 => k_is)
    (case c12 => k_is)
    (case k12 => k_is)
    (case a13 => k_is)
    (case l13 => k_is)
    (case c13 => k_is)
    (case k13 => k_is)
    (case a14 => k_is)
    (case l14 => k_is)
    (case c14 => k_is)
    (case k14 => k_is)
    (case a15 => k_is)
    (case l15 => k_is)
    (case c15 => k_is)
    (case k15 => k_is)
    (case a16 => k_is)
    (case l16 => k_is)
    (case c16 => k_is)
    (case k16 => k_is)
    (case z_all => k_is)
    (case z_enumerate => k_is)
    (case z_int => k_is)
    (case z_isinstance => k_is)
    (case z_len => k_is)
    (case z_list => k_is)
    (case z_ord => k_is)
    (case z_range => k_is)
    (case z_str => k_is)
    (case v_FIRST_VALUE => k_is)
    (case v_FACTOR => k_is)
    (case v_MODULUS => k_is)
    (case v_BEHIND_TEXT => k_is)
    (case x_BrokenTape => k_exc)
    (case k_BrokenTape => k_is)
    (case b_BrokenTape => k_is)
    (case t_BrokenTape => k_is)
    (case d_BrokenTape => k_is)
    (case s_BrokenTape => first | rfl | k_is)
    (case eg_BrokenTape => k_is)
    (case ek_BrokenTape => k_is)
    (case ea_BrokenTape => k_is)
    (case en_BrokenTape => k_is)
    (case et_BrokenTape => k_is)
    (case em_BrokenTape => k_is)
    (case pg_Tape => k_is)
    (case hd_Tape => k_is)
    (case po_Tape => k_is)
    (case sa_Tape => k_is)
    (case ma_Tape => k_is)
    (case kc_Tape => k_is)
    (case na_Tape__texts => k_is)
    (case na_Tape__lines => k_is)
    (case kt_BrokenTape_BourseError => kit_is)
