import PyProof.Rows.All
import Wide.All
import OpenK.AllK
import Wide.FinOn
import HandS.ForMost
import HandS.ForExc
import HandS.Defaults
import HandS.IsInst
import HandS.Wide
import HandS.Codes
import HandS.Walk
import HandS.SetFor
import HandS.More
import HandS.Conv
import KE.DataFind
import HandS.ExcIs
import HandS.MakeKwOnly
import HandS.CallSlots
import HandS.MapJoin
import HandS.StrMore
import HandS.RaiseMore
import KE.GoesMore
import KE.GoesNew
import KE.GoesZip
import KE.IntTextLaws
import KE.GoesRaise
import PySem.Challenge.RW_fairbourse_k95_command_lines
set_option Elab.async false
set_option linter.all false
set_option maxRecDepth 100000
namespace FB
open PySem PySem.Spec PyProof.Rows L2
def KDict (P : Program) (w : World) (K : PySem.W.Frag) (c : Addr) (kvs : List (Str × V)) : Prop :=
  (c == sysModules) = false ∧ ∃ (o : Obj) (vs : List (Key × Value)), K.lookup c = some o ∧ KV (kvs.map fun p => ((Sum.inr p.1 : Key), p.2)) vs ∧ o.IsDictOf (mixKind P w) vs
theorem kdict_of {P : Program} {w : World} {K : PySem.W.Frag} {c : Addr} {n : Nat} {kvs : List (Str × Tok × Addr)} (h : K.lookup c = some ⟨.type "dict", none, .dict (kvs.map fun p => (⟨PyData.keyHash w.params p.1, .str p.1 p.2.1, .ref p.2.2⟩ : DictEntry)).toArray n, #[]⟩)
    (hd : (c == sysModules) = false) (hn : (kvs.map (·.1)).Nodup) : KDict P w K c (kvs.map fun p => (p.1, .ref p.2.2)) := by
  have his : ∀ (k : Str) (t : Tok), (mixKind P w).is (Sum.inr k) (.str k t) = true := fun k t => by simp [mixKind, keyIs, Value.isStrOf]
  refine ⟨hd, _, kvs.map fun p => ((Sum.inr p.1 : Key), .ref p.2.2), h, ?_, _, _, ⟨rfl, rfl, rfl⟩, rfl, ?_, ?_, ?_⟩
  · clear h hn
    induction kvs with
    | nil => exact .nil
    | cons p r ih => exact .cons ⟨rfl, rfl⟩ ih
  · intro e he
    rw [List.mem_toArray] at he
    obtain ⟨p, hp, rfl⟩ := List.mem_map.mp he
    exact ⟨Sum.inr p.1, his _ _, rfl⟩
  · clear h hn
    show Pairs (mixKind P w) (kvs.map fun p => (⟨PyData.keyHash w.params p.1, .str p.1 p.2.1, .ref p.2.2⟩ : DictEntry)) _
    induction kvs with
    | nil => exact .nil
    | cons p r ih => exact .cons (his _ _) rfl ih
  · rw [List.map_map]
    have : ((fun q : Key × Value => q.1) ∘ fun p : Str × Tok × Addr => ((Sum.inr p.1 : Key), (Value.ref p.2.2))) = Sum.inr ∘ (fun p : Str × Tok × Addr => p.1) := rfl
    rw [this, ← List.map_map]
    exact List.Pairwise.map _ (fun a b h e => h (Sum.inr.inj e)) hn

def topS (i : Nat) : Stmt := PySem.Challenge.pw_fairbourse_k95_command_lines.main.body.getD i (.Pass ⟨0, 0, 0, 0⟩)
abbrev s_is_word_of : Stmt := topS 6
abbrev N_is_word_of : List Str := ["letters", "most", "text", "letter"]
theorem sc_is_word_of : FnScope N_is_word_of ["letters", "most", "text"] (defScope s_is_word_of) := ⟨rfl, rfl, rfl, by decide +kernel, rfl, by decide +kernel, by decide +kernel⟩
abbrev s_is_digits : Stmt := topS 7
abbrev N_is_digits : List Str := ["text"]
theorem sc_is_digits : FnScope N_is_digits ["text"] (defScope s_is_digits) := ⟨rfl, rfl, rfl, by decide +kernel, rfl, by decide +kernel, by decide +kernel⟩
abbrev s_read_number : Stmt := topS 8
abbrev N_read_number : List Str := ["text", "least", "most", "number"]
theorem sc_read_number : FnScope N_read_number ["text", "least", "most"] (defScope s_read_number) := ⟨rfl, rfl, rfl, by decide +kernel, rfl, by decide +kernel, by decide +kernel⟩
abbrev s_parse_command : Stmt := topS 12
abbrev N_parse_command : List Str := ["line", "words", "form", "kind", "word"]
theorem sc_parse_command : FnScope N_parse_command ["line"] (defScope s_parse_command) := ⟨rfl, rfl, rfl, by decide +kernel, rfl, by decide +kernel, by decide +kernel⟩
abbrev s_value : Stmt := topS 13
abbrev N_value : List Str := ["kind", "word", "value"]
theorem sc_value : FnScope N_value ["kind", "word"] (defScope s_value) := ⟨rfl, rfl, rfl, by decide +kernel, rfl, by decide +kernel, by decide +kernel⟩
abbrev s_law_shapes : Stmt := topS 15
abbrev N_law_shapes : List Str := ["shapes"]
theorem sc_law_shapes : FnScope N_law_shapes [] (defScope s_law_shapes) := ⟨rfl, rfl, rfl, by decide +kernel, rfl, by decide +kernel, by decide +kernel⟩
abbrev s_law_value : Stmt := topS 16
abbrev N_law_value : List Str := ["cell", "shape"]
theorem sc_law_value : FnScope N_law_value ["cell", "shape"] (defScope s_law_value) := ⟨rfl, rfl, rfl, by decide +kernel, rfl, by decide +kernel, by decide +kernel⟩
abbrev s_law_told : Stmt := topS 17
abbrev N_law_told : List Str := ["value"]
theorem sc_law_told : FnScope N_law_told ["value"] (defScope s_law_told) := ⟨rfl, rfl, rfl, by decide +kernel, rfl, by decide +kernel, by decide +kernel⟩
abbrev s_law_raises : Stmt := topS 18
abbrev N_law_raises : List Str := ["line", "e"]
theorem sc_law_raises : FnScope N_law_raises ["line"] (defScope s_law_raises) := ⟨rfl, rfl, rfl, by decide +kernel, rfl, by decide +kernel, by decide +kernel⟩
abbrev s_law_spoilt : Stmt := topS 19
abbrev N_law_spoilt : List Str := ["words", "shapes", "cell", "lines", "k", "bad"]
theorem sc_law_spoilt : FnScope N_law_spoilt ["words", "shapes", "cell"] (defScope s_law_spoilt) := ⟨rfl, rfl, rfl, by decide +kernel, rfl, by decide +kernel, by decide +kernel⟩
abbrev s_law : Stmt := topS 20
abbrev N_law : List Str := ["script", "cell", "row", "shapes", "values", "k", "drawn", "words", "value", "line"]
theorem sc_law : FnScope N_law ["script"] (defScope s_law) := ⟨rfl, rfl, rfl, by decide +kernel, rfl, by decide +kernel, by decide +kernel⟩
set_option maxHeartbeats 0 in
structure Txt (K : PySem.W.Frag) (mg : Str → Option Value) where
  f_is_word_of : Addr
  d_is_word_of : FuncData
  F_is_word_of : Fun K "is_word_of" "is_word_of" s_is_word_of f_is_word_of d_is_word_of
  m_is_word_of : mg "is_word_of" = some (.ref f_is_word_of)
  b_is_word_of : Binds K d_is_word_of ["letters", "most", "text"] []
  f_is_digits : Addr
  d_is_digits : FuncData
  F_is_digits : Fun K "is_digits" "is_digits" s_is_digits f_is_digits d_is_digits
  m_is_digits : mg "is_digits" = some (.ref f_is_digits)
  b_is_digits : Binds K d_is_digits ["text"] []
  f_read_number : Addr
  d_read_number : FuncData
  F_read_number : Fun K "read_number" "read_number" s_read_number f_read_number d_read_number
  m_read_number : mg "read_number" = some (.ref f_read_number)
  b_read_number : Binds K d_read_number ["text", "least", "most"] []
  f_parse_command : Addr
  d_parse_command : FuncData
  F_parse_command : Fun K "parse_command" "parse_command" s_parse_command f_parse_command d_parse_command
  m_parse_command : mg "parse_command" = some (.ref f_parse_command)
  b_parse_command : Binds K d_parse_command ["line"] []
  f_value : Addr
  d_value : FuncData
  F_value : Fun K "_value" "_value" s_value f_value d_value
  m_value : mg "_value" = some (.ref f_value)
  b_value : Binds K d_value ["kind", "word"] []
  f_law_shapes : Addr
  d_law_shapes : FuncData
  F_law_shapes : Fun K "_law_shapes" "_law_shapes" s_law_shapes f_law_shapes d_law_shapes
  m_law_shapes : mg "_law_shapes" = some (.ref f_law_shapes)
  b_law_shapes : Binds K d_law_shapes [] []
  f_law_value : Addr
  d_law_value : FuncData
  F_law_value : Fun K "_law_value" "_law_value" s_law_value f_law_value d_law_value
  m_law_value : mg "_law_value" = some (.ref f_law_value)
  b_law_value : Binds K d_law_value ["cell", "shape"] []
  f_law_told : Addr
  d_law_told : FuncData
  F_law_told : Fun K "_law_told" "_law_told" s_law_told f_law_told d_law_told
  m_law_told : mg "_law_told" = some (.ref f_law_told)
  b_law_told : Binds K d_law_told ["value"] []
  f_law_raises : Addr
  d_law_raises : FuncData
  F_law_raises : Fun K "_law_raises" "_law_raises" s_law_raises f_law_raises d_law_raises
  m_law_raises : mg "_law_raises" = some (.ref f_law_raises)
  b_law_raises : Binds K d_law_raises ["line"] []
  f_law_spoilt : Addr
  d_law_spoilt : FuncData
  F_law_spoilt : Fun K "_law_spoilt" "_law_spoilt" s_law_spoilt f_law_spoilt d_law_spoilt
  m_law_spoilt : mg "_law_spoilt" = some (.ref f_law_spoilt)
  b_law_spoilt : Binds K d_law_spoilt ["words", "shapes", "cell"] []
  c_BourseError : Addr
  m_BourseError : mg "BourseError" = some (.ref c_BourseError)
  c_InvalidCommand : Addr
  m_InvalidCommand : mg "InvalidCommand" = some (.ref c_InvalidCommand)
  x_InvalidCommand : PySem.W.excIn K c_InvalidCommand [.type "ValueError", .type "Exception", .type "BaseException", .type "object"] "ValueError.__new__" = true
  k_InvalidCommand : PySem.W.keepIn K (.ref c_InvalidCommand) = true
  b_InvalidCommand : PySem.W.subIn K (.ref c_InvalidCommand) (.type "BaseException") = some true
  t_InvalidCommand : PySem.W.typeIn K (.ref c_InvalidCommand) = some (.type "type")
  d_InvalidCommand : PySem.W.hasDictIn K c_InvalidCommand = true
  s_InvalidCommand : PySem.W.subIn K (.ref c_InvalidCommand) (.ref c_InvalidCommand) = some true
  eg_InvalidCommand : PySem.W.findIn K (.ref c_InvalidCommand) "__getattribute__" = some (some (.builtin "BaseException.__getattribute__"))
  ek_InvalidCommand : PySem.W.findIn K (.ref c_InvalidCommand) "__getattr__" = some none
  ea_InvalidCommand : PySem.W.findIn K (.ref c_InvalidCommand) "__class__" = some (some (.builtin "object.__class__"))
  en_InvalidCommand : PySem.W.specialIn K (.builtin "object.__class__") "__get__" = some (some (.builtin "getset_descriptor.__get__"))
  et_InvalidCommand : PySem.W.takesIn K (.builtin "object.__class__") = some true
  em_InvalidCommand : PySem.W.mroIn K c_InvalidCommand (.type "object") = some true
  e_InvalidCommand : ExcC K c_InvalidCommand
  kt_InvalidCommand_BourseError : PySem.W.kitOne K (.ref c_InvalidCommand) (.ref c_BourseError) = some true
  z_all : mg "all" = none
  z_int : mg "int" = none
  z_isinstance : mg "isinstance" = none
  z_len : mg "len" = none
  z_range : mg "range" = none
  z_str : mg "str" = none
  z_zip : mg "zip" = none
  t_DIGITS : Tok
  m_DIGITS : mg "DIGITS" = some (.str "0123456789" t_DIGITS)
  t_MOST_DIGITS : Tok
  m_MOST_DIGITS : mg "MOST_DIGITS" = some (.int 20 t_MOST_DIGITS)
  t_MOST_NUMBER : Tok
  m_MOST_NUMBER : mg "MOST_NUMBER" = some (.int 1000000000 t_MOST_NUMBER)
  c_FORMS : Addr
  m_FORMS : mg "FORMS" = some (.ref c_FORMS)
  c_FORMS_0 : Addr
  q_FORMS_0 : ∀ H : Hp, SqT K H c_FORMS_0 [.str "word", .str "number"]
  c_FORMS_1 : Addr
  q_FORMS_1 : ∀ H : Hp, SqT K H c_FORMS_1 [.str "word", .str "number"]
  c_FORMS_2 : Addr
  q_FORMS_2 : ∀ H : Hp, SqT K H c_FORMS_2 [.str "word", .str "number"]
  c_FORMS_3 : Addr
  q_FORMS_3 : ∀ H : Hp, SqT K H c_FORMS_3 [.str "word", .str "number"]
  c_FORMS_4 : Addr
  q_FORMS_4 : ∀ H : Hp, SqT K H c_FORMS_4 [.str "word", .str "word", .str "number"]
  c_FORMS_5 : Addr
  q_FORMS_5 : ∀ H : Hp, SqT K H c_FORMS_5 [.str "word", .str "word", .str "number"]
  c_FORMS_6 : Addr
  q_FORMS_6 : ∀ H : Hp, SqT K H c_FORMS_6 [.str "word", .str "word", .str "word", .str "price", .str "number", .str "word", .str "number"]
  c_FORMS_7 : Addr
  q_FORMS_7 : ∀ H : Hp, SqT K H c_FORMS_7 [.str "word", .str "word", .str "word", .str "number", .str "price", .str "number"]
  c_FORMS_8 : Addr
  q_FORMS_8 : ∀ H : Hp, SqT K H c_FORMS_8 [.str "word", .str "word", .str "number"]
  c_FORMS_9 : Addr
  q_FORMS_9 : ∀ H : Hp, SqT K H c_FORMS_9 [.str "word"]
  c_FORMS_10 : Addr
  q_FORMS_10 : ∀ H : Hp, SqT K H c_FORMS_10 []
  c_FORMS_11 : Addr
  q_FORMS_11 : ∀ H : Hp, SqT K H c_FORMS_11 [.str "word", .str "number"]
  c_FORMS_12 : Addr
  q_FORMS_12 : ∀ H : Hp, SqT K H c_FORMS_12 [.str "word", .str "number", .str "number"]
class DictsOk (P : Program) (w : World) {K : PySem.W.Frag} {mg : Str → Option Value} (T : Txt K mg) : Prop where
  dk_FORMS : KDict P w K T.c_FORMS [("deposit", .ref T.c_FORMS_0), ("withdraw", .ref T.c_FORMS_1), ("pledge", .ref T.c_FORMS_2), ("release", .ref T.c_FORMS_3), ("issue", .ref T.c_FORMS_4), ("owe", .ref T.c_FORMS_5), ("order", .ref T.c_FORMS_6), ("stop", .ref T.c_FORMS_7), ("cancel", .ref T.c_FORMS_8), ("start", .ref T.c_FORMS_9), ("settle", .ref T.c_FORMS_10), ("dividend", .ref T.c_FORMS_11), ("split", .ref T.c_FORMS_12)]

/-! own short words -/
theorem iteD {p A B : Prop} [Decidable p] (h1 : p → A) (h2 : ¬ p → B) : if decide p = true then A else B := by
  by_cases h : p
  · rw [decide_eq_true h, if_pos rfl]; exact h1 h
  · rw [decide_eq_false h, if_neg Bool.false_ne_true]; exact h2 h
theorem iteDN {p A B : Prop} [Decidable p] (h1 : ¬ p → A) (h2 : p → B) : if (!decide p) = true then A else B := by
  by_cases h : p
  · rw [decide_eq_true h]; exact iteF (h2 h)
  · rw [decide_eq_false h]; exact iteT (h1 h)
theorem len_le {n : Nat} (h : Nat.ble n 1000 = true) : n ≤ sizeLine := Nat.le_trans (Nat.le_of_ble_eq_true h) (by decide)
theorem iteB {b : Bool} {A B : Prop} (h1 : b = true → A) (h2 : b = false → B) : if b = true then A else B := by
  cases b with
  | true => exact iteT (h1 rfl)
  | false => exact iteF (h2 rfl)
theorem cmul_l {i j : Int} (h : -(2 ^ 64) < i) (h' : i < 2 ^ 64) : CMul i j := .inl ⟨h, h'⟩
theorem cmul_r {i j : Int} (h : -(2 ^ 64) < j) (h' : j < 2 ^ 64) : CMul i j := .inr ⟨h, h'⟩
theorem dec_t {p : Prop} [Decidable p] (h : decide p = true) : p := of_decide_eq_true h
theorem dec_f {p : Prop} [Decidable p] (h : decide p = false) : ¬ p := of_decide_eq_false h
theorem ndec_t {p : Prop} [Decidable p] (h : (!decide p) = true) : ¬ p := fun q => by rw [decide_eq_true q] at h; cases h
theorem ndec_f {p : Prop} [Decidable p] (h : (!decide p) = false) : p := by
  by_cases q : p
  · exact q
  · rw [decide_eq_false q] at h; cases h
theorem fld_lt {n : Nat} (h : Nat.ble (n + 1) 1000 = true) : n < 1000 := Nat.le_of_ble_eq_true h
def rLen (K : PySem.W.Frag) : List V → Hp → VK → Prop := fun xs H Q => ∃ p ys, xs = [.ref p] ∧ (SqL K H p ys ∨ SqT K H p ys) ∧ Q (.int ys.length) H
def rListOf (K : PySem.W.Frag) : List V → Hp → VK → Prop := fun xs H Q => ∃ p ys, xs = [.ref p] ∧ (SqL K H p ys ∨ SqT K H p ys) ∧ ∀ l, H l = none → Q (.ref l) (upd H l (.lst ys))
def rTupleOf (K : PySem.W.Frag) : List V → Hp → VK → Prop := fun xs H Q => ∃ p ys, xs = [.ref p] ∧ ((SqL K H p ys ∧ ∀ l, H l = none → Q (.ref l) (upd H l (.tup ys))) ∨ (SqT K H p ys ∧ Q (.ref p) H))
theorem len0 : ([] : List V).length ≤ sizeLine := len_le rfl
theorem len1 {a : V} : [a].length ≤ sizeLine := len_le rfl
theorem len2 {a b : V} : [a, b].length ≤ sizeLine := len_le rfl
theorem len3 {a b c : V} : [a, b, c].length ≤ sizeLine := len_le rfl
theorem len4 {a b c d : V} : [a, b, c, d].length ≤ sizeLine := len_le rfl
theorem len5 {a b c d e : V} : [a, b, c, d, e].length ≤ sizeLine := len_le rfl
local macro_rules | `(tactic| walk_at "st") => `(tactic| repeat (first
  | (apply Exists.intro (α := V))
  | (apply Exists.intro (α := Int))
  | (apply Exists.intro (α := Bool))
  | (apply Exists.intro (α := Addr))
  | (apply Exists.intro (α := List V))
  | (apply Exists.intro (α := List Int))
  | (apply Exists.intro (α := List (Str × V)))
  | (apply Exists.intro (α := Str))
  | (apply And.intro; focus (first | omega | (dsimp only; omega) | (simp only [List.length_map, List.length_replicate]; omega) | exact rfl | assumption | exact SqL.of (by assumption) | exact Or.inl (by assumption) | exact Or.inr (by assumption) | exact Or.inr (SqT.of (by assumption)) | exact Or.inl (Or.inl upd_same) | exact Or.inl (Or.inl (Or.inl upd_same)) | (with_reducible exact len0) | (with_reducible exact len1) | (with_reducible exact len2) | (with_reducible exact len3) | (with_reducible exact len4) | (with_reducible exact len5) | exact upd_same | exact ⟨_, Or.inl (Or.inl upd_same)⟩ | exact ⟨_, SqL.of (by assumption)⟩ | exact ⟨_, by assumption⟩ | exact Or.inl ⟨rfl, _, SqL.of (by assumption)⟩ | exact Or.inl ⟨rfl, _, SqL.of upd_same⟩ | exact cmul_l (by omega) (by omega) | exact cmul_r (by omega) (by omega) | exact ⟨by omega, by omega⟩ | (simp only [List.length_map, List.length_replicate]; omega) | exact Or.inl (SqL.of (by assumption)) | exact SqT.of (by assumption) | exact fld_lt rfl | exact Or.inl ⟨_, by assumption, rfl⟩))))
/-- the script's cell at j, 0 where there is none -/
def cellOf (ns : List Int) (j : Nat) : Int := ns.getD j 0
theorem atI_ints {ns : List Int} {j : Nat} (h : j < ns.length) : atI (ns.map V.int) (j : Int) = some (.int (cellOf ns j)) := by
  refine at_of (j := j) rfl ?_
  rw [List.getElem?_map, List.getElem?_eq_getElem h]
  unfold cellOf
  rw [List.getD_eq_getElem?_getD, List.getElem?_eq_getElem h]
  rfl
theorem cellOf_out {ns : List Int} {j : Nat} (h : ¬ j < ns.length) : cellOf ns j = 0 := by
  unfold cellOf
  rw [List.getD_eq_getElem?_getD, List.getElem?_eq_none (by omega)]
  rfl
theorem same_upd {H : Hp} {p : Addr} {o : HO} (h : H p = none) : Same H (upd H p o) := fun b x e => by
  rw [upd_ne (ne_of_none e h)]
  exact e
/-- a slice of a list of ints -/
def cutI (ns : List Int) (lo hi : Option Int) : List Int := (ns.drop (HT.sIx ns.length 0 lo)).take (HT.sIx ns.length ns.length hi - HT.sIx ns.length 0 lo)
theorem cutV_ints (ns : List Int) (lo hi : Option Int) : cutV (ns.map V.int) lo hi = (cutI ns lo hi).map V.int := by
  unfold cutV cutI
  rw [List.length_map, List.map_take, List.map_drop]
theorem cutI_len (ns : List Int) (lo hi : Option Int) : (cutI ns lo hi).length ≤ ns.length := by
  unfold cutI
  rw [List.length_take, List.length_drop]
  omega
theorem ints_at {ns : List Int} {i : Nat} {x : V} (h : (ns.map V.int)[i]? = some x) : ∃ z, ns[i]? = some z ∧ x = V.int z := by
  rw [List.getElem?_map] at h
  cases e : ns[i]? with
  | none => rw [e] at h; cases h
  | some z => rw [e] at h; exact ⟨z, rfl, (Option.some.inj h).symm⟩
theorem take_succ {α : Type} {xs : List α} {i : Nat} {x : α} (h : xs[i]? = some x) : xs.take (i + 1) = xs.take i ++ [x] := by
  rw [List.take_add_one, h]
  rfl
theorem sum_le_mul : ∀ (ws : List Int) (b : Int), (∀ w, w ∈ ws → w ≤ b) → ws.sum ≤ (ws.length : Int) * b
  | [], b, _ => by show (0 : Int) ≤ ((0 : Nat) : Int) * b; omega
  | w :: ws, b, h => by
    rw [List.sum_cons, List.length_cons, Int.natCast_add, Int.add_mul]
    have h1 := h w List.mem_cons_self
    have h2 := sum_le_mul ws b fun x hx => h x (List.mem_cons_of_mem _ hx)
    omega
theorem ixN_nat {n j : Nat} (h : j < n) : ixN n (j : Int) = some j := by
  unfold ixN
  rw [if_pos (by omega), if_pos (by omega), Int.toNat_natCast]
theorem call_int_i {X : Cx} : CallR X (.type "int") (fun xs H Q => ∃ i : Int, xs = [.int i] ∧ Q (.int i) H) := by
  intro pins s σ H xs us Q I r h
  obtain ⟨i, e, q⟩ := h
  exact call_int1 pins s σ H xs us Q I r (.inl ⟨i, e, q⟩)
theorem dpAll_ints {K : PySem.W.Frag} {H : Hp} : ∀ xs : List Int, DpAll K H (xs.map V.int) (xs.map PyData.int)
  | [] => .nil
  | x :: xs => .cons (.int x) (dpAll_ints xs)
theorem eqvAll_ints : ∀ xs ys : List Int, PyData.eqvAll (xs.map PyData.int) (ys.map PyData.int) = decide (xs = ys)
  | [], [] => by simp [PyData.eqvAll]
  | [], _ :: _ => by simp [PyData.eqvAll]
  | _ :: _, [] => by simp [PyData.eqvAll]
  | x :: xs, y :: ys => by
    rw [List.map_cons, List.map_cons]
    simp only [PyData.eqvAll, PyData.eqv]
    rw [eqvAll_ints xs ys]
    by_cases h : x = y <;> by_cases h2 : xs = ys <;> simp [h, h2]
theorem lay_ints : ∀ xs : List Int, PyData.canLayAll0 (xs.map PyData.int) = true
  | [] => rfl
  | x :: xs => by
    rw [List.map_cons]
    simp only [PyData.canLayAll0, PyData.canLay0, Bool.true_and]
    exact lay_ints xs
theorem depth_ints : ∀ xs : List Int, PyData.depthAll (xs.map PyData.int) = 0
  | [] => rfl
  | x :: xs => by
    rw [List.map_cons]
    simp only [PyData.depthAll, PyData.depth, depth_ints xs]
    rfl
theorem shaped_ints (xs : List Int) : SeqAt.shaped (.list (xs.map PyData.int)) = true := by
  unfold SeqAt.shaped
  simp only [PyData.canLay0, PyData.depth, lay_ints, depth_ints]
  rfl
theorem eqD_ints {K : PySem.W.Frag} {H : Hp} {a b : Addr} {xs ys : List Int} {Q : VK} (h1 : SqL K H a (xs.map V.int)) (h2 : SqL K H b (ys.map V.int)) (q : Q (.bl (decide (xs = ys))) H) : rEqD K (.ref a) (.ref b) H Q :=
  ⟨_, _, .lst h1 (dpAll_ints xs), .lst h2 (dpAll_ints ys), shaped_ints xs, shaped_ints ys, by rw [show PyData.eqv (.list (xs.map PyData.int)) (.list (ys.map PyData.int)) = decide (xs = ys) by simp only [PyData.eqv, eqvAll_ints]]; exact q⟩
theorem neD_ints {K : PySem.W.Frag} {H : Hp} {a b : Addr} {xs ys : List Int} {Q : VK} (h1 : SqL K H a (xs.map V.int)) (h2 : SqL K H b (ys.map V.int)) (q : Q (.bl (!decide (xs = ys))) H) : rNeD K (.ref a) (.ref b) H Q :=
  ⟨_, _, .lst h1 (dpAll_ints xs), .lst h2 (dpAll_ints ys), shaped_ints xs, shaped_ints ys, by rw [show PyData.eqv (.list (xs.map PyData.int)) (.list (ys.map PyData.int)) = decide (xs = ys) by simp only [PyData.eqv, eqvAll_ints]]; exact q⟩

section
variable {X : Cx}
/-- d.get(y), d a dict of the program's top with texts as keys -/
def tKGet (kvs : List (Str × V)) (ty : TE) : TE := fun σ H Q => ty σ H fun y H2 => ∃ t, y = .str t ∧ Q ((valV (kvs.map fun p => ((Sum.inr p.1 : Key), p.2)) (Sum.inr t)).getD .non) H2
theorem pe_kget {c : Addr} {kvs : List (Str × V)} {o e : Expr} {ty : TE} {apos cpos : Pos} (D : KDict X.prog X.w X.K c kvs) (ho : PE X o (tC (.ref c))) (he : PE X e ty) (m : M1 X o "get" apos e cpos) : PE X (.Call (.Attribute o "get" apos) [e] [] cpos) (tKGet kvs ty) := by
  obtain ⟨hd, ob, vs, hk, rel, es, ep, h1, h2, h3, h4, h5⟩ := D
  refine ⟨fun pins s σ H Q I h => ?_⟩
  refine wpAny_Call_method m.base m.few m.line PySem.F.plainAttrs_dict PySem.F.slot_dict_get PySem.F.type_dict_get (thn (ho.run pins s σ H (fun x H1 => x = .ref c ∧ tKGet kvs ty σ H1 Q) I ⟨rfl, h⟩) fun u s1 ⟨x, H1, I1, rx, ex, q1⟩ => ?_)
  subst ex
  obtain rfl : u = Value.ref c := rx
  have hg : ∀ {s : Shared} {σ : L2.St} {H : Hp}, Inv X pins σ H s → s.heap.DictOf (mixKind X.prog X.w) c vs := fun I => ⟨ob, es, ep, I.kIn _ _ hk, h1, h2, h3, h4, h5⟩
  have dd := hg I1
  refine ⟨dd.typeIs, fun b q => ?_, ?_⟩
  · cases q
    exact ⟨ob, I1.kIn _ _ hk, h1.2.1⟩
  rw [m.trees]
  refine Calls.callWith_builtin rfl (Calls.evalArgs_plain (Calls.spliced_cons (thn (he.run pins s1 σ H1 _ I1 q1) fun iv s2 ⟨y, H2, I2, ry, t, ey, q2⟩ => Calls.spliced_nil ?_)))
  subst ey
  have dd2 := hg I2
  refine call_meetsIn PySem.F.slot_dict_get dd2.typeIs PySem.F.entry_dict_get (PySem.F.args_dict_get_2 _ _) (meets_dict_get (mixKind X.prog X.w) c (kV_is (k := Sum.inr t) ry) hd) ⟨_, dd2.mapOf, ⟨_, H2, I2.tok _, ?_, q2⟩⟩
  exact (rel.val (Sum.inr t)).getD rfl
end

/-! zip of a tuple and a list (an own rule over the library's GoesN.zip2) -/
def ItzM (K : PySem.W.Frag) (a b : Addr) : It :=
  ⟨fun i H => ∃ (xs ys : List V) (x y : V), SqT K H a xs ∧ SqL K H b ys ∧ xs[i]? = some x ∧ ys[i]? = some y,
    fun i H v H' => ∃ T x y, v = .ref T ∧ H T = none ∧ H' = upd H T (.tup [x, y]) ∧ (∀ xs, SqT K H a xs → xs[i]? = some x) ∧ ∀ ys, SqL K H b ys → ys[i]? = some y,
    fun i H => ∃ xs ys : List V, SqT K H a xs ∧ SqL K H b ys ∧ xs.length = i ∧ ys.length = i⟩
theorem turn_zipM {P : Program} {w : World} {K : PySem.W.Frag} {elts : List Expr} {kk : Nat} {tpos : Pos} {a b z TI TO i1 i2 : Addr} (S : ZipSep2 z TI TO i1 i2 [i1, a] [i2, b]) (na : a ≠ i1) (nb : b ≠ i2) :
    Turn P w K (.Tuple elts kk tpos) (ItzM K a b) [z, TI, TO, i1, i2] z (fun i h => IsZip h z TI TO .none ∧ IsTupOf2 h TI (.ref i1) (.ref i2) ∧ (∃ x y, IsTupOf2 h TO x y) ∧ h.IsTupleIter i1 a i ∧ h.IsListIter i2 b i) where
  mem := by simp
  obj := fun i h st m hm => by
    obtain ⟨hz, hTI, ⟨x, y, hTO⟩, ⟨o1, e1, _, d1⟩, ⟨o2, e2, _, d2⟩⟩ := st
    have e' : m = z ∨ m = TI ∨ m = TO ∨ m = i1 ∨ m = i2 := by simpa using hm
    rcases e' with q | q | q | q | q
    · rw [q]; exact ⟨_, hz, fun v q => nomatch q⟩
    · rw [q]; exact ⟨_, hTI, fun v q => nomatch q⟩
    · rw [q]; exact ⟨_, hTO, fun v q => nomatch q⟩
    · rw [q]; exact ⟨o1, e1, fun v q => by rw [d1] at q; cases q⟩
    · rw [q]; exact ⟨o2, e2, fun v q => by rw [d2] at q; cases q⟩
  keep := fun i h h' st k => by
    obtain ⟨hz, hTI, ⟨x, y, hTO⟩, h1, h2⟩ := st
    exact ⟨k z (by simp) _ hz, k TI (by simp) _ hTI, ⟨x, y, k TO (by simp) _ hTO⟩, h1.at fun o q => k i1 (by simp) o q, h2.at fun o q => k i2 (by simp) o q⟩
  item := by
    intro X hP hw hK hc i pins s σ H E I hf st hg
    subst hP hw hK
    obtain ⟨hz, hTI, hTO, h1, h2⟩ := st
    obtain ⟨xs, ys, x, y, hqx, hqy, hx, hy⟩ := hg
    obtain ⟨its, rv, p, _⟩ := I.tuple hqx
    obtain ⟨its2, rv2, p2, _⟩ := I.list hqy
    obtain ⟨vx, hvx, rx⟩ := rv.get hx
    obtain ⟨vy, hvy, ry⟩ := rv2.get hy
    have hd : X.A.in1.handled = none := I.ok.hd hc
    have hl1 := (List.getElem?_eq_some_iff.mp hvx).1
    have hl2 := (List.getElem?_eq_some_iff.mp hvy).1
    refine (GoesN.zip2 S (Draws.tuple hd i1 a na its.toArray) (Draws.list hd i2 b nb its2.toArray)).goes i s _ E (by simp; omega) ⟨hz, hTI, hTO, ⟨h1, p⟩, ⟨h2, p2.isList⟩⟩ fun v h' tk hY st' hk htk => ?_
    obtain ⟨T, wx, wy, rfl, hT, q1, q2, hTup⟩ := hY
    obtain ⟨z', TI', TO', ⟨l1', _⟩, ⟨l2', _⟩⟩ := st'
    obtain rfl : wx = vx := by
      have : its[i]? = some wx := by simpa using q1
      rw [hvx] at this
      exact (Option.some.inj this).symm
    obtain rfl : wy = vy := by
      have : its2[i]? = some wy := by simpa using q2
      rw [hvy] at this
      exact (Option.some.inj this).symm
    have new : ObjOk X.prog X.w (upd H T (.tup [x, y])) h' T (.tup [x, y]) :=
      ⟨by show 2 ≤ sizeLine; decide, [wx, wy], .cons rx (.cons ry .nil), hTup⟩
    have I1 : Inv X pins σ (upd H T (.tup [x, y])) { s with heap := h', toks := tk } :=
      I.turnedNew (ch := [z, TI, TO, i1, i2]) (fun c o hb q => hk c o (fun q' => hb (by
        simp only [List.mem_cons, List.not_mem_nil, or_false] at q' ⊢
        rcases q' with e | e | e | e
        · exact .inl e
        · exact .inr (.inr (.inl e))
        · exact .inr (.inr (.inr (.inl e)))
        · exact .inr (.inr (.inr (.inr e))))) q) hf hT new
    refine ⟨.ref T, _, I1, rfl, ⟨_, x, y, rfl, I.hok.fresh hT, rfl, fun l hl => by rw [I.tuple_inj hl hqx]; exact hx, fun l hl => by rw [I.list_inj hl hqy]; exact hy⟩, ⟨z', TI', TO', l1', l2'⟩, fun m hm => ?_⟩
    have hlt : m < s.heap.objs.size := by
      have e' : m = z ∨ m = TI ∨ m = TO ∨ m = i1 ∨ m = i2 := by simpa using hm
      rcases e' with q | q | q | q | q
      · rw [q]; exact Heap.lt_size hz
      · rw [q]; exact Heap.lt_size hTI
      · rw [q]; obtain ⟨_, _, e⟩ := hTO; exact Heap.lt_size e
      · rw [q]; obtain ⟨_, e1, _⟩ := h1; exact Heap.lt_size e1
      · rw [q]; obtain ⟨_, e1, _⟩ := h2; exact Heap.lt_size e1
    rw [upd_ne (Nat.ne_of_lt (Nat.lt_of_lt_of_le hlt hT))]
    exact (hf m hm).1
  done := by
    intro X hP hw hK hc i pins s σ H E I hf st hg
    subst hP hw hK
    obtain ⟨hz, hTI, hTO, h1, h2⟩ := st
    obtain ⟨xs, ys, hqx, hqy, lx, ly⟩ := hg
    obtain ⟨its, rv, p, _⟩ := I.tuple hqx
    obtain ⟨its2, rv2, p2, _⟩ := I.list hqy
    have r1 := rv.length
    have r2 := rv2.length
    have hd : X.A.in1.handled = none := I.ok.hd hc
    have W := GoesN.zip2 (elts := elts) (x1 := kk) (pos := tpos) (prog := X.prog) (w := X.w) S (Draws.tuple hd i1 a na its.toArray) (Draws.list hd i2 b nb its2.toArray)
    have en : min its.toArray.size its2.toArray.size = i := by simp; omega
    rw [en] at W
    refine W.stops s _ E ⟨hz, hTI, hTO, ⟨h1, p⟩, ⟨h2, p2.isList⟩⟩ fun h' tk hk htk => ?_
    exact I.turnedL (t' := tk) (ch := [z, TI, TO, i1, i2]) (fun m o hb q => hk m o (fun q' => hb (by
      simp only [List.mem_cons, List.not_mem_nil, or_false] at q' ⊢
      rcases q' with e | e | e | e
      · exact .inl e
      · exact .inr (.inr (.inl e))
      · exact .inr (.inr (.inr (.inl e)))
      · exact .inr (.inr (.inr (.inr e))))) q) hf
  self := fun A i s Q E st h => wpAny_pyIter_zip st.1 h
def iZipM (K : PySem.W.Frag) (ta : TA) : TI := fun σ H R => ta σ H fun vs H1 => ∃ a b xs ys, vs = [.ref a, .ref b] ∧ SqT K H1 a xs ∧ SqL K H1 b ys ∧ R (ItzM K a b) H1
theorem pi_zipM {X : Cx} {e e2 : Expr} {ta : TA} {p pos tpos : Pos} {elts : List Expr} {kk : Nat} (hg : Gl X "zip") (hm : X.mg "zip" = none) (ha : PA X [e, e2] ta)
    (hs : starEach [e, e2] X.env = (false, eval e X.env) :: starEach [e2] X.env := by rfl) (hpl : (backTo pos (starEach [e2] X.env)).any (·.1) = false := by rfl) :
    PI X (.Tuple elts kk tpos) (.Call (.Name "zip" p) [e, e2] [] pos) (iZipM X.K ta) := by
  refine ⟨fun pins s σ H R I h => ?_⟩
  refine Call_ (ld_blt I hg hm PyProof.Rows.boot_zip (PyProof.Rows.callWith_type1 (thn (ha.run pos pins s σ H _ I h) fun us s1 ⟨vs, H1, I1, r1, q1⟩ => ?_) hs hpl))
  obtain ⟨a, b, xs, ys, ex, hqx, hqy, q⟩ := q1
  subst ex
  cases r1 with
  | cons r rr =>
    cases rr with
    | cons r' rr =>
      cases rr
      cases r
      cases r'
      obtain ⟨its, rv, p1, _⟩ := I1.tuple hqx
      obtain ⟨its2, rv2, p2, _⟩ := I1.list hqy
      have la : a < s1.heap.objs.size := by
        obtain ⟨o1, ho1, _⟩ := id p1
        exact Heap.lt_size ho1
      have lb : b < s1.heap.objs.size := p2.lt
      refine zip_begins2 (begins_tuple a its.toArray) (begins_list b its2.toArray) p1 p2.isList fun h' hz hTI hTO g1 g2 hsz hk => wpAny_pyIter_zip hz ?_
      have I2 : Inv X pins σ H1 { s1 with heap := h' } := I1.kept (t' := s1.toks) hk
      have S := zip_sep2 (N := s1.heap.objs.size) (fp1 := [a]) (fp2 := [b]) (fun m hm => by rw [List.mem_singleton.mp hm]; exact la) (fun m hm => by rw [List.mem_singleton.mp hm]; exact lb)
      refine ⟨s1.heap.objs.size + 4, [s1.heap.objs.size + 4, s1.heap.objs.size + 2, s1.heap.objs.size + 3, s1.heap.objs.size, s1.heap.objs.size + 1], _, _, H1, rfl, I2, turn_zipM S (Nat.ne_of_lt la) (Nat.ne_of_lt (Nat.lt_succ_of_lt lb)), ⟨hz, hTI, ⟨_, _, hTO⟩, ⟨_, g1, rfl, rfl⟩, ⟨_, g2, rfl, rfl⟩⟩, fun m hm => ?_, q⟩
      have hle : s1.heap.objs.size ≤ m := by
        have e' : m = s1.heap.objs.size + 4 ∨ m = s1.heap.objs.size + 2 ∨ m = s1.heap.objs.size + 3 ∨ m = s1.heap.objs.size ∨ m = s1.heap.objs.size + 1 := by simpa using hm
        rcases e' with z | z | z | z | z
        · rw [z]; exact Nat.le_add_right _ _
        · rw [z]; exact Nat.le_add_right _ _
        · rw [z]; exact Nat.le_add_right _ _
        · rw [z]; exact Nat.le_refl _
        · rw [z]; exact Nat.le_add_right _ _
      exact I1.fpOk hle (I1.hok.fresh hle)
theorem walk_zipM {K : PySem.W.Frag} {a b : Addr} {xs ys : List V} (hn : xs.length = ys.length) : Walk (ItzM K a b) xs.length (fun H => SqT K H a xs ∧ SqL K H b ys) (YPair (fun i => xs[i]?) (fun i => ys[i]?)) := by
  refine ⟨fun i _ hi q => ?_, fun _ q => ⟨xs, ys, q.1, q.2, rfl, hn.symm⟩, fun i H v H' _ q y => ?_⟩
  · have h2 : i < ys.length := by omega
    exact ⟨xs, ys, xs[i], ys[i], q.1, q.2, by simp [hi], by simp [h2]⟩
  · obtain ⟨T, x, z, h1, h2, h3, h4, h5⟩ := y
    exact ⟨T, x, z, h1, h2, h3, h4 xs q.1, h5 ys q.2⟩
theorem lc_zipM {K : PySem.W.Frag} {a b : Addr} {xs ys : List V} {g : TG} {tt : TT} {te : TE} {vs : List Nat} {σ : L2.St} {H1 : Hp} {D : Addr} {Qd : Hp → Prop} (el : xs.length = ys.length) (Pv : Nat → Hp → Prop) (h0 : Pv 0 (upd H1 D (.lst []))) (hl : ∀ i H, i ≤ xs.length → Pv i H → SqT K H a xs ∧ SqL K H b ys)
    (hs : ∀ (i : Nat) (x y : V) (H : Hp) (T : Addr), xs[i]? = some x → ys[i]? = some y → Pv i H → H T = none → g (.ref T) (wipe σ vs) (upd H T (.tup [x, y])) fun σ2 H2 => wipe σ2 vs = wipe σ vs ∧ tt σ2 H2 fun b H3 =>
      if b = true then te σ2 H3 fun y H4 => ∃ acc, H4 D = some (.lst acc) ∧ acc.length < sizeLine ∧ Pv (i + 1) (upd H4 D (.lst (acc ++ [y]))) else Pv (i + 1) H3) (hd : ∀ H, Pv xs.length H → Qd H) :
    ∃ W : Nat → Nat → Hp → Prop, (∃ m, W 0 m (upd H1 D (.lst []))) ∧ ∀ i m H, W i m H →
      ((ItzM K a b).stop i H ∧ Qd H) ∨ ((ItzM K a b).go i H ∧ ∃ Nx : Hp → Prop, (∀ H', Nx H' → ∃ m', m' < m ∧ W (i + 1) m' H') ∧ ∀ x H', (ItzM K a b).yld i H x H' → g x (wipe σ vs) H' fun σ2 H2 => wipe σ2 vs = wipe σ vs ∧ tt σ2 H2 fun b H3 =>
        if b = true then te σ2 H3 fun y H4 => ∃ acc, H4 D = some (.lst acc) ∧ acc.length < sizeLine ∧ Nx (upd H4 D (.lst (acc ++ [y]))) else Nx H3) := by
  refine ⟨fun i m H => m + i = xs.length ∧ Pv i H, ⟨xs.length, rfl, h0⟩, ?_⟩
  rintro i m H ⟨em, p⟩
  obtain ⟨q1, q2⟩ := hl i H (by omega) p
  by_cases hlt : i < xs.length
  · refine .inr ⟨⟨xs, ys, xs[i], ys[i]'(by omega), q1, q2, List.getElem?_eq_getElem hlt, List.getElem?_eq_getElem (by omega)⟩, Pv (i + 1), fun H' p' => ⟨m - 1, by omega, by omega, p'⟩, fun x H' y => ?_⟩
    obtain ⟨T, z1, z2, rfl, nT, rfl, f1, f2⟩ := y
    exact hs i z1 z2 H T (f1 xs q1) (f2 ys q2) p nT
  · have e : i = xs.length := by omega
    subst e
    exact .inl ⟨⟨xs, ys, q1, q2, rfl, el.symm⟩, hd H p⟩

/-! ### a list comprehension whose element may raise by a call -/
section
variable {X : Cx}
theorem funFrames_base {h B B2 : Heap} (k : ∀ b, B.get? b = none → B2.get? b = none) : ∀ {l : List Env}, h.FunFrames B l → h.FunFrames B2 l
  | [], _ => trivial
  | _ :: _, ⟨h1, ⟨L', o, h2, h3, h4, h5⟩, h6⟩ => ⟨h1, ⟨L', o, h2, k _ h3, h4, h5⟩, funFrames_base k h6⟩
/-- what a call in the element lets out reaches the def around -/
theorem raise_out {W : Value → Option Addr → Hp → Prop} (tk : Takes X (fun cls d _ H => W cls d H)) (hs : X.stack = X.env :: X.outer) (hf : X.env.frame = some X.env.locals) {pins : List (Addr × Obj)} {σ : L2.St} {H3 : Hp} {s3 : Shared} (I3 : L2.Inv X pins σ H3 s3)
    {scope : Scope} {ce : Env} (cF : ce.frame = X.env.frame) (cL : ce.locals = s3.heap.objs.size) {fp : List Addr} (f3 : ∀ bb ∈ fp, FpOk X pins H3 bb ∧ bb < s3.heap.objs.size) {xe : Value → Shared → Prop}
    (hx : xe = notedBy (model X.prog X.w) X.A ce (CompFails (model X.prog X.w) X.A X.xe ce)) (σ' : L2.St) : PassesAt (L2.CX X.prog X.w) ((X.blk s3 H3 scope ce fp).wish xe) σ' (WE (fun cls d _ H => W cls d H) σ') := by
  intro pinsY H s e s' IY c
  show xe e s'
  obtain ⟨a, B, H', cls, d, rfl, fl, hokB, ub, na, os, ag, hE⟩ := c
  have fl : HandSPX.FlyingZ B X.stack a (Zc cls d) s'.heap := fl
  obtain ⟨G, gg1, gg2⟩ := restrict s'.heap fun bb => (B.get? bb).isSome || decide (bb ∈ frs X.stack)
  have stB : B.StaysIn s'.heap := fl.1
  have gBk : ∀ bb o, B.get? bb = some o → G.get? bb = some o := fun bb o e => by
    rw [gg1 bb (by simp [e])]
    exact stB bb o e
  have gFk : ∀ bb, bb ∈ frs X.stack → G.get? bb = s'.heap.get? bb := fun bb hb => gg1 bb (by simp [hb])
  have ogk : ∀ bb o, G.get? bb = some o → s'.heap.get? bb = some o ∧ ((B.get? bb).isSome = true ∨ bb ∈ frs X.stack) := fun bb o e => by
    cases qv : ((B.get? bb).isSome || decide (bb ∈ frs X.stack)) with
    | false => rw [gg2 bb qv] at e; cases e
    | true =>
      rw [gg1 bb qv] at e
      exact ⟨e, by simpa [Bool.or_eq_true] using qv⟩
  have IG : L2.Inv ((X.blk s3 H3 scope ce fp).wish xe) pinsY σ' H' { s with heap := G, gens := s'.gens, drawn := s'.drawn, toks := s'.toks } := by
    refine IY.call (ch := []) ⟨fun bb o e n hb _ => gBk bb o (ub.keep bb o e n hb), fun bb o e n hb _ => ?_, fun bb o e n _ => ub.free bb o e n, fun bb o e _ => ?_, ub.tups, ub.frzs, ub.tbls⟩ (hokB.kept gBk) ag (fun _ z => nomatch z)
    · obtain ⟨slv, qv⟩ := ub.slot bb o e hb
      exact ⟨slv, by rw [gFk bb hb]; exact qv⟩
    · by_cases hb : bb ∈ frs X.stack
      · obtain ⟨slv, qv⟩ := ub.slot bb o e hb
        exact ⟨_, by rw [gFk bb hb]; exact qv⟩
      · obtain ⟨ob, qv⟩ := ub.there bb o e hb
        exact ⟨ob, gBk bb ob qv⟩
  have nbG : ∀ bb o, G.get? bb = some o → bb ∉ frs X.stack → B.get? bb = some o := fun bb o e hb => by
    obtain ⟨e', h⟩ := ogk bb o e
    rcases h with h | h
    · obtain ⟨ob, qv⟩ := Option.isSome_iff_exists.mp h
      have z := stB bb ob qv
      rw [e'] at z; cases z
      exact qv
    · exact absurd h hb
  have upG : G.UpToSlots s'.heap := Heap.UpToSlots.of_keeps fun bb o e => (ogk bb o e).1
  have IX : L2.Inv X pins σ H' { s with heap := G, gens := s'.gens, drawn := s'.drawn, toks := s'.toks } := I3.call' (ch := fp) IG.os IG.base IG.hok IG.bare fun bb hb => ⟨(f3 bb hb).1.2.2.2.1, (f3 bb hb).1.2.1, (f3 bb hb).1.2.2.2.2.1, (f3 bb hb).1.2.2.2.2.2⟩
  obtain ⟨m, hn, _⟩ := IG.loc
  have hn : G.Ns ce.locals m := hn
  have nC : H' ce.locals = none := IG.free
  have fpC : FpOk X pins H' ce.locals := I3.fpOk (by rw [cL]; exact Nat.le_refl _) nC
  have hfr : X.A.frames = some (X.env :: X.outer) := by rw [I3.ok.frames, hs]
  have hCfr : ce.locals ∉ frs X.stack := fun z => by
    rw [hs] at z
    have z : ce.locals ∈ (X.env :: X.outer).filterMap (·.frame) := z
    rw [List.filterMap_cons, hf] at z
    rcases List.mem_cons.mp z with k | k
    · exact fpC.2.1 k
    · exact fpC.2.2.1 k
  obtain ⟨oC, hoC⟩ : ∃ oC, G.get? ce.locals = some oC := by
    obtain ⟨o, _, _, ho, _⟩ := hn
    exact ⟨o, ho⟩
  have hBC := nbG _ _ hoC hCfr
  rw [hx]
  show wpAny _ X.A (noteFrame (.ref a) ce) _ _ s'
  rw [noteFrame_env _ cF]
  rw [hs] at fl
  refine HandSPX.looks_onZ Zc.steady hfr hf fl fun h1 hh1 up1 => ?_
  refine ⟨m, up1.ns (upG.ns hn), fun h2 m2 hn2 hs2 => ?_⟩
  obtain ⟨o2, ho2⟩ : ∃ o2, h2.get? ce.locals = some o2 := by
    obtain ⟨o, _, _, ho, _⟩ := hn2
    exact ⟨o, ho⟩
  have nfr : o2.isFreed = false := (Heap.get?_some_iff.mp ho2).2
  have uB := Heap.SameBut.update B ce.locals (fun _ => o2)
  have uG := Heap.SameBut.update G ce.locals (fun _ => o2)
  have hB2 : (B.update ce.locals fun _ => o2).get? ce.locals = some o2 := Heap.get?_update_self (fun _ => o2) hBC nfr
  have hG2 : (G.update ce.locals fun _ => o2).get? ce.locals = some o2 := Heap.get?_update_self (fun _ => o2) hoC nfr
  generalize B.update ce.locals (fun _ => o2) = B2 at uB hB2
  generalize G.update ce.locals (fun _ => o2) = G2 at uG hG2
  obtain ⟨k1, k2, k3, oe, vs, T, oT, ts, t1, t2, t3, t4, t5, t6, t7, t8, t9⟩ := hh1
  have haC : a ≠ ce.locals := fun z => by rw [z, hBC] at k2; cases k2
  have hTC : T ≠ ce.locals := fun z => by rw [z, hBC] at t5; cases t5
  have hh2 : HandSPX.HeldZ B2 (X.env :: X.outer) a (Zc cls d) X.env.locals h2 := by
    refine ⟨fun bb o e => ?_, (uB.2 _ haC).trans k2, ?_, oe, vs, T, oT, ts, (hs2.2 _ haC).trans t1, t2, t3, t4, (uB.2 _ hTC).trans t5, t6, (hs2.2 _ hTC).trans t7, t8, t9⟩
    · by_cases hb : bb = ce.locals
      · rw [hb, hB2] at e
        rw [hb, ho2]
        exact e
      · exact (hs2.2 bb hb).trans (k1 bb o ((uB.2 bb hb).symm.trans e))
    · refine funFrames_base (B := B) (fun bb hb => ?_) (Heap.FunFrames.sameBut hs2 hn2 k3)
      by_cases hbc : bb = ce.locals
      · rw [hbc, hBC] at hb; cases hb
      · exact (uB.2 bb hbc).trans hb
  have t1' : h2.get? a = some oe := (hs2.2 _ haC).trans t1
  unfold PySem.passOn
  refine wpAny_bind (wpAny_field t1' t3 t4 ?_)
  rw [if_neg (show ¬ ((Value.ref T == Value.none) = true) by simp)]
  rw [cF, hf]
  refine wpAny_bind (HandSPX.setFlight_onZ hh2 fun h3 hh3 up3 => ?_)
  refine wpAny_throw ?_
  have I2 : L2.Inv X pins σ H' { s with heap := G2, gens := s'.gens, drawn := s'.drawn, toks := s'.toks } := IX.turned (t' := s'.toks) (fun bb o hb e => (uG.2 bb hb).trans e) fpC.1 fpC.2.1 fpC.2.2.2.1 fpC.2.2.2.2.1 fpC.2.2.2.2.2
  refine tk _ _ ⟨a, B2, { s with heap := G2, gens := s'.gens, drawn := s'.drawn, toks := s'.toks }, pins, σ, H', cls, d, rfl, I2, fun bb o e hb => ?_, fun bb o e hnf => ?_, .inr (.inr ?_), na, os, ag, hE⟩
  · by_cases hbc : bb = ce.locals
    · rw [hbc, hG2] at e
      rw [hbc, hB2]
      exact e
    · exact (uB.2 bb hbc).trans (nbG bb o ((uG.2 bb hbc).symm.trans e) hb)
  · by_cases hbc : bb = ce.locals
    · rw [hbc, hG2] at e
      exact up3 bb o (by rw [hbc, ho2]; exact e) hnf
    · obtain ⟨slv, qv⟩ := (upG.trans up1) bb o ((uG.2 bb hbc).symm.trans e) hnf
      obtain ⟨sl2, q2⟩ := up3 bb _ ((hs2.2 bb hbc).trans qv) hnf
      exact ⟨sl2, q2⟩
  · rw [hs]
    exact hh3
/-- [element for target in iterator if ..] where the element may raise by calls -/
theorem lcx_core {W : Value → Option Addr → Hp → Prop} {pins : List (Addr × Obj)} {s : Shared} {σ : L2.St} {H : Hp} {Q : VK} {elt tg iter : Expr} {ifs : List Expr} {scope : Scope} {own : List (Str × Nat)} {pos pos' : Pos} {wi : TI} {g : TG} {tt : TT} {te : TE} {Qf : Value → Shared → Prop}
    (tk : Takes X (fun cls d _ H => W cls d H)) (hstk : X.stack = X.env :: X.outer) (hfrm : X.env.frame = some X.env.locals) (hc : X.calm = true) (hN : X.N.Nodup) (I : L2.Inv X pins σ H s) (hi : PI X tg iter wi) (ok : BlkOk X.N X.env.scope scope own)
    (hg : ∀ (s : Shared) (H : Hp) (LC : Addr) (clq : List (Str × Addr)) (fpp : List Addr) (xe : Value → Shared → Prop), PG ((X.blk s H scope (compEnvC scope clq LC X.env) fpp).wish xe) tg g)
    (ht : ∀ (s : Shared) (H : Hp) (LC : Addr) (clq : List (Str × Addr)) (fpp : List Addr) (xe : Value → Shared → Prop), PTs ((X.blk s H scope (compEnvC scope clq LC X.env) fpp).wish xe) ifs tt)
    (he : ∀ (s : Shared) (H : Hp) (LC : Addr) (clq : List (Str × Addr)) (fpp : List Addr) (xe : Value → Shared → Prop), (∀ σ', PassesAt (L2.CX X.prog X.w) ((X.blk s H scope (compEnvC scope clq LC X.env) fpp).wish xe) σ' (WE (fun cls d _ H => W cls d H) σ')) → PE ((X.blk s H scope (compEnvC scope clq LC X.env) fpp).wish xe) elt te)
    (hfold : ∀ x, foldedSetIterable iter X.env x = pure x) (h : tLc wi g tt te (own.map (·.2)) σ H Q)
    (hEnd : ∀ LD (cv : Env) z' m G', L2.Inv X pins σ G' z' → Q (.ref LD) G' → z'.heap.Ns cv.locals m → FpOk X pins G' cv.locals → compEnds (model X.prog X.w) X.A X.xe none Qf (.ref LD) cv (.ok .next) z') :
    wpAny (model X.prog X.w) X.A (comprehension (.ListComp elt [⟨tg, iter, ifs, 0⟩] scope pos) scope X.env pos' (newList []) false (eval iter X.env) none) Qf X.xe s := by
  have hFr : ∀ y ∈ scope.names, y.2 = .free → ∃ c, X.env.cells.lookup y.1 = some c := fun y hy e => by
    rcases ok.free y hy e with kk | kk
    · exact I.ok.has _ (.inl kk)
    · exact I.ok.has _ (.inr kk)
  refine comprehension_at (use := none) rfl hfold (closure_ok hFr) ok.kind (fun y hy e => by rw [ok.uniq y hy, e])
    (thn (hi.run pins s σ H _ I h) fun xw z1 hx => thn hx fun itw z2 h2 => ?_)
  obtain ⟨itr, fpp, tnn, JJ, G2, e, J2, TT, tq2, fq2, qv⟩ := h2
  subst e
  refine wpAny_newObj_type (newEnv_comp ?_) (show 0 ≤ sizeLine by decide)
  generalize hD : z2.heap.objs.size = LD
  have hLn : G2 LD = none := J2.hok.fresh (Nat.le_of_eq hD)
  obtain ⟨WW, ⟨n0, u0⟩, trn⟩ := qv LD hLn
  -- the new list
  generalize hz3 : ({ z2 with heap := z2.heap.push { cls := .type "list", data := .seq ([] : List Value).toArray } } : Shared) = z3
  have J3 : L2.Inv X pins σ (upd G2 LD (.lst [])) z3 := by
    rw [← hz3]
    refine J2.laid (t' := z2.toks) (fun b o e => Heap.get?_push_of_some _ e) (Nat.le_of_eq hD) ⟨Nat.zero_le _, [], 0, .nil, ?_⟩
    rw [← hD]
    exact Heap.get?_push_size (_ : Heap) rfl
  have h3 : z3.heap = z2.heap.push { cls := .type "list", data := .seq ([] : List Value).toArray } := by rw [← hz3]
  have szz : ∀ b ∈ fpp, b < z2.heap.objs.size := fun b hb => by
    obtain ⟨o, e, _⟩ := TT.obj _ _ tq2 b hb
    exact Heap.lt_size e
  have fq3 : ∀ b ∈ fpp, FpOk X pins (upd G2 LD (.lst [])) b ∧ b < z3.heap.objs.size := fun b hb => by
    have hlt := szz b hb
    refine ⟨⟨?_, (fq2 b hb).2⟩, by rw [h3, Heap.size_push]; exact Nat.lt_succ_of_lt hlt⟩
    rw [upd_ne (show b ≠ LD by rw [← hD]; exact Nat.ne_of_lt hlt)]
    exact (fq2 b hb).1
  have tq3 : tnn 0 z3.heap := TT.keep _ _ _ tq2 fun b _ o e => by rw [h3]; exact Heap.get?_push_of_some _ e
  have J4 := fun xe => (block_start J3 ok hN fq3).wish xe
  have pgg := hg z3 (upd G2 LD (.lst [])) z3.heap.objs.size (cellsFrom (z3.heap.objs.size + 1) scope.names (cloFrom X.env.cells scope.names [])) fpp
  have ptt := ht z3 (upd G2 LD (.lst [])) z3.heap.objs.size (cellsFrom (z3.heap.objs.size + 1) scope.names (cloFrom X.env.cells scope.names [])) fpp
  have pee := he z3 (upd G2 LD (.lst [])) z3.heap.objs.size (cellsFrom (z3.heap.objs.size + 1) scope.names (cloFrom X.env.cells scope.names [])) fpp
  show codeAny _ _ (.compStart (.ListComp elt [⟨tg, iter, ifs, 0⟩] scope pos) 0 (.ref itr) (.ref LD) (compEnvC scope (cellsFrom (z3.heap.objs.size + 1) scope.names (cloFrom X.env.cells scope.names [])) z3.heap.objs.size X.env)) (compEnds (model X.prog X.w) X.A X.xe none Qf (.ref LD) (compEnvC scope (cellsFrom (z3.heap.objs.size + 1) scope.names (cloFrom X.env.cells scope.names [])) z3.heap.objs.size X.env)) { z3 with heap := pushCells (z3.heap.push { cls := .type "dict", data := .dict #[] }) scope.names }
  have nfq : ∀ b ∈ fpp, (upd G2 LD (.lst [])) b = none := fun b hb => (fq3 b hb).1.1
  generalize hcv : compEnvC scope (cellsFrom (z3.heap.objs.size + 1) scope.names (cloFrom X.env.cells scope.names [])) z3.heap.objs.size X.env = cv at J4 pgg ptt pee ⊢
  have cvL : cv.locals = z3.heap.objs.size := by subst hcv; rfl
  have cvF : cv.frame = X.env.frame := by subst hcv; rfl
  obtain ⟨xe0, hxe0⟩ : ∃ xe0, xe0 = notedBy (model X.prog X.w) X.A cv (CompFails (model X.prog X.w) X.A X.xe cv) := ⟨_, rfl⟩
  have J4 := J4 xe0
  have pgg := pgg xe0
  have ptt := ptt xe0
  have pee := pee xe0 (raise_out tk hstk hfrm J3 cvF cvL fq3 hxe0)
  generalize hG3 : upd G2 LD (.lst []) = G3 at J3 J4 pgg ptt pee u0 nfq fq3
  generalize hz4 : ({ z3 with heap := pushCells (z3.heap.push { cls := .type "dict", data := .dict #[] }) scope.names } : Shared) = z4 at J4 ⊢
  have tq4 : tnn 0 z4.heap := TT.keep _ _ _ tq3 fun b _ o e => by rw [← hz4]; exact pushCells_keeps _ _ _ _ (Heap.get?_push_of_some _ e)
  have stn : ∀ {σ' : L2.St} {G' : Hp} {z' : Shared}, L2.Inv ((X.blk z3 G3 scope cv fpp).wish xe0) [] σ' G' z' → (∀ b ∈ fpp, G' b = none) → ∀ b ∈ fpp, FpOk ((X.blk z3 G3 scope cv fpp).wish xe0) [] G' b := fun {σ' G' z'} J' hnn b hb =>
    ⟨hnn b hb, (J'.ok.exf b hb).1, J'.ok.exfs b hb, .inl hb, fun x c e => (J'.ok.exf b hb).2 x c e, fun p hp => absurd (show p ∈ ([] : List (Addr × Obj)) ++ [] from hp) (by simp)⟩
  have lup : codeAny (model X.prog X.w) X.A (.compLoop (.ListComp elt [⟨tg, iter, ifs, 0⟩] scope pos) 0 (.ref itr) (.ref LD) cv) (compEnds (model X.prog X.w) X.A X.xe none Qf (.ref LD) cv) z4 := by
    refine compLoop_any (R := compEnds (model X.prog X.w) X.A X.xe none Qf (.ref LD) cv) (fun n z' => ∃ i G', L2.Inv ((X.blk z3 G3 scope cv fpp).wish xe0) [] (wipe σ (own.map (·.2))) G' z' ∧ tnn i z'.heap ∧ (∀ b ∈ fpp, G' b = none) ∧ WW i n G') ?_ n0 ⟨0, G3, J4, tq4, nfq, u0⟩
    rw [show (notedBy (model X.prog X.w) X.A cv fun e s' => compEnds (model X.prog X.w) X.A X.xe none Qf (.ref LD) cv (.error e) s') = xe0 from hxe0.symm]
    rintro n z5 ⟨i, G5, J5, tq5, nn5, u5⟩
    rcases trn i n G5 u5 with ⟨stp, qq1⟩ | ⟨goo, Nxx, hNxx, stq⟩
    · have tdd := TT.done ((X.blk z3 G3 scope cv fpp).wish xe0) rfl rfl rfl hc i [] z5 _ G5 (fun _ _ => False) J5 (stn J5 nn5) tq5 stp
      refine thnF tdd fun r z6 ⟨hrr, J6⟩ => ?_
      subst hrr
      -- back in the def's context
      have J7 : L2.Inv X pins σ G5 z6 := J3.call' (ch := fpp) J6.os J6.base J6.hok J6.bare fun b hb => ⟨(fq3 b hb).1.2.2.2.1, (fq3 b hb).1.2.1, (fq3 b hb).1.2.2.2.2.1, (fq3 b hb).1.2.2.2.2.2⟩
      have nCC : G5 z3.heap.objs.size = none := by
        have z : G5 cv.locals = none := J6.free
        rw [cvL] at z
        exact z
      obtain ⟨m, hnn, _⟩ := J6.loc
      have hnn : z6.heap.Ns cv.locals m := hnn
      exact hEnd LD cv z6 m G5 J7 qq1 hnn (by rw [cvL]; exact J3.fpOk (Nat.le_refl _) nCC)
    · have tii := TT.item ((X.blk z3 G3 scope cv fpp).wish xe0) rfl rfl rfl hc i [] z5 _ G5 (fun _ _ => False) J5 (stn J5 nn5) tq5 goo
      refine thnF tii fun r z6 ⟨u, hrr, hh6⟩ => ?_
      subst hrr
      refine thnF hh6 fun _ z7 ⟨x, G7, J7, rr7, yy7, tq7, nn7⟩ => ?_
      have J7' := J7.pinned (stn J7 nn7) (TT.obj _ _ tq7)
      refine thn (pgg.run _ z7 _ G7 x u _ J7' rr7 (stq x G7 yy7)) fun _ z8 ⟨σ8, G8, J8, hww8, qq8⟩ => ?_
      refine thn (ptt.run _ z8 σ8 G8 _ J8 qq8) fun b z9 ⟨G9, J9, qq9⟩ => ?_
      -- the turn's end
      have fnd : ∀ {z' : Shared} {G' : Hp}, L2.Inv ((X.blk z3 G3 scope cv fpp).wish xe0) ([] ++ pinsAt fpp z7.heap) σ8 G' z' → Nxx G' → ∃ m, m < n ∧ ∃ i G', L2.Inv ((X.blk z3 G3 scope cv fpp).wish xe0) [] (wipe σ (own.map (·.2))) G' z' ∧ tnn i z'.heap ∧ (∀ b ∈ fpp, G' b = none) ∧ WW i m G' := fun {z' G'} J' nxx => by
        obtain ⟨m', hmm, u'⟩ := hNxx G' nxx
        have pin1 : ∀ b ∈ fpp, ∀ o, z7.heap.get? b = some o → z'.heap.get? b = some o ∧ G' b = none := fun b hb o e =>
          let z := J'.pin (b, o) (List.mem_append_right _ (List.mem_append_right _ (mem_pinsAt hb e)))
          ⟨z.1, z.2.1⟩
        have hll : (wipe σ (own.map (·.2))).length = σ8.length := by rw [← hww8, wipe_length]
        refine ⟨m', hmm, i + 1, G', (J'.unpinned (pins := [])).weak hll (fun j v e => ?_), TT.keep _ _ _ tq7 fun b hb o e => (pin1 b hb o e).1, fun b hb => ?_, u'⟩
        · rw [← hww8] at e
          exact (wipe_some e).1
        · obtain ⟨o, e, _⟩ := TT.obj _ _ tq7 b hb
          exact (pin1 b hb o e).2
      cases b with
      | false =>
        simp only [Bool.false_eq_true, if_false] at qq9 ⊢
        exact fnd J9 qq9
      | true =>
        simp only [if_true] at qq9 ⊢
        refine thn (pee.run _ z9 σ8 G9 _ J9 qq9) fun z z10 ⟨yw, G10, J10, rr10, acq, hL10, hq10, nxx⟩ => ?_
        exact app_ok (X := (X.blk z3 G3 scope cv fpp).wish xe0) J10 hL10 hq10 rr10 fun z11 J11 => fnd J11 nxx
  exact codeAny_compStart_list lup (TT.self X.A 0 _ _ _ tq4 lup)
/-- as a value, in a def that raises -/
theorem pe_lcx {W : Value → Option Addr → Hp → Prop} {elt tg iter : Expr} {ifs : List Expr} {scope : Scope} {own : List (Str × Nat)} {pos : Pos} {wi : TI} {g : TG} {tt : TT} {te : TE} (tk : Takes X (fun cls d _ H => W cls d H)) (hstk : X.stack = X.env :: X.outer) (hfrm : X.env.frame = some X.env.locals) (hc : X.calm = true) (hN : X.N.Nodup) (hi : PI X tg iter wi) (ok : BlkOk X.N X.env.scope scope own)
    (hg : ∀ (s : Shared) (H : Hp) (LC : Addr) (clq : List (Str × Addr)) (fpp : List Addr) (xe : Value → Shared → Prop), PG ((X.blk s H scope (compEnvC scope clq LC X.env) fpp).wish xe) tg g)
    (ht : ∀ (s : Shared) (H : Hp) (LC : Addr) (clq : List (Str × Addr)) (fpp : List Addr) (xe : Value → Shared → Prop), PTs ((X.blk s H scope (compEnvC scope clq LC X.env) fpp).wish xe) ifs tt)
    (he : ∀ (s : Shared) (H : Hp) (LC : Addr) (clq : List (Str × Addr)) (fpp : List Addr) (xe : Value → Shared → Prop), (∀ σ', PassesAt (L2.CX X.prog X.w) ((X.blk s H scope (compEnvC scope clq LC X.env) fpp).wish xe) σ' (WE (fun cls d _ H => W cls d H) σ')) → PE ((X.blk s H scope (compEnvC scope clq LC X.env) fpp).wish xe) elt te)
    (hfold : ∀ x, foldedSetIterable iter X.env x = pure x := by intro _; rfl) : PE X (.ListComp elt [⟨tg, iter, ifs, 0⟩] scope pos) (tLc wi g tt te (own.map (·.2))) := by
  refine ⟨fun pins s σ H Q J h => ?_⟩
  rw [eval_ListComp]
  refine lcx_core tk hstk hfrm hc hN J hi ok hg ht he hfold h fun LD cv z' m G' J' qv hnn f => ⟨m, hnn, fun h'' sb => ?_⟩
  obtain ⟨f0, f1, _, f3, f4, f5⟩ := f
  exact ⟨.ref LD, G', J'.turned (t' := z'.toks) (fun b o hb e => (sb.2 b hb).trans e) f0 f1 f3 f4 f5, rfl, qv⟩
end

/-- how items of one kind are told as data; equal data are equal items -/
structure LayD {α : Type} [DecidableEq α] (L : α → PyData) (k : Nat) (G : α → Prop) : Prop where
  lay : ∀ x, G x → (L x).canLay0 = true
  dep : ∀ x, (L x).depth ≤ k
  eqv : ∀ x y, PyData.eqv (L x) (L y) = decide (x = y)
theorem LayD.shaped {α : Type} [DecidableEq α] {L : α → PyData} {k : Nat} {G : α → Prop} (h : LayD L k G) (hk : k ≤ 64) {x : α} (g : G x) : SeqAt.shaped (L x) = true := by
  have h1 := h.lay x g
  have h2 := h.dep x
  unfold SeqAt.shaped
  rw [h1, Bool.true_and]
  exact decide_eq_true (by omega)
theorem layD_int : LayD PyData.int 0 (fun _ => True) := ⟨fun _ _ => rfl, fun _ => Nat.le_refl _, fun x y => by simp only [PyData.eqv]; exact (Bool.beq_eq_decide_eq x y)⟩
theorem layD_str : LayD PyData.str 0 (fun x => PyData.strOk x = true) := ⟨fun _ h => by simp only [PyData.canLay0]; exact h, fun _ => Nat.le_refl _, fun x y => by simp only [PyData.eqv]; exact (Bool.beq_eq_decide_eq x y)⟩
theorem decide_and2 {p q r : Prop} [Decidable p] [Decidable q] [Decidable r] (h : r ↔ p ∧ q) : (decide p && decide q) = decide r := by
  by_cases hp : p <;> by_cases hq : q <;> simp [h, hp, hq]
theorem layD_all {α : Type} [DecidableEq α] {L : α → PyData} {k : Nat} {G : α → Prop} (h : LayD L k G) : (∀ xs : List α, (∀ x, x ∈ xs → G x) → PyData.canLayAll0 (xs.map L) = true) ∧ (∀ xs : List α, PyData.depthAll (xs.map L) ≤ k) ∧ ∀ xs ys : List α, PyData.eqvAll (xs.map L) (ys.map L) = decide (xs = ys) := by
  refine ⟨fun xs => ?_, fun xs => ?_, fun xs => ?_⟩
  · induction xs with
    | nil => exact fun _ => rfl
    | cons x xs ih =>
      intro g
      rw [List.map_cons]
      simp only [PyData.canLayAll0, ih fun y hy => g y (List.mem_cons_of_mem _ hy), h.lay x (g x List.mem_cons_self)]
      rfl
  · induction xs with
    | nil => exact Nat.zero_le _
    | cons x xs ih => rw [List.map_cons]; simp only [PyData.depthAll]; exact Nat.max_le.mpr ⟨h.dep x, ih⟩
  · induction xs with
    | nil =>
      intro ys
      cases ys with
      | nil => rfl
      | cons y ys => simp [PyData.eqvAll]
    | cons x xs ih =>
      intro ys
      cases ys with
      | nil => simp [PyData.eqvAll]
      | cons y ys =>
        rw [List.map_cons, List.map_cons]
        simp only [PyData.eqvAll]
        rw [ih ys, h.eqv x y]
        exact decide_and2 (by rw [List.cons.injEq])
theorem LayD.list {α : Type} [DecidableEq α] {L : α → PyData} {k : Nat} {G : α → Prop} (h : LayD L k G) : LayD (fun xs : List α => PyData.list (xs.map L)) (k + 1) (fun xs => ∀ x, x ∈ xs → G x) := by
  obtain ⟨h1, h2, h3⟩ := layD_all h
  refine ⟨fun xs g => ?_, fun xs => ?_, fun xs ys => ?_⟩
  · simp only [PyData.canLay0]; exact h1 xs g
  · simp only [PyData.depth]; exact Nat.succ_le_succ (h2 xs)
  · simp only [PyData.eqv]; exact h3 xs ys
theorem LayD.tup2 {α β : Type} [DecidableEq α] [DecidableEq β] {L : α → PyData} {M : β → PyData} {k : Nat} {G : α → Prop} {G2 : β → Prop} (h : LayD L k G) (g : LayD M k G2) : LayD (fun x : α × β => PyData.tuple [L x.1, M x.2]) (k + 1) (fun x => G x.1 ∧ G2 x.2) := by
  refine ⟨fun x a => ?_, fun x => ?_, fun x y => ?_⟩
  · simp only [PyData.canLay0, PyData.canLayAll0, h.lay _ a.1, g.lay _ a.2, Bool.and_true]
  · simp only [PyData.depth, PyData.depthAll]
    have := h.dep x.1
    have := g.dep x.2
    omega
  · simp only [PyData.eqv, PyData.eqvAll, h.eqv, g.eqv, Bool.and_true]
    exact decide_and2 (by rw [Prod.ext_iff])
theorem LayD.tup3 {α β γ : Type} [DecidableEq α] [DecidableEq β] [DecidableEq γ] {L : α → PyData} {M : β → PyData} {N : γ → PyData} {k : Nat} {G : α → Prop} {G2 : β → Prop} {G3 : γ → Prop} (h : LayD L k G) (g : LayD M k G2) (e : LayD N k G3) : LayD (fun x : α × β × γ => PyData.tuple [L x.1, M x.2.1, N x.2.2]) (k + 1) (fun x => G x.1 ∧ G2 x.2.1 ∧ G3 x.2.2) := by
  refine ⟨fun x a => ?_, fun x => ?_, fun x y => ?_⟩
  · simp only [PyData.canLay0, PyData.canLayAll0, h.lay _ a.1, g.lay _ a.2.1, e.lay _ a.2.2, Bool.and_true]
  · simp only [PyData.depth, PyData.depthAll]
    have := h.dep x.1
    have := g.dep x.2.1
    have := e.dep x.2.2
    omega
  · simp only [PyData.eqv, PyData.eqvAll, h.eqv, g.eqv, e.eqv, Bool.and_true]
    rw [decide_and2 (r := x.2 = y.2) (by rw [Prod.ext_iff])]
    exact decide_and2 (by rw [Prod.ext_iff])
theorem LayD.tup4 {α β γ δ : Type} [DecidableEq α] [DecidableEq β] [DecidableEq γ] [DecidableEq δ] {L : α → PyData} {M : β → PyData} {N : γ → PyData} {O : δ → PyData} {k : Nat} {G : α → Prop} {G2 : β → Prop} {G3 : γ → Prop} {G4 : δ → Prop} (h : LayD L k G) (g : LayD M k G2) (e : LayD N k G3) (d : LayD O k G4) : LayD (fun x : α × β × γ × δ => PyData.tuple [L x.1, M x.2.1, N x.2.2.1, O x.2.2.2]) (k + 1) (fun x => G x.1 ∧ G2 x.2.1 ∧ G3 x.2.2.1 ∧ G4 x.2.2.2) := by
  refine ⟨fun x a => ?_, fun x => ?_, fun x y => ?_⟩
  · simp only [PyData.canLay0, PyData.canLayAll0, h.lay _ a.1, g.lay _ a.2.1, e.lay _ a.2.2.1, d.lay _ a.2.2.2, Bool.and_true]
  · simp only [PyData.depth, PyData.depthAll]
    have := h.dep x.1
    have := g.dep x.2.1
    have := e.dep x.2.2.1
    have := d.dep x.2.2.2
    omega
  · simp only [PyData.eqv, PyData.eqvAll, h.eqv, g.eqv, e.eqv, d.eqv, Bool.and_true]
    rw [decide_and2 (r := x.2.2 = y.2.2) (by rw [Prod.ext_iff]), decide_and2 (r := x.2 = y.2) (by rw [Prod.ext_iff])]
    exact decide_and2 (by rw [Prod.ext_iff])
theorem eqL {α : Type} [DecidableEq α] {L : α → PyData} {k : Nat} {G : α → Prop} (h : LayD L k G) (hk : k ≤ 64) {K : PySem.W.Frag} {H : Hp} {x y : V} {a b : α} {Q : VK} (ga : G a) (gb : G b) (h1 : Dp K H x (L a)) (h2 : Dp K H y (L b)) (q : Q (.bl (decide (a = b))) H) : rEqD K x y H Q :=
  ⟨_, _, h1, h2, h.shaped hk ga, h.shaped hk gb, by rw [h.eqv]; exact q⟩
theorem neL {α : Type} [DecidableEq α] {L : α → PyData} {k : Nat} {G : α → Prop} (h : LayD L k G) (hk : k ≤ 64) {K : PySem.W.Frag} {H : Hp} {x y : V} {a b : α} {Q : VK} (ga : G a) (gb : G b) (h1 : Dp K H x (L a)) (h2 : Dp K H y (L b)) (q : Q (.bl (!decide (a = b))) H) : rNeD K x y H Q :=
  ⟨_, _, h1, h2, h.shaped hk ga, h.shaped hk gb, by rw [h.eqv]; exact q⟩
theorem dpAll_refs {α : Type} {L : α → PyData} {K : PySem.W.Frag} {H : Hp} : ∀ {ps : List Addr} {xs : List α}, ps.length = xs.length → (∀ (i : Nat) (p : Addr) (x : α), ps[i]? = some p → xs[i]? = some x → Dp K H (.ref p) (L x)) → DpAll K H (ps.map V.ref) (xs.map L)
  | [], [], _, _ => .nil
  | [], _ :: _, h, _ => by cases h
  | _ :: _, [], h, _ => by cases h
  | p :: ps, x :: xs, h, e => .cons (e 0 p x rfl rfl) (dpAll_refs (Nat.succ.inj h) fun i p' x' h1 h2 => e (i + 1) p' x' h1 h2)

def at0 (ws : List Int) (i : Nat) : Int := ws.getD i 0
theorem at0_lt {ws : List Int} {i : Nat} (h : i < ws.length) : ws[i]? = some (at0 ws i) := by
  unfold at0
  rw [List.getD_eq_getElem?_getD, List.getElem?_eq_getElem h]
  rfl
theorem atI_n {ws : List Int} {j : Nat} (h : j < ws.length) : atI (ws.map V.int) (j : Int) = some (.int (at0 ws j)) := by
  refine at_of (j := j) rfl ?_
  rw [List.getElem?_map, at0_lt h]
  rfl
theorem at0_of {ws : List Int} {i : Nat} {x : Int} (h : ws[i]? = some x) : at0 ws i = x := by
  unfold at0
  rw [List.getD_eq_getElem?_getD, h]
  rfl
theorem at0_out {ws : List Int} {i : Nat} (h : ws.length ≤ i) : at0 ws i = 0 := by
  unfold at0
  rw [List.getD_eq_getElem?_getD, List.getElem?_eq_none h]
  rfl
theorem at0_ext {xs ys : List Int} (hl : xs.length = ys.length) (h : ∀ i, i < xs.length → at0 xs i = at0 ys i) : xs = ys := by
  refine List.ext_getElem? fun i => ?_
  by_cases hi : i < xs.length
  · rw [at0_lt hi, at0_lt (by omega), h i hi]
  · rw [List.getElem?_eq_none (by omega), List.getElem?_eq_none (by omega)]
theorem at0_set {ps : List Int} {k i : Nat} {x : Int} (hk : k < ps.length) : at0 (ps.set k x) i = if i = k then x else at0 ps i := by
  by_cases h : i = k
  · subst h
    rw [if_pos rfl]
    exact at0_of (List.getElem?_set_self hk)
  · rw [if_neg h]
    unfold at0
    rw [List.getD_eq_getElem?_getD, List.getD_eq_getElem?_getD, List.getElem?_set_ne (fun e => h e.symm)]
theorem at0_nonneg {ws : List Int} (h : ∀ w, w ∈ ws → 0 ≤ w) (i : Nat) : 0 ≤ at0 ws i := by
  by_cases hi : i < ws.length
  · exact h _ (List.mem_of_getElem? (at0_lt hi))
  · rw [at0_out (by omega)]; exact Int.le_refl 0

theorem pget_list {X : Cx} : PGet X (fun x y H Q => ∃ (p : Addr) (xs : List V) (j : Nat) (z : V), x = .ref p ∧ y = .int (j : Int) ∧ SqL X.K H p xs ∧ xs[j]? = some z ∧ Q z H) := by
  intro pins s σ H x y v u Q I rx ry h
  obtain ⟨p, xs, j, z, rfl, rfl, hq, he, q⟩ := h
  cases rx
  obtain ⟨t, rfl⟩ := ry
  obtain ⟨its, r, pl, hz⟩ := I.list hq
  obtain ⟨w, ew, rw'⟩ := r.get he
  have hl := r.length
  have hn := line63
  have hj := (List.getElem?_eq_some_iff.mp he).1
  exact wpAny_getItem_list pl.isList (by omega) (by omega) (by simpa using ew) ⟨z, H, I, rw', q⟩

/-! a range that is kept under a name -/
theorem mk_rng {X : Cx} : CallR X (.type "range") (fun xs H Q => ∃ top, xs = [V.int top] ∧ ∀ a, H a = none → Q (.ref a) (upd H a (.rng 0 top))) := by
  intro pn sh st Hh xs us Q inv rel hyp
  obtain ⟨top, rfl, go⟩ := hyp
  obtain ⟨w1, rfl, tk1, rfl⟩ := vals1 rel
  refine call_range_1 ⟨.ref sh.heap.objs.size, upd Hh sh.heap.objs.size (.rng 0 top), ?_, rfl, go _ (inv.hok.fresh (Nat.le_refl _))⟩
  refine inv.laid (t' := sh.toks + 2) (fun b o e => Heap.get?_push_of_some _ e) (Nat.le_refl _) ?_
  exact ⟨sh.toks, tk1, sh.toks + 1, Heap.get?_push_size _ rfl⟩
/-- walking it: lo, the bounds, the turns -/
def iRngV (tv : TE) : TI := fun σ H R => tv σ H fun x H1 => ∃ (a : Addr) (n : Nat), x = .ref a ∧ H1 a = some (.rng 0 (n : Int)) ∧ (n : Int) < 2 ^ 62 ∧ R (Itr 0 n) H1
theorem pi_rng {X : Cx} {tg l : Expr} {tv : TE} (hl : PE X l tv) : PI X tg l (iRngV tv) := by
  refine ⟨fun pn sh st Hh R inv hyp => ?_⟩
  refine thn (hl.run pn sh st Hh _ inv hyp) fun vv s2 ⟨y, H2, inv2, rel2, more⟩ => ?_
  obtain ⟨a, n, ea, ha, hb, go⟩ := more
  subst ea
  cases rel2
  obtain ⟨k1, k2, k3, hobj⟩ := inv2.hok a _ ha
  have small : Builtin.Range.small 0 (n : Int) 1 = true := small_one (by omega) (by omega) (by omega) (by omega)
  refine wpAny_pyIter_range (a := 0) (b := (n : Int)) (c := 1) hobj small ?_
  have inv3 : Inv X pn st H2 { s2 with heap := s2.heap.push { cls := Value.type "range_iterator", data := Data.fields #[rawInt 0, rawInt (Builtin.Range.rangeSize 0 (n : Int) 1), rawInt 1] } } := inv2.kept (t' := s2.toks) fun _ _ was => Heap.get?_push_of_some _ was
  have size : (n : Int) - ((0 : Nat) : Int) = Builtin.Range.rangeSize 0 (n : Int) 1 := by
    rw [rangeSize_one]
    split <;> omega
  refine ⟨s2.heap.objs.size, [s2.heap.objs.size], _, _, H2, rfl, inv3, turn_range _ 0 n, ?_, fun c hc => ?_, go⟩
  · rw [show IsRangeIter _ _ _ _ _ = _ from rfl, size]
    exact (Heap.get?_push_size _ rfl)
  · obtain rfl : c = s2.heap.objs.size := List.mem_singleton.mp hc
    exact inv2.fpOk (Nat.le_refl _) (inv2.hok.fresh (Nat.le_refl _))

section
variable {X : Cx}
/-- isinstance(e, C), e the error that the suite holds, of the class D -/
def rIsE' (K : PySem.W.Frag) (D a : Addr) (cls : Value) (d : Option Addr) : List V → Hp → VK → Prop := fun xs H Q => cls = .ref D ∧ d = none ∧ rIsE K D a xs H Q
theorem call_isE' {a D : Addr} {cls : Value} {d : Option Addr} {oe : Obj} {pn : List (Addr × Obj)} (C : ExcC X.K D) (hz : Zc cls d oe) (hf : ∃ vs, oe.data = .fields vs) : CallR (X.suite a ((a, oe) :: pn)) (.builtin "isinstance") (rIsE' X.K D a cls d) := by
  intro pins s σ H xs us Q I r h
  obtain ⟨rfl, rfl, h⟩ := h
  exact call_isE C hz hf pins s σ H xs us Q I r h
end

/-! ### whole numbers in their one written form -/
def numI (n : Int) : List Nat := (if n < 0 then [45] else []) ++ TL.numL n.natAbs
theorem tl_numI (n : Int) : TL.tl (Str.ofString (toString n)) = numI n := by
  cases n with
  | ofNat m =>
    unfold numI
    rw [if_neg (by show ¬ ((m : Nat) : Int) < 0; omega), List.nil_append]
    exact TL.tl_num m
  | negSucc m =>
    unfold numI
    rw [if_pos (Int.negSucc_lt_zero m)]
    have e : toString (Int.negSucc m) = "-" ++ toString (m + 1) := rfl
    rw [e, TL.tl_ofString, String.toList_append, List.map_append]
    have h := TL.tl_num (m + 1)
    rw [TL.tl_ofString] at h
    have e2 : (Int.negSucc m).natAbs = m + 1 := rfl
    rw [e2, ← h]
    rfl
def dm (l : List Nat) : List Nat := if l.take 1 = [45] then l.drop 1 else l
def valN (l : List Nat) : Int := if l.take 1 = [45] then -(NumText.digitsVal (dm l) : Int) else (NumText.digitsVal (dm l) : Int)
theorem numL_first (q : Nat) : ¬ (TL.numL q).take 1 = [45] := by
  have h := TL.numL_digits q
  have n := TL.numL_ne q
  cases e : TL.numL q with
  | nil => exact absurd e n
  | cons d t =>
    rw [e] at h
    have := h.head
    simp
    omega
theorem dm_numI (n : Int) : dm (numI n) = TL.numL n.natAbs := by
  unfold dm numI
  by_cases h : n < 0
  · rw [if_pos h]
    rfl
  · rw [if_neg h, List.nil_append, if_neg (numL_first _)]
theorem first_numI (n : Int) : ((numI n).take 1 = [45]) ↔ n < 0 := by
  unfold numI
  by_cases h : n < 0
  · rw [if_pos h]
    exact ⟨fun _ => h, fun _ => rfl⟩
  · rw [if_neg h, List.nil_append]
    exact ⟨fun e => absurd e (numL_first _), fun e => absurd e h⟩
theorem valN_numI (n : Int) : valN (numI n) = n := by
  unfold valN
  rw [dm_numI, TL.numL_val]
  by_cases h : n < 0
  · rw [if_pos ((first_numI n).mpr h)]
    omega
  · rw [if_neg fun e => h ((first_numI n).mp e)]
    omega
theorem numI_inj {a b : Int} (h : numI a = numI b) : a = b := by rw [← valN_numI a, h, valN_numI]
theorem numI_sign {n : Int} {c : Nat} (h : c ∈ numI n) : c = 45 ∨ (48 ≤ c ∧ c ≤ 57) := by
  unfold numI at h
  rcases List.mem_append.mp h with h | h
  · split at h
    · exact .inl (List.mem_singleton.mp h)
    · cases h
  · exact .inr (TL.numL_digits _ c h)
theorem numI_len {n : Int} {k : Nat} (hk : 0 < k) (h : n.natAbs < 10 ^ k) : (numI n).length ≤ k + 1 := by
  unfold numI
  have := TL.numL_len hk h
  rw [List.length_append]
  split
  · rw [List.length_singleton]; omega
  · rw [List.length_nil]; omega
theorem numI_ne (n : Int) : numI n ≠ [] := by
  unfold numI
  intro h
  exact TL.numL_ne _ (List.append_eq_nil_iff.mp h).2
theorem val_lt : ∀ (l : List Nat), NumText.AllDigits l → NumText.digitsVal l < 10 ^ l.length := by
  intro l
  suffices H : ∀ (l : List Nat) (a : Nat), NumText.AllDigits l → l.foldl (fun acc c => acc * 10 + (c - 48)) a < (a + 1) * 10 ^ l.length by
    intro h
    have := H l 0 h
    unfold NumText.digitsVal
    omega
  intro l
  induction l with
  | nil => intro a _; simp
  | cons c r ih =>
    intro a h
    have hc := h.head
    rw [List.foldl_cons, List.length_cons, Nat.pow_succ]
    have h1 := ih (a * 10 + (c - 48)) h.tail
    have h2 : (a * 10 + (c - 48) + 1) ≤ (a + 1) * 10 := by omega
    have h3 := Nat.mul_le_mul_right (10 ^ r.length) h2
    have h4 : (a + 1) * 10 * 10 ^ r.length = (a + 1) * (10 ^ r.length * 10) := by rw [Nat.mul_assoc, Nat.mul_comm 10]
    omega

section
variable {P : Program} {w : World} {K : PySem.W.Frag} {mg : Str → Option Value} {base : Heap}
/-- how many signs, and which -/
def wordOf (a x : List Nat) (m : Int) : Bool := decide (1 ≤ x.length ∧ (x.length : Int) ≤ m) && x.all (fun c => decide (c ∈ a))
def sp_is_word_of (K : PySem.W.Frag) : Sp := fun vs H Q _ => ∃ (a x : Str) (m : Int), vs = [.str a, .int m, .str x] ∧ x.length ≤ 1000 ∧
  ∀ H', Same H H' → Q (.bl (wordOf (TL.tl a) (TL.tl x) m)) H'
set_option maxHeartbeats 0 in
theorem ok_is_word_of (T : Txt K mg) [DW : DictsOk P w T] : FnOk P w K mg base CX0 1 T.f_is_word_of T.d_is_word_of ["letters", "most", "text"] (sp_is_word_of K) := by
  refine T.F_is_word_of.ok sc_is_word_of (fun vs H Q E h => ?_) (fun cdv A outer s H vs Q E hr h => ?_)
  · obtain ⟨a, x, m, rfl, _⟩ := h
    rfl
  · obtain ⟨a, x, m, rfl, hx, q⟩ := h
    have hxl : x.length ≤ sizeLine := Nat.le_of_lt (small1000 hx)
    refine ⟨_, (pss_one (ps_ret (pe_and (pe_chain op_le op_le pe_int (pe_callB call_len_str (by rfl) T.z_len PySem.boot_len (pa_cons (pv 2) pa_nil)) (pv 1)) (pe_one (pe_callB (cr_all rfl) (by rfl) T.z_all (by decide +kernel) (pa_cons (pe_lc (own := [("letter", 3)]) (g := gName 3) (tt := tYes) rfl sc_is_word_of.nd (pi_str (pv 2)) (blkOk_by (own := [("letter", 3)]) (N := N_is_word_of) (sc := defScope s_is_word_of) (by decide +kernel)) (fun _ _ _ _ _ => (pg_name (i := 3) sc_is_word_of.nd rfl (Or.inl rfl))) (fun _ _ _ _ _ => pts_nil) (fun _ _ _ _ _ => (pe_cmpR op_in_sign (pv 3) (pv 0) rfl))) pa_nil)))))), ?_⟩
    walk_at "st"
    refine iteD (fun h1 => ?_) (fun h1 => ?_)
    · walk_at "st"
      refine iteD (fun h2 => ?_) (fun h2 => ?_)
      · refine ⟨_, rfl, x, rfl, fun D nD => ?_⟩
        have s1 : ∀ o, Same H (upd H D o) := fun o => same_upd nD
        refine lc_it (walk_str (z := x)) (fun i H' => H' = upd H D (.lst (((TL.tl x).take i).map fun c => V.bl (decide (c ∈ TL.tl a))))) rfl (fun _ _ _ _ => trivial) ?_ ?_
        · rintro i v H' H2 hi rfl ⟨rfl, c, hc, rfl⟩
          have hc2 : (TL.tl x)[i]? = some c := by rw [show TL.tl x = x.cps.toList from rfl, Array.getElem?_toList]; exact hc
          refine ⟨rfl, ?_⟩
          walk_at "st"
          refine ⟨small1000 ?_, ?_⟩
          · rw [List.length_map, List.length_take, ← TL.len_tl]
            omega
          · rw [upd_upd, take_succ hc2, List.map_append]
            rfl
        · rintro H' rfl
          refine ⟨D, (TL.tl x).map fun c => decide (c ∈ TL.tl a), rfl, ?_, ?_⟩
          · refine SqL.of (upd_same.trans ?_)
            rw [List.map_map, List.take_of_length_le (by simp)]
            rfl
          · have e : wordOf (TL.tl a) (TL.tl x) m = (((TL.tl x).map fun c => decide (c ∈ TL.tl a)).all id) := by
              unfold wordOf
              rw [← TL.len_tl, decide_eq_true ⟨by omega, h2⟩, Bool.true_and, List.all_map]
              rfl
            rw [← e]
            exact q _ (s1 _)
      · have e : wordOf (TL.tl a) (TL.tl x) m = false := by
          unfold wordOf
          rw [← TL.len_tl, decide_eq_false (fun h => h2 h.2), Bool.false_and]
        rw [e] at q
        exact q H (.refl H)
    · have e : wordOf (TL.tl a) (TL.tl x) m = false := by
        unfold wordOf
        rw [← TL.len_tl, decide_eq_false (fun h => h1 (by omega)), Bool.false_and]
      rw [e] at q
      walk_at "st"
      exact q H (.refl H)
def isD (x : List Nat) : Bool := wordOf (TL.tl ("0123456789" : Str)) x 20
theorem isD_iff {x : List Nat} : isD x = true ↔ 1 ≤ x.length ∧ x.length ≤ 20 ∧ NumText.AllDigits x := by
  have hm : ∀ c : Nat, c ∈ TL.tl ("0123456789" : Str) ↔ 48 ≤ c ∧ c ≤ 57 := by
    intro c
    rw [show TL.tl ("0123456789" : Str) = [48, 49, 50, 51, 52, 53, 54, 55, 56, 57] from rfl]
    simp only [List.mem_cons, List.not_mem_nil, or_false]
    omega
  unfold isD wordOf
  rw [Bool.and_eq_true, decide_eq_true_iff, List.all_eq_true]
  constructor
  · rintro ⟨⟨h1, h2⟩, h3⟩
    exact ⟨h1, by omega, fun c hc => (hm c).mp (of_decide_eq_true (h3 c hc))⟩
  · rintro ⟨h1, h2, h3⟩
    exact ⟨⟨h1, by omega⟩, fun c hc => decide_eq_true ((hm c).mpr (h3 c hc))⟩
def sp_is_digits (K : PySem.W.Frag) : Sp := fun vs H Q _ => ∃ x : Str, vs = [.str x] ∧ x.length ≤ 1000 ∧ ∀ H', Same H H' → Q (.bl (isD (TL.tl x))) H'
set_option maxHeartbeats 0 in
theorem ok_is_digits (T : Txt K mg) [DW : DictsOk P w T] : FnOk P w K mg base CX0 2 T.f_is_digits T.d_is_digits ["text"] (sp_is_digits K) := by
  refine T.F_is_digits.ok sc_is_digits (fun vs H Q E h => ?_) (fun cdv A outer s H vs Q E hr h => ?_)
  · obtain ⟨x, rfl, _⟩ := h
    rfl
  · obtain ⟨x, rfl, hx, q⟩ := h
    have G_is_word_of : FnOk P w K mg base CX0 1 T.f_is_word_of T.d_is_word_of ["letters", "most", "text"] (sp_is_word_of K) := ok_is_word_of T
    refine ⟨_, (pss_one (ps_ret (pe_call G_is_word_of hr (by rfl) T.m_is_word_of T.F_is_word_of.kp T.b_is_word_of .nil pass0 (pa_cons (pe_glob (v := .str "0123456789") rfl T.m_DIGITS ⟨_, rfl⟩) (pa_cons (pe_glob (v := .int 20) rfl T.m_MOST_DIGITS ⟨_, rfl⟩) (pa_cons (pv 0) pa_nil)))))), ?_⟩
    walk_at "st"
    exact q

/-- the number that a text writes, from lo to hi -/
def readN (x : List Nat) (lo hi : Int) : Option Int := if isD (dm x) = true ∧ numI (valN x) = x ∧ lo ≤ valN x ∧ valN x ≤ hi then some (valN x) else none
theorem isD_numL {m : Nat} (h : m < 10 ^ 20) : isD (TL.numL m) = true := by
  refine isD_iff.mpr ⟨?_, TL.numL_len (by decide) h, TL.numL_digits m⟩
  have := TL.numL_ne m
  cases e : TL.numL m with
  | nil => exact absurd e this
  | cons a b => rw [List.length_cons]; omega
theorem readN_iff {x : List Nat} {lo hi n : Int} (hlo : -(10 ^ 18) ≤ lo) (hhi : hi ≤ 10 ^ 18) : readN x lo hi = some n ↔ numI n = x ∧ lo ≤ n ∧ n ≤ hi := by
  unfold readN
  constructor
  · intro h
    split at h
    · next z =>
      cases h
      exact z.2
    · cases h
  · rintro ⟨rfl, h1, h2⟩
    rw [valN_numI, dm_numI, if_pos ⟨isD_numL (by omega), rfl, h1, h2⟩]
theorem readN_none {x : List Nat} {lo hi : Int} (hlo : -(10 ^ 18) ≤ lo) (hhi : hi ≤ 10 ^ 18) (h : ∀ n, lo ≤ n → n ≤ hi → numI n ≠ x) : readN x lo hi = none := by
  cases e : readN x lo hi with
  | none => rfl
  | some n =>
    obtain ⟨h1, h2, h3⟩ := (readN_iff hlo hhi).mp e
    exact absurd h1 (h n h2 h3)
theorem tl_removeprefix (x : Str) : TL.tl (Txt.removeprefix x "-") = dm (TL.tl x) := by
  unfold Txt.removeprefix dm
  have e : Builtin.Str.subAt x "-" 0 = ((TL.tl x).take 1 == [45]) := by
    rw [PySem.StrLaws.subAt_eq, List.drop_zero] <;> rfl
  rw [e]
  by_cases h : (TL.tl x).take 1 = [45]
  · rw [if_pos (beq_iff_eq.mpr h), if_pos h]
    unfold Txt.affix
    have hl : x.length = (TL.tl x).length := TL.len_tl x
    have h0 : 1 ≤ x.length := by
      have := congrArg List.length h
      rw [List.length_take] at this
      simp only [List.length_cons, List.length_nil] at this
      omega
    have ey : ("-" : Str).length = 1 := rfl
    rw [ey]
    show TL.tl (if (x.length - 1 == x.length) = true then x else Builtin.Str.strSub x 1 x.length) = _
    rw [if_neg (by simp; omega)]
    have := PySem.StrLaws.strSub_toList x 1 x.length
    rw [show TL.tl (Builtin.Str.strSub x 1 x.length) = (Builtin.Str.strSub x 1 x.length).cps.toList from rfl, this]
    exact List.take_of_length_le (by rw [List.length_drop]; have hl2 : x.cps.toList.length = x.length := hl.symm; omega)
  · rw [if_neg (by simpa using h), if_neg h]
    rfl
theorem dm_len (l : List Nat) : (dm l).length ≤ l.length := by
  unfold dm
  split
  · rw [List.length_drop]; omega
  · omega
theorem natAbs_log {c : Int} {k : Nat} (h : c.natAbs < 2 ^ k) (hk : k ≤ 1920) (h0 : 0 < k) : c.natAbs.log2 < 1920 := by
  by_cases z : c.natAbs = 0
  · rw [z]
    decide
  · have := (Nat.log2_lt z).mpr h
    omega
/-- int of a text of digits, a minus sign in front or not -/
theorem int_of_num {x : Str} (h : isD (dm (TL.tl x)) = true) : intText? x = some (valN (TL.tl x)) ∧ x.length ≤ 21 ∧ (valN (TL.tl x)).natAbs < 10 ^ 20 := by
  obtain ⟨h1, h2, h3⟩ := isD_iff.mp h
  have hv := val_lt _ h3
  have hv2 : NumText.digitsVal (dm (TL.tl x)) < 10 ^ 20 := Nat.lt_of_lt_of_le hv (Nat.pow_le_pow_right (by decide) h2)
  have hl := TL.len_tl x
  unfold valN
  by_cases z : (TL.tl x).take 1 = [45]
  · rw [if_pos z]
    have e1 : dm (TL.tl x) = (TL.tl x).drop 1 := if_pos z
    have e2 : TL.tl x = 45 :: (TL.tl x).drop 1 := by
      have := List.take_append_drop 1 (TL.tl x)
      rw [z] at this
      exact this.symm
    have hl2 := congrArg List.length e2
    rw [List.length_cons] at hl2
    rw [e1] at h1 h2 h3
    refine ⟨?_, by omega, by omega⟩
    rw [e1]
    exact PySem.intText_neg e2 h3 (fun e => by rw [e] at h1; simp at h1) (by omega)
  · rw [if_neg z]
    have e1 : dm (TL.tl x) = TL.tl x := if_neg z
    rw [e1] at h1 h2 h3 hv2 ⊢
    refine ⟨?_, by omega, by omega⟩
    exact PySem.intText_digits h3 (fun e => by rw [show TL.tl x = [] from e] at h1; simp at h1) (by omega)

def optI : Option Int → V
  | none => .non
  | some n => .int n
def sp_read_number (K : PySem.W.Frag) : Sp := fun vs H Q _ => ∃ (_ : Unit) (x : Str) (lo hi : Int), vs = [.str x, .int lo, .int hi] ∧ x.length ≤ 1000 ∧ ∀ H', Same H H' → Q (optI (readN (TL.tl x) lo hi)) H'
set_option maxHeartbeats 0 in
theorem ok_read_number (T : Txt K mg) [DW : DictsOk P w T] : FnOk P w K mg base CX0 3 T.f_read_number T.d_read_number ["text", "least", "most"] (sp_read_number K) := by
  refine T.F_read_number.ok sc_read_number (fun vs H Q E h => ?_) (fun cdv A outer s H vs Q E hr h => ?_)
  · obtain ⟨_, x, lo, hi, rfl, _⟩ := h
    rfl
  · obtain ⟨_, x, lo, hi, rfl, hx, q⟩ := h
    have hxl : x.length ≤ sizeLine := Nat.le_of_lt (small1000 hx)
    have G_is_digits : FnOk P w K mg base CX0 2 T.f_is_digits T.d_is_digits ["text"] (sp_is_digits K) := ok_is_digits T
    refine ⟨_, (pss_cons (ps_if (pt_not (pt_val (pe_call G_is_digits hr (by rfl) T.m_is_digits T.F_is_digits.kp T.b_is_digits .nil pass0 (pa_cons (pe_m1 PySem.F.slot_str_removeprefix PySem.F.type_str_removeprefix mt_removeprefix (pv 0) pe_str) pa_nil))))
      (pss_one (ps_ret pe_non))
      pss_nil)
    (pss_cons (ps_set (i := 3) sc_read_number.nd rfl (Or.inl rfl) (pe_callTy call_int_str (by rfl) T.z_int (by decide +kernel) (pa_cons (pv 0) pa_nil)))
    (pss_cons (ps_if (PW.pt (pw_or (pt_cmpR op_ne (pe_callTy call_str_int (by rfl) T.z_str (by decide +kernel) (pa_cons (pv 3) pa_nil)) (pv 0) (nomark _)) (pw_or1 (pt_not (pt_chain op_le op_le (pv 1) (pv 3) (pv 2))))))
      (pss_one (ps_ret pe_non))
      pss_nil)
    (pss_one (ps_ret (pv 3)))))), ?_⟩
    walk_at "st"
    refine ⟨⟨_, rfl⟩, ?_⟩
    walk_at "st"
    have hb := tl_removeprefix x
    have hbl := dm_len (TL.tl x)
    rw [← TL.len_tl x] at hbl
    generalize Txt.removeprefix x "-" = y at hb
    walk_at "st"
    refine ⟨by rw [TL.len_tl, hb]; omega, fun H1 s1 => ?_⟩
    rw [hb]
    walk_at "st"
    refine iteB (fun hd => ?_) (fun hd => ?_)
    · have hD : ¬ isD (dm (TL.tl x)) = true := fun e => by rw [e] at hd; cases hd
      have e : readN (TL.tl x) lo hi = none := if_neg fun z => hD z.1
      rw [e] at q
      walk_at "st"
      exact q H1 s1
    · have hD : isD (dm (TL.tl x)) = true := by
        cases e : isD (dm (TL.tl x)) with
        | true => rfl
        | false => rw [e] at hd; cases hd
      obtain ⟨n1, n2, n3⟩ := int_of_num hD
      have hlog : (valN (TL.tl x)).natAbs.log2 < 1920 := natAbs_log (k := 100) (by omega) (by decide) (by decide)
      have hxe : V.str (Str.ofString (toString (valN (TL.tl x)))) = V.str x ↔ numI (valN (TL.tl x)) = TL.tl x := by
        rw [← tl_numI]
        exact ⟨fun e => congrArg TL.tl (V.str.inj e), fun e => congrArg V.str (TL.ext_tl e)⟩
      walk_at "st"
      refine iteB (fun hne => ?_) (fun heq => ?_)
      · have hn : ¬ numI (valN (TL.tl x)) = TL.tl x := fun e => by
          rw [decide_eq_true (hxe.mpr e)] at hne
          cases hne
        have e : readN (TL.tl x) lo hi = none := if_neg fun z => hn z.2.1
        rw [e] at q
        walk_at "st"
        exact q H1 s1
      · have hn : numI (valN (TL.tl x)) = TL.tl x := by
          refine hxe.mp (Classical.byContradiction fun z => ?_)
          rw [decide_eq_false z] at heq
          cases heq
        have e : readN (TL.tl x) lo hi = if lo ≤ valN (TL.tl x) ∧ valN (TL.tl x) ≤ hi then some (valN (TL.tl x)) else none := by
          unfold readN
          by_cases z : lo ≤ valN (TL.tl x) ∧ valN (TL.tl x) ≤ hi
          · rw [if_pos ⟨hD, hn, z⟩, if_pos z]
          · rw [if_neg (fun k => z k.2.2), if_neg z]
        rw [e] at q
        generalize valN (TL.tl x) = v at hn n1 n2 n3 hlog q ⊢
        walk_at "st"
        refine iteB (fun h1 => ?_) (fun h1 => ?_)
        · walk_at "st"
          refine iteB (fun h2 => ?_) (fun h2 => ?_)
          · have h3 : ¬ v ≤ hi := fun z => by rw [decide_eq_true z] at h2; cases h2
            rw [if_neg fun z => h3 z.2] at q
            walk_at "st"
            exact q H1 s1
          · have h3 : v ≤ hi := Classical.byContradiction fun z => by rw [decide_eq_false z] at h2; cases h2
            rw [if_pos ⟨of_decide_eq_true h1, h3⟩] at q
            walk_at "st"
            exact q H1 s1
        · rw [if_neg fun z => of_decide_eq_false h1 z.1] at q
          walk_at "st"
          exact q H1 s1

theorem cutV_take {xs : List V} {k : Int} (h0 : 0 ≤ k) (h : k ≤ (xs.length : Int)) : cutV xs none (some k) = xs.take k.toNat := by
  obtain ⟨n, rfl⟩ := Int.eq_ofNat_of_zero_le h0
  have hn : n ≤ xs.length := by omega
  have e : HT.sIx xs.length xs.length (some (n : Int)) = n := by
    rw [HT.sIx_nat]
    omega
  unfold cutV
  show (xs.drop _).take (HT.sIx xs.length xs.length (some (n : Int)) - _) = _
  rw [e, HT.sIx_none, List.drop_zero, Int.toNat_natCast]
  rfl
theorem cutV_drop {xs : List V} {k : Int} (h0 : 0 ≤ k) (h : k ≤ (xs.length : Int)) : cutV xs (some k) none = xs.drop k.toNat := by
  obtain ⟨n, rfl⟩ := Int.eq_ofNat_of_zero_le h0
  have hn : n ≤ xs.length := by omega
  have e : HT.sIx xs.length 0 (some (n : Int)) = n := by
    rw [HT.sIx_nat]
    omega
  unfold cutV
  show (xs.drop (HT.sIx xs.length 0 (some (n : Int)))).take _ = _
  rw [e, HT.sIx_none, List.take_of_length_le (by rw [List.length_drop]; exact Nat.le_refl _), Int.toNat_natCast]

/-! ### commands: words with spaces between, and what they are read as -/
def formsT : List (Str × List Str) := [("deposit", ["word", "number"]), ("withdraw", ["word", "number"]), ("pledge", ["word", "number"]), ("release", ["word", "number"]), ("issue", ["word", "word", "number"]), ("owe", ["word", "word", "number"]),
  ("order", ["word", "word", "word", "price", "number", "word", "number"]), ("stop", ["word", "word", "word", "number", "price", "number"]), ("cancel", ["word", "word", "number"]), ("start", ["word"]), ("settle", []), ("dividend", ["word", "number"]), ("split", ["word", "number", "number"])]
def formC (x : Str) : Option (List Str) := (formsT.find? fun p => decide (p.1 = x)).map (·.2)
/-- what one word is read as -/
def valC (k x : Str) : Option V :=
  if V.str k = V.str "price" ∧ V.str x = V.str "market" then some .non
  else if V.str k = V.str "word" then (if V.str x = V.str "" then none else some (.str x))
  else (readN (TL.tl x) 0 1000000000).map V.int
def allC : List Str → List Str → Option (List V)
  | k :: ks, x :: xs => match valC k x, allC ks xs with
    | some v, some vs => some (v :: vs)
    | _, _ => none
  | _, _ => some []
def wordsC (x : Str) : List Str := Txt.split x " "
def parseC (x : Str) : Option (List V) := match formC ((wordsC x).headD "") with
  | none => none
  | some ks => if (wordsC x).length = ks.length + 1 ∧ 10 ∉ TL.tl x then allC ks (wordsC x).tail else none
theorem tl_space : TL.tl (" " : Str) = [32] := rfl
/-- words with spaces between -/
def lineC (ws : List Str) : Str := Txt.join " " ws
theorem words_line {ws : List Str} (h : ws ≠ []) (hp : ∀ p, p ∈ ws → 32 ∉ TL.tl p) : wordsC (lineC ws) = ws := TL.split_join tl_space (by decide +kernel) h hp
theorem tl_line (ws : List Str) : TL.tl (lineC ws) = TL.joinL [32] (ws.map TL.tl) := by
  unfold lineC
  rw [TL.join_eq, TL.tl_join] <;> rfl
theorem line_cons {a b : Str} {r : List Str} : TL.tl (lineC (a :: b :: r)) = TL.tl a ++ 32 :: TL.tl (lineC (b :: r)) := by
  rw [tl_line, tl_line] <;> rfl
theorem line_one (a : Str) : lineC [a] = a := TL.ext_tl (by rw [tl_line] <;> rfl)
theorem line_mem {c : Nat} (hc : c ≠ 32) : ∀ {ws : List Str}, (∀ p, p ∈ ws → c ∉ TL.tl p) → c ∉ TL.tl (lineC ws)
  | [], _ => by rw [tl_line]; exact List.not_mem_nil
  | [a], h => by rw [line_one]; exact h a List.mem_cons_self
  | a :: b :: r, h => by
    rw [line_cons]
    intro z
    rcases List.mem_append.mp z with z | z
    · exact h a List.mem_cons_self z
    · rcases List.mem_cons.mp z with z | z
      · exact hc z
      · exact line_mem hc (fun p hp => h p (List.mem_cons_of_mem _ hp)) z
theorem line_len {m : Nat} : ∀ {ws : List Str}, (∀ p, p ∈ ws → p.length ≤ m) → (lineC ws).length ≤ ws.length * (m + 1)
  | [], _ => by rw [TL.len_tl, tl_line]; exact Nat.zero_le _
  | [a], h => by
    rw [line_one]
    have := h a List.mem_cons_self
    rw [List.length_singleton]
    omega
  | a :: b :: r, h => by
    have e := line_cons (a := a) (b := b) (r := r)
    have ih := line_len (m := m) (ws := b :: r) fun p hp => h p (List.mem_cons_of_mem _ hp)
    have h1 := h a List.mem_cons_self
    rw [TL.len_tl] at ih h1 ⊢
    rw [e, List.length_append, List.length_cons, List.length_cons, Nat.succ_mul]
    omega
theorem allC_none {k x : Str} : ∀ {ks xs : List Str} {i : Nat}, ks[i]? = some k → xs[i]? = some x → valC k x = none → allC ks xs = none
  | [], _, i, h, _, _ => by rw [List.getElem?_nil] at h; cases h
  | _ :: _, [], i, _, h, _ => by rw [List.getElem?_nil] at h; cases h
  | a :: ks, b :: xs, i, h1, h2, h => by
    unfold allC
    cases i with
    | zero =>
      rw [List.getElem?_cons_zero] at h1 h2
      cases h1
      cases h2
      rw [h]
    | succ i =>
      rw [List.getElem?_cons_succ] at h1 h2
      rw [allC_none h1 h2 h]
      split <;> first | rfl | (next z => cases z)
/-- a line of a word too many or too few -/
theorem bad_len {ws ks : List Str} {n : Str} (hp : ∀ p, p ∈ ws → 32 ∉ TL.tl p) (hh : ws.head? = some n) (hf : formC n = some ks) (hl : ws.length ≠ ks.length + 1) : parseC (lineC ws) = none := by
  cases ws with
  | nil => cases hh
  | cons a r =>
    obtain rfl : a = n := Option.some.inj hh
    unfold parseC
    rw [words_line (List.cons_ne_nil _ _) hp]
    show (match formC a with | none => none | some ks => _) = none
    rw [hf]
    exact if_neg fun z => hl z.1
theorem bad_name {ws : List Str} {n : Str} (hp : ∀ p, p ∈ ws → 32 ∉ TL.tl p) (hh : ws.head? = some n) (hf : formC n = none) : parseC (lineC ws) = none := by
  cases ws with
  | nil => cases hh
  | cons a r =>
    obtain rfl : a = n := Option.some.inj hh
    unfold parseC
    rw [words_line (List.cons_ne_nil _ _) hp]
    show (match formC a with | none => none | some ks => _) = none
    rw [hf]
theorem bad_word {ws ks : List Str} {n k x : Str} {i : Nat} (hp : ∀ p, p ∈ ws → 32 ∉ TL.tl p) (hf : formC n = some ks) (hk : ks[i]? = some k) (hx : ws[i]? = some x) (hv : valC k x = none) (hn : 32 ∉ TL.tl n) : parseC (lineC (n :: ws)) = none := by
  unfold parseC
  rw [words_line (List.cons_ne_nil _ _) (fun p h => by
    rcases List.mem_cons.mp h with e | h
    · rw [e]; exact hn
    · exact hp p h)]
  show (match formC n with | none => none | some ks => _) = none
  rw [hf]
  show (if _ then allC ks ws else none) = none
  rw [allC_none hk hx hv, ite_self]
theorem good_line {ws ks : List Str} {n : Str} {vs : List V} (hn : 32 ∉ TL.tl n ∧ 10 ∉ TL.tl n) (hp : ∀ p, p ∈ ws → 32 ∉ TL.tl p ∧ 10 ∉ TL.tl p) (hf : formC n = some ks) (hl : ws.length = ks.length) (hv : allC ks ws = some vs) : parseC (lineC (n :: ws)) = some vs ∧ (wordsC (lineC (n :: ws))).headD "" = n := by
  have hall : ∀ p, p ∈ n :: ws → 32 ∉ TL.tl p ∧ 10 ∉ TL.tl p := fun p h => by
    rcases List.mem_cons.mp h with e | h
    · rw [e]; exact hn
    · exact hp p h
  have e := words_line (List.cons_ne_nil n ws) fun p h => (hall p h).1
  unfold parseC
  rw [e]
  refine ⟨?_, rfl⟩
  show (match formC n with | none => none | some ks => _) = _
  rw [hf]
  show (if _ then allC ks ws else none) = _
  rw [if_pos ⟨by rw [List.length_cons, hl], line_mem (by decide) fun p h => (hall p h).2⟩, hv]
theorem spl32 : ∀ (l acc : List Nat), TL.spl [32] 0 acc l ≠ [] ∧ (TL.spl [32] 0 acc l).length ≤ l.length + 1 ∧ ∀ p, p ∈ TL.spl [32] 0 acc l → p.length ≤ acc.length + l.length
  | [], acc => by
    rw [TL.spl_nil]
    exact ⟨by simp, Nat.le_refl _, fun p hp => by rw [List.mem_singleton.mp hp]; exact Nat.le_refl _⟩
  | c :: r, acc => by
    cases h : TL.pre [32] (c :: r) with
    | true =>
      rw [TL.spl_hit h]
      obtain ⟨_, h2, h3⟩ := spl32 r []
      refine ⟨by simp, Nat.succ_le_succ h2, fun p hp => ?_⟩
      rcases List.mem_cons.mp hp with z | z
      · rw [z]; exact Nat.le_add_right _ _
      · have := h3 p z
        rw [List.length_nil, Nat.zero_add] at this
        rw [List.length_cons]
        omega
    | false =>
      rw [TL.spl_miss h]
      obtain ⟨h1, h2, h3⟩ := spl32 r (acc ++ [c])
      refine ⟨h1, Nat.le_trans h2 (Nat.le_succ _), fun p hp => ?_⟩
      have := h3 p hp
      rw [List.length_append, List.length_singleton] at this
      rw [List.length_cons]
      omega
theorem words_map (x : Str) : (wordsC x).map TL.tl = TL.spl [32] 0 [] (TL.tl x) := by
  unfold wordsC
  rw [TL.split_spl x " " (by rw [tl_space]; simp) (TL.kind_ok (by decide +kernel)), tl_space]
theorem words_sz (x : Str) : wordsC x ≠ [] ∧ (wordsC x).length ≤ x.length + 1 ∧ ∀ p, p ∈ wordsC x → p.length ≤ x.length := by
  obtain ⟨h1, h2, h3⟩ := spl32 (TL.tl x) []
  rw [← words_map, List.length_map, ← TL.len_tl] at h2
  rw [← words_map] at h1 h3
  refine ⟨fun e => h1 (by rw [e]; rfl), h2, fun p hp => ?_⟩
  have := h3 _ (List.mem_map.mpr ⟨p, hp, rfl⟩)
  rw [List.length_nil, Nat.zero_add, ← TL.len_tl, ← TL.len_tl] at this
  exact this
theorem allC_snoc {k x : Str} {v : V} : ∀ {ks xs : List Str} {vs : List V}, ks.length = xs.length → allC ks xs = some vs → valC k x = some v → allC (ks ++ [k]) (xs ++ [x]) = some (vs ++ [v])
  | [], [], vs, _, h, hv => by
    have h2 : vs = [] := by
      unfold allC at h
      exact (Option.some.inj h).symm
    rw [h2]
    show allC [k] [x] = some [v]
    unfold allC
    rw [hv]
    show (match allC [] [] with | some vs => some (v :: vs) | none => none) = _
    unfold allC
    rfl
  | [], _ :: _, _, h, _, _ => by cases h
  | _ :: _, [], _, h, _, _ => by cases h
  | a :: ks, b :: xs, vs, hl, h, hv => by
    unfold allC at h
    cases h1 : valC a b with
    | none => rw [h1] at h; cases h
    | some u =>
      cases h2 : allC ks xs with
      | none => rw [h1, h2] at h; cases h
      | some us =>
        rw [h1, h2] at h
        obtain rfl := Option.some.inj h
        have ih := allC_snoc (Nat.succ.inj hl) h2 hv
        show allC (a :: (ks ++ [k])) (b :: (xs ++ [x])) = _
        unfold allC
        rw [h1, ih]
        rfl
theorem strs_at {ws : List Str} {i : Nat} {v : V} (h : (ws.map V.str)[i]? = some v) : ∃ w, ws[i]? = some w ∧ v = .str w := by
  rw [List.getElem?_map] at h
  cases e : ws[i]? with
  | none => rw [e] at h; cases h
  | some w => rw [e] at h; exact ⟨w, rfl, (Option.some.inj h).symm⟩
theorem cut_fst {xs : List V} : cutV xs (some 1) none = xs.drop 1 := by
  cases xs with
  | nil =>
    unfold cutV
    rw [List.drop_nil, List.take_nil]
    rfl
  | cons x xs => exact cutV_drop (by decide) (by rw [List.length_cons]; omega)
theorem same_over {H H' : Hp} {a : Addr} {o : HO} (e : Same H H') (n : H a = none) : Same H (upd H' a o) := fun z v hz => (upd_ne (fun k => by rw [k, n] at hz; cases hz)).trans (e z v hz)

/-- a name's form in the table -/
theorem form_get {K : PySem.W.Frag} {mg : Str → Option Value} (T : Txt K mg) (t : Str) :
    (formC t = none ∧ (valV (([("deposit", .ref T.c_FORMS_0), ("withdraw", .ref T.c_FORMS_1), ("pledge", .ref T.c_FORMS_2), ("release", .ref T.c_FORMS_3), ("issue", .ref T.c_FORMS_4), ("owe", .ref T.c_FORMS_5), ("order", .ref T.c_FORMS_6), ("stop", .ref T.c_FORMS_7), ("cancel", .ref T.c_FORMS_8), ("start", .ref T.c_FORMS_9), ("settle", .ref T.c_FORMS_10), ("dividend", .ref T.c_FORMS_11), ("split", .ref T.c_FORMS_12)] : List (Str × V)).map fun p => ((Sum.inr p.1 : Key), p.2)) (Sum.inr t)).getD .non = .non) ∨ ∃ ks a, formC t = some ks ∧ ks.length ≤ 7 ∧ (valV (([("deposit", .ref T.c_FORMS_0), ("withdraw", .ref T.c_FORMS_1), ("pledge", .ref T.c_FORMS_2), ("release", .ref T.c_FORMS_3), ("issue", .ref T.c_FORMS_4), ("owe", .ref T.c_FORMS_5), ("order", .ref T.c_FORMS_6), ("stop", .ref T.c_FORMS_7), ("cancel", .ref T.c_FORMS_8), ("start", .ref T.c_FORMS_9), ("settle", .ref T.c_FORMS_10), ("dividend", .ref T.c_FORMS_11), ("split", .ref T.c_FORMS_12)] : List (Str × V)).map fun p => ((Sum.inr p.1 : Key), p.2)) (Sum.inr t)).getD .non = .ref a ∧ ∀ H, SqT K H a (ks.map V.str) := by
  by_cases h0 : t = "deposit"
  · subst h0
    exact .inr ⟨["word", "number"], T.c_FORMS_0, by decide +kernel, by decide, rfl, T.q_FORMS_0⟩
  by_cases h1 : t = "withdraw"
  · subst h1
    exact .inr ⟨["word", "number"], T.c_FORMS_1, by decide +kernel, by decide, rfl, T.q_FORMS_1⟩
  by_cases h2 : t = "pledge"
  · subst h2
    exact .inr ⟨["word", "number"], T.c_FORMS_2, by decide +kernel, by decide, rfl, T.q_FORMS_2⟩
  by_cases h3 : t = "release"
  · subst h3
    exact .inr ⟨["word", "number"], T.c_FORMS_3, by decide +kernel, by decide, rfl, T.q_FORMS_3⟩
  by_cases h4 : t = "issue"
  · subst h4
    exact .inr ⟨["word", "word", "number"], T.c_FORMS_4, by decide +kernel, by decide, rfl, T.q_FORMS_4⟩
  by_cases h5 : t = "owe"
  · subst h5
    exact .inr ⟨["word", "word", "number"], T.c_FORMS_5, by decide +kernel, by decide, rfl, T.q_FORMS_5⟩
  by_cases h6 : t = "order"
  · subst h6
    exact .inr ⟨["word", "word", "word", "price", "number", "word", "number"], T.c_FORMS_6, by decide +kernel, by decide, rfl, T.q_FORMS_6⟩
  by_cases h7 : t = "stop"
  · subst h7
    exact .inr ⟨["word", "word", "word", "number", "price", "number"], T.c_FORMS_7, by decide +kernel, by decide, rfl, T.q_FORMS_7⟩
  by_cases h8 : t = "cancel"
  · subst h8
    exact .inr ⟨["word", "word", "number"], T.c_FORMS_8, by decide +kernel, by decide, rfl, T.q_FORMS_8⟩
  by_cases h9 : t = "start"
  · subst h9
    exact .inr ⟨["word"], T.c_FORMS_9, by decide +kernel, by decide, rfl, T.q_FORMS_9⟩
  by_cases h10 : t = "settle"
  · subst h10
    exact .inr ⟨[], T.c_FORMS_10, by decide +kernel, by decide, rfl, T.q_FORMS_10⟩
  by_cases h11 : t = "dividend"
  · subst h11
    exact .inr ⟨["word", "number"], T.c_FORMS_11, by decide +kernel, by decide, rfl, T.q_FORMS_11⟩
  by_cases h12 : t = "split"
  · subst h12
    exact .inr ⟨["word", "number", "number"], T.c_FORMS_12, by decide +kernel, by decide, rfl, T.q_FORMS_12⟩
  have hn : t ∉ (["deposit", "withdraw", "pledge", "release", "issue", "owe", "order", "stop", "cancel", "start", "settle", "dividend", "split"] : List Str) := by
    intro z
    simp only [List.mem_cons, List.not_mem_nil, or_false] at z
    rcases z with z | z | z | z | z | z | z | z | z | z | z | z | z
    · exact h0 z
    · exact h1 z
    · exact h2 z
    · exact h3 z
    · exact h4 z
    · exact h5 z
    · exact h6 z
    · exact h7 z
    · exact h8 z
    · exact h9 z
    · exact h10 z
    · exact h11 z
    · exact h12 z
  refine .inl ⟨?_, ?_⟩
  · unfold formC
    rw [List.find?_eq_none.mpr fun p hp z => hn ?_]
    · rfl
    · have h1 : p.1 ∈ formsT.map (·.1) := List.mem_map.mpr ⟨p, hp, rfl⟩
      rw [of_decide_eq_true z] at h1
      exact h1
  · unfold valV
    rw [List.find?_eq_none.mpr fun p hp z => hn ?_]
    · rfl
    · obtain ⟨y, hy, rfl⟩ := List.mem_map.mp hp
      have h1 : y.1 ∈ (["deposit", "withdraw", "pledge", "release", "issue", "owe", "order", "stop", "cancel", "start", "settle", "dividend", "split"] : List Str) := List.mem_map.mpr ⟨y, hy, rfl⟩
      have h2 : y.1 = t := Sum.inr.inj (of_decide_eq_true z)
      rw [h2] at h1
      exact h1

def sp_value (K : PySem.W.Frag) (C : Addr) : Sp := fun vs H Q E => ∃ (k x : Str), vs = [.str k, .str x] ∧ x.length ≤ 1000 ∧ (∀ v H', valC k x = some v → Same H H' → Q v H') ∧ (∀ H', valC k x = none → Same H H' → E (.ref C) none H')
set_option maxHeartbeats 0 in
theorem ok_value (T : Txt K mg) [DW : DictsOk P w T] : FnOk P w K mg base (L2.CX P w) 4 T.f_value T.d_value ["kind", "word"] (sp_value K T.c_InvalidCommand) := by
  refine T.F_value.okX sc_value (fun vs H Q E h => ?_) (fun cdv A outer s H vs Q E hr h => ?_)
  · obtain ⟨k, x, rfl, _⟩ := h
    rfl
  · obtain ⟨k, x, rfl, hx, q, qe⟩ := h
    have G_read_number : FnOk P w K mg base CX0 3 T.f_read_number T.d_read_number ["text", "least", "most"] (sp_read_number K) := ok_read_number T
    refine ⟨_, (pss_cons (ps_if (PW.pt (pw_and (pt_cmpR op_eq (pv 0) pe_str (nomark _)) (pw_and1 (pt_cmpR op_eq (pv 1) pe_str (nomark _)))))
      (pss_one (ps_ret pe_non))
      pss_nil)
    (pss_cons (ps_set (i := 2) sc_value.nd rfl (Or.inl rfl) (pe_ifExp (pt_cmpR op_eq (pv 0) pe_str (nomark _)) (pv 1) (pe_call G_read_number hr (by rfl) T.m_read_number T.F_read_number.kp T.b_read_number .nil pass0 (pa_cons (pv 1) (pa_cons pe_int (pa_cons (pe_glob (v := .int 1000000000) rfl T.m_MOST_NUMBER ⟨_, rfl⟩) pa_nil))))))
    (pss_cons (ps_if (PW.pt (pw_or (pt_cmpR op_isN (pv 2) pe_non (nomark _)) (pw_or1 (pt_cmpR op_eq (pv 2) pe_str (nomark _)))))
      (pss_one (ps_raise rfl (takes_of rfl rfl rfl rfl) (pmk_own PySem.F.excBase_ValueError T.x_InvalidCommand T.m_InvalidCommand T.k_InvalidCommand (raises_own T.b_InvalidCommand T.t_InvalidCommand) (by rfl))))
      pss_nil)
    (pss_one (ps_ret (pv 2)))))), ?_⟩
    have val2 : ¬ (V.str k = V.str "price" ∧ V.str x = V.str "market") → valC k x = if V.str k = V.str "word" then (if V.str x = V.str "" then none else some (.str x)) else (readN (TL.tl x) 0 1000000000).map V.int := fun z => by
      unfold valC
      rw [if_neg z]
    have rest : ¬ (V.str k = V.str "price" ∧ V.str x = V.str "market") → (∀ v H', (if V.str k = V.str "word" then (if V.str x = V.str "" then none else some (V.str x)) else (readN (TL.tl x) 0 1000000000).map V.int) = some v → Same H H' → Q v H') ∧ (∀ H', (if V.str k = V.str "word" then (if V.str x = V.str "" then none else some (V.str x)) else (readN (TL.tl x) 0 1000000000).map V.int) = none → Same H H' → E (.ref T.c_InvalidCommand) none H') := fun z => by
      rw [← val2 z]
      exact ⟨q, qe⟩
    walk_at "st"
    refine iteB (fun h1 => ?_) (fun h1 => ?_)
    · walk_at "st"
      refine iteB (fun h2 => ?_) (fun h2 => ?_)
      · walk_at "st"
        exact q _ _ (by unfold valC; rw [if_pos ⟨dec_t h1, dec_t h2⟩]) (Same.refl _)
      · obtain ⟨q1, q2⟩ := rest fun z => dec_f h2 z.2
        walk_at "st"
        refine iteB (fun h3 => ?_) (fun h3 => ?_)
        · rw [if_pos (dec_t h3)] at q1 q2
          walk_at "st"
          refine iteB (fun h4 => ?_) (fun h4 => ?_)
          · rw [if_pos (dec_t h4)] at q2
            walk_at "st"
            exact q2 _ rfl (Same.refl _)
          · rw [if_neg (dec_f h4)] at q1
            walk_at "st"
            exact q1 _ _ rfl (Same.refl _)
        · rw [if_neg (dec_f h3)] at q1 q2
          walk_at "st"
          refine ⟨(), x, 0, 1000000000, rfl, hx, fun H1 s1 => ?_⟩
          cases hr : readN (TL.tl x) 0 1000000000 with
          | none =>
            rw [hr] at q1 q2
            walk_at "st"
            exact q2 _ rfl s1
          | some n =>
            rw [hr] at q1 q2
            walk_at "st"
            exact q1 _ _ rfl s1
    · obtain ⟨q1, q2⟩ := rest fun z => dec_f h1 z.1
      walk_at "st"
      refine iteB (fun h3 => ?_) (fun h3 => ?_)
      · rw [if_pos (dec_t h3)] at q1 q2
        walk_at "st"
        refine iteB (fun h4 => ?_) (fun h4 => ?_)
        · rw [if_pos (dec_t h4)] at q2
          walk_at "st"
          exact q2 _ rfl (Same.refl _)
        · rw [if_neg (dec_f h4)] at q1
          walk_at "st"
          exact q1 _ _ rfl (Same.refl _)
      · rw [if_neg (dec_f h3)] at q1 q2
        walk_at "st"
        refine ⟨(), x, 0, 1000000000, rfl, hx, fun H1 s1 => ?_⟩
        cases hr : readN (TL.tl x) 0 1000000000 with
        | none =>
          rw [hr] at q1 q2
          walk_at "st"
          exact q2 _ rfl s1
        | some n =>
          rw [hr] at q1 q2
          walk_at "st"
          exact q1 _ _ rfl s1
def sp_parse_command (K : PySem.W.Frag) (C : Addr) : Sp := fun vs H Q E => ∃ (x : Str), vs = [.str x] ∧ x.length ≤ 900 ∧ (∀ ys p l H', parseC x = some ys → Same H H' → H' p = some (.tup [.str ((wordsC x).headD ""), .ref l]) → H' l = some (.lst ys) → Q (.ref p) H') ∧ (∀ H', parseC x = none → Same H H' → E (.ref C) none H')
set_option maxHeartbeats 0 in
theorem ok_parse_command (T : Txt K mg) [DW : DictsOk P w T] : FnOk P w K mg base (L2.CX P w) 5 T.f_parse_command T.d_parse_command ["line"] (sp_parse_command K T.c_InvalidCommand) := by
  refine T.F_parse_command.okX sc_parse_command (fun vs H Q E h => ?_) (fun cdv A outer s H vs Q E hr h => ?_)
  · obtain ⟨x, rfl, _⟩ := h
    rfl
  · obtain ⟨x, rfl, hx, q, qe⟩ := h
    have G_value : FnOk P w K mg base (L2.CX P w) 4 T.f_value T.d_value ["kind", "word"] (sp_value K T.c_InvalidCommand) := ok_value T
    refine ⟨_, (pss_cons (ps_set (i := 1) sc_parse_command.nd rfl (Or.inl rfl) (pe_splitAny (pv 0) pe_str))
    (pss_cons (ps_set (i := 2) sc_parse_command.nd rfl (Or.inl rfl) (pe_kget DW.dk_FORMS (pe_glob (v := .ref T.c_FORMS) rfl T.m_FORMS rfl) (pe_ix ix_list (pv 1) pe_int (fun _ _ => rfl)) ⟨rfl, rfl, rfl, rfl⟩))
    (pss_cons (ps_if (PW.pt (pw_or (pt_cmpR op_isN (pv 2) pe_non (nomark _)) (pw_or (pt_cmpR op_ne (pe_callB call_len_seq (by rfl) T.z_len PySem.boot_len (pa_cons (pv 1) pa_nil)) (pe_op op_add (pe_callB call_len_seq (by rfl) T.z_len PySem.boot_len (pa_cons (pv 2) pa_nil)) pe_int) (nomark _)) (pw_or1 (pt_cmpR op_in_sign pe_str (pv 0) rfl)))))
      (pss_one (ps_raise rfl (takes_of rfl rfl rfl rfl) (pmk_own PySem.F.excBase_ValueError T.x_InvalidCommand T.m_InvalidCommand T.k_InvalidCommand (raises_own T.b_InvalidCommand T.t_InvalidCommand) (by rfl))))
      pss_nil)
    (pss_one (ps_ret (pe_tup (pa_cons (pe_ix ix_list (pv 1) pe_int (fun _ _ => rfl)) (pa_cons (pe_lcx (own := [("kind", 3), ("word", 4)]) (tt := tYes) (takes_of rfl rfl rfl rfl) rfl rfl rfl sc_parse_command.nd (show PI _ _ _ (iZipM K _) from pi_zipM (by rfl) T.z_zip (pa_cons (pv 2) (pa_cons (pe_slice sl_list (pv 1) (po_some pe_int) po_none) pa_nil))) (blkOk_by (own := [("kind", 3), ("word", 4)]) (N := N_parse_command) (sc := defScope s_parse_command) (by decide +kernel)) (fun _ _ _ _ _ _ => (show PG _ _ (gTup K 2 (gCons (gName 3) (gCons (gName 4) gNil))) from (pg_tup rfl (pgs_cons (pg_name (i := 3) sc_parse_command.nd rfl (Or.inl rfl)) (pgs_cons (pg_name (i := 4) sc_parse_command.nd rfl (Or.inl rfl)) pgs_nil))))) (fun _ _ _ _ _ _ => pts_nil) (fun _ _ _ _ _ _ hp => (pe_callS G_value hr (by rfl) T.m_value T.F_value.kp T.b_value (fun σ => hp σ) (pa_cons (pv 3) (pa_cons (pv 4) pa_nil))))) pa_nil)))))))), ?_⟩
    obtain ⟨hne, hwl, hwe⟩ := words_sz x
    have hxs : x.length + 2 ≤ sizeLine := Nat.le_of_lt (small1000 (by omega))
    walk_at "st"
    refine ⟨⟨_, rfl⟩, .inl ⟨x, " ", rfl, rfl, by decide +kernel, hxs, fun W nW => ?_⟩⟩
    obtain ⟨w0, r0, hw0⟩ : ∃ w0 r0, wordsC x = w0 :: r0 := by
      cases e : wordsC x with
      | nil => exact absurd e hne
      | cons a b => exact ⟨a, b, rfl⟩
    have hpar : parseC x = match formC w0 with
      | none => none
      | some ks => if r0.length + 1 = ks.length + 1 ∧ 10 ∉ TL.tl x then allC ks r0 else none := by
      unfold parseC
      rw [hw0]
      rfl
    have hsp : Txt.split x " " = w0 :: r0 := hw0
    rw [hsp]
    have s1 : Same H (upd H W (.lst ((w0 :: r0).map V.str))) := same_upd nW
    have hW : upd H W (.lst ((w0 :: r0).map V.str)) W = some (.lst ((w0 :: r0).map V.str)) := upd_same
    generalize upd H W (.lst ((w0 :: r0).map V.str)) = H1 at s1 hW ⊢
    have hWS := SqL.of (K := K) hW
    have a0 : atI ((w0 :: r0).map V.str) 0 = some (.str w0) := at_of (j := 0) rfl rfl
    rw [hw0] at hwl hwe
    walk_at "st"
    rcases form_get T w0 with ⟨hf, hv⟩ | ⟨ks, fa, hf, hkl, hv, hsq⟩
    · rw [hv]
      rw [hf] at hpar
      refine iteB (fun _ => ?_) (fun h => absurd h (by decide))
      exact qe _ hpar s1
    · rw [hv]
      rw [hf] at hpar
      have hpar : parseC x = if r0.length + 1 = ks.length + 1 ∧ 10 ∉ TL.tl x then allC ks r0 else none := hpar
      have hks := hsq H1
      refine iteB (fun h => absurd (dec_t h) (fun z => by cases z)) (fun _ => ?_)
      walk_at "st"
      refine iteB (fun h => ?_) (fun h => ?_)
      · have hno : ¬ (r0.length + 1 = ks.length + 1 ∧ 10 ∉ TL.tl x) := fun z => by
          rw [decide_eq_true (show V.int (((w0 :: r0).map V.str).length : Int) = V.int (((ks.map V.str).length : Int) + 1) by rw [List.length_map, List.length_map, List.length_cons]; exact congrArg V.int (by omega))] at h
          cases h
        rw [if_neg hno] at hpar
        exact qe _ hpar s1
      · have hle : r0.length = ks.length := by
          have h2 : V.int (((w0 :: r0).map V.str).length : Int) = V.int (((ks.map V.str).length : Int) + 1) := Classical.byContradiction fun z => by rw [decide_eq_false z] at h; cases h
          have h3 := V.int.inj h2
          rw [List.length_map, List.length_map, List.length_cons] at h3
          omega
        walk_at "st"
        refine iteB (fun hb => ?_) (fun hb => ?_)
        · have h10 : 10 ∈ TL.tl x := of_decide_eq_true hb
          rw [if_neg fun z => z.2 h10] at hpar
          exact qe _ hpar s1
        · have h10 : 10 ∉ TL.tl x := of_decide_eq_false hb
          rw [if_pos ⟨by omega, h10⟩] at hpar
          walk_at "st"
          intro p1 np1
          have hcut : cutV ((w0 :: r0).map V.str) (some 1) none = r0.map V.str := cut_fst
          rw [hcut]
          have s2 : Same H1 (upd H1 p1 (.lst (r0.map V.str))) := same_upd np1
          have hr2 : upd H1 p1 (.lst (r0.map V.str)) p1 = some (.lst (r0.map V.str)) := upd_same
          generalize upd H1 p1 (.lst (r0.map V.str)) = H2 at s2 hr2 ⊢
          have hrS := SqL.of (K := K) hr2
          have hks2 := hsq H2
          have s02 := s1.trans s2
          walk_at "st"
          intro D nD
          refine lc_zipM (K := K) (a := fa) (b := p1) (xs := ks.map V.str) (ys := r0.map V.str) (by rw [List.length_map, List.length_map, hle]) (fun i H' => ∃ vs : List V, allC (ks.take i) (r0.take i) = some vs ∧ vs.length = i ∧ H' D = some (.lst vs) ∧ Same H2 H') ⟨[], rfl, rfl, upd_same, same_upd nD⟩ (fun i H' _ ⟨_, _, _, _, e⟩ => ⟨hsq H', SqL.of (e _ _ hr2)⟩) ?_ ?_
          · rintro i y z H' U hy hz ⟨vs, hv, hvl, hD, e2⟩ nU
            obtain ⟨k, hk, rfl⟩ := strs_at hy
            obtain ⟨x', hx', rfl⟩ := strs_at hz
            have hxm := hwe x' (List.mem_cons_of_mem _ (List.mem_of_getElem? hx'))
            have hi := (List.getElem?_eq_some_iff.mp hk).1
            have eU := same_upd (o := .tup [.str k, .str x']) nU
            walk_at "st"
            refine ⟨fun v H3 hval s3 => ?_, fun H3 hval s3 => ?_⟩
            · refine ⟨vs, s3 _ _ (eU _ _ hD), small1000 (by omega), vs ++ [v], ?_, by rw [List.length_append, List.length_singleton, hvl], upd_same, same_over ((e2.trans eU).trans s3) nD⟩
              rw [take_succ hk, take_succ hx']
              exact allC_snoc (by rw [List.length_take, List.length_take, hle]) hv hval
            · exact qe _ (hpar.trans (allC_none hk hx' hval)) (s02.trans ((e2.trans eU).trans s3))
          · rintro H3 ⟨vs, hv, hvl, hD, e2⟩
            rw [List.length_map, List.take_of_length_le (Nat.le_refl _), List.take_of_length_le (Nat.le_of_eq hle)] at hv
            rw [hv] at hpar
            have hW3 := SqL.of (K := K) (e2 _ _ (s2 _ _ hW))
            walk_at "st"
            intro p np
            exact q vs p D _ hpar (s02.trans (e2.trans (same_upd np))) (by rw [upd_same, hw0]; rfl) ((upd_ne (ne_of_none hD np)).trans hD)

theorem call_str_iv {X : Cx} : CallR X (.type "str") (fun xs H Q => (∃ i : Int, xs = [.int i] ∧ i.natAbs.log2 < 1920 ∧ Q (.str (toString i)) H) ∨ ∃ a : Str, xs = [.str a] ∧ Q (.str a) H) := by
  intro pins s σ H xs us Q I r h
  rcases h with ⟨i, e, hl, q⟩ | ⟨a, e, q⟩
  · exact call_str_int pins s σ H xs us Q I r ⟨i, e, hl, q⟩
  · exact SkE.call_str_str pins s σ H xs us Q I r ⟨a, e, q⟩
def shapesT : List Str := ["deposit hn", "withdraw hn", "pledge hn", "release hn", "issue hhn", "owe hhn", "order hhhpnhn", "stop hhhnpn", "cancel hhn", "start h", "settle", "dividend hn", "split hnn"]
def rowsT : List (Str × Str) := [("deposit", "hn"), ("withdraw", "hn"), ("pledge", "hn"), ("release", "hn"), ("issue", "hhn"), ("owe", "hhn"), ("order", "hhhpnhn"), ("stop", "hhhnpn"), ("cancel", "hhn"), ("start", "h"), ("settle", ""), ("dividend", "hn"), ("split", "hnn")]
def kindC (c : Nat) : Str := if c = 104 then "word" else if c = 112 then "price" else "number"
/-- a row of the table -/
structure RowC (n s : Str) : Prop where
  form : formC n = some ((TL.tl s).map kindC)
  formx : formC ("x" ++ n) = none
  sp : 32 ∉ TL.tl n
  nl : 10 ∉ TL.tl n
  len : n.length ≤ 20
  chars : ∀ c, c ∈ TL.tl s → c = 104 ∨ c = 110 ∨ c = 112
  slen : s.length ≤ 7
theorem rows_ok : ∀ r, r ∈ rowsT → RowC r.1 r.2 := by
  intro r hr
  have h : ∀ r, r ∈ rowsT → (decide (formC r.1 = some ((TL.tl r.2).map kindC)) && decide (formC ("x" ++ r.1) = none) && decide (32 ∉ TL.tl r.1) && decide (10 ∉ TL.tl r.1) && decide (r.1.length ≤ 20) && (TL.tl r.2).all (fun c => decide (c = 104 ∨ c = 110 ∨ c = 112)) && decide (r.2.length ≤ 7)) = true := by decide +kernel
  have := h r hr
  simp only [Bool.and_eq_true, decide_eq_true_eq, List.all_eq_true] at this
  obtain ⟨⟨⟨⟨⟨⟨h1, h2⟩, h3⟩, h4⟩, h5⟩, h6⟩, h7⟩ := this
  exact ⟨h1, h2, h3, h4, h5, h6, h7⟩
theorem shapes_at (i : Nat) (h : i < 13) : ∃ n s x, shapesT[i]? = some x ∧ x.length ≤ 20 ∧ (n, s) ∈ rowsT ∧ ((Txt.split x " " = [n, s] ∧ s.length ≠ 0) ∨ (Txt.split x " " = [n] ∧ s = "")) := by
  have h2 : ∀ i, i < 13 → (match shapesT[i]?, rowsT[i]? with | some x, some r => decide (x.length ≤ 20) && ((decide (Txt.split x " " = [r.1, r.2]) && decide (r.2.length ≠ 0)) || (decide (Txt.split x " " = [r.1]) && decide (r.2 = ""))) | _, _ => false) = true := by decide +kernel
  have := h2 i h
  cases e1 : shapesT[i]? with
  | none => rw [e1] at this; cases this
  | some x =>
    cases e2 : rowsT[i]? with
    | none => rw [e1, e2] at this; cases this
    | some r =>
      rw [e1, e2] at this
      simp only [Bool.and_eq_true, Bool.or_eq_true, decide_eq_true_eq] at this
      exact ⟨r.1, r.2, x, rfl, this.1, List.mem_of_getElem? e2, this.2⟩
/-- what a drawn value is -/
def GoodV (c : Nat) (v : V) : Prop := (c = 104 ∧ ∃ s, s ∈ (["ash", "bay", "AX", "buy", "rest", "7", "market"] : List Str) ∧ v = .str s) ∨ ((c = 110 ∨ c = 112) ∧ ∃ n : Int, v = .int n ∧ 0 ≤ n ∧ n ≤ 1000000000) ∨ (c = 112 ∧ v = .non)
def toldC : V → Str
  | .int n => Str.ofString (toString n)
  | .str s => s
  | _ => "market"
theorem names_ok : ∀ s, s ∈ (["ash", "bay", "AX", "buy", "rest", "7", "market"] : List Str) → 32 ∉ TL.tl s ∧ 10 ∉ TL.tl s ∧ s.length ≤ 12 ∧ V.str s ≠ V.str "" := by
  have h : ∀ s, s ∈ (["ash", "bay", "AX", "buy", "rest", "7", "market"] : List Str) → (decide (32 ∉ TL.tl s) && decide (10 ∉ TL.tl s) && decide (s.length ≤ 12) && decide (s ≠ "")) = true := by decide +kernel
  intro s hs
  have := h s hs
  simp only [Bool.and_eq_true, decide_eq_true_eq] at this
  exact ⟨this.1.1.1, this.1.1.2, this.1.2, fun e => this.2 (V.str.inj e)⟩
theorem num_word {n : Int} (h0 : 0 ≤ n) (h1 : n ≤ 1000000000) : 32 ∉ TL.tl (Str.ofString (toString n)) ∧ 10 ∉ TL.tl (Str.ofString (toString n)) ∧ (Str.ofString (toString n)).length ≤ 12 ∧ readN (TL.tl (Str.ofString (toString n))) 0 1000000000 = some n ∧ V.str (Str.ofString (toString n)) ≠ V.str "market" := by
  have e := tl_numI n
  refine ⟨?_, ?_, ?_, ?_, ?_⟩
  · rw [e]
    intro h
    have := numI_sign h
    omega
  · rw [e]
    intro h
    have := numI_sign h
    omega
  · rw [TL.len_tl, e]
    exact Nat.le_trans (numI_len (k := 10) (by decide) (by omega)) (by decide)
  · rw [e]
    exact (readN_iff (by decide) (by decide)).mpr ⟨rfl, h0, h1⟩
  · intro h
    have h2 := congrArg TL.tl (V.str.inj h)
    rw [e] at h2
    have : (109 : Nat) ∈ numI n := by rw [h2]; decide +kernel
    have := numI_sign this
    omega
theorem told_ok {c : Nat} {v : V} (h : GoodV c v) : 32 ∉ TL.tl (toldC v) ∧ 10 ∉ TL.tl (toldC v) ∧ (toldC v).length ≤ 12 ∧ valC (kindC c) (toldC v) = some v := by
  rcases h with ⟨rfl, s, hs, rfl⟩ | ⟨hc, n, rfl, h0, h1⟩ | ⟨rfl, rfl⟩
  · have k := names_ok s hs
    refine ⟨k.1, k.2.1, k.2.2.1, ?_⟩
    show valC "word" s = _
    unfold valC
    rw [if_neg (fun z => absurd z.1 (by decide +kernel)), if_pos rfl, if_neg k.2.2.2]
  · have k := num_word h0 h1
    refine ⟨k.1, k.2.1, k.2.2.1, ?_⟩
    show valC (kindC c) (Str.ofString (toString n)) = _
    have hk : V.str (kindC c) ≠ V.str "word" := by
      rcases hc with rfl | rfl
      · decide +kernel
      · decide +kernel
    unfold valC
    rw [if_neg (fun z => k.2.2.2.2 z.2), if_neg hk, k.2.2.2.1]
    rfl
  · refine ⟨by decide +kernel, by decide +kernel, by decide +kernel, ?_⟩
    show valC "price" "market" = _
    unfold valC
    rw [if_pos ⟨rfl, rfl⟩]
theorem bad_words : ∀ b, b ∈ (["-1", "-0", "+1", "01", "00", "1000000001", "", "one", "1.0", "none"] : List Str) → 32 ∉ TL.tl b ∧ b.length ≤ 12 ∧ ∀ c, c = 110 ∨ c = 112 → valC (kindC c) b = none := by
  have h : ∀ b, b ∈ (["-1", "-0", "+1", "01", "00", "1000000001", "", "one", "1.0", "none"] : List Str) → (decide (32 ∉ TL.tl b) && decide (b.length ≤ 12) && decide (b ≠ "market") && decide (readN (TL.tl b) 0 1000000000 = none)) = true := by decide +kernel
  intro b hb
  have := h b hb
  simp only [Bool.and_eq_true, decide_eq_true_eq] at this
  refine ⟨this.1.1.1, this.1.1.2, fun c hc => ?_⟩
  have hk : V.str (kindC c) ≠ V.str "word" := by
    rcases hc with rfl | rfl
    · decide +kernel
    · decide +kernel
  unfold valC
  rw [if_neg (fun z => this.1.2 (V.str.inj z.2)), if_neg hk, this.2]
  rfl
theorem empty_word (c : Nat) (hc : c = 104 ∨ c = 110 ∨ c = 112) : valC (kindC c) "" = none := by
  rcases hc with rfl | hc
  · show valC "word" "" = none
    unfold valC
    rw [if_neg (fun z => absurd z.1 (by decide +kernel)), if_pos rfl, if_pos rfl]
  · exact (bad_words "" (by decide +kernel)).2.2 c hc

/-! ### spoilt lines -/
def Bad (x : Str) : Prop := parseC x = none ∧ x.length ≤ 900
theorem bad_of {ws : List Str} (hp : ∀ p, p ∈ ws → p.length ≤ 21) (hl : ws.length ≤ 11) (h : parseC (lineC ws) = none) : Bad (lineC ws) := by
  refine ⟨h, ?_⟩
  have h1 := line_len hp
  have h2 : ws.length * (21 + 1) ≤ 11 * 22 := Nat.mul_le_mul hl (Nat.le_refl _)
  omega
theorem tl_line_end : ∀ {ws : List Str}, ws ≠ [] → TL.tl (lineC (ws ++ [("" : Str)])) = TL.tl (lineC ws) ++ [32]
  | [], h => absurd rfl h
  | [a], _ => by
    show TL.tl (lineC (a :: "" :: [])) = _
    rw [line_cons, line_one, line_one]
    rfl
  | a :: b :: r, _ => by
    show TL.tl (lineC (a :: b :: (r ++ [("" : Str)]))) = _
    rw [line_cons, line_cons]
    have ih := tl_line_end (ws := b :: r) (List.cons_ne_nil _ _)
    have ih : TL.tl (lineC (b :: (r ++ [("" : Str)]))) = TL.tl (lineC (b :: r)) ++ [32] := ih
    rw [ih, List.append_assoc]
    rfl
structure LineOk (n s : Str) (tv : List Str) : Prop where
  row : RowC n s
  len : tv.length = (TL.tl s).length
  wd : ∀ t, t ∈ tv → 32 ∉ TL.tl t ∧ t.length ≤ 12
theorem LineOk.len7 {n s : Str} {tv : List Str} (L : LineOk n s tv) : tv.length ≤ 7 := by
  have h1 := L.row.slen
  have h2 := L.len
  rw [TL.len_tl] at h1
  omega
theorem LineOk.words {n s : Str} {tv : List Str} (L : LineOk n s tv) : ∀ p, p ∈ n :: tv → 32 ∉ TL.tl p ∧ p.length ≤ 21 := fun p hp => by
  rcases List.mem_cons.mp hp with z | z
  · rw [z]
    have := L.row.len
    exact ⟨L.row.sp, by omega⟩
  · obtain ⟨h1, h2⟩ := L.wd p z
    exact ⟨h1, by omega⟩
theorem empty_ok : 32 ∉ TL.tl ("" : Str) ∧ ("" : Str).length ≤ 21 := by decide +kernel
theorem form_empty : formC "" = none := by decide +kernel
theorem kinds_len (s : Str) : ((TL.tl s).map kindC).length = (TL.tl s).length := List.length_map ..
/-- a line with other words than its form has -/
theorem LineOk.other {n s : Str} {tv ws : List Str} (L : LineOk n s tv) (hp : ∀ p, p ∈ n :: ws → 32 ∉ TL.tl p ∧ p.length ≤ 21) (hl : ws.length ≤ 10) (hne : ws.length ≠ tv.length) : Bad (lineC (n :: ws)) :=
  bad_of (fun p h => (hp p h).2) (by rw [List.length_cons]; omega) (bad_len (n := n) (fun p h => (hp p h).1) rfl L.row.form (by rw [List.length_cons, kinds_len, ← L.len]; omega))
theorem LineOk.more {n s : Str} {tv : List Str} (L : LineOk n s tv) : Bad (lineC (n :: tv ++ [("1" : Str)])) := by
  refine L.other (ws := tv ++ [("1" : Str)]) (fun p hp => ?_) (by rw [List.length_append, List.length_singleton]; have := L.len7; omega) (by rw [List.length_append, List.length_singleton]; omega)
  rcases List.mem_append.mp (show p ∈ (n :: tv) ++ [("1" : Str)] from hp) with z | z
  · exact L.words p z
  · rw [List.mem_singleton.mp z]; decide +kernel
theorem LineOk.space {n s : Str} {tv : List Str} (L : LineOk n s tv) : Bad (lineC (n :: tv) ++ " ") := by
  have e : lineC (n :: tv) ++ " " = lineC ((n :: tv) ++ [("" : Str)]) := TL.ext_tl (by rw [tl_line_end (List.cons_ne_nil _ _), TL.tl_append, tl_space])
  rw [e]
  refine L.other (ws := tv ++ [("" : Str)]) (fun p hp => ?_) (by rw [List.length_append, List.length_singleton]; have := L.len7; omega) (by rw [List.length_append, List.length_singleton]; omega)
  rcases List.mem_append.mp (show p ∈ (n :: tv) ++ [("" : Str)] from hp) with z | z
  · exact L.words p z
  · rw [List.mem_singleton.mp z]; exact empty_ok
theorem bad_first {a : Str} {ws : List Str} (hp : ∀ p, p ∈ a :: ws → 32 ∉ TL.tl p ∧ p.length ≤ 21) (hl : ws.length ≤ 10) (hf : formC a = none) : Bad (lineC (a :: ws)) :=
  bad_of (fun p h => (hp p h).2) (by rw [List.length_cons]; omega) (bad_name (n := a) (fun p h => (hp p h).1) rfl hf)
theorem LineOk.front {n s : Str} {tv : List Str} (L : LineOk n s tv) : Bad (" " ++ lineC (n :: tv)) := by
  have e : " " ++ lineC (n :: tv) = lineC ("" :: n :: tv) := TL.ext_tl (by rw [line_cons, TL.tl_append, tl_space]; rfl)
  rw [e]
  refine bad_first (fun p hp => ?_) (by rw [List.length_cons]; have := L.len7; omega) form_empty
  rcases List.mem_cons.mp hp with z | z
  · rw [z]; exact empty_ok
  · exact L.words p z
theorem LineOk.unknown {n s : Str} {tv : List Str} (L : LineOk n s tv) : Bad ("x" ++ lineC (n :: tv)) := by
  have e : "x" ++ lineC (n :: tv) = lineC (("x" ++ n) :: tv) := TL.ext_tl (by
    cases tv with
    | nil => rw [line_one, line_one]
    | cons b r => rw [line_cons, TL.tl_append, line_cons, TL.tl_append, List.append_assoc])
  rw [e]
  refine bad_first (fun p hp => ?_) (by have := L.len7; omega) L.row.formx
  rcases List.mem_cons.mp hp with z | z
  · rw [z]
    have h1 := L.row.sp
    have h2 := L.row.len
    refine ⟨?_, ?_⟩
    · rw [TL.tl_append]
      intro m
      rcases List.mem_append.mp m with k | k
      · exact absurd k (by decide +kernel)
      · exact h1 k
    · rw [TL.len_tl, TL.tl_append, List.length_append, ← TL.len_tl n]
      have : (TL.tl ("x" : Str)).length = 1 := by decide +kernel
      omega
  · exact L.words p (List.mem_cons_of_mem _ z)
theorem bad_empty : Bad "" := ⟨by decide +kernel, by decide +kernel⟩
theorem LineOk.fewer {n s : Str} {tv : List Str} (L : LineOk n s tv) (h : tv ≠ []) : Bad (lineC (n :: tv).dropLast) := by
  rw [List.dropLast_cons_of_ne_nil h]
  have hl := L.len7
  have hpos := List.length_pos_iff.mpr h
  refine L.other (ws := tv.dropLast) (fun p hp => ?_) (by rw [List.length_dropLast]; omega) (by rw [List.length_dropLast]; omega)
  rcases List.mem_cons.mp hp with z | z
  · rw [z]; exact L.words n List.mem_cons_self
  · exact L.words p (List.mem_cons_of_mem _ (List.dropLast_subset _ z))
theorem LineOk.double {n s : Str} {tv : List Str} (L : LineOk n s tv) (h : tv ≠ []) : Bad (n ++ "  " ++ lineC tv) := by
  obtain ⟨b, r, rfl⟩ := List.exists_cons_of_ne_nil h
  have e : n ++ "  " ++ lineC (b :: r) = lineC (n :: "" :: b :: r) := TL.ext_tl (by
    rw [line_cons, line_cons, TL.tl_append, TL.tl_append, show TL.tl ("  " : Str) = [32, 32] from rfl, List.append_assoc]
    rfl)
  rw [e]
  refine L.other (ws := "" :: b :: r) (fun p hp => ?_) (by rw [List.length_cons]; have := L.len7; omega) (by rw [List.length_cons]; omega)
  rcases List.mem_cons.mp hp with z | z
  · rw [z]; exact L.words n List.mem_cons_self
  · rcases List.mem_cons.mp z with z | z
    · rw [z]; exact empty_ok
    · exact L.words p (List.mem_cons_of_mem _ z)
theorem LineOk.spoilt {n s x : Str} {tv : List Str} {k c : Nat} (L : LineOk n s tv) (hc : (TL.tl s)[k]? = some c) (hx : 32 ∉ TL.tl x ∧ x.length ≤ 21) (hv : valC (kindC c) x = none) : Bad (lineC (n :: (tv.take k ++ [x] ++ tv.drop (k + 1)))) := by
  have hk := (List.getElem?_eq_some_iff.mp hc).1
  have hk2 : k < tv.length := by rw [L.len]; exact hk
  have hp : ∀ p, p ∈ tv.take k ++ [x] ++ tv.drop (k + 1) → 32 ∉ TL.tl p ∧ p.length ≤ 21 := fun p hp => by
    rcases List.mem_append.mp hp with z | z
    · rcases List.mem_append.mp z with z | z
      · exact L.words p (List.mem_cons_of_mem _ (List.mem_of_mem_take z))
      · rw [List.mem_singleton.mp z]; exact hx
    · exact L.words p (List.mem_cons_of_mem _ (List.mem_of_mem_drop z))
  have hlen : (tv.take k ++ [x] ++ tv.drop (k + 1)).length = tv.length := by
    rw [List.length_append, List.length_append, List.length_take, List.length_drop, List.length_singleton]
    omega
  refine bad_of (fun p h => ?_) (by rw [List.length_cons, hlen]; have := L.len7; omega) (bad_word (i := k) (k := kindC c) (x := x) (fun p h => (hp p h).1) L.row.form (by rw [List.getElem?_map, hc]; rfl) ?_ hv L.row.sp)
  · rcases List.mem_cons.mp h with z | z
    · rw [z]; exact (L.words n List.mem_cons_self).2
    · exact (hp p z).2
  · rw [List.append_assoc, List.getElem?_append_right (by rw [List.length_take]; omega), List.length_take, show k - min k tv.length = 0 by omega]
    rfl
theorem sum_len {m : Nat} : ∀ {ws : List Str}, (∀ p, p ∈ ws → p.length ≤ m) → (ws.map fun x => x.length).sum ≤ ws.length * m
  | [], _ => Nat.zero_le _
  | a :: r, h => by
    have ih := sum_len (m := m) (ws := r) fun p hp => h p (List.mem_cons_of_mem _ hp)
    have h1 := h a List.mem_cons_self
    rw [List.map_cons, List.sum_cons, List.length_cons, Nat.succ_mul]
    omega
theorem join_ok {ws : List Str} (h : ∀ p, p ∈ ws → p.length ≤ 21) (hl : ws.length ≤ 11) : (ws.map fun x => x.length).sum + ws.length * (" " : Str).length ≤ 16777216 := by
  have h1 := sum_len h
  have h2 : ws.length * 21 ≤ 11 * 21 := Nat.mul_le_mul hl (Nat.le_refl _)
  have h3 : (" " : Str).length = 1 := rfl
  rw [h3]
  omega
theorem cut_init {xs : List V} : cutV xs none (some (-1)) = xs.dropLast := by
  unfold cutV
  show List.take (HT.sIx xs.length xs.length (some (-1)) - 0) (List.drop 0 xs) = _
  have : HT.sIx xs.length xs.length (some (-1)) = xs.length - 1 := by
    show (if (-1 : Int) < 0 then ((-1 : Int) + (xs.length : Int)).toNat else min ((-1 : Int).toNat) xs.length) = xs.length - 1
    rw [if_pos (by decide)]
    omega
  rw [this, List.drop_zero, Nat.sub_zero, List.dropLast_eq_take]
theorem cut_pre {n : Str} {tv : List Str} {k : Nat} (h : k < tv.length) : cutV ((n :: tv).map V.str) none (some (0 + (k : Int) + 1)) = (n :: tv.take k).map V.str := by
  rw [cutV_take (by omega) (by rw [List.length_map, List.length_cons]; omega), show (0 + (k : Int) + 1).toNat = k + 1 by omega, ← List.map_take]
  rfl
theorem cut_post {n : Str} {tv : List Str} {k : Nat} (h : k < tv.length) : cutV ((n :: tv).map V.str) (some (0 + (k : Int) + 2)) none = (tv.drop (k + 1)).map V.str := by
  rw [cutV_drop (by omega) (by rw [List.length_map, List.length_cons]; omega), show (0 + (k : Int) + 2).toNat = k + 2 by omega, ← List.map_drop]
  rfl

def sp_law_shapes (K : PySem.W.Frag) : Sp := fun vs H Q _ => vs = [] ∧ ∀ p H', Same H H' → H' p = some (.lst (shapesT.map V.str)) → Q (.ref p) H'
set_option maxHeartbeats 0 in
theorem ok_law_shapes (T : Txt K mg) [DW : DictsOk P w T] : FnOk P w K mg base CX0 1 T.f_law_shapes T.d_law_shapes [] (sp_law_shapes K) := by
  refine T.F_law_shapes.ok sc_law_shapes (fun vs H Q E h => ?_) (fun cdv A outer s H vs Q E hr h => ?_)
  · obtain ⟨rfl, _⟩ := h
    rfl
  · obtain ⟨rfl, q⟩ := h
    
    refine ⟨_, (pss_cons (ps_set (i := 0) sc_law_shapes.nd rfl (Or.inl rfl) (pe_lst (pa_cons pe_str (pa_cons pe_str (pa_cons pe_str (pa_cons pe_str (pa_cons pe_str (pa_cons pe_str (pa_cons pe_str pa_nil)))))))))
    (pss_one (ps_ret (pe_op op_cat (pv 0) (pe_lst (pa_cons pe_str (pa_cons pe_str (pa_cons pe_str (pa_cons pe_str (pa_cons pe_str (pa_cons pe_str pa_nil))))))))))), ?_⟩
    walk_at "st"
    refine ⟨len_le rfl, fun p1 n1 => ?_⟩
    generalize hH1 : upd H p1 _ = H1
    have s1 : Same H H1 := hH1 ▸ same_upd n1
    have hp1 : H1 p1 = some (.lst ((shapesT.take 7).map V.str)) := (congrFun hH1 p1).symm.trans upd_same
    walk_at "st"
    refine ⟨len_le rfl, fun p2 n2 => ?_⟩
    generalize hH2 : upd H1 p2 _ = H2
    have s2 : Same H1 H2 := hH2 ▸ same_upd n2
    have hp2 : H2 p2 = some (.lst ((shapesT.drop 7).map V.str)) := (congrFun hH2 p2).symm.trans upd_same
    have hp12 := s2 _ _ hp1
    have hll : ((shapesT.take 7).map V.str).length + ((shapesT.drop 7).map V.str).length ≤ sizeLine := len_le rfl
    walk_at "st"
    intro p n
    exact q p _ ((s1.trans s2).trans (same_upd n)) (by rw [upd_same, ← List.map_append, List.take_append_drop])
def namesT : List Str := ["ash", "bay", "AX", "buy", "rest", "7", "market"]
def valL (c : Int) (ch : Nat) : V := if ch = 104 then .str (namesT.getD (c % 7).toNat "") else if ch = 112 ∧ c % 3 = 0 then .non else .int (if c % 4 = 0 then c / 3 % 1000000001 else if c % 4 = 1 then 0 else if c % 4 = 2 then 1000000000 else c / 9 % 100)
def sp_law_value (K : PySem.W.Frag) : Sp := fun vs H Q _ => ∃ (_ : Unit) (c : Int) (ch : Nat), vs = [.int c, .str ⟨#[ch]⟩] ∧ (ch = 104 ∨ ch = 110 ∨ ch = 112) ∧ ∀ v H', Same H H' → GoodV ch v → Q v H'
set_option maxHeartbeats 0 in
theorem ok_law_value (T : Txt K mg) [DW : DictsOk P w T] : FnOk P w K mg base CX0 1 T.f_law_value T.d_law_value ["cell", "shape"] (sp_law_value K) := by
  refine T.F_law_value.ok sc_law_value (fun vs H Q E h => ?_) (fun cdv A outer s H vs Q E hr h => ?_)
  · obtain ⟨_, c, ch, rfl, _⟩ := h
    rfl
  · obtain ⟨_, c, ch, rfl, hch, q⟩ := h
    
    refine ⟨_, (pss_cons (ps_if (pt_cmpR op_eq (pv 1) pe_str (nomark _))
      (pss_one (ps_ret (pe_ix ix_list (pe_lst (pa_cons pe_str (pa_cons pe_str (pa_cons pe_str (pa_cons pe_str (pa_cons pe_str (pa_cons pe_str (pa_cons pe_str pa_nil)))))))) (pe_op op_mod (pe_callTy call_int_i (by rfl) T.z_int (by decide +kernel) (pa_cons (pv 0) pa_nil)) pe_int) (fun _ _ => rfl))))
      pss_nil)
    (pss_cons (ps_if (PW.pt (pw_and (pt_cmpR op_eq (pv 1) pe_str (nomark _)) (pw_and1 (pt_cmpR op_eq (pe_op op_mod (pe_callTy call_int_i (by rfl) T.z_int (by decide +kernel) (pa_cons (pv 0) pa_nil)) pe_int) pe_int (nomark _)))))
      (pss_one (ps_ret pe_non))
      pss_nil)
    (pss_one (ps_ret (pe_ix ix_list (pe_lst (pa_cons (pe_op op_mod (pe_op op_fdiv (pe_callTy call_int_i (by rfl) T.z_int (by decide +kernel) (pa_cons (pv 0) pa_nil)) pe_int) pe_int) (pa_cons pe_int (pa_cons pe_int (pa_cons (pe_op op_mod (pe_op op_fdiv (pe_callTy call_int_i (by rfl) T.z_int (by decide +kernel) (pa_cons (pv 0) pa_nil)) pe_int) pe_int) pa_nil))))) (pe_op op_mod (pe_callTy call_int_i (by rfl) T.z_int (by decide +kernel) (pa_cons (pv 0) pa_nil)) pe_int) (fun _ _ => rfl)))))), ?_⟩
    have hne : ∀ {a b : Nat}, a ≠ b → ¬ V.str ⟨#[a]⟩ = V.str ⟨#[b]⟩ := fun h z => by
      have := V.str.inj z
      simp at this
      exact h this
    walk_at "st"
    refine iteB (fun h1 => ?_) (fun h1 => ?_)
    · have hc : ch = 104 := Classical.byContradiction fun z => absurd (dec_t h1) (hne z)
      obtain ⟨s, hs, hat⟩ : ∃ s, s ∈ namesT ∧ atI (namesT.map V.str) (c % 7) = some (.str s) := by
        rcases (show c % 7 = 0 ∨ c % 7 = 1 ∨ c % 7 = 2 ∨ c % 7 = 3 ∨ c % 7 = 4 ∨ c % 7 = 5 ∨ c % 7 = 6 by omega) with e | e | e | e | e | e | e <;> rw [e]
        · exact ⟨"ash", by decide +kernel, rfl⟩
        · exact ⟨"bay", by decide +kernel, rfl⟩
        · exact ⟨"AX", by decide +kernel, rfl⟩
        · exact ⟨"buy", by decide +kernel, rfl⟩
        · exact ⟨"rest", by decide +kernel, rfl⟩
        · exact ⟨"7", by decide +kernel, rfl⟩
        · exact ⟨"market", by decide +kernel, rfl⟩
      walk_at "st"
      refine ⟨len_le rfl, fun p n => ?_⟩
      have hpS := SqL.of (K := K) (show upd H p (.lst (namesT.map V.str)) p = some (.lst (namesT.map V.str)) from upd_same)
      walk_at "st"
      exact q _ _ (same_upd n) (.inl ⟨hc, s, hs, rfl⟩)
    · have hc : ¬ ch = 104 := fun z => dec_f h1 (by rw [z]; rfl)
      have c2 : ch = 110 ∨ ch = 112 := hch.resolve_left hc
      have hint : ∀ n : Int, 0 ≤ n → n ≤ 1000000000 → ∀ H', Same H H' → Q (.int n) H' := fun n a b H' e => q _ _ e (.inr (.inl ⟨c2, n, rfl, a, b⟩))
      obtain ⟨n, hn0, hn1, hat⟩ : ∃ n, 0 ≤ n ∧ n ≤ 1000000000 ∧ atI [V.int (c / 3 % 1000000001), V.int 0, V.int 1000000000, V.int (c / 9 % 100)] (c % 4) = some (.int n) := by
        rcases (show c % 4 = 0 ∨ c % 4 = 1 ∨ c % 4 = 2 ∨ c % 4 = 3 by omega) with e | e | e | e <;> rw [e]
        · exact ⟨_, by omega, by omega, rfl⟩
        · exact ⟨0, by omega, by omega, rfl⟩
        · exact ⟨1000000000, by omega, by omega, rfl⟩
        · exact ⟨_, by omega, by omega, rfl⟩
      walk_at "st"
      refine iteB (fun h2 => ?_) (fun h2 => ?_)
      · walk_at "st"
        refine iteB (fun h3 => ?_) (fun h3 => ?_)
        · have hc2 : ch = 112 := Classical.byContradiction fun z => absurd (dec_t h2) (hne z)
          walk_at "st"
          exact q _ _ (Same.refl _) (.inr (.inr ⟨hc2, rfl⟩))
        · walk_at "st"
          intro p np
          have hpS := SqL.of (K := K) (show upd H p (.lst [V.int (c / 3 % 1000000001), V.int 0, V.int 1000000000, V.int (c / 9 % 100)]) p = some (.lst [V.int (c / 3 % 1000000001), V.int 0, V.int 1000000000, V.int (c / 9 % 100)]) from upd_same)
          walk_at "st"
          exact hint n hn0 hn1 _ (same_upd np)
      · walk_at "st"
        intro p np
        have hpS := SqL.of (K := K) (show upd H p (.lst [V.int (c / 3 % 1000000001), V.int 0, V.int 1000000000, V.int (c / 9 % 100)]) p = some (.lst [V.int (c / 3 % 1000000001), V.int 0, V.int 1000000000, V.int (c / 9 % 100)]) from upd_same)
        walk_at "st"
        exact hint n hn0 hn1 _ (same_upd np)
def sp_law_told (K : PySem.W.Frag) : Sp := fun vs H Q _ => ∃ (_ : Unit) (v : V) (c : Nat), vs = [v] ∧ GoodV c v ∧ Q (.str (toldC v)) H
set_option maxHeartbeats 0 in
theorem ok_law_told (T : Txt K mg) [DW : DictsOk P w T] : FnOk P w K mg base CX0 1 T.f_law_told T.d_law_told ["value"] (sp_law_told K) := by
  refine T.F_law_told.ok sc_law_told (fun vs H Q E h => ?_) (fun cdv A outer s H vs Q E hr h => ?_)
  · obtain ⟨_, v, c, rfl, _⟩ := h
    rfl
  · obtain ⟨_, v, c, rfl, hv, q⟩ := h
    
    refine ⟨_, (pss_cons (ps_if (pt_cmpR op_isN (pv 0) pe_non (nomark _))
      (pss_one (ps_ret pe_str))
      pss_nil)
    (pss_one (ps_ret (pe_callTy call_str_iv (by rfl) T.z_str (by decide +kernel) (pa_cons (pv 0) pa_nil))))), ?_⟩
    rcases hv with ⟨_, s, _, rfl⟩ | ⟨_, n, rfl, n0, n1⟩ | ⟨_, rfl⟩
    · walk_at "st"
      refine .inr ⟨s, rfl, ?_⟩
      exact q
    · walk_at "st"
      refine .inl ⟨n, rfl, ?_, ?_⟩
      · exact natAbs_log (k := 40) (by omega) (by decide) (by decide)
      · exact q
    · walk_at "st"
      exact q
def sp_law_raises (K : PySem.W.Frag) : Sp := fun vs H Q _ => ∃ (_ : Unit) (x : Str), vs = [.str x] ∧ x.length ≤ 900 ∧ parseC x = none ∧ ∀ H', Same H H' → Q (.bl true) H'
set_option maxHeartbeats 0 in
theorem ok_law_raises (T : Txt K mg) [DW : DictsOk P w T] : FnOk P w K mg base CX0 6 T.f_law_raises T.d_law_raises ["line"] (sp_law_raises K) := by
  refine T.F_law_raises.ok sc_law_raises (fun vs H Q E h => ?_) (fun cdv A outer s H vs Q E hr h => ?_)
  · obtain ⟨_, x, rfl, _⟩ := h
    rfl
  · obtain ⟨_, x, rfl, hx, hp, q⟩ := h
    have G_parse_command : FnOk P w K mg base (L2.CX P w) 5 T.f_parse_command T.d_parse_command ["line"] (sp_parse_command K T.c_InvalidCommand) := ok_parse_command T
    have teA := PySem.W.exm_ref T.b_InvalidCommand T.d_InvalidCommand T.t_InvalidCommand T.s_InvalidCommand
    refine ⟨_, (pss_cons (ps_try_as (i := 1) rfl rfl sc_law_raises.nd rfl rfl ⟨rfl, by decide, Or.inl T.m_InvalidCommand⟩ takes0
      (fun W pn xe tk _ => (pss_one (ps_expr (pe_callS G_parse_command hr (by rfl) T.m_parse_command T.F_parse_command.kp T.b_parse_command (fun σ => passAt tk σ) (pa_cons (pv 0) pa_nil)))))
      (fun a oe cls d pn hz hf => (pss_one (ps_ret (pe_callB (call_isE' T.e_InvalidCommand hz hf) (by rfl) T.z_isinstance (by decide +kernel) (pa_cons (pv 1) (pa_cons (pe_glob (v := .ref T.c_BourseError) rfl T.m_BourseError rfl) pa_nil)))))))
    (pss_one (ps_ret pe_bl))), ?_⟩
    walk_at "st"
    refine ⟨fun ys p l H' h => absurd (hp.symm.trans h) (fun z => by cases z), fun H' _ s1 => ?_⟩
    walk_at "st"
    refine ⟨fun _ a0 _ => ?_, fun z => Bool.noConfusion z⟩
    walk_at "st"
    refine ⟨_, true, rfl, fun u hu => hu, T.kt_InvalidCommand_BourseError, ?_⟩
    walk_at "st"
    exact q _ s1

def badsT : List Str := ["-1", "-0", "+1", "01", "00", "1000000001", "", "one", "1.0", "none"]
def sp_law_spoilt (K : PySem.W.Frag) : Sp := fun vs H Q _ => ∃ (_ : Unit) (W : Addr) (n s : Str) (tv : List Str) (c : Int), vs = [.ref W, .str s, .int c] ∧ H W = some (.lst ((n :: tv).map V.str)) ∧ LineOk n s tv ∧
  ∀ (ls : List Str) (p : Addr) (H' : Hp), Same H H' → H' p = some (.lst (ls.map V.str)) → (∀ x, x ∈ ls → Bad x) → ls.length ≤ 200 → Q (.ref p) H'
set_option maxHeartbeats 0 in
theorem ok_law_spoilt (T : Txt K mg) [DW : DictsOk P w T] : FnOk P w K mg base CX0 1 T.f_law_spoilt T.d_law_spoilt ["words", "shapes", "cell"] (sp_law_spoilt K) := by
  refine T.F_law_spoilt.ok sc_law_spoilt (fun vs H Q E h => ?_) (fun cdv A outer s H vs Q E hr h => ?_)
  · obtain ⟨_, W, n, s, tv, c, rfl, _⟩ := h
    rfl
  · obtain ⟨_, W, n, s, tv, c, rfl, hW, L, q⟩ := h
    
    refine ⟨_, (pss_cons (ps_set (i := 3) sc_law_spoilt.nd rfl (Or.inl rfl) (pe_lst (pa_cons (pe_join pe_str (pe_op op_cat (pv 0) (pe_lst (pa_cons pe_str pa_nil)))) (pa_cons (pe_op op_add_str (pe_join pe_str (pv 0)) pe_str) (pa_cons (pe_op op_add_str pe_str (pe_join pe_str (pv 0))) (pa_cons (pe_op op_add_str pe_str (pe_join pe_str (pv 0))) (pa_cons pe_str pa_nil)))))))
    (C8.pss_cut (ps_if (pt_cmpR op_gt (pe_callB call_len_seq (by rfl) T.z_len PySem.boot_len (pa_cons (pv 0) pa_nil)) pe_int (nomark _))
      (pss_cons (ps_expr (pe_bm PySem.F.plainAttrs_list PySem.F.slot_list_append PySem.F.type_list_append mt_append (pv 3) (pa_cons (pe_join pe_str (pe_slice sl_list (pv 0) po_none (po_some (pe_un un_neg pe_int)))) pa_nil)))
      (pss_one (ps_expr (pe_bm PySem.F.plainAttrs_list PySem.F.slot_list_append PySem.F.type_list_append mt_append (pv 3) (pa_cons (pe_op op_add_str (pe_op op_add_str (pe_ix ix_list (pv 0) pe_int (fun _ _ => rfl)) pe_str) (pe_join pe_str (pe_slice sl_list (pv 0) (po_some pe_int) po_none))) pa_nil)))))
      pss_nil)
    (pss_cons (ps_for PassesOwn.never rfl (pi_range1 (by rfl) T.z_range (pa_cons (pe_callB call_len_str (by rfl) T.z_len PySem.boot_len (pa_cons (pv 1) pa_nil)) pa_nil)) (pg_name (i := 4) sc_law_spoilt.nd rfl (Or.inl rfl))
      (pss_one (ps_if (pt_cmpR op_ne (pe_ix ix_str (pv 1) (pv 4) (fun _ _ => rfl)) pe_str (nomark _))
        (pss_one (ps_for PassesOwn.never rfl (pi_tup (pe_tup (pa_cons pe_str (pa_cons pe_str (pa_cons pe_str (pa_cons pe_str (pa_cons pe_str (pa_cons pe_str (pa_cons pe_str (pa_cons pe_str (pa_cons pe_str (pa_cons pe_str pa_nil)))))))))))) (pg_name (i := 5) sc_law_spoilt.nd rfl (Or.inl rfl))
          (pss_one (ps_expr (pe_bm PySem.F.plainAttrs_list PySem.F.slot_list_append PySem.F.type_list_append mt_append (pv 3) (pa_cons (pe_join pe_str (pe_op op_cat (pe_op op_cat (pe_slice sl_list (pv 0) po_none (po_some (pe_op op_add (pv 4) pe_int))) (pe_lst (pa_cons (pv 5) pa_nil))) (pe_slice sl_list (pv 0) (po_some (pe_op op_add (pv 4) pe_int)) po_none))) pa_nil))))))
        (pss_one (ps_expr (pe_bm PySem.F.plainAttrs_list PySem.F.slot_list_append PySem.F.type_list_append mt_append (pv 3) (pa_cons (pe_join pe_str (pe_op op_cat (pe_op op_cat (pe_slice sl_list (pv 0) po_none (po_some (pe_op op_add (pv 4) pe_int))) (pe_lst (pa_cons pe_str pa_nil))) (pe_slice sl_list (pv 0) (po_some (pe_op op_add (pv 4) pe_int)) po_none))) pa_nil)))))))
    (pss_one (ps_ret (pv 3)))))), ?_⟩
    have hWS := SqL.of (K := K) hW
    have hl7 := L.len7
    have hwl : ∀ p, p ∈ n :: tv → p.length ≤ 21 := fun p hp => (L.words p hp).2
    have hjW := join_ok hwl (by rw [List.length_cons]; omega)
    have hjl : (Txt.join " " (n :: tv)).length ≤ 200 := by
      have h1 := line_len hwl
      have h2 : (n :: tv).length * (21 + 1) ≤ 8 * 22 := Nat.mul_le_mul (by rw [List.length_cons]; omega) (Nat.le_refl _)
      exact Nat.le_trans h1 (Nat.le_trans h2 (by decide))
    refine ⟨⟨_, rfl⟩, ?_⟩
    walk_at "st"
    intro p1 n1
    generalize hH1 : upd H p1 _ = H1
    have s1 : Same H H1 := hH1 ▸ same_upd n1
    have hp1 : H1 p1 = some (.lst [.str "1"]) := (congrFun hH1 p1).symm.trans upd_same
    have hW1 := s1 _ _ hW
    have hb1 : ((n :: tv).map V.str).length + [V.str "1"].length ≤ sizeLine := Nat.le_of_lt (small1000 (by rw [List.length_map, List.length_cons]; show _ + 1 ≤ 1000; omega))
    walk_at "st"
    intro p2 n2
    generalize hH2 : upd H1 p2 _ = H2
    have s2 : Same H1 H2 := hH2 ▸ same_upd n2
    have hp2 : H2 p2 = some (.lst ((n :: tv ++ [("1" : Str)]).map V.str)) := (congrFun hH2 p2).symm.trans (by rw [upd_same, List.map_append]; rfl)
    have s02 := s1.trans s2
    have hW2 := s2 _ _ hW1
    have hq2 := SqL.of (K := K) hp2
    have hWS2 := SqL.of (K := K) hW2
    walk_at "st"
    have hj1 := join_ok (ws := n :: tv ++ [("1" : Str)]) (fun p hp => by
      rcases List.mem_append.mp hp with z | z
      · exact hwl p z
      · rw [List.mem_singleton.mp z]; decide +kernel) (by rw [List.length_append, List.length_cons, List.length_singleton]; omega)
    have hss : (" " : Str).length = 1 := rfl
    have hxx : ("x" : Str).length = 1 := rfl
    have hz1 : (Txt.join " " (n :: tv)).length + (" " : Str).length ≤ sizeLine := Nat.le_of_lt (small1000 (by omega))
    have hz2 : (" " : Str).length + (Txt.join " " (n :: tv)).length ≤ sizeLine := Nat.le_of_lt (small1000 (by omega))
    have hz3 : ("x" : Str).length + (Txt.join " " (n :: tv)).length ≤ sizeLine := Nat.le_of_lt (small1000 (by omega))
    refine ⟨n :: tv ++ [("1" : Str)], rfl, rfl, .inl hq2, hj1, ?_⟩
    refine ⟨⟨_, rfl⟩, ?_⟩
    walk_at "st"
    refine ⟨n :: tv, rfl, rfl, .inl hWS2, hjW, ?_⟩
    walk_at "st"
    refine ⟨⟨_, rfl⟩, ?_⟩
    walk_at "st"
    refine ⟨n :: tv, rfl, rfl, .inl hWS2, hjW, ?_⟩
    walk_at "st"
    refine ⟨⟨_, rfl⟩, ?_⟩
    walk_at "st"
    refine ⟨n :: tv, rfl, rfl, .inl hWS2, hjW, ?_⟩
    walk_at "st"
    intro p3 n3
    have hL0 : ∀ x, x ∈ ([Txt.join " " (n :: tv ++ [("1" : Str)]), Txt.join " " (n :: tv) ++ " ", " " ++ Txt.join " " (n :: tv), "x" ++ Txt.join " " (n :: tv), ""] : List Str) → Bad x := fun x hx => by
      simp only [List.mem_cons, List.not_mem_nil, or_false] at hx
      rcases hx with z | z | z | z | z
      · rw [z]; exact L.more
      · rw [z]; exact L.space
      · rw [z]; exact L.front
      · rw [z]; exact L.unknown
      · rw [z]; exact bad_empty
    generalize hls0 : ([Txt.join " " (n :: tv ++ [("1" : Str)]), Txt.join " " (n :: tv) ++ " ", " " ++ Txt.join " " (n :: tv), "x" ++ Txt.join " " (n :: tv), ""] : List Str) = ls0 at hL0
    have hln0 : ls0.length = 5 := by rw [← hls0]; rfl
    generalize hH3 : upd H2 p3 _ = H3
    have s3 : Same H2 H3 := hH3 ▸ same_upd n3
    have hp3 : H3 p3 = some (.lst (ls0.map V.str)) := (congrFun hH3 p3).symm.trans (by rw [upd_same, ← hls0]; rfl)
    have s03 := s02.trans s3
    have np3 : H p3 = none := by
      cases e : H p3 with
      | none => rfl
      | some v => rw [s02 _ _ e] at n3; cases n3
    have hW3 := s3 _ _ hW2
    have hWS3 := SqL.of (K := K) hW3
    walk_at "st"
    refine ⟨fun σ' H4 => ∃ ls : List Str, σ' = [some (.ref W), some (.str s), some (.int c), some (.ref p3), none, none] ∧ H4 p3 = some (.lst (ls.map V.str)) ∧ (∀ x, x ∈ ls → Bad x) ∧ ls.length ≤ 7 ∧ Same H H4, ?_, ?_⟩
    · walk_at "st"
      refine iteB (fun h1 => ?_) (fun _ => ?_)
      · have htv : tv ≠ [] := fun z => by
          rw [z] at h1
          have h2 : (1 : Int) < (([n].map V.str).length : Int) := of_decide_eq_true h1
          rw [List.length_map, List.length_singleton] at h2
          exact absurd h2 (by decide)
        walk_at "st"
        refine ⟨⟨_, rfl⟩, ?_⟩
        walk_at "st"
        intro p4 n4
        rw [cut_init, ← List.map_dropLast]
        generalize hH4 : upd H3 p4 _ = H4
        have s4 : Same H3 H4 := hH4 ▸ same_upd n4
        have hp4 := SqL.of (K := K) ((congrFun hH4 p4).symm.trans upd_same)
        have hp34 := s4 _ _ hp3
        have hW4 := s4 _ _ hW3
        have hWS4 := SqL.of (K := K) hW4
        have hlz : (ls0.map V.str).length < sizeLine := small1000 (by rw [List.length_map]; omega)
        walk_at "st"
        refine ⟨(n :: tv).dropLast, rfl, rfl, .inl hp4, join_ok (fun p hp => hwl p (List.dropLast_subset _ hp)) (by rw [List.length_dropLast, List.length_cons]; omega), ?_⟩
        walk_at "st"
        have hp35 : upd H4 p3 (.lst (ls0.map V.str ++ [V.str (Txt.join " " (n :: tv).dropLast)])) p3 = some (.lst ((ls0 ++ [Txt.join " " (n :: tv).dropLast]).map V.str)) := by rw [upd_same, List.map_append]; rfl
        have hW5 : upd H4 p3 (.lst (ls0.map V.str ++ [V.str (Txt.join " " (n :: tv).dropLast)])) W = some (.lst ((n :: tv).map V.str)) := (upd_ne (ne_of_none hW np3)).trans hW4
        have s5 : Same H (upd H4 p3 (.lst (ls0.map V.str ++ [V.str (Txt.join " " (n :: tv).dropLast)]))) := same_over (s03.trans s4) np3
        generalize upd H4 p3 (.lst (ls0.map V.str ++ [V.str (Txt.join " " (n :: tv).dropLast)])) = H5 at hp35 hW5 s5 ⊢
        have hWS5 := SqL.of (K := K) hW5
        have a0 : atI ((n :: tv).map V.str) 0 = some (.str n) := at_of (j := 0) rfl rfl
        have hnl := L.row.len
        have hd2 : ("  " : Str).length = 2 := rfl
        have hz4 : n.length + ("  " : Str).length ≤ sizeLine := Nat.le_of_lt (small1000 (by omega))
        have hz5 : (n ++ "  ").length + (Txt.join " " tv).length ≤ sizeLine := by
          have h1 : (n ++ "  ").length = n.length + 2 := by rw [TL.len_tl, TL.tl_append, List.length_append, ← TL.len_tl n]; rfl
          have h2 := line_len (ws := tv) (m := 21) fun p hp => hwl p (List.mem_cons_of_mem _ hp)
          have h3 : tv.length * (21 + 1) ≤ 8 * 22 := Nat.mul_le_mul (by omega) (Nat.le_refl _)
          have h4 : (Txt.join " " tv).length ≤ tv.length * (21 + 1) := h2
          exact Nat.le_of_lt (small1000 (by omega))
        walk_at "st"
        refine ⟨⟨_, rfl⟩, ?_⟩
        walk_at "st"
        intro p5 n5
        rw [show cutV ((n :: tv).map V.str) (some 1) none = tv.map V.str from cut_fst]
        generalize hH6 : upd H5 p5 _ = H6
        have s6 : Same H5 H6 := hH6 ▸ same_upd n5
        have hp6 := SqL.of (K := K) ((congrFun hH6 p5).symm.trans upd_same)
        have hp36 := s6 _ _ hp35
        have hlz2 : ((ls0 ++ [Txt.join " " (n :: tv).dropLast]).map V.str).length < sizeLine := small1000 (by rw [List.length_map, List.length_append, List.length_singleton]; omega)
        walk_at "st"
        refine ⟨tv, rfl, rfl, .inl hp6, join_ok (fun p hp => hwl p (List.mem_cons_of_mem _ hp)) (by omega), ?_⟩
        walk_at "st"
        refine ⟨ls0 ++ [Txt.join " " (n :: tv).dropLast] ++ [n ++ "  " ++ Txt.join " " tv], rfl, by rw [upd_same, List.map_append (l₁ := ls0 ++ _)]; rfl, fun x hx => ?_, by rw [List.length_append, List.length_append, List.length_singleton, List.length_singleton]; omega, same_over (s5.trans s6) np3⟩
        rcases List.mem_append.mp hx with z | z
        · rcases List.mem_append.mp z with z | z
          · exact hL0 x z
          · rw [List.mem_singleton.mp z]; exact L.fewer htv
        · rw [List.mem_singleton.mp z]; exact L.double htv
      · exact ⟨ls0, rfl, hp3, hL0, by omega, s03⟩
    · rintro σ' H4 ⟨ls, rfl, hp4, hB4, hl4, s4⟩
      have hsl7 := L.row.slen
      have hsl : s.length ≤ sizeLine := Nat.le_of_lt (small1000 (by omega))
      walk_at "st"
      refine for_range (lo := 0) (n := s.length) (fun i σ H' => ∃ (v4 v5 : Option V) (ls : List Str), σ = [some (.ref W), some (.str s), some (.int c), some (.ref p3), v4, v5] ∧ H' p3 = some (.lst (ls.map V.str)) ∧ (∀ x, x ∈ ls → Bad x) ∧ ls.length ≤ 7 + 10 * i ∧ Same H H') ?_ ?_ ?_
      · exact ⟨_, _, ls, rfl, hp4, hB4, by omega, s4⟩
      · rintro k σ H5 hk ⟨v4, v5, ls5, rfl, hp5, hB5, hl5, s5⟩
        obtain ⟨ch, hch⟩ : ∃ ch, (TL.tl s)[k]? = some ch := ⟨_, List.getElem?_eq_getElem (by rw [← TL.len_tl]; exact hk)⟩
        have hcc := L.row.chars ch (List.mem_of_getElem? hch)
        have hW5 := s5 _ _ hW
        have hWS5 := SqL.of (K := K) hW5
        have hat : atI s.cps.toList (0 + (k : Int)) = some ch := by
          have hkc : k < s.cps.toList.length := (List.getElem?_eq_some_iff.mp hch).1
          have hix : ixN s.cps.toList.length (0 + (k : Int)) = some k := by
            unfold ixN
            rw [if_pos (by omega), if_pos (by omega)]
            congr 1
            omega
          unfold atI
          rw [hix]
          exact hch
        have hkl : k < tv.length := by rw [L.len, ← TL.len_tl]; exact hk
        walk_at "st"
        refine iteB (fun hb => ?_) (fun hb => ?_)
        · have hc2 : ch = 110 ∨ ch = 112 := hcc.resolve_left fun z => by
            rw [z, decide_eq_true (show V.str ⟨#[104]⟩ = V.str "h" from rfl)] at hb
            cases hb
          walk_at "st"
          refine ⟨len_le rfl, fun U nU => ?_⟩
          generalize hH6 : upd H5 U _ = H6
          have s6 : Same H5 H6 := hH6 ▸ same_upd nU
          have hU : H6 U = some (.tup (badsT.map V.str)) := (congrFun hH6 U).symm.trans upd_same
          have hUS := SqT.of (K := K) hU
          walk_at "st"
          refine for_tup (K := K) (a := U) (xs := badsT.map V.str) (fun j σ H' => ∃ (v5 : Option V) (ls : List Str), σ = [some (.ref W), some (.str s), some (.int c), some (.ref p3), some (.int (0 + (k : Int))), v5] ∧ H' p3 = some (.lst (ls.map V.str)) ∧ (∀ x, x ∈ ls → Bad x) ∧ ls.length ≤ 7 + 10 * k + j ∧ Same H H' ∧ H' U = some (.tup (badsT.map V.str))) ⟨_, ls5, rfl, s6 _ _ hp5, hB5, hl5, s5.trans s6, hU⟩ (fun j σ H' _ ⟨_, _, _, _, _, _, _, e⟩ => SqT.of e) ?_ ?_
          · rintro j v σ H7 hv ⟨v5, ls7, rfl, hp7, hB7, hl7b, s7, hU7⟩
            obtain ⟨b, hbj, rfl⟩ := strs_at hv
            have hj := (List.getElem?_eq_some_iff.mp hbj).1
            have hj10 : j < 10 := hj
            obtain ⟨hb1, hb2, hb3⟩ := bad_words b (List.mem_of_getElem? hbj)
            have hbx : 32 ∉ TL.tl b ∧ b.length ≤ 21 := ⟨hb1, by omega⟩
            have hbv := hb3 ch hc2
            have hW7 := s7 _ _ hW
            have hWS7 := SqL.of (K := K) hW7
            walk_at "st"
            refine ⟨⟨_, rfl⟩, ?_⟩
            walk_at "st"
            intro q1 m1
            rw [cut_pre hkl]
            generalize hG1 : upd H7 q1 _ = G1
            have e1 : Same H7 G1 := hG1 ▸ same_upd m1
            have hq1 : G1 q1 = some (.lst ((n :: tv.take k).map V.str)) := (congrFun hG1 q1).symm.trans upd_same
            walk_at "st"
            intro q2 m2
            generalize hG2 : upd G1 q2 _ = G2
            have e2 : Same G1 G2 := hG2 ▸ same_upd m2
            have hq2 : G2 q2 = some (.lst [.str b]) := (congrFun hG2 q2).symm.trans upd_same
            have hq12 := e2 _ _ hq1
            have hb1 : ((n :: tv.take k).map V.str).length + [V.str b].length ≤ sizeLine := Nat.le_of_lt (small1000 (by rw [List.length_map, List.length_cons, List.length_take, List.length_singleton]; omega))
            walk_at "st"
            intro q3 m3
            generalize hG3 : upd G2 q3 _ = G3
            have e3 : Same G2 G3 := hG3 ▸ same_upd m3
            have hq3 : G3 q3 = some (.lst ((n :: (tv.take k ++ [b])).map V.str)) := (congrFun hG3 q3).symm.trans (by rw [upd_same, List.map_cons, List.map_cons, List.map_append]; rfl)
            have hWg := SqL.of (K := K) (e3 _ _ (e2 _ _ (e1 _ _ hW7)))
            walk_at "st"
            intro q4 m4
            rw [cut_post hkl]
            generalize hG4 : upd G3 q4 _ = G4
            have e4 : Same G3 G4 := hG4 ▸ same_upd m4
            have hq4 : G4 q4 = some (.lst ((tv.drop (k + 1)).map V.str)) := (congrFun hG4 q4).symm.trans upd_same
            have hq34 := e4 _ _ hq3
            have hb2 : ((n :: (tv.take k ++ [b])).map V.str).length + ((tv.drop (k + 1)).map V.str).length ≤ sizeLine := Nat.le_of_lt (small1000 (by rw [List.length_map, List.length_map, List.length_cons, List.length_append, List.length_take, List.length_drop, List.length_singleton]; omega))
            walk_at "st"
            intro q5 m5
            generalize hG5 : upd G4 q5 _ = G5
            have e5 : Same G4 G5 := hG5 ▸ same_upd m5
            have hq5 : G5 q5 = some (.lst ((n :: (tv.take k ++ [b] ++ tv.drop (k + 1))).map V.str)) := (congrFun hG5 q5).symm.trans (by rw [upd_same, List.map_cons, List.map_cons, List.map_append, List.map_append, List.map_append]; rfl)
            have hq5S := SqL.of (K := K) hq5
            have e15 := (((e1.trans e2).trans e3).trans e4).trans e5
            have hp3g := e15 _ _ hp7
            have hlg : (ls7.map V.str).length < sizeLine := small1000 (by rw [List.length_map]; omega)
            have hjg := join_ok (ws := n :: (tv.take k ++ [b] ++ tv.drop (k + 1))) (fun p hp => by
              rcases List.mem_cons.mp hp with z | z
              · rw [z]; exact hwl n List.mem_cons_self
              · rcases List.mem_append.mp z with z | z
                · rcases List.mem_append.mp z with z | z
                  · exact hwl p (List.mem_cons_of_mem _ (List.mem_of_mem_take z))
                  · rw [List.mem_singleton.mp z]; exact hbx.2
                · exact hwl p (List.mem_cons_of_mem _ (List.mem_of_mem_drop z))) (by rw [List.length_cons, List.length_append, List.length_append, List.length_take, List.length_drop, List.length_singleton]; omega)
            walk_at "st"
            refine ⟨n :: (tv.take k ++ [b] ++ tv.drop (k + 1)), rfl, rfl, .inl hq5S, hjg, ?_⟩
            walk_at "st"
            have hUf : upd G5 p3 (.lst (ls7.map V.str ++ [V.str (Txt.join " " (n :: (tv.take k ++ [b] ++ tv.drop (k + 1))))])) U = some (.tup (badsT.map V.str)) := (upd_ne fun z => by rw [z, hp7] at hU7; cases hU7).trans (e15 _ _ hU7)
            refine ⟨_, ls7 ++ [Txt.join " " (n :: (tv.take k ++ [b] ++ tv.drop (k + 1)))], rfl, by rw [upd_same, List.map_append]; rfl, fun x hx => ?_, by rw [List.length_append, List.length_singleton]; omega, same_over (s7.trans e15) np3, hUf⟩
            rcases List.mem_append.mp hx with z | z
            · exact hB7 x z
            · rw [List.mem_singleton.mp z]; exact L.spoilt hch hbx hbv
          · rintro σ H7 ⟨v5, ls7, rfl, hp7, hB7, hl7b, s7, hU7⟩
            have hten : (badsT.map V.str).length = 10 := rfl
            exact ⟨_, _, ls7, rfl, hp7, hB7, by omega, s7⟩
        · walk_at "st"
          refine ⟨⟨_, rfl⟩, ?_⟩
          walk_at "st"
          intro q1 m1
          rw [cut_pre hkl]
          generalize hG1 : upd H5 q1 _ = G1
          have e1 : Same H5 G1 := hG1 ▸ same_upd m1
          have hq1 : G1 q1 = some (.lst ((n :: tv.take k).map V.str)) := (congrFun hG1 q1).symm.trans upd_same
          walk_at "st"
          intro q2 m2
          generalize hG2 : upd G1 q2 _ = G2
          have e2 : Same G1 G2 := hG2 ▸ same_upd m2
          have hq2 : G2 q2 = some (.lst [.str ("" : Str)]) := (congrFun hG2 q2).symm.trans upd_same
          have hq12 := e2 _ _ hq1
          have hb1 : ((n :: tv.take k).map V.str).length + [V.str ("" : Str)].length ≤ sizeLine := Nat.le_of_lt (small1000 (by rw [List.length_map, List.length_cons, List.length_take, List.length_singleton]; omega))
          walk_at "st"
          intro q3 m3
          generalize hG3 : upd G2 q3 _ = G3
          have e3 : Same G2 G3 := hG3 ▸ same_upd m3
          have hq3 : G3 q3 = some (.lst ((n :: (tv.take k ++ [("" : Str)])).map V.str)) := (congrFun hG3 q3).symm.trans (by rw [upd_same, List.map_cons, List.map_cons, List.map_append]; rfl)
          have hWg := SqL.of (K := K) (e3 _ _ (e2 _ _ (e1 _ _ hW5)))
          walk_at "st"
          intro q4 m4
          rw [cut_post hkl]
          generalize hG4 : upd G3 q4 _ = G4
          have e4 : Same G3 G4 := hG4 ▸ same_upd m4
          have hq4 : G4 q4 = some (.lst ((tv.drop (k + 1)).map V.str)) := (congrFun hG4 q4).symm.trans upd_same
          have hq34 := e4 _ _ hq3
          have hb2 : ((n :: (tv.take k ++ [("" : Str)])).map V.str).length + ((tv.drop (k + 1)).map V.str).length ≤ sizeLine := Nat.le_of_lt (small1000 (by rw [List.length_map, List.length_map, List.length_cons, List.length_append, List.length_take, List.length_drop, List.length_singleton]; omega))
          walk_at "st"
          intro q5 m5
          generalize hG5 : upd G4 q5 _ = G5
          have e5 : Same G4 G5 := hG5 ▸ same_upd m5
          have hq5 : G5 q5 = some (.lst ((n :: (tv.take k ++ [("" : Str)] ++ tv.drop (k + 1))).map V.str)) := (congrFun hG5 q5).symm.trans (by rw [upd_same, List.map_cons, List.map_cons, List.map_append, List.map_append, List.map_append]; rfl)
          have hq5S := SqL.of (K := K) hq5
          have e15 := (((e1.trans e2).trans e3).trans e4).trans e5
          have hp3g := e15 _ _ hp5
          have hlg : (ls5.map V.str).length < sizeLine := small1000 (by rw [List.length_map]; omega)
          have hjg := join_ok (ws := n :: (tv.take k ++ [("" : Str)] ++ tv.drop (k + 1))) (fun p hp => by
            rcases List.mem_cons.mp hp with z | z
            · rw [z]; exact hwl n List.mem_cons_self
            · rcases List.mem_append.mp z with z | z
              · rcases List.mem_append.mp z with z | z
                · exact hwl p (List.mem_cons_of_mem _ (List.mem_of_mem_take z))
                · rw [List.mem_singleton.mp z]; exact empty_ok.2
              · exact hwl p (List.mem_cons_of_mem _ (List.mem_of_mem_drop z))) (by rw [List.length_cons, List.length_append, List.length_append, List.length_take, List.length_drop, List.length_singleton]; omega)
          walk_at "st"
          refine ⟨n :: (tv.take k ++ [("" : Str)] ++ tv.drop (k + 1)), rfl, rfl, .inl hq5S, hjg, ?_⟩
          walk_at "st"
          refine ⟨_, _, ls5 ++ [Txt.join " " (n :: (tv.take k ++ [("" : Str)] ++ tv.drop (k + 1)))], rfl, by rw [upd_same, List.map_append]; rfl, fun x hx => ?_, by rw [List.length_append, List.length_singleton]; omega, same_over (s5.trans e15) np3⟩
          rcases List.mem_append.mp hx with z | z
          · exact hB5 x z
          · rw [List.mem_singleton.mp z]; exact L.spoilt hch empty_ok (empty_word ch hcc)
      · rintro σ H5 ⟨v4, v5, ls5, rfl, hp5, hB5, hl5, s5⟩
        walk_at "st"
        exact q ls5 p3 H5 s5 hp5 hB5 (by omega)

theorem allC_told : ∀ (cs : List Nat) (vs : List V), cs.length = vs.length → (∀ (j c : Nat) (v : V), cs[j]? = some c → vs[j]? = some v → GoodV c v) → allC (cs.map kindC) (vs.map toldC) = some vs
  | [], [], _, _ => rfl
  | [], _ :: _, h, _ => by cases h
  | _ :: _, [], h, _ => by cases h
  | c :: cs, v :: vs, h, g => by
    have h1 := (told_ok (g 0 c v rfl rfl)).2.2.2
    have ih := allC_told cs vs (Nat.succ.inj h) fun j c' v' a b => g (j + 1) c' v' a b
    show allC (kindC c :: cs.map kindC) (toldC v :: vs.map toldC) = _
    unfold allC
    rw [h1, ih]
def layV : V → PyData
  | .int n => .int n
  | .str s => .str s
  | _ => .none
theorem layV_ok {c : Nat} {v : V} (h : GoodV c v) : (layV v).canLay0 = true ∧ (layV v).depth ≤ 0 ∧ ∀ {K : PySem.W.Frag} {H : Hp}, Dp K H v (layV v) := by
  rcases h with ⟨_, s, hs, rfl⟩ | ⟨_, n, rfl, _⟩ | ⟨_, rfl⟩
  · refine ⟨?_, Nat.le_refl _, .str _⟩
    have h2 : ∀ s, s ∈ (["ash", "bay", "AX", "buy", "rest", "7", "market"] : List Str) → PyData.strOk s = true := by decide +kernel
    show PyData.canLay0 (.str s) = true
    simp only [PyData.canLay0]
    exact h2 s hs
  · exact ⟨rfl, Nat.le_refl _, .int _⟩
  · exact ⟨rfl, Nat.le_refl _, .non⟩
theorem layVs_ok : ∀ (vs : List V), (∀ v, v ∈ vs → ∃ c, GoodV c v) → PyData.canLayAll0 (vs.map layV) = true ∧ PyData.depthAll (vs.map layV) ≤ 0 ∧ ∀ {K : PySem.W.Frag} {H : Hp}, DpAll K H vs (vs.map layV)
  | [], _ => ⟨rfl, Nat.le_refl _, .nil⟩
  | v :: vs, h => by
    obtain ⟨c, g⟩ := h v List.mem_cons_self
    obtain ⟨h1, h2, h3⟩ := layV_ok g
    obtain ⟨k1, k2, k3⟩ := layVs_ok vs fun u hu => h u (List.mem_cons_of_mem _ hu)
    refine ⟨?_, ?_, .cons h3 k3⟩
    · rw [List.map_cons]
      simp only [PyData.canLayAll0, h1, k1]
      rfl
    · rw [List.map_cons]
      simp only [PyData.depthAll]
      exact Nat.max_le.mpr ⟨h2, k2⟩
def layN (n : Str) (vs : List V) : PyData := .tuple [.str n, .list (vs.map layV)]
theorem layN_ok {n : Str} {vs : List V} (hn : PyData.strOk n = true) (h : ∀ v, v ∈ vs → ∃ c, GoodV c v) : SeqAt.shaped (layN n vs) = true ∧ PyData.eqv (layN n vs) (layN n vs) = true := by
  obtain ⟨h1, h2, _⟩ := layVs_ok vs h
  have hl : (layN n vs).canLay0 = true := by
    unfold layN
    simp only [PyData.canLay0, PyData.canLayAll0, h1, hn]
    rfl
  refine ⟨?_, PySem.SeqAt.eqv_refl _ hl⟩
  unfold SeqAt.shaped
  rw [hl, Bool.true_and]
  refine decide_eq_true ?_
  unfold layN
  simp only [PyData.depth, PyData.depthAll]
  omega
theorem layN_dp {K : PySem.W.Frag} {H : Hp} {p l : Addr} {n : Str} {vs : List V} (h : ∀ v, v ∈ vs → ∃ c, GoodV c v) (hp : H p = some (.tup [.str n, .ref l])) (hl : H l = some (.lst vs)) : Dp K H (.ref p) (layN n vs) :=
  .tup (SqT.of hp) (.cons (.str _) (.cons (.lst (SqL.of hl) (layVs_ok vs h).2.2) .nil))
theorem names_str : ∀ r, r ∈ rowsT → PyData.strOk r.1 = true := by decide +kernel
theorem at_sign {s : Str} {k ch : Nat} (hch : (TL.tl s)[k]? = some ch) : atI s.cps.toList (0 + (k : Int)) = some ch := by
  have hkc : k < s.cps.toList.length := (List.getElem?_eq_some_iff.mp hch).1
  have hix : ixN s.cps.toList.length (0 + (k : Int)) = some k := by
    unfold ixN
    rw [if_pos (by omega), if_pos (by omega)]
    congr 1
    omega
  unfold atI
  rw [hix]
  exact hch
def sp_law (K : PySem.W.Frag) : Sp := fun vs H Q _ => ∃ (a : Addr) (ns : List Int), vs = [.ref a] ∧ SqL K H a (ns.map V.int) ∧ ns.length ≤ 63 ∧ ∀ H', Q (.bl true) H'
set_option maxHeartbeats 0 in
theorem ok_law {f : Addr} {fd : FuncData} (T : Txt K mg) [DW : DictsOk P w T] (F : Fun K "law" "law" s_law f fd) : FnOk P w K mg base CX0 7 f fd ["script"] (sp_law K) := by
  refine F.ok sc_law (fun vs H Q E h => ?_) (fun cdv A outer s H vs Q E hr h => ?_)
  · obtain ⟨a, ns, rfl, _⟩ := h
    rfl
  · obtain ⟨a, ns, rfl, hs, hl, q⟩ := h
    have G_law_spoilt : FnOk P w K mg base CX0 1 T.f_law_spoilt T.d_law_spoilt ["words", "shapes", "cell"] (sp_law_spoilt K) := ok_law_spoilt T
    have G_parse_command : FnOk P w K mg base (L2.CX P w) 5 T.f_parse_command T.d_parse_command ["line"] (sp_parse_command K T.c_InvalidCommand) := ok_parse_command T
    have G_law_value : FnOk P w K mg base CX0 1 T.f_law_value T.d_law_value ["cell", "shape"] (sp_law_value K) := ok_law_value T
    have G_law_told : FnOk P w K mg base CX0 1 T.f_law_told T.d_law_told ["value"] (sp_law_told K) := ok_law_told T
    have G_law_raises : FnOk P w K mg base CX0 6 T.f_law_raises T.d_law_raises ["line"] (sp_law_raises K) := ok_law_raises T
    have G_law_shapes : FnOk P w K mg base CX0 1 T.f_law_shapes T.d_law_shapes [] (sp_law_shapes K) := ok_law_shapes T
    refine ⟨_, (pss_cons (ps_set (i := 1) sc_law.nd rfl (Or.inl rfl) pe_int)
    (C8.pss_cut (ps_if (pt_truth (pv 0) (by intro _; rfl))
      (pss_one (ps_set (i := 1) sc_law.nd rfl (Or.inl rfl) (pe_callTy call_int_i (by rfl) T.z_int (by decide +kernel) (pa_cons (pe_ix ix_list (pv 0) pe_int (fun _ _ => rfl)) pa_nil))))
      pss_nil)
    (pss_cons (ps_set (i := 2) sc_law.nd rfl (Or.inl rfl) (pe_splitAny (pe_ix ix_list (pe_call0 G_law_shapes (hr.mono (by decide)) (by rfl) T.m_law_shapes T.F_law_shapes.kp T.b_law_shapes .nil pass0) (pe_op op_mod (pv 1) pe_int) (fun _ _ => rfl)) pe_str))
    (pss_cons (ps_set (i := 3) sc_law.nd rfl (Or.inl rfl) pe_str)
    (C8.pss_cut (ps_if (pt_cmpR op_gt (pe_callB call_len_seq (by rfl) T.z_len PySem.boot_len (pa_cons (pv 2) pa_nil)) pe_int (nomark _))
      (pss_one (ps_set (i := 3) sc_law.nd rfl (Or.inl rfl) (pe_ix ix_list (pv 2) pe_int (fun _ _ => rfl))))
      pss_nil)
    (pss_cons (ps_set (i := 4) sc_law.nd rfl (Or.inl rfl) (pe_lst pa_nil))
    (pss_cons (ps_for PassesOwn.never rfl (pi_range1 (by rfl) T.z_range (pa_cons (pe_callB call_len_str (by rfl) T.z_len PySem.boot_len (pa_cons (pv 3) pa_nil)) pa_nil)) (pg_name (i := 5) sc_law.nd rfl (Or.inl rfl))
      (pss_cons (ps_set (i := 6) sc_law.nd rfl (Or.inl rfl) (pe_op op_add (pe_op op_mul pe_int (pv 5)) (pv 1)))
      (C8.pss_cut (ps_if (pt_cmpR op_lt (pe_op op_add (pv 5) pe_int) (pe_callB call_len_seq (by rfl) T.z_len PySem.boot_len (pa_cons (pv 0) pa_nil)) (nomark _))
        (pss_one (ps_set (i := 6) sc_law.nd rfl (Or.inl rfl) (pe_ix ix_list (pv 0) (pe_op op_add (pv 5) pe_int) (fun _ _ => rfl))))
        pss_nil)
      (pss_one (ps_expr (pe_bm PySem.F.plainAttrs_list PySem.F.slot_list_append PySem.F.type_list_append mt_append (pv 4) (pa_cons (pe_call G_law_value (hr.mono (by decide)) (by rfl) T.m_law_value T.F_law_value.kp T.b_law_value .nil pass0 (pa_cons (pv 6) (pa_cons (pe_ix ix_str (pv 3) (pv 5) (fun _ _ => rfl)) pa_nil))) pa_nil)))))))
    (pss_cons (ps_set (i := 7) sc_law.nd rfl (Or.inl rfl) (pe_op op_cat (pe_lst (pa_cons (pe_ix ix_list (pv 2) pe_int (fun _ _ => rfl)) pa_nil)) (pe_lc (own := [("value", 8)]) (g := gName 8) (tt := tYes) rfl sc_law.nd (pi_list (pv 4)) (blkOk_by (own := [("value", 8)]) (N := N_law) (sc := defScope s_law) (by decide +kernel)) (fun _ _ _ _ _ => (pg_name (i := 8) sc_law.nd rfl (Or.inl rfl))) (fun _ _ _ _ _ => pts_nil) (fun _ _ _ _ _ => (pe_call G_law_told (hr.mono (by decide)) (by rfl) T.m_law_told T.F_law_told.kp T.b_law_told .nil pass0 (pa_cons (pv 8) pa_nil))))))
    (pss_cons (ps_if (pt_cmpR (op_neD hr.units) (pe_call G_parse_command (hr.mono (by decide)) (by rfl) T.m_parse_command T.F_parse_command.kp T.b_parse_command .nil passL (pa_cons (pe_join pe_str (pv 7)) pa_nil)) (pe_tup (pa_cons (pe_ix ix_list (pv 2) pe_int (fun _ _ => rfl)) (pa_cons (pv 4) pa_nil))) (nomark _))
      (pss_one (ps_ret pe_bl))
      pss_nil)
    (pss_cons (ps_for PassesOwn.never rfl (pi_list (pe_call G_law_spoilt (hr.mono (by decide)) (by rfl) T.m_law_spoilt T.F_law_spoilt.kp T.b_law_spoilt .nil pass0 (pa_cons (pv 7) (pa_cons (pv 3) (pa_cons (pv 1) pa_nil))))) (pg_name (i := 9) sc_law.nd rfl (Or.inl rfl))
      (pss_one (ps_if (pt_not (pt_val (pe_call G_law_raises hr (by rfl) T.m_law_raises T.F_law_raises.kp T.b_law_raises .nil pass0 (pa_cons (pv 9) pa_nil))))
        (pss_one (ps_ret pe_bl))
        pss_nil)))
    (pss_one (ps_ret pe_bl)))))))))))), ?_⟩
    have hflat : True := trivial
    walk_at "st"
    refine ⟨fun σ' H1 => ∃ (_ : Unit) (cell : Int), σ' = [some (.ref a), some (.int cell), none, none, none, none, none, none, none, none] ∧ H1 = H, ?_, ?_⟩
    · cases ns with
      | nil =>
        walk_at "st"
        exact ⟨(), _, rfl, rfl⟩
      | cons n r =>
        have a0 : atI ((n :: r).map V.int) 0 = some (.int n) := at_of (j := 0) rfl rfl
        walk_at "st"
        exact ⟨(), _, rfl, rfl⟩
    · rintro σ' H1 ⟨_, cell, rfl, rfl⟩
      walk_at "st"
      intro p1 H2 s1 hp1
      have hp1S := SqL.of (K := K) hp1
      obtain ⟨n, s, x, hx, hx20, hrow, hsplit⟩ := shapes_at (cell % 13).toNat (by omega)
      have R := rows_ok (n, s) hrow
      have R : RowC n s := R
      have hat : atI (shapesT.map V.str) (cell % 13) = some (.str x) := at_of (j := (cell % 13).toNat) (by omega) (by rw [List.getElem?_map, hx]; rfl)
      have hx2 : x.length + 2 ≤ sizeLine := Nat.le_of_lt (small1000 (by omega))
      walk_at "st"
      refine ⟨⟨_, rfl⟩, .inl ⟨x, " ", rfl, rfl, by decide +kernel, hx2, fun p2 n2 => ?_⟩⟩
      obtain ⟨ws, hws, hw0, hw1⟩ : ∃ ws : List Str, Txt.split x " " = ws ∧ atI (ws.map V.str) 0 = some (.str n) ∧ ((1 < ws.length ∧ atI (ws.map V.str) 1 = some (.str s)) ∨ (¬ 1 < ws.length ∧ s = "")) := by
        rcases hsplit with ⟨e, _⟩ | ⟨e, e2⟩
        · exact ⟨_, e, at_of (j := 0) rfl rfl, .inl ⟨(show 1 < 2 by decide), at_of (j := 1) rfl rfl⟩⟩
        · exact ⟨_, e, at_of (j := 0) rfl rfl, .inr ⟨(show ¬ 1 < 1 by decide), e2⟩⟩
      rw [hws]
      generalize hH3 : upd H2 p2 _ = H3
      have s3 : Same H2 H3 := hH3 ▸ same_upd n2
      have hp2 : H3 p2 = some (.lst (ws.map V.str)) := (congrFun hH3 p2).symm.trans upd_same
      have hp2S := SqL.of (K := K) hp2
      have s13 := s1.trans s3
      have hs3 := s13.seq hs
      walk_at "st"
      refine ⟨fun σ' H4 => σ' = [some (.ref a), some (.int cell), some (.ref p2), some (.str s), none, none, none, none, none, none] ∧ H4 = H3, ?_, ?_⟩
      · walk_at "st"
        refine iteB (fun h => ?_) (fun h => ?_)
        · have h2 : 1 < ws.length := by
            have := of_decide_eq_true h
            rw [List.length_map] at this
            omega
          obtain ⟨_, hw1⟩ := hw1.resolve_right fun z => z.1 h2
          walk_at "st"
          rfl
        · have h2 : ¬ 1 < ws.length := fun z => by
            have := of_decide_eq_false h
            rw [List.length_map] at this
            omega
          have e := (hw1.resolve_left fun z => h2 z.1).2
          subst e
          exact ⟨rfl, rfl⟩
      · rintro σ' H4 ⟨rfl, rfl⟩
        walk_at "st"
        intro p3 n3
        have np3 : H4 p3 = none := n3
        generalize hH5 : upd H4 p3 _ = H5
        have s5 : Same H4 H5 := hH5 ▸ same_upd n3
        have hp3 : H5 p3 = some (.lst []) := (congrFun hH5 p3).symm.trans upd_same
        have hsl : s.length ≤ sizeLine := Nat.le_of_lt (small1000 (by have := R.slen; omega))
        have hslt : (s.length : Int) < 2 ^ 62 := by have := R.slen; omega
        walk_at "st"
        refine for_range (lo := 0) (n := s.length) (fun i σ H' => ∃ (v5 v6 : Option V) (vs : List V), σ = [some (.ref a), some (.int cell), some (.ref p2), some (.str s), some (.ref p3), v5, v6, none, none, none] ∧ H' p3 = some (.lst vs) ∧ vs.length = i ∧ (∀ (j c : Nat) (v : V), (TL.tl s)[j]? = some c → vs[j]? = some v → GoodV c v) ∧ Same H4 H') ?_ ?_ ?_
        · exact ⟨_, _, [], rfl, hp3, rfl, (fun j c v _ h => by rw [List.getElem?_nil] at h; cases h), s5⟩
        · rintro k σ H6 hk ⟨v5, v6, vs, rfl, hp6, hvl, hgv, s6⟩
          have hs6 := s6.seq hs3
          obtain ⟨ch, hch⟩ : ∃ ch, (TL.tl s)[k]? = some ch := ⟨_, List.getElem?_eq_getElem (by rw [← TL.len_tl]; exact hk)⟩
          have hcc := R.chars ch (List.mem_of_getElem? hch)
          have hat2 : atI s.cps.toList (0 + (k : Int)) = some ch := at_sign hch
          walk_at "st"
          refine ⟨fun σ' H7 => ∃ (_ : Unit) (dr : Int), σ' = [some (.ref a), some (.int cell), some (.ref p2), some (.str s), some (.ref p3), some (.int (0 + (k : Int))), some (.int dr), none, none, none] ∧ H7 = H6, ?_, ?_⟩
          · walk_at "st"
            refine iteB (fun h => ?_) (fun h => ?_)
            · have h2 : k + 1 < ns.length := by
                have := of_decide_eq_true h
                rw [List.length_map] at this
                omega
              have hat3 : atI (ns.map V.int) (0 + (k : Int) + 1) = some (.int ns[k + 1]) := at_of (j := k + 1) (by omega) (by rw [List.getElem?_map, List.getElem?_eq_getElem h2]; rfl)
              walk_at "st"
              exact ⟨(), _, rfl, rfl⟩
            · exact ⟨(), _, rfl, rfl⟩
          · rintro σ' H7 ⟨_, dr, rfl, rfl⟩
            have hvs : vs.length < sizeLine := small1000 (by have := R.slen; omega)
            walk_at "st"
            refine ⟨(), dr, ch, rfl, hcc, fun v H8 s8 hv => ?_⟩
            have hp8 := s8 _ _ hp6
            walk_at "st"
            refine ⟨_, _, vs ++ [v], rfl, upd_same, by rw [List.length_append, List.length_singleton, hvl], fun j c' v' h1 h2 => ?_, same_over (s6.trans s8) np3⟩
            by_cases hj : j < vs.length
            · rw [List.getElem?_append_left hj] at h2
              exact hgv j c' v' h1 h2
            · rw [List.getElem?_append_right (by omega)] at h2
              have h3 := (List.getElem?_eq_some_iff.mp h2).1
              rw [List.length_singleton] at h3
              rw [show j - vs.length = 0 by omega] at h2
              cases h2
              rw [show j = k by omega, hch] at h1
              cases h1
              exact hv
        · rintro σ H6 ⟨v5, v6, vs, rfl, hp6, hvl, hgv, s6⟩
          have hp6S := SqL.of (K := K) hp6
          have hp26 := SqL.of (K := K) (s6 _ _ hp2)
          walk_at "st"
          intro p4 n4
          generalize hH7 : upd H6 p4 _ = H7
          have s7 : Same H6 H7 := hH7 ▸ same_upd n4
          have hp4 : H7 p4 = some (.lst [.str n]) := (congrFun hH7 p4).symm.trans upd_same
          have hp67 := SqL.of (K := K) (s7 _ _ hp6)
          walk_at "st"
          intro D nD
          have hvl7 : vs.length ≤ 7 := by have := R.slen; omega
          refine lc_list (K := K) (a := p3) (xs := vs) (fun i H' => H' D = some (.lst (((vs.take i).map toldC).map V.str)) ∧ Same H7 H') ⟨upd_same, same_upd nD⟩ (fun i H' _ ⟨_, e⟩ => SqL.of (e _ _ (s7 _ _ hp6))) ?_ ?_
          · rintro j v H8 hv ⟨hD, e8⟩
            have hj := (List.getElem?_eq_some_iff.mp hv).1
            obtain ⟨cj, hcj⟩ : ∃ cj, (TL.tl s)[j]? = some cj := ⟨_, List.getElem?_eq_getElem (by rw [← TL.len_tl]; omega)⟩
            have hg := hgv j cj v hcj hv
            have hsz : (((vs.take j).map toldC).map V.str).length < sizeLine := small1000 (by rw [List.length_map, List.length_map, List.length_take]; omega)
            walk_at "st"
            refine ⟨(), v, cj, rfl, hg, ?_⟩
            walk_at "st"
            exact ⟨by rw [upd_same, take_succ hv, List.map_append, List.map_append]; rfl, same_over e8 nD⟩
          · rintro H8 ⟨hD, e8⟩
            rw [List.take_of_length_le (Nat.le_refl _)] at hD
            have hp48 := e8 _ _ hp4
            have htl : (vs.map toldC).length = (TL.tl s).length := by rw [List.length_map, hvl, TL.len_tl]
            have hmem : ∀ t, t ∈ vs.map toldC → 32 ∉ TL.tl t ∧ 10 ∉ TL.tl t ∧ t.length ≤ 12 := fun t ht => by
              obtain ⟨v, hv, rfl⟩ := List.mem_map.mp ht
              obtain ⟨j, hj⟩ := List.getElem?_of_mem hv
              have hjl := (List.getElem?_eq_some_iff.mp hj).1
              obtain ⟨c, hc⟩ : ∃ c, (TL.tl s)[j]? = some c := ⟨_, List.getElem?_eq_getElem (by rw [← TL.len_tl]; omega)⟩
              have k := told_ok (hgv j c v hc hj)
              exact ⟨k.1, k.2.1, k.2.2.1⟩
            have hgood : ∀ v, v ∈ vs → ∃ c, GoodV c v := fun v hv => by
              obtain ⟨j, hj⟩ := List.getElem?_of_mem hv
              have hjl := (List.getElem?_eq_some_iff.mp hj).1
              obtain ⟨c, hc⟩ : ∃ c, (TL.tl s)[j]? = some c := ⟨_, List.getElem?_eq_getElem (by rw [← TL.len_tl]; omega)⟩
              exact ⟨c, hgv j c v hc hj⟩
            have L : LineOk n s (vs.map toldC) := ⟨R, htl, fun t ht => ⟨(hmem t ht).1, (hmem t ht).2.2⟩⟩
            have hgl := good_line (n := n) (ws := vs.map toldC) (ks := (TL.tl s).map kindC) (vs := vs) ⟨R.sp, R.nl⟩ (fun p hp => ⟨(hmem p hp).1, (hmem p hp).2.1⟩) R.form (by rw [kinds_len]; exact htl) (allC_told _ _ (by rw [hvl, TL.len_tl]) hgv)
            have hb8 : [V.str n].length + ((vs.map toldC).map V.str).length ≤ sizeLine := Nat.le_of_lt (small1000 (by rw [List.length_map, List.length_map]; show 1 + _ ≤ _; omega))
            walk_at "st"
            intro W nW
            generalize hH9 : upd H8 W _ = H9
            have s9 : Same H8 H9 := hH9 ▸ same_upd nW
            have hW : H9 W = some (.lst ((n :: vs.map toldC).map V.str)) := (congrFun hH9 W).symm.trans upd_same
            have hWS := SqL.of (K := K) hW
            have hp39 := s9 _ _ (e8 _ _ (s7 _ _ hp6))
            have hp29 := s9 _ _ (e8 _ _ (s7 _ _ (s6 _ _ hp2)))
            have hwl : ∀ p, p ∈ n :: vs.map toldC → p.length ≤ 21 := fun p hp => (L.words p hp).2
            have hjW := join_ok hwl (by rw [List.length_cons, List.length_map]; omega)
            walk_at "st"
            refine ⟨⟨_, rfl⟩, ?_⟩
            walk_at "st"
            refine ⟨n :: vs.map toldC, rfl, rfl, .inl hWS, hjW, ?_⟩
            have hjl : (Txt.join " " (n :: vs.map toldC)).length ≤ 900 := by
              have h1 := line_len hwl
              have h2 : (n :: vs.map toldC).length * (21 + 1) ≤ 8 * 22 := Nat.mul_le_mul (by rw [List.length_cons, List.length_map]; omega) (Nat.le_refl _)
              exact Nat.le_trans h1 (Nat.le_trans h2 (by decide))
            have hgl : parseC (Txt.join " " (n :: vs.map toldC)) = some vs ∧ (wordsC (Txt.join " " (n :: vs.map toldC))).headD "" = n := hgl
            walk_at "st"
            refine ⟨fun ys p l H10 hy s10 hpt hlt => ?_, fun H10 h => absurd (hgl.1.symm.trans h) (fun z => by cases z)⟩
            obtain rfl : vs = ys := Option.some.inj (hgl.1.symm.trans hy)
            rw [hgl.2] at hpt
            have hpt : H10 p = some (.tup [.str n, .ref l]) := hpt
            have hp210 := SqL.of (K := K) (s10 _ _ hp29)
            have hp310 := s10 _ _ hp39
            have hW10 := s10 _ _ hW
            walk_at "st"
            intro t nt
            generalize hH11 : upd H10 t _ = H11
            have s11 : Same H10 H11 := hH11 ▸ same_upd nt
            have ht : H11 t = some (.tup [.str n, .ref p3]) := (congrFun hH11 t).symm.trans upd_same
            obtain ⟨sh, eqv⟩ := layN_ok (names_str _ hrow) hgood
            refine ⟨layN n vs, layN n vs, layN_dp hgood (s11 _ _ hpt) (s11 _ _ hlt), layN_dp hgood ht (s11 _ _ hp310), sh, sh, ?_⟩
            rw [eqv]
            have hW11 := s11 _ _ hW10
            walk_at "st"
            refine ⟨(), W, n, s, vs.map toldC, cell, rfl, hW11, L, fun ls pl H12 s12 hls hbad hln => ?_⟩
            have hlsS := SqL.of (K := K) hls
            walk_at "st"
            refine for_list (K := K) (a := pl) (xs := ls.map V.str) (fun i σ H' => (∃ v5 v6 v8 v9 : Option V, σ = [some (.ref a), some (.int cell), some (.ref p2), some (.str s), some (.ref p3), v5, v6, some (.ref W), v8, v9]) ∧ Same H12 H') ⟨⟨_, _, _, _, rfl⟩, Same.refl _⟩ (fun i σ H' _ ⟨_, e⟩ => SqL.of (e _ _ hls)) ?_ ?_
            · rintro j v σ H13 hv ⟨⟨v5, v6, v8, v9, rfl⟩, e13⟩
              obtain ⟨x, hx, rfl⟩ := strs_at hv
              have hb := hbad x (List.mem_of_getElem? hx)
              walk_at "st"
              refine ⟨(), x, rfl, hb.2, hb.1, fun H14 s14 => ?_⟩
              walk_at "st"
              exact ⟨⟨_, _, _, _, rfl⟩, e13.trans s14⟩
            · rintro σ H13 ⟨⟨v5, v6, v8, v9, rfl⟩, e13⟩
              walk_at "st"
              exact q _

end
set_option maxHeartbeats 0 in
theorem all_mk {l : PySem.W.OpenLaw} {w : World} {K : PySem.W.Frag} {h : Heap} {mg : Str → Option Value} {fa f1 f2 f3 f4 f5 f6 f7 f8 f9 f10 f11 : Addr} (X : K.In h) (G : h.Ns mainGlobals mg) (hfa : mg "law" = some (.ref fa))
    {c_BourseError c_InvalidCommand : Addr}
    {od1 an1 od2 an2 od3 an3 od4 an4 od5 an5 od6 an6 od7 an7 od8 an8 od9 an9 od10 an10 od11 an11 : Option Addr} {sl1 sl2 sl3 sl4 sl5 sl6 sl7 sl8 sl9 sl10 sl11 : Array (Option Value)} {oc1 kV1 dc1 pm1 cd1 ct1 oc2 kV2 dc2 pm2 cd2 ct2 oc3 kV3 dc3 pm3 cd3 ct3 oc4 kV4 dc4 pm4 cd4 ct4 oc5 kV5 dc5 pm5 cd5 ct5 oc6 kV6 dc6 pm6 cd6 ct6 oc7 kV7 dc7 pm7 cd7 ct7 oc8 kV8 dc8 pm8 cd8 ct8 oc9 kV9 dc9 pm9 cd9 ct9 oc10 kV10 dc10 pm10 cd10 ct10 oc11 kV11 dc11 pm11 cd11 ct11 : Value}
    (a1 : PySem.W.nsIn K mainGlobals "is_word_of" = some (some (.ref f1)))
    (l1 : K.lookup f1 = some ⟨oc1, od1, .func (PySem.W.fnOf "is_word_of" "is_word_of" (defArgs s_is_word_of) (defBody s_is_word_of) (defScope s_is_word_of) .none kV1 dc1 pm1 an1 cd1 ct1), sl1⟩) (c1 : PySem.W.codeIn K cd1 "is_word_of" = true) (k1 : PySem.W.keepIn K (.ref f1) = true)
    (a2 : PySem.W.nsIn K mainGlobals "is_digits" = some (some (.ref f2)))
    (l2 : K.lookup f2 = some ⟨oc2, od2, .func (PySem.W.fnOf "is_digits" "is_digits" (defArgs s_is_digits) (defBody s_is_digits) (defScope s_is_digits) .none kV2 dc2 pm2 an2 cd2 ct2), sl2⟩) (c2 : PySem.W.codeIn K cd2 "is_digits" = true) (k2 : PySem.W.keepIn K (.ref f2) = true)
    (a3 : PySem.W.nsIn K mainGlobals "read_number" = some (some (.ref f3)))
    (l3 : K.lookup f3 = some ⟨oc3, od3, .func (PySem.W.fnOf "read_number" "read_number" (defArgs s_read_number) (defBody s_read_number) (defScope s_read_number) .none kV3 dc3 pm3 an3 cd3 ct3), sl3⟩) (c3 : PySem.W.codeIn K cd3 "read_number" = true) (k3 : PySem.W.keepIn K (.ref f3) = true)
    (a4 : PySem.W.nsIn K mainGlobals "parse_command" = some (some (.ref f4)))
    (l4 : K.lookup f4 = some ⟨oc4, od4, .func (PySem.W.fnOf "parse_command" "parse_command" (defArgs s_parse_command) (defBody s_parse_command) (defScope s_parse_command) .none kV4 dc4 pm4 an4 cd4 ct4), sl4⟩) (c4 : PySem.W.codeIn K cd4 "parse_command" = true) (k4 : PySem.W.keepIn K (.ref f4) = true)
    (a5 : PySem.W.nsIn K mainGlobals "_value" = some (some (.ref f5)))
    (l5 : K.lookup f5 = some ⟨oc5, od5, .func (PySem.W.fnOf "_value" "_value" (defArgs s_value) (defBody s_value) (defScope s_value) .none kV5 dc5 pm5 an5 cd5 ct5), sl5⟩) (c5 : PySem.W.codeIn K cd5 "_value" = true) (k5 : PySem.W.keepIn K (.ref f5) = true)
    (a6 : PySem.W.nsIn K mainGlobals "_law_shapes" = some (some (.ref f6)))
    (l6 : K.lookup f6 = some ⟨oc6, od6, .func (PySem.W.fnOf "_law_shapes" "_law_shapes" (defArgs s_law_shapes) (defBody s_law_shapes) (defScope s_law_shapes) .none kV6 dc6 pm6 an6 cd6 ct6), sl6⟩) (c6 : PySem.W.codeIn K cd6 "_law_shapes" = true) (k6 : PySem.W.keepIn K (.ref f6) = true)
    (a7 : PySem.W.nsIn K mainGlobals "_law_value" = some (some (.ref f7)))
    (l7 : K.lookup f7 = some ⟨oc7, od7, .func (PySem.W.fnOf "_law_value" "_law_value" (defArgs s_law_value) (defBody s_law_value) (defScope s_law_value) .none kV7 dc7 pm7 an7 cd7 ct7), sl7⟩) (c7 : PySem.W.codeIn K cd7 "_law_value" = true) (k7 : PySem.W.keepIn K (.ref f7) = true)
    (a8 : PySem.W.nsIn K mainGlobals "_law_told" = some (some (.ref f8)))
    (l8 : K.lookup f8 = some ⟨oc8, od8, .func (PySem.W.fnOf "_law_told" "_law_told" (defArgs s_law_told) (defBody s_law_told) (defScope s_law_told) .none kV8 dc8 pm8 an8 cd8 ct8), sl8⟩) (c8 : PySem.W.codeIn K cd8 "_law_told" = true) (k8 : PySem.W.keepIn K (.ref f8) = true)
    (a9 : PySem.W.nsIn K mainGlobals "_law_raises" = some (some (.ref f9)))
    (l9 : K.lookup f9 = some ⟨oc9, od9, .func (PySem.W.fnOf "_law_raises" "_law_raises" (defArgs s_law_raises) (defBody s_law_raises) (defScope s_law_raises) .none kV9 dc9 pm9 an9 cd9 ct9), sl9⟩) (c9 : PySem.W.codeIn K cd9 "_law_raises" = true) (k9 : PySem.W.keepIn K (.ref f9) = true)
    (a10 : PySem.W.nsIn K mainGlobals "_law_spoilt" = some (some (.ref f10)))
    (l10 : K.lookup f10 = some ⟨oc10, od10, .func (PySem.W.fnOf "_law_spoilt" "_law_spoilt" (defArgs s_law_spoilt) (defBody s_law_spoilt) (defScope s_law_spoilt) .none kV10 dc10 pm10 an10 cd10 ct10), sl10⟩) (c10 : PySem.W.codeIn K cd10 "_law_spoilt" = true) (k10 : PySem.W.keepIn K (.ref f10) = true)
    (a11 : PySem.W.nsIn K mainGlobals "law" = some (some (.ref f11)))
    (l11 : K.lookup f11 = some ⟨oc11, od11, .func (PySem.W.fnOf "law" "law" (defArgs s_law) (defBody s_law) (defScope s_law) .none kV11 dc11 pm11 an11 cd11 ct11), sl11⟩) (c11 : PySem.W.codeIn K cd11 "law" = true) (k11 : PySem.W.keepIn K (.ref f11) = true)
    (z_all : PySem.W.nsIn K mainGlobals "all" = some none)
    (z_int : PySem.W.nsIn K mainGlobals "int" = some none)
    (z_isinstance : PySem.W.nsIn K mainGlobals "isinstance" = some none)
    (z_len : PySem.W.nsIn K mainGlobals "len" = some none)
    (z_range : PySem.W.nsIn K mainGlobals "range" = some none)
    (z_str : PySem.W.nsIn K mainGlobals "str" = some none)
    (z_zip : PySem.W.nsIn K mainGlobals "zip" = some none)
    {t_DIGITS t_MOST_DIGITS t_MOST_NUMBER : Tok}
    (v_DIGITS : PySem.W.nsIn K mainGlobals "DIGITS" = some (some (.str "0123456789" t_DIGITS)))
    (v_MOST_DIGITS : PySem.W.nsIn K mainGlobals "MOST_DIGITS" = some (some (.int 20 t_MOST_DIGITS)))
    (v_MOST_NUMBER : PySem.W.nsIn K mainGlobals "MOST_NUMBER" = some (some (.int 1000000000 t_MOST_NUMBER)))
    {ac_FORMS nc_FORMS : Addr} {ac_FORMS_0 ac_FORMS_1 ac_FORMS_2 ac_FORMS_3 ac_FORMS_4 ac_FORMS_5 ac_FORMS_6 ac_FORMS_7 ac_FORMS_8 ac_FORMS_9 ac_FORMS_10 ac_FORMS_11 ac_FORMS_12 : Addr} {tk_FORMS_0 tk_FORMS_1 tk_FORMS_2 tk_FORMS_3 tk_FORMS_4 tk_FORMS_5 tk_FORMS_6 tk_FORMS_7 tk_FORMS_8 tk_FORMS_9 tk_FORMS_10 tk_FORMS_11 tk_FORMS_12 : Tok}
    {oc_FORMS_0 oc_FORMS_1 oc_FORMS_2 oc_FORMS_3 oc_FORMS_4 oc_FORMS_5 oc_FORMS_6 oc_FORMS_7 oc_FORMS_8 oc_FORMS_9 oc_FORMS_10 oc_FORMS_11 oc_FORMS_12 : Option Addr} {sc'_FORMS_0 sc'_FORMS_1 sc'_FORMS_2 sc'_FORMS_3 sc'_FORMS_4 sc'_FORMS_5 sc'_FORMS_6 sc'_FORMS_7 sc'_FORMS_8 sc'_FORMS_9 sc'_FORMS_10 sc'_FORMS_11 sc'_FORMS_12 : Array (Option Value)} {nc_FORMS_0 nc_FORMS_1 nc_FORMS_2 nc_FORMS_3 nc_FORMS_4 nc_FORMS_5 nc_FORMS_6 nc_FORMS_7 nc_FORMS_8 nc_FORMS_9 nc_FORMS_10 nc_FORMS_11 nc_FORMS_12 : Nat} {tc_FORMS_0_0 tc_FORMS_0_1 tc_FORMS_1_0 tc_FORMS_1_1 tc_FORMS_2_0 tc_FORMS_2_1 tc_FORMS_3_0 tc_FORMS_3_1 tc_FORMS_4_0 tc_FORMS_4_1 tc_FORMS_4_2 tc_FORMS_5_0 tc_FORMS_5_1 tc_FORMS_5_2 tc_FORMS_6_0 tc_FORMS_6_1 tc_FORMS_6_2 tc_FORMS_6_3 tc_FORMS_6_4 tc_FORMS_6_5 tc_FORMS_6_6 tc_FORMS_7_0 tc_FORMS_7_1 tc_FORMS_7_2 tc_FORMS_7_3 tc_FORMS_7_4 tc_FORMS_7_5 tc_FORMS_8_0 tc_FORMS_8_1 tc_FORMS_8_2 tc_FORMS_9_0 tc_FORMS_11_0 tc_FORMS_11_1 tc_FORMS_12_0 tc_FORMS_12_1 tc_FORMS_12_2 : Tok}
    (v_FORMS : PySem.W.nsIn K mainGlobals "FORMS" = some (some (.ref ac_FORMS)))
    (lc_FORMS : K.lookup ac_FORMS = some ⟨.type "dict", none, .dict #[⟨PyData.keyHash w.params "deposit", .str "deposit" tk_FORMS_0, .ref ac_FORMS_0⟩, ⟨PyData.keyHash w.params "withdraw", .str "withdraw" tk_FORMS_1, .ref ac_FORMS_1⟩, ⟨PyData.keyHash w.params "pledge", .str "pledge" tk_FORMS_2, .ref ac_FORMS_2⟩, ⟨PyData.keyHash w.params "release", .str "release" tk_FORMS_3, .ref ac_FORMS_3⟩, ⟨PyData.keyHash w.params "issue", .str "issue" tk_FORMS_4, .ref ac_FORMS_4⟩, ⟨PyData.keyHash w.params "owe", .str "owe" tk_FORMS_5, .ref ac_FORMS_5⟩, ⟨PyData.keyHash w.params "order", .str "order" tk_FORMS_6, .ref ac_FORMS_6⟩, ⟨PyData.keyHash w.params "stop", .str "stop" tk_FORMS_7, .ref ac_FORMS_7⟩, ⟨PyData.keyHash w.params "cancel", .str "cancel" tk_FORMS_8, .ref ac_FORMS_8⟩, ⟨PyData.keyHash w.params "start", .str "start" tk_FORMS_9, .ref ac_FORMS_9⟩, ⟨PyData.keyHash w.params "settle", .str "settle" tk_FORMS_10, .ref ac_FORMS_10⟩, ⟨PyData.keyHash w.params "dividend", .str "dividend" tk_FORMS_11, .ref ac_FORMS_11⟩, ⟨PyData.keyHash w.params "split", .str "split" tk_FORMS_12, .ref ac_FORMS_12⟩] nc_FORMS, #[]⟩) (s_FORMS : (ac_FORMS == sysModules) = false)
    (lc_FORMS_0 : K.lookup ac_FORMS_0 = some ⟨.type "tuple", oc_FORMS_0, .seq #[.str "word" tc_FORMS_0_0, .str "number" tc_FORMS_0_1] nc_FORMS_0, sc'_FORMS_0⟩)
    (lc_FORMS_1 : K.lookup ac_FORMS_1 = some ⟨.type "tuple", oc_FORMS_1, .seq #[.str "word" tc_FORMS_1_0, .str "number" tc_FORMS_1_1] nc_FORMS_1, sc'_FORMS_1⟩)
    (lc_FORMS_2 : K.lookup ac_FORMS_2 = some ⟨.type "tuple", oc_FORMS_2, .seq #[.str "word" tc_FORMS_2_0, .str "number" tc_FORMS_2_1] nc_FORMS_2, sc'_FORMS_2⟩)
    (lc_FORMS_3 : K.lookup ac_FORMS_3 = some ⟨.type "tuple", oc_FORMS_3, .seq #[.str "word" tc_FORMS_3_0, .str "number" tc_FORMS_3_1] nc_FORMS_3, sc'_FORMS_3⟩)
    (lc_FORMS_4 : K.lookup ac_FORMS_4 = some ⟨.type "tuple", oc_FORMS_4, .seq #[.str "word" tc_FORMS_4_0, .str "word" tc_FORMS_4_1, .str "number" tc_FORMS_4_2] nc_FORMS_4, sc'_FORMS_4⟩)
    (lc_FORMS_5 : K.lookup ac_FORMS_5 = some ⟨.type "tuple", oc_FORMS_5, .seq #[.str "word" tc_FORMS_5_0, .str "word" tc_FORMS_5_1, .str "number" tc_FORMS_5_2] nc_FORMS_5, sc'_FORMS_5⟩)
    (lc_FORMS_6 : K.lookup ac_FORMS_6 = some ⟨.type "tuple", oc_FORMS_6, .seq #[.str "word" tc_FORMS_6_0, .str "word" tc_FORMS_6_1, .str "word" tc_FORMS_6_2, .str "price" tc_FORMS_6_3, .str "number" tc_FORMS_6_4, .str "word" tc_FORMS_6_5, .str "number" tc_FORMS_6_6] nc_FORMS_6, sc'_FORMS_6⟩)
    (lc_FORMS_7 : K.lookup ac_FORMS_7 = some ⟨.type "tuple", oc_FORMS_7, .seq #[.str "word" tc_FORMS_7_0, .str "word" tc_FORMS_7_1, .str "word" tc_FORMS_7_2, .str "number" tc_FORMS_7_3, .str "price" tc_FORMS_7_4, .str "number" tc_FORMS_7_5] nc_FORMS_7, sc'_FORMS_7⟩)
    (lc_FORMS_8 : K.lookup ac_FORMS_8 = some ⟨.type "tuple", oc_FORMS_8, .seq #[.str "word" tc_FORMS_8_0, .str "word" tc_FORMS_8_1, .str "number" tc_FORMS_8_2] nc_FORMS_8, sc'_FORMS_8⟩)
    (lc_FORMS_9 : K.lookup ac_FORMS_9 = some ⟨.type "tuple", oc_FORMS_9, .seq #[.str "word" tc_FORMS_9_0] nc_FORMS_9, sc'_FORMS_9⟩)
    (lc_FORMS_10 : K.lookup ac_FORMS_10 = some ⟨.type "tuple", oc_FORMS_10, .seq #[] nc_FORMS_10, sc'_FORMS_10⟩)
    (lc_FORMS_11 : K.lookup ac_FORMS_11 = some ⟨.type "tuple", oc_FORMS_11, .seq #[.str "word" tc_FORMS_11_0, .str "number" tc_FORMS_11_1] nc_FORMS_11, sc'_FORMS_11⟩)
    (lc_FORMS_12 : K.lookup ac_FORMS_12 = some ⟨.type "tuple", oc_FORMS_12, .seq #[.str "word" tc_FORMS_12_0, .str "number" tc_FORMS_12_1, .str "number" tc_FORMS_12_2] nc_FORMS_12, sc'_FORMS_12⟩)
    (g_BourseError : PySem.W.nsIn K mainGlobals "BourseError" = some (some (.ref c_BourseError)))
    (g_InvalidCommand : PySem.W.nsIn K mainGlobals "InvalidCommand" = some (some (.ref c_InvalidCommand)))
    (x_InvalidCommand : PySem.W.excIn K c_InvalidCommand [.type "ValueError", .type "Exception", .type "BaseException", .type "object"] "ValueError.__new__" = true)
    (k_InvalidCommand : PySem.W.keepIn K (.ref c_InvalidCommand) = true)
    (b_InvalidCommand : PySem.W.subIn K (.ref c_InvalidCommand) (.type "BaseException") = some true)
    (t_InvalidCommand : PySem.W.typeIn K (.ref c_InvalidCommand) = some (.type "type"))
    (d_InvalidCommand : PySem.W.hasDictIn K c_InvalidCommand = true)
    (s_InvalidCommand : PySem.W.subIn K (.ref c_InvalidCommand) (.ref c_InvalidCommand) = some true)
    (eg_InvalidCommand : PySem.W.findIn K (.ref c_InvalidCommand) "__getattribute__" = some (some (.builtin "BaseException.__getattribute__")))
    (ek_InvalidCommand : PySem.W.findIn K (.ref c_InvalidCommand) "__getattr__" = some none)
    (ea_InvalidCommand : PySem.W.findIn K (.ref c_InvalidCommand) "__class__" = some (some (.builtin "object.__class__")))
    (en_InvalidCommand : PySem.W.specialIn K (.builtin "object.__class__") "__get__" = some (some (.builtin "getset_descriptor.__get__")))
    (et_InvalidCommand : PySem.W.takesIn K (.builtin "object.__class__") = some true)
    (em_InvalidCommand : PySem.W.mroIn K c_InvalidCommand (.type "object") = some true)
    (kt_InvalidCommand_BourseError : PySem.W.kitOne K (.ref c_InvalidCommand) (.ref c_BourseError) = some true) :
    ∃ fd : FuncData, (∀ (s : Shared) (v : Value), BindsTo s fd ⟨[v], []⟩ [("script", v)]) ∧ ∀ base : Heap, K.In base → base.Ns mainGlobals mg → FnOk l.prog w K mg base CX0 7 fa fd ["script"] (sp_law K) := by
  have e := hfa.symm.trans (PySem.W.mg_of X G a11)
  cases e
  have F1 := fun_mk (st := s_is_word_of) l1 c1 k1
  have b1 := F1.binds (ps := ["letters", "most", "text"]) fun _ _ _ _ _ _ us hl => match us, hl with | [_, _, _], _ => rfl
  have F2 := fun_mk (st := s_is_digits) l2 c2 k2
  have b2 := F2.binds (ps := ["text"]) fun _ _ _ _ _ _ us hl => match us, hl with | [_], _ => rfl
  have F3 := fun_mk (st := s_read_number) l3 c3 k3
  have b3 := F3.binds (ps := ["text", "least", "most"]) fun _ _ _ _ _ _ us hl => match us, hl with | [_, _, _], _ => rfl
  have F4 := fun_mk (st := s_parse_command) l4 c4 k4
  have b4 := F4.binds (ps := ["line"]) fun _ _ _ _ _ _ us hl => match us, hl with | [_], _ => rfl
  have F5 := fun_mk (st := s_value) l5 c5 k5
  have b5 := F5.binds (ps := ["kind", "word"]) fun _ _ _ _ _ _ us hl => match us, hl with | [_, _], _ => rfl
  have F6 := fun_mk (st := s_law_shapes) l6 c6 k6
  have b6 := F6.binds (ps := []) fun _ _ _ _ _ _ us hl => match us, hl with | [], _ => rfl
  have F7 := fun_mk (st := s_law_value) l7 c7 k7
  have b7 := F7.binds (ps := ["cell", "shape"]) fun _ _ _ _ _ _ us hl => match us, hl with | [_, _], _ => rfl
  have F8 := fun_mk (st := s_law_told) l8 c8 k8
  have b8 := F8.binds (ps := ["value"]) fun _ _ _ _ _ _ us hl => match us, hl with | [_], _ => rfl
  have F9 := fun_mk (st := s_law_raises) l9 c9 k9
  have b9 := F9.binds (ps := ["line"]) fun _ _ _ _ _ _ us hl => match us, hl with | [_], _ => rfl
  have F10 := fun_mk (st := s_law_spoilt) l10 c10 k10
  have b10 := F10.binds (ps := ["words", "shapes", "cell"]) fun _ _ _ _ _ _ us hl => match us, hl with | [_, _, _], _ => rfl
  have F11 := fun_mk (st := s_law) l11 c11 k11
  have b11 := F11.binds (ps := ["script"]) fun _ _ _ _ _ _ us hl => match us, hl with | [_], _ => rfl
  obtain ⟨T, DW⟩ : ∃ T : Txt K mg, DictsOk l.prog w T := ⟨⟨f1, _, F1, PySem.W.mg_of X G a1, b1, f2, _, F2, PySem.W.mg_of X G a2, b2, f3, _, F3, PySem.W.mg_of X G a3, b3, f4, _, F4, PySem.W.mg_of X G a4, b4, f5, _, F5, PySem.W.mg_of X G a5, b5, f6, _, F6, PySem.W.mg_of X G a6, b6, f7, _, F7, PySem.W.mg_of X G a7, b7, f8, _, F8, PySem.W.mg_of X G a8, b8, f9, _, F9, PySem.W.mg_of X G a9, b9, f10, _, F10, PySem.W.mg_of X G a10, b10, c_BourseError, PySem.W.mg_of X G g_BourseError, c_InvalidCommand, PySem.W.mg_of X G g_InvalidCommand, x_InvalidCommand, k_InvalidCommand, b_InvalidCommand, t_InvalidCommand, d_InvalidCommand, s_InvalidCommand, eg_InvalidCommand, ek_InvalidCommand, ea_InvalidCommand, en_InvalidCommand, et_InvalidCommand, em_InvalidCommand, ⟨eg_InvalidCommand, ek_InvalidCommand, b_InvalidCommand, d_InvalidCommand, ea_InvalidCommand, en_InvalidCommand, et_InvalidCommand, em_InvalidCommand⟩, kt_InvalidCommand_BourseError, PySem.W.mg_none_of X G z_all, PySem.W.mg_none_of X G z_int, PySem.W.mg_none_of X G z_isinstance, PySem.W.mg_none_of X G z_len, PySem.W.mg_none_of X G z_range, PySem.W.mg_none_of X G z_str, PySem.W.mg_none_of X G z_zip, t_DIGITS, PySem.W.mg_of X G v_DIGITS, t_MOST_DIGITS, PySem.W.mg_of X G v_MOST_DIGITS, t_MOST_NUMBER, PySem.W.mg_of X G v_MOST_NUMBER, ac_FORMS, PySem.W.mg_of X G v_FORMS, ac_FORMS_0, (fun H => .inr ⟨_, _, _, lc_FORMS_0, rfl, rfl, (show 2 ≤ sizeLine from len_le rfl), .cons ⟨_, rfl⟩ (.cons ⟨_, rfl⟩ (.nil))⟩), ac_FORMS_1, (fun H => .inr ⟨_, _, _, lc_FORMS_1, rfl, rfl, (show 2 ≤ sizeLine from len_le rfl), .cons ⟨_, rfl⟩ (.cons ⟨_, rfl⟩ (.nil))⟩), ac_FORMS_2, (fun H => .inr ⟨_, _, _, lc_FORMS_2, rfl, rfl, (show 2 ≤ sizeLine from len_le rfl), .cons ⟨_, rfl⟩ (.cons ⟨_, rfl⟩ (.nil))⟩), ac_FORMS_3, (fun H => .inr ⟨_, _, _, lc_FORMS_3, rfl, rfl, (show 2 ≤ sizeLine from len_le rfl), .cons ⟨_, rfl⟩ (.cons ⟨_, rfl⟩ (.nil))⟩), ac_FORMS_4, (fun H => .inr ⟨_, _, _, lc_FORMS_4, rfl, rfl, (show 3 ≤ sizeLine from len_le rfl), .cons ⟨_, rfl⟩ (.cons ⟨_, rfl⟩ (.cons ⟨_, rfl⟩ (.nil)))⟩), ac_FORMS_5, (fun H => .inr ⟨_, _, _, lc_FORMS_5, rfl, rfl, (show 3 ≤ sizeLine from len_le rfl), .cons ⟨_, rfl⟩ (.cons ⟨_, rfl⟩ (.cons ⟨_, rfl⟩ (.nil)))⟩), ac_FORMS_6, (fun H => .inr ⟨_, _, _, lc_FORMS_6, rfl, rfl, (show 7 ≤ sizeLine from len_le rfl), .cons ⟨_, rfl⟩ (.cons ⟨_, rfl⟩ (.cons ⟨_, rfl⟩ (.cons ⟨_, rfl⟩ (.cons ⟨_, rfl⟩ (.cons ⟨_, rfl⟩ (.cons ⟨_, rfl⟩ (.nil)))))))⟩), ac_FORMS_7, (fun H => .inr ⟨_, _, _, lc_FORMS_7, rfl, rfl, (show 6 ≤ sizeLine from len_le rfl), .cons ⟨_, rfl⟩ (.cons ⟨_, rfl⟩ (.cons ⟨_, rfl⟩ (.cons ⟨_, rfl⟩ (.cons ⟨_, rfl⟩ (.cons ⟨_, rfl⟩ (.nil))))))⟩), ac_FORMS_8, (fun H => .inr ⟨_, _, _, lc_FORMS_8, rfl, rfl, (show 3 ≤ sizeLine from len_le rfl), .cons ⟨_, rfl⟩ (.cons ⟨_, rfl⟩ (.cons ⟨_, rfl⟩ (.nil)))⟩), ac_FORMS_9, (fun H => .inr ⟨_, _, _, lc_FORMS_9, rfl, rfl, (show 1 ≤ sizeLine from len_le rfl), .cons ⟨_, rfl⟩ (.nil)⟩), ac_FORMS_10, (fun H => .inr ⟨_, _, _, lc_FORMS_10, rfl, rfl, (show 0 ≤ sizeLine from len_le rfl), .nil⟩), ac_FORMS_11, (fun H => .inr ⟨_, _, _, lc_FORMS_11, rfl, rfl, (show 2 ≤ sizeLine from len_le rfl), .cons ⟨_, rfl⟩ (.cons ⟨_, rfl⟩ (.nil))⟩), ac_FORMS_12, (fun H => .inr ⟨_, _, _, lc_FORMS_12, rfl, rfl, (show 3 ≤ sizeLine from len_le rfl), .cons ⟨_, rfl⟩ (.cons ⟨_, rfl⟩ (.cons ⟨_, rfl⟩ (.nil)))⟩)⟩, ⟨kdict_of (kvs := [("deposit", tk_FORMS_0, ac_FORMS_0), ("withdraw", tk_FORMS_1, ac_FORMS_1), ("pledge", tk_FORMS_2, ac_FORMS_2), ("release", tk_FORMS_3, ac_FORMS_3), ("issue", tk_FORMS_4, ac_FORMS_4), ("owe", tk_FORMS_5, ac_FORMS_5), ("order", tk_FORMS_6, ac_FORMS_6), ("stop", tk_FORMS_7, ac_FORMS_7), ("cancel", tk_FORMS_8, ac_FORMS_8), ("start", tk_FORMS_9, ac_FORMS_9), ("settle", tk_FORMS_10, ac_FORMS_10), ("dividend", tk_FORMS_11, ac_FORMS_11), ("split", tk_FORMS_12, ac_FORMS_12)]) lc_FORMS s_FORMS (show (["deposit", "withdraw", "pledge", "release", "issue", "owe", "order", "stop", "cancel", "start", "settle", "dividend", "split"] : List Str).Nodup by decide +kernel)⟩⟩
  exact ⟨PySem.W.fnOf "law" "law" (defArgs s_law) (defBody s_law) (defScope s_law) .none kV11 dc11 pm11 an11 cd11 ct11, fun s v => .of_eq rfl, fun base _ _ => ok_law T F11⟩
end FB
open PySem PySem.W PyProof.Rows
set_option maxRecDepth 100000 in
set_option maxHeartbeats 0 in
theorem PySem.Challenge.cw_fairbourse_k95_command_lines_holds : PySem.Challenge.rw_fairbourse_k95_command_lines.Holds := by
  w_on; o_law; k_head; (case hw => w_witness2)
  k_fill
  refine L2.walk_of (l := PySem.Challenge.rw_fairbourse_k95_command_lines) (n := 63) (k := 7) (x := "script") (CX := fun _ => L2.CX0) (sp := fun w => FB.sp_law _) rfl (by decide) rfl ⟨rfl, by decide, by decide⟩ (fun w h Y => PySem.W.kIn_of Y) ?F (fun _ _ a ns hl _ hS => ⟨a, ns, rfl, hS, hl, fun _ => rfl⟩) (fun _ _ _ _ _ h => h)
  case F =>
    intro w mg fa h KX G hmg
    refine' FB.all_mk KX G hmg ?a1 ?l1 ?c1 ?k1 ?a2 ?l2 ?c2 ?k2 ?a3 ?l3 ?c3 ?k3 ?a4 ?l4 ?c4 ?k4 ?a5 ?l5 ?c5 ?k5 ?a6 ?l6 ?c6 ?k6 ?a7 ?l7 ?c7 ?k7 ?a8 ?l8 ?c8 ?k8 ?a9 ?l9 ?c9 ?k9 ?a10 ?l10 ?c10 ?k10 ?a11 ?l11 ?c11 ?k11 ?z_all ?z_int ?z_isinstance ?z_len ?z_range ?z_str ?z_zip ?v_DIGITS ?v_MOST_DIGITS ?v_MOST_NUMBER ?v_FORMS ?lc_FORMS ?s_FORMS ?lc_FORMS_0 ?lc_FORMS_1 ?lc_FORMS_2 ?lc_FORMS_3 ?lc_FORMS_4 ?lc_FORMS_5 ?lc_FORMS_6 ?lc_FORMS_7 ?lc_FORMS_8 ?lc_FORMS_9 ?lc_FORMS_10 ?lc_FORMS_11 ?lc_FORMS_12 ?g_BourseError ?g_InvalidCommand ?x_InvalidCommand ?k_InvalidCommand ?b_InvalidCommand ?t_InvalidCommand ?d_InvalidCommand ?s_InvalidCommand ?eg_InvalidCommand ?ek_InvalidCommand ?ea_InvalidCommand ?en_InvalidCommand ?et_InvalidCommand ?em_InvalidCommand ?kt_InvalidCommand_BourseError
    (case g_BourseError => k_is)
    (case g_InvalidCommand => k_is)
    (case a1 => k_is)
    (case l1 => k_is)
    (case c1 => k_is)
    (case k1 => k_is)
    (case a2 => k_is)
    (case l2 => k_is)
    (case c2 => k_is)
    (case k2 => k_is)
    (case a3 => k_is)
    (case l3 => k_is)
    (case c3 => k_is)
    (case k3 => k_is)
    (case a4 => k_is)
    (case l4 => k_is)
    (case c4 => k_is)
    (case k4 => k_is)
    (case a5 => k_is)
    (case l5 => k_is)
    (case c5 => k_is)
    (case k5 => k_is)
    (case a6 => k_is)
    (case l6 => k_is)
    (case c6 => k_is)
    (case k6 => k_is)
    (case a7 => k_is)
    (case l7 => k_is)
    (case c7 => k_is)
    (case k7 => k_is)
    (case a8 => k_is)
    (case l8 => k_is)
    (case c8 => k_is)
    (case k8 => k_is)
    (case a9 => k_is)
    (case l9 => k_is)
    (case c9 => k_is)
    (case k9 => k_is)
    (case a10 => k_is)
    (case l10 => k_is)
    (case c10 => k_is)
    (case k10 => k_is)
    (case a11 => k_is)
    (case l11 => k_is)
    (case c11 => k_is)
    (case k11 => k_is)
    (case z_all => k_is)
    (case z_int => k_is)
    (case z_isinstance => k_is)
    (case z_len => k_is)
    (case z_range => k_is)
    (case z_str => k_is)
    (case z_zip => k_is)
    (case v_DIGITS => k_is)
    (case v_MOST_DIGITS => k_is)
    (case v_MOST_NUMBER => k_is)
    (case v_FORMS => k_is)
    (case lc_FORMS => k_is)
    (case s_FORMS => first | rfl | decide)
    (case lc_FORMS_0 => k_is)
    (case lc_FORMS_1 => k_is)
    (case lc_FORMS_2 => k_is)
    (case lc_FORMS_3 => k_is)
    (case lc_FORMS_4 => k_is)
    (case lc_FORMS_5 => k_is)
    (case lc_FORMS_6 => k_is)
    (case lc_FORMS_7 => k_is)
    (case lc_FORMS_8 => k_is)
    (case lc_FORMS_9 => k_is)
    (case lc_FORMS_10 => k_is)
    (case lc_FORMS_11 => k_is)
    (case lc_FORMS_12 => k_is)
    (case x_InvalidCommand => k_exc)
    (case k_InvalidCommand => k_is)
    (case b_InvalidCommand => k_is)
    (case t_InvalidCommand => k_is)
    (case d_InvalidCommand => k_is)
    (case s_InvalidCommand => first | rfl | k_is)
    (case eg_InvalidCommand => k_is)
    (case ek_InvalidCommand => k_is)
    (case ea_InvalidCommand => k_is)
    (case en_InvalidCommand => k_is)
    (case et_InvalidCommand => k_is)
    (case em_InvalidCommand => k_is)
    (case kt_InvalidCommand_BourseError => kit_is)
