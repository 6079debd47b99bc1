import PyProof.Rows.All
import Wide.All
import OpenK.AllK
import Wide.FinOn
import HandS.ForMost
import HandS.ForExc
import HandS.Defaults
import HandS.IsInst
import HandS.Wide
import HandS.ReplaceList
import HandS.ReplaceLit
import HandS.StrMore
import HandS.FStr
import HandS.ExcIs
import HandS.Walk
import HandS.Codes
import PySem.Challenge.RW_fairbourse_k16_written_amounts
set_option Elab.async false
set_option linter.all false
set_option maxRecDepth 100000
namespace FB
open PySem PySem.Spec PyProof.Rows L2
def topS (i : Nat) : Stmt := PySem.Challenge.pw_fairbourse_k16_written_amounts.main.body.getD i (.Pass ⟨0, 0, 0, 0⟩)
abbrev s_is_word_of : Stmt := topS 7
abbrev N_is_word_of : List Str := ["letters", "most", "text", "letter"]
theorem sc_is_word_of : FnScope N_is_word_of ["letters", "most", "text"] (defScope s_is_word_of) := ⟨rfl, rfl, rfl, by decide +kernel, rfl, by decide +kernel, by decide +kernel⟩
abbrev s_is_digits : Stmt := topS 8
abbrev N_is_digits : List Str := ["text"]
theorem sc_is_digits : FnScope N_is_digits ["text"] (defScope s_is_digits) := ⟨rfl, rfl, rfl, by decide +kernel, rfl, by decide +kernel, by decide +kernel⟩
abbrev s_format_cents : Stmt := topS 11
abbrev N_format_cents : List Str := ["cents", "sign", "whole", "rest"]
theorem sc_format_cents : FnScope N_format_cents ["cents"] (defScope s_format_cents) := ⟨rfl, rfl, rfl, by decide +kernel, rfl, by decide +kernel, by decide +kernel⟩
abbrev s_parse_cents : Stmt := topS 12
abbrev N_parse_cents : List Str := ["text", "digits", "cents"]
theorem sc_parse_cents : FnScope N_parse_cents ["text"] (defScope s_parse_cents) := ⟨rfl, rfl, rfl, by decide +kernel, rfl, by decide +kernel, by decide +kernel⟩
abbrev s_law_cell : Stmt := topS 14
abbrev N_law_cell : List Str := ["script", "k"]
theorem sc_law_cell : FnScope N_law_cell ["script", "k"] (defScope s_law_cell) := ⟨rfl, rfl, rfl, by decide +kernel, rfl, by decide +kernel, by decide +kernel⟩
abbrev s_law_draws : Stmt := topS 15
abbrev N_law_draws : List Str := ["cell", "count", "size", "draws", "rest", "k"]
theorem sc_law_draws : FnScope N_law_draws ["cell", "count", "size"] (defScope s_law_draws) := ⟨rfl, rfl, rfl, by decide +kernel, rfl, by decide +kernel, by decide +kernel⟩
abbrev s_law_due : Stmt := topS 16
abbrev N_law_due : List Str := ["cents", "size", "text"]
theorem sc_law_due : FnScope N_law_due ["cents"] (defScope s_law_due) := ⟨rfl, rfl, rfl, by decide +kernel, rfl, by decide +kernel, by decide +kernel⟩
abbrev s_law_value : Stmt := topS 17
abbrev N_law_value : List Str := ["text", "body", "digits", "sign", "cents"]
theorem sc_law_value : FnScope N_law_value ["text"] (defScope s_law_value) := ⟨rfl, rfl, rfl, by decide +kernel, rfl, by decide +kernel, by decide +kernel⟩
abbrev s_law_reads : Stmt := topS 18
abbrev N_law_reads : List Str := ["text", "due", "actual", "error"]
theorem sc_law_reads : FnScope N_law_reads ["text"] (defScope s_law_reads) := ⟨rfl, rfl, rfl, by decide +kernel, rfl, by decide +kernel, by decide +kernel⟩
abbrev s_law : Stmt := topS 19
abbrev N_law : List Str := ["script", "cents", "text", "signs", "drawn", "k", "at", "sign"]
theorem sc_law : FnScope N_law ["script"] (defScope s_law) := ⟨rfl, rfl, rfl, by decide +kernel, rfl, by decide +kernel, by decide +kernel⟩
structure Txt (K : PySem.W.Frag) (mg : Str → Option Value) where
  f_is_word_of : Addr
  d_is_word_of : FuncData
  F_is_word_of : Fun K "is_word_of" "is_word_of" s_is_word_of f_is_word_of d_is_word_of
  m_is_word_of : mg "is_word_of" = some (.ref f_is_word_of)
  b_is_word_of : Binds K d_is_word_of ["letters", "most", "text"] []
  f_is_digits : Addr
  d_is_digits : FuncData
  F_is_digits : Fun K "is_digits" "is_digits" s_is_digits f_is_digits d_is_digits
  m_is_digits : mg "is_digits" = some (.ref f_is_digits)
  b_is_digits : Binds K d_is_digits ["text"] []
  f_format_cents : Addr
  d_format_cents : FuncData
  F_format_cents : Fun K "format_cents" "format_cents" s_format_cents f_format_cents d_format_cents
  m_format_cents : mg "format_cents" = some (.ref f_format_cents)
  b_format_cents : Binds K d_format_cents ["cents"] []
  f_parse_cents : Addr
  d_parse_cents : FuncData
  F_parse_cents : Fun K "parse_cents" "parse_cents" s_parse_cents f_parse_cents d_parse_cents
  m_parse_cents : mg "parse_cents" = some (.ref f_parse_cents)
  b_parse_cents : Binds K d_parse_cents ["text"] []
  f_law_cell : Addr
  d_law_cell : FuncData
  F_law_cell : Fun K "_law_cell" "_law_cell" s_law_cell f_law_cell d_law_cell
  m_law_cell : mg "_law_cell" = some (.ref f_law_cell)
  b_law_cell : Binds K d_law_cell ["script", "k"] []
  f_law_draws : Addr
  d_law_draws : FuncData
  F_law_draws : Fun K "_law_draws" "_law_draws" s_law_draws f_law_draws d_law_draws
  m_law_draws : mg "_law_draws" = some (.ref f_law_draws)
  b_law_draws : Binds K d_law_draws ["cell", "count", "size"] []
  f_law_due : Addr
  d_law_due : FuncData
  F_law_due : Fun K "_law_due" "_law_due" s_law_due f_law_due d_law_due
  m_law_due : mg "_law_due" = some (.ref f_law_due)
  b_law_due : Binds K d_law_due ["cents"] []
  f_law_value : Addr
  d_law_value : FuncData
  F_law_value : Fun K "_law_value" "_law_value" s_law_value f_law_value d_law_value
  m_law_value : mg "_law_value" = some (.ref f_law_value)
  b_law_value : Binds K d_law_value ["text"] []
  f_law_reads : Addr
  d_law_reads : FuncData
  F_law_reads : Fun K "_law_reads" "_law_reads" s_law_reads f_law_reads d_law_reads
  m_law_reads : mg "_law_reads" = some (.ref f_law_reads)
  b_law_reads : Binds K d_law_reads ["text"] []
  c_BourseError : Addr
  m_BourseError : mg "BourseError" = some (.ref c_BourseError)
  c_InvalidAmount : Addr
  m_InvalidAmount : mg "InvalidAmount" = some (.ref c_InvalidAmount)
  x_InvalidAmount : PySem.W.excIn K c_InvalidAmount [.type "ValueError", .type "Exception", .type "BaseException", .type "object"] "ValueError.__new__" = true
  k_InvalidAmount : PySem.W.keepIn K (.ref c_InvalidAmount) = true
  b_InvalidAmount : PySem.W.subIn K (.ref c_InvalidAmount) (.type "BaseException") = some true
  t_InvalidAmount : PySem.W.typeIn K (.ref c_InvalidAmount) = some (.type "type")
  d_InvalidAmount : PySem.W.hasDictIn K c_InvalidAmount = true
  s_InvalidAmount : PySem.W.subIn K (.ref c_InvalidAmount) (.ref c_InvalidAmount) = some true
  eg_InvalidAmount : PySem.W.findIn K (.ref c_InvalidAmount) "__getattribute__" = some (some (.builtin "BaseException.__getattribute__"))
  ek_InvalidAmount : PySem.W.findIn K (.ref c_InvalidAmount) "__getattr__" = some none
  ea_InvalidAmount : PySem.W.findIn K (.ref c_InvalidAmount) "__class__" = some (some (.builtin "object.__class__"))
  en_InvalidAmount : PySem.W.specialIn K (.builtin "object.__class__") "__get__" = some (some (.builtin "getset_descriptor.__get__"))
  et_InvalidAmount : PySem.W.takesIn K (.builtin "object.__class__") = some true
  em_InvalidAmount : PySem.W.mroIn K c_InvalidAmount (.type "object") = some true
  e_InvalidAmount : ExcC K c_InvalidAmount
  c_InvalidWeights : Addr
  m_InvalidWeights : mg "InvalidWeights" = some (.ref c_InvalidWeights)
  kt_InvalidAmount_BourseError : PySem.W.kitOne K (.ref c_InvalidAmount) (.ref c_BourseError) = some true
  kt_InvalidAmount_InvalidWeights : PySem.W.kitOne K (.ref c_InvalidAmount) (.ref c_InvalidWeights) = some false
  z_abs : mg "abs" = none
  z_all : mg "all" = none
  z_bool : mg "bool" = none
  z_divmod : mg "divmod" = none
  z_int : mg "int" = none
  z_isinstance : mg "isinstance" = none
  z_len : mg "len" = none
  z_range : mg "range" = none
  z_str : mg "str" = none
  t_DIGITS : Tok
  m_DIGITS : mg "DIGITS" = some (.str "0123456789" t_DIGITS)
  t_MOST_DIGITS : Tok
  m_MOST_DIGITS : mg "MOST_DIGITS" = some (.int 20 t_MOST_DIGITS)
  t_MOST_WRITTEN : Tok
  m_MOST_WRITTEN : mg "MOST_WRITTEN" = some (.int 1000000000000 t_MOST_WRITTEN)
/-! own short words -/
theorem iteD {p A B : Prop} [Decidable p] (h1 : p → A) (h2 : ¬ p → B) : if decide p = true then A else B := by
  by_cases h : p
  · rw [decide_eq_true h, if_pos rfl]; exact h1 h
  · rw [decide_eq_false h, if_neg Bool.false_ne_true]; exact h2 h
theorem iteDN {p A B : Prop} [Decidable p] (h1 : ¬ p → A) (h2 : p → B) : if (!decide p) = true then A else B := by
  by_cases h : p
  · rw [decide_eq_true h]; exact iteF (h2 h)
  · rw [decide_eq_false h]; exact iteT (h1 h)
theorem len_le {n : Nat} (h : Nat.ble n 1000 = true) : n ≤ sizeLine := Nat.le_trans (Nat.le_of_ble_eq_true h) (by decide)
theorem iteB {b : Bool} {A B : Prop} (h1 : b = true → A) (h2 : b = false → B) : if b = true then A else B := by
  cases b with
  | true => exact iteT (h1 rfl)
  | false => exact iteF (h2 rfl)
theorem cmul_l {i j : Int} (h : -(2 ^ 64) < i) (h' : i < 2 ^ 64) : CMul i j := .inl ⟨h, h'⟩
theorem cmul_r {i j : Int} (h : -(2 ^ 64) < j) (h' : j < 2 ^ 64) : CMul i j := .inr ⟨h, h'⟩
theorem dec_t {p : Prop} [Decidable p] (h : decide p = true) : p := of_decide_eq_true h
theorem dec_f {p : Prop} [Decidable p] (h : decide p = false) : ¬ p := of_decide_eq_false h
theorem ndec_t {p : Prop} [Decidable p] (h : (!decide p) = true) : ¬ p := fun q => by rw [decide_eq_true q] at h; cases h
theorem ndec_f {p : Prop} [Decidable p] (h : (!decide p) = false) : p := by
  by_cases q : p
  · exact q
  · rw [decide_eq_false q] at h; cases h
theorem len0 : ([] : List V).length ≤ sizeLine := len_le rfl
theorem len1 {a : V} : [a].length ≤ sizeLine := len_le rfl
theorem len2 {a b : V} : [a, b].length ≤ sizeLine := len_le rfl
theorem len3 {a b c : V} : [a, b, c].length ≤ sizeLine := len_le rfl
theorem len4 {a b c d : V} : [a, b, c, d].length ≤ sizeLine := len_le rfl
theorem len5 {a b c d e : V} : [a, b, c, d, e].length ≤ sizeLine := len_le rfl
local macro_rules | `(tactic| walk_at "st") => `(tactic| repeat (first
  | (apply Exists.intro (α := V))
  | (apply Exists.intro (α := Int))
  | (apply Exists.intro (α := Bool))
  | (apply Exists.intro (α := Addr))
  | (apply Exists.intro (α := List V))
  | (apply Exists.intro (α := List Int))
  | (apply Exists.intro (α := List (Str × V)))
  | (apply Exists.intro (α := Str))
  | (apply And.intro; focus (first | omega | (dsimp only; omega) | (simp only [List.length_map, List.length_replicate]; omega) | exact rfl | assumption | exact SqL.of (by assumption) | exact Or.inl (by assumption) | exact Or.inr (by assumption) | exact Or.inr (SqT.of (by assumption)) | exact Or.inl (Or.inl upd_same) | exact Or.inl (Or.inl (Or.inl upd_same)) | (with_reducible exact len0) | (with_reducible exact len1) | (with_reducible exact len2) | (with_reducible exact len3) | (with_reducible exact len4) | (with_reducible exact len5) | exact upd_same | exact ⟨_, Or.inl (Or.inl upd_same)⟩ | exact ⟨_, SqL.of (by assumption)⟩ | exact ⟨_, by assumption⟩ | exact Or.inl ⟨rfl, _, SqL.of (by assumption)⟩ | exact Or.inl ⟨rfl, _, SqL.of upd_same⟩ | exact cmul_l (by omega) (by omega) | exact cmul_r (by omega) (by omega) | exact ⟨by omega, by omega⟩ | (simp only [List.length_map, List.length_replicate]; omega) | exact Or.inl (SqL.of (by assumption)) | exact SqT.of (by assumption)))))
/-- the script's cell at j, 0 where there is none -/
def cellOf (ns : List Int) (j : Nat) : Int := ns.getD j 0
theorem atI_ints {ns : List Int} {j : Nat} (h : j < ns.length) : atI (ns.map V.int) (j : Int) = some (.int (cellOf ns j)) := by
  refine at_of (j := j) rfl ?_
  rw [List.getElem?_map, List.getElem?_eq_getElem h]
  unfold cellOf
  rw [List.getD_eq_getElem?_getD, List.getElem?_eq_getElem h]
  rfl
theorem cellOf_out {ns : List Int} {j : Nat} (h : ¬ j < ns.length) : cellOf ns j = 0 := by
  unfold cellOf
  rw [List.getD_eq_getElem?_getD, List.getElem?_eq_none (by omega)]
  rfl
theorem same_upd {H : Hp} {p : Addr} {o : HO} (h : H p = none) : Same H (upd H p o) := fun b x e => by
  rw [upd_ne (ne_of_none e h)]
  exact e
/-- a slice of a list of ints -/
def cutI (ns : List Int) (lo hi : Option Int) : List Int := (ns.drop (HT.sIx ns.length 0 lo)).take (HT.sIx ns.length ns.length hi - HT.sIx ns.length 0 lo)
theorem cutV_ints (ns : List Int) (lo hi : Option Int) : cutV (ns.map V.int) lo hi = (cutI ns lo hi).map V.int := by
  unfold cutV cutI
  rw [List.length_map, List.map_take, List.map_drop]
theorem cutI_len (ns : List Int) (lo hi : Option Int) : (cutI ns lo hi).length ≤ ns.length := by
  unfold cutI
  rw [List.length_take, List.length_drop]
  omega
theorem ints_at {ns : List Int} {i : Nat} {x : V} (h : (ns.map V.int)[i]? = some x) : ∃ z, ns[i]? = some z ∧ x = V.int z := by
  rw [List.getElem?_map] at h
  cases e : ns[i]? with
  | none => rw [e] at h; cases h
  | some z => rw [e] at h; exact ⟨z, rfl, (Option.some.inj h).symm⟩
theorem take_succ {α : Type} {xs : List α} {i : Nat} {x : α} (h : xs[i]? = some x) : xs.take (i + 1) = xs.take i ++ [x] := by
  rw [List.take_add_one, h]
  rfl
theorem sum_le_mul : ∀ (ws : List Int) (b : Int), (∀ w, w ∈ ws → w ≤ b) → ws.sum ≤ (ws.length : Int) * b
  | [], b, _ => by show (0 : Int) ≤ ((0 : Nat) : Int) * b; omega
  | w :: ws, b, h => by
    rw [List.sum_cons, List.length_cons, Int.natCast_add, Int.add_mul]
    have h1 := h w List.mem_cons_self
    have h2 := sum_le_mul ws b fun x hx => h x (List.mem_cons_of_mem _ hx)
    omega
theorem ixN_nat {n j : Nat} (h : j < n) : ixN n (j : Int) = some j := by
  unfold ixN
  rw [if_pos (by omega), if_pos (by omega), Int.toNat_natCast]
theorem call_int_i {X : Cx} : CallR X (.type "int") (fun xs H Q => ∃ i : Int, xs = [.int i] ∧ Q (.int i) H) := by
  intro pins s σ H xs us Q I r h
  obtain ⟨i, e, q⟩ := h
  exact call_int1 pins s σ H xs us Q I r (.inl ⟨i, e, q⟩)
theorem dpAll_ints {K : PySem.W.Frag} {H : Hp} : ∀ xs : List Int, DpAll K H (xs.map V.int) (xs.map PyData.int)
  | [] => .nil
  | x :: xs => .cons (.int x) (dpAll_ints xs)
theorem eqvAll_ints : ∀ xs ys : List Int, PyData.eqvAll (xs.map PyData.int) (ys.map PyData.int) = decide (xs = ys)
  | [], [] => by simp [PyData.eqvAll]
  | [], _ :: _ => by simp [PyData.eqvAll]
  | _ :: _, [] => by simp [PyData.eqvAll]
  | x :: xs, y :: ys => by
    rw [List.map_cons, List.map_cons]
    simp only [PyData.eqvAll, PyData.eqv]
    rw [eqvAll_ints xs ys]
    by_cases h : x = y <;> by_cases h2 : xs = ys <;> simp [h, h2]
theorem lay_ints : ∀ xs : List Int, PyData.canLayAll0 (xs.map PyData.int) = true
  | [] => rfl
  | x :: xs => by
    rw [List.map_cons]
    simp only [PyData.canLayAll0, PyData.canLay0, Bool.true_and]
    exact lay_ints xs
theorem depth_ints : ∀ xs : List Int, PyData.depthAll (xs.map PyData.int) = 0
  | [] => rfl
  | x :: xs => by
    rw [List.map_cons]
    simp only [PyData.depthAll, PyData.depth, depth_ints xs]
    rfl
theorem shaped_ints (xs : List Int) : SeqAt.shaped (.list (xs.map PyData.int)) = true := by
  unfold SeqAt.shaped
  simp only [PyData.canLay0, PyData.depth, lay_ints, depth_ints]
  rfl
theorem eqD_ints {K : PySem.W.Frag} {H : Hp} {a b : Addr} {xs ys : List Int} {Q : VK} (h1 : SqL K H a (xs.map V.int)) (h2 : SqL K H b (ys.map V.int)) (q : Q (.bl (decide (xs = ys))) H) : rEqD K (.ref a) (.ref b) H Q :=
  ⟨_, _, .lst h1 (dpAll_ints xs), .lst h2 (dpAll_ints ys), shaped_ints xs, shaped_ints ys, by rw [show PyData.eqv (.list (xs.map PyData.int)) (.list (ys.map PyData.int)) = decide (xs = ys) by simp only [PyData.eqv, eqvAll_ints]]; exact q⟩
theorem neD_ints {K : PySem.W.Frag} {H : Hp} {a b : Addr} {xs ys : List Int} {Q : VK} (h1 : SqL K H a (xs.map V.int)) (h2 : SqL K H b (ys.map V.int)) (q : Q (.bl (!decide (xs = ys))) H) : rNeD K (.ref a) (.ref b) H Q :=
  ⟨_, _, .lst h1 (dpAll_ints xs), .lst h2 (dpAll_ints ys), shaped_ints xs, shaped_ints ys, by rw [show PyData.eqv (.list (xs.map PyData.int)) (.list (ys.map PyData.int)) = decide (xs = ys) by simp only [PyData.eqv, eqvAll_ints]]; exact q⟩

/-! ### the mathematics of written amounts, over lists of codes -/
def fmtN (q r : Nat) : List Nat := TL.numL q ++ [46, 48 + r / 10, 48 + r % 10]
/-- the written form -/
def fmtL (c : Int) : List Nat := (if c < 0 then [45] else []) ++ fmtN (c.natAbs / 100) (c.natAbs % 100)
/-- a text without its first minus sign -/
def dm (l : List Nat) : List Nat := if l.take 1 = [45] then l.drop 1 else l
/-- its signs but the points -/
def bare (l : List Nat) : List Nat := (dm l).filter (fun c => decide (c ≠ 46))
def valL (l : List Nat) : Int := if l.take 1 = [45] then -(NumText.digitsVal (bare l) : Int) else (NumText.digitsVal (bare l) : Int)
/-- the written amounts within the limit -/
def Written (l : List Nat) (c : Int) : Prop := fmtL c = l ∧ c.natAbs ≤ 1000000000000
theorem numL_head (q : Nat) : ∃ d t, TL.numL q = d :: t ∧ 48 ≤ d ∧ d ≤ 57 := by
  have h := TL.numL_digits q
  have n := TL.numL_ne q
  cases e : TL.numL q with
  | nil => exact absurd e n
  | cons d t =>
    rw [e] at h
    exact ⟨d, t, rfl, h.head.1, h.head.2⟩
theorem fmtL_neg {c : Int} (h : c < 0) : fmtL c = 45 :: fmtN (c.natAbs / 100) (c.natAbs % 100) := by
  unfold fmtL
  rw [if_pos h] <;> rfl
theorem fmtL_pos {c : Int} (h : ¬ c < 0) : fmtL c = fmtN (c.natAbs / 100) (c.natAbs % 100) := by
  unfold fmtL
  rw [if_neg h] <;> rfl
theorem fmtN_head (q r : Nat) : ¬ (fmtN q r).take 1 = [45] := by
  obtain ⟨d, t, e, h1, h2⟩ := numL_head q
  unfold fmtN
  rw [e]
  simp
  omega
theorem minus_fmtL (c : Int) : ((fmtL c).take 1 = [45]) ↔ c < 0 := by
  by_cases h : c < 0
  · rw [fmtL_neg h]
    simp [h]
  · rw [fmtL_pos h]
    exact ⟨fun e => absurd e (fmtN_head _ _), fun e => absurd e h⟩
theorem dm_fmtL (c : Int) : dm (fmtL c) = fmtN (c.natAbs / 100) (c.natAbs % 100) := by
  unfold dm
  by_cases h : c < 0
  · rw [if_pos ((minus_fmtL c).mpr h), fmtL_neg h] <;> rfl
  · rw [if_neg fun e => h ((minus_fmtL c).mp e), fmtL_pos h]
theorem bare_num {q : Nat} : (TL.numL q).filter (fun c => decide (c ≠ 46)) = TL.numL q := by
  refine List.filter_eq_self.mpr fun c hc => ?_
  have := TL.numL_digits q c hc
  exact decide_eq_true (by omega)
theorem bare_fmtN {q r : Nat} (hr : r < 100) : (fmtN q r).filter (fun c => decide (c ≠ 46)) = TL.numL q ++ [48 + r / 10, 48 + r % 10] := by
  unfold fmtN
  rw [List.filter_append, bare_num]
  congr 1
  have h1 : decide (48 + r / 10 ≠ 46) = true := decide_eq_true (by omega)
  have h2 : decide (48 + r % 10 ≠ 46) = true := decide_eq_true (by omega)
  rw [List.filter_cons, if_neg (by decide), List.filter_cons, if_pos h1, List.filter_cons, if_pos h2, List.filter_nil]
theorem bare_fmtL (c : Int) : bare (fmtL c) = TL.numL (c.natAbs / 100) ++ [48 + c.natAbs % 100 / 10, 48 + c.natAbs % 100 % 10] := by
  unfold bare
  rw [dm_fmtL, bare_fmtN (Nat.mod_lt _ (by decide))]
theorem digitsVal_append (l m : List Nat) : NumText.digitsVal (l ++ m) = m.foldl (fun acc c => acc * 10 + (c - 48)) (NumText.digitsVal l) := by
  unfold NumText.digitsVal
  rw [List.foldl_append]
theorem val_bare (c : Int) : NumText.digitsVal (bare (fmtL c)) = c.natAbs := by
  rw [bare_fmtL, digitsVal_append, TL.numL_val]
  simp only [List.foldl_cons, List.foldl_nil]
  omega
theorem valL_fmtL (c : Int) : valL (fmtL c) = c := by
  unfold valL
  rw [val_bare]
  by_cases h : c < 0
  · rw [if_pos ((minus_fmtL c).mpr h)]
    omega
  · rw [if_neg fun e => h ((minus_fmtL c).mp e)]
    omega
theorem fmtL_inj {a b : Int} (h : fmtL a = fmtL b) : a = b := by
  rw [← valL_fmtL a, h, valL_fmtL]
theorem digits_append {l m : List Nat} (h1 : NumText.AllDigits l) (h2 : NumText.AllDigits m) : NumText.AllDigits (l ++ m) := fun c hc => (List.mem_append.mp hc).elim (h1 c) (h2 c)
theorem digits_two {r : Nat} (hr : r < 100) : NumText.AllDigits [48 + r / 10, 48 + r % 10] := by
  intro c hc
  rcases List.mem_cons.mp hc with e | hc
  · omega
  · rw [List.mem_singleton.mp hc]
    omega
theorem bare_digits (c : Int) : NumText.AllDigits (bare (fmtL c)) := by
  rw [bare_fmtL]
  exact digits_append (TL.numL_digits _) (digits_two (Nat.mod_lt _ (by decide)))
theorem bare_len {c : Int} (h : c.natAbs ≤ 1000000000000) : 1 ≤ (bare (fmtL c)).length ∧ (bare (fmtL c)).length ≤ 20 := by
  rw [bare_fmtL, List.length_append]
  have := TL.numL_len (n := c.natAbs / 100) (k := 18) (by decide) (by omega)
  simp only [List.length_cons, List.length_nil]
  omega
theorem fmtL_len {c : Int} (h : c.natAbs < 10 ^ 60) : (fmtL c).length ≤ 70 := by
  have := TL.numL_len (n := c.natAbs / 100) (k := 60) (by decide) (by omega)
  unfold fmtL fmtN
  rw [List.length_append, List.length_append]
  split <;> (simp only [List.length_cons, List.length_nil]; omega)
theorem val_lt : ∀ (l : List Nat), NumText.AllDigits l → NumText.digitsVal l < 10 ^ l.length := by
  intro l
  suffices H : ∀ (l : List Nat) (a : Nat), NumText.AllDigits l → l.foldl (fun acc c => acc * 10 + (c - 48)) a < (a + 1) * 10 ^ l.length by
    intro h
    have := H l 0 h
    unfold NumText.digitsVal
    omega
  intro l
  induction l with
  | nil => intro a _; simp
  | cons c r ih =>
    intro a h
    have hc := h.head
    rw [List.foldl_cons, List.length_cons, Nat.pow_succ]
    have h1 := ih (a * 10 + (c - 48)) h.tail
    have h2 : (a * 10 + (c - 48) + 1) ≤ (a + 1) * 10 := by omega
    have h3 := Nat.mul_le_mul_right (10 ^ r.length) h2
    have h4 : (a + 1) * 10 * 10 ^ r.length = (a + 1) * (10 ^ r.length * 10) := by rw [Nat.mul_assoc, Nat.mul_comm 10]
    omega
/-- the law's own reading: the body's form -/
def formed (l : List Nat) : Prop := 4 ≤ (dm l).length ∧ (dm l)[(dm l).length - 3]? = some 46
def cut3 (b : List Nat) : List Nat := b.take (b.length - 3) ++ b.drop (b.length - 2)
theorem formed_fmtL (c : Int) : formed (fmtL c) := by
  unfold formed
  rw [dm_fmtL]
  obtain ⟨d, t, e, _, _⟩ := numL_head (c.natAbs / 100)
  unfold fmtN
  rw [e]
  refine ⟨by simp, ?_⟩
  rw [List.getElem?_append_right (by simp)]
  simp
theorem cut3_fmtL (c : Int) : cut3 (dm (fmtL c)) = bare (fmtL c) := by
  rw [bare_fmtL, dm_fmtL]
  unfold cut3 fmtN
  rw [List.take_append_of_le_length (by simp), List.take_of_length_le (by simp), List.drop_append]
  simp only [List.length_append, List.length_cons, List.length_nil]
  rw [List.drop_of_length_le (by omega), show (TL.numL (c.natAbs / 100)).length + (0 + 1 + 1 + 1) - 2 - (TL.numL (c.natAbs / 100)).length = 1 by omega]
  rfl

/-! ### the texts' own functions, on lists of codes -/
theorem tl_removeprefix (x : Str) : TL.tl (Txt.removeprefix x "-") = dm (TL.tl x) := by
  unfold Txt.removeprefix dm
  have e : Builtin.Str.subAt x "-" 0 = ((TL.tl x).take 1 == [45]) := by
    rw [PySem.StrLaws.subAt_eq, List.drop_zero] <;> rfl
  rw [e]
  by_cases h : (TL.tl x).take 1 = [45]
  · rw [if_pos (beq_iff_eq.mpr h), if_pos h]
    unfold Txt.affix
    have hl : x.length = (TL.tl x).length := TL.len_tl x
    have h0 : 1 ≤ x.length := by
      have := congrArg List.length h
      rw [List.length_take] at this
      simp only [List.length_cons, List.length_nil] at this
      omega
    have ey : ("-" : Str).length = 1 := rfl
    rw [ey]
    show TL.tl (if (x.length - 1 == x.length) = true then x else Builtin.Str.strSub x 1 x.length) = _
    rw [if_neg (by simp; omega)]
    have := PySem.StrLaws.strSub_toList x 1 x.length
    rw [show TL.tl (Builtin.Str.strSub x 1 x.length) = (Builtin.Str.strSub x 1 x.length).cps.toList from rfl, this]
    exact List.take_of_length_le (by rw [List.length_drop]; have hl2 : x.cps.toList.length = x.length := hl.symm; omega)
  · rw [if_neg (by simpa using h), if_neg h]
    rfl
theorem repl_filter : ∀ l : List Nat, PySem.StrLaws.replL [46] [] l = l.filter (fun c => decide (c ≠ 46))
  | [] => PySem.StrLaws.replL_nil
  | c :: r => by
    by_cases h : c = 46
    · subst h
      rw [PySem.StrLaws.replL_hit (by simp) (by simp), List.filter_cons, if_neg (by decide)]
      exact repl_filter r
    · rw [PySem.StrLaws.replL_miss (by simpa using h), List.filter_cons, if_pos (decide_eq_true h), repl_filter r]
theorem tl_replace (x : Str) : TL.tl (Txt.replace x "." "") = (TL.tl x).filter (fun c => decide (c ≠ 46)) := by
  have e := PySem.StrLaws.replace_list (x := x) (y := ".") (z := "") (by decide)
  show (Txt.replace x "." "").cps.toList = _
  rw [e]
  exact repl_filter _
theorem tl_bare (x : Str) : TL.tl (Txt.replace (Txt.removeprefix x "-") "." "") = bare (TL.tl x) := by
  rw [tl_replace, tl_removeprefix] <;> rfl
theorem startswith_minus (x : Str) : Txt.startswith x "-" = decide ((TL.tl x).take 1 = [45]) := by
  unfold Txt.startswith
  rw [PySem.StrLaws.subAt_eq, List.drop_zero]
  have hl : x.length = (TL.tl x).length := TL.len_tl x
  show (decide (0 + 1 ≤ x.length) && ((TL.tl x).take 1 == [45])) = _
  by_cases h : (TL.tl x).take 1 = [45]
  · rw [decide_eq_true h, beq_iff_eq.mpr h]
    have := congrArg List.length h
    rw [List.length_take] at this
    simp only [List.length_cons, List.length_nil] at this
    rw [decide_eq_true (by omega)] <;> rfl
  · rw [decide_eq_false h, beq_eq_false_iff_ne.mpr h, Bool.and_false]
theorem dm_len (l : List Nat) : (dm l).length ≤ l.length := by
  unfold dm
  split
  · rw [List.length_drop]; omega
  · omega
theorem bare_le (l : List Nat) : (bare l).length ≤ l.length := Nat.le_trans (List.length_filter_le _ _) (dm_len l)
theorem tl_str_nat (n : Nat) : TL.tl (toString ((n : Nat) : Int) : String) = TL.numL n := TL.tl_num n
theorem str_eq_iff {x y : Str} : x = y ↔ TL.tl x = TL.tl y := ⟨fun e => by rw [e], TL.ext_tl⟩
/-- int of a text of digits -/
theorem int_of_digits {x : Str} (h : NumText.AllDigits (TL.tl x)) (h1 : 1 ≤ (TL.tl x).length) (h2 : x.length ≤ 4300) : intText? x = some ((NumText.digitsVal (TL.tl x) : Nat) : Int) :=
  PySem.intText_digits h (fun e => by have : (TL.tl x) = [] := e; rw [this] at h1; simp at h1) h2
theorem natAbs_log {c : Int} {k : Nat} (h : c.natAbs < 2 ^ k) (hk : k ≤ 1920) (h0 : 0 < k) : c.natAbs.log2 < 1920 := by
  by_cases z : c.natAbs = 0
  · rw [z]
    decide
  · have := (Nat.log2_lt z).mpr h
    omega

/-! ### {x:02d} -/
section
open Builtin Builtin.Str Builtin.Int Builtin.Float
set_option maxHeartbeats 2000000 in
theorem dig2 {a : Int} (h0 : 0 ≤ a) (h1 : a < 100) : ∀ {prog : Program} {w : World} {A : Around} {E : Value → Shared → Prop} {s : Shared} {t : Tok} {Q : Value → Shared → Prop},
    (∀ t' k, Q (.str ⟨#[48 + a.toNat / 10, 48 + a.toNat % 10]⟩ t') { s with toks := k }) → wpAny (model prog w) A (formatField (.int a t) "02d") Q E s := by
  intro prog w A E s t Q h
  obtain ⟨n, rfl⟩ := Int.eq_ofNat_of_zero_le h0
  have hn : n < 100 := by omega
  refine PySem.W.KXf.field_int (y := ⟨#[48 + n / 10, 48 + n % 10]⟩) (spec' := "02d") rfl (by decide +kernel) (by decide +kernel) ?_ h
  intro _
  apply PySem.W.KPc.meets_of
  intro _ _ _ _ _ _ _
  unfold Builtin.«int.__format__»
  refine wpAny_bind (wpAny_of_eq (a := (_, _)) rfl ?_)
  refine wpAny_bind (wpAny_of_eq (a := _) rfl ?_)
  kxf_if
  refine wpAny_bind (wpAny_typeNameOf (T := "str") (typeIs_str _ _ _) (by decide) fun _ => ?_)
  refine wpAny_bind (wpAny_of_eq (a := some _) rfl ?_)
  kxf_if
  kxf_if
  refine wpAny_bind (wpAny_typeNameOfCut_int ?_)
  (repeat kxf_if)
  refine wpAny_bind (wpAny_of_eq (PySem.overDigitLimit_small (natAbs_log (k := 7) (by omega) (by decide) (by decide))) ?_)
  (repeat kxf_if)
  refine PySem.W.KXf.ret_text ?_ ?_ (by assumption)
  · rename_i _ _ _ _ _ _ _ ha _
    clear ha h h0 h1
    revert n
    decide +kernel
  · rename_i _ _ _ _ _ _ _ ha _
    clear ha h h0 h1
    revert n
    decide +kernel
end

/-! ### rules of one's own -/
section
variable {X : Cx}
/-- {x:02d}, x from 0 to 99 -/
def tFmt2 (te : TE) : TE := fun σ H Q => te σ H fun x H1 => ∃ i : Int, x = .int i ∧ 0 ≤ i ∧ i < 100 ∧ Q (.str ⟨#[48 + i.toNat / 10, 48 + i.toNat % 10]⟩) H1
theorem pe_fmt02 {e : Expr} {te : TE} {j : Nat} {p1 p2 pos : Pos} (he : PE X e te) : PE X (.FormattedValue e (-1) (some (.JoinedStr [.Constant (.str "02d") j p1] p2)) pos) (tFmt2 te) := by
  refine ⟨fun pins s σ H Q I h => ?_⟩
  refine wpAny_FormattedValue_spec (thn (he.run pins s σ H _ I h) fun v s1 hv => ?_)
  obtain ⟨x, H1, I1, r1, i, rfl, h0, h1, q⟩ := hv
  obtain ⟨t, rfl⟩ := r1
  refine thn ((pe_joined1 pe_str : PE X (.JoinedStr [.Constant (.str "02d") j p1] p2) (tC (.str "02d"))).run pins s1 σ H1 (fun v H2 => v = .str "02d" ∧ H2 = H1) I1 ⟨rfl, rfl⟩) fun v2 s2 hv2 => ?_
  obtain ⟨x2, H2, I2, r2, rfl, rfl⟩ := hv2
  obtain ⟨t2, rfl⟩ := r2
  exact ⟨_, t2, rfl, dig2 h0 h1 fun t' k => ⟨.str _, _, I2.tok k, ⟨t', rfl⟩, q⟩⟩
/-- o.removeprefix(y).replace(a, b) of written texts -/
def tRpR (to : TE) (y a b : Str) : TE := fun σ H Q => to σ H fun v H1 => ∃ x : Str, v = .str x ∧ x.length ≤ sizeLine ∧
  (Txt.removeprefix x y).length + ((Txt.removeprefix x y).length + 1) * b.length ≤ 16777216 ∧ Q (.str (Txt.replace (Txt.removeprefix x y) a b)) H1
theorem pe_rpR {o : Expr} {to : TE} {y a b : Str} {j0 j k : Nat} {d0 c0 c1 apos0 apos pos0 pos : Pos} (ho : PE X o to) (hyz : (a == b) = false := by decide)
    (hs0 : starEach [.Constant (.str y) j0 d0] X.env = [(false, eval (.Constant (.str y) j0 d0) X.env)] := by rfl)
    (hb0 : attributeBase o "removeprefix" X.env (eval o X.env) = eval o X.env := by rfl) (hl0 : (apos0.endLine == pos0.line) = true := by rfl)
    (hst : starEach [.Constant (.str a) j c0, .Constant (.str b) k c1] X.env = [(false, eval (.Constant (.str a) j c0) X.env), (false, eval (.Constant (.str b) k c1) X.env)] := by rfl)
    (hbase : attributeBase (.Call (.Attribute o "removeprefix" apos0) [.Constant (.str y) j0 d0] [] pos0) "replace" X.env (eval (.Call (.Attribute o "removeprefix" apos0) [.Constant (.str y) j0 d0] [] pos0) X.env) = eval (.Call (.Attribute o "removeprefix" apos0) [.Constant (.str y) j0 d0] [] pos0) X.env := by rfl)
    (hline : (apos.endLine == pos.line) = true := by rfl) :
    PE X (.Call (.Attribute (.Call (.Attribute o "removeprefix" apos0) [.Constant (.str y) j0 d0] [] pos0) "replace" apos) [.Constant (.str a) j c0, .Constant (.str b) k c1] [] pos) (tRpR to y a b) := by
  refine ⟨fun pins s σ H Q I h => ?_⟩
  refine PySem.Call_method2 hbase hst hline ?_
  refine PySem.Call_method1 hb0 hs0 hl0 (thn (ho.run pins s σ H _ I h) fun v s1 hv => ?_)
  obtain ⟨x', H1, I1, r1, x, rfl, hl, hb, q⟩ := hv
  obtain ⟨tx, rfl⟩ := r1
  refine ⟨"str", _, PySem.F.plainAttrs_str, PySem.F.slot_str_removeprefix, PySem.F.type_str_removeprefix, typeIs_str _ _ _, (fun _ e => nomatch e), Calls.callWith_builtin rfl (Calls.evalArgs_plain (Calls.spliced_cons ?_))⟩
  refine Calls.Constant_str (Calls.spliced_nil ?_)
  refine wpAny_mono (PySem.wpAny_toks (PySem.SC.removeprefix (Q := fun v s' => ∃ t' k, v = .str (Txt.removeprefix x y) t' ∧ s' = { s1 with toks := k }) (fun t' k => ⟨t', k, rfl, rfl⟩) hl)) (fun v s2 hq => ?_) fun _ _ z => z.2
  obtain ⟨hk, t', k', rfl, rfl⟩ := hq
  have hk2 : s1.toks + 1 ≤ k' := hk
  refine ⟨"str", _, PySem.F.plainAttrs_str, PySem.F.slot_str_replace, PySem.F.type_str_replace, typeIs_str _ _ _, (fun _ e => nomatch e), Calls.callWith_builtin rfl (Calls.evalArgs_plain (Calls.spliced_cons ?_))⟩
  refine Calls.Constant_str (Calls.spliced_cons (Calls.Constant_str (Calls.spliced_nil ?_)))
  exact PySem.SC.replace (by show k' ≠ 0; omega) (by show k' + 1 ≠ 0; omega) (by show k' ≠ k' + 1; omega) hyz hb fun t2 k2 => ⟨.str _, H1, I1.tok k2, ⟨t2, rfl⟩, q⟩
/-- isinstance(e, C), e the error that the suite holds, of the class D -/
def rIsE' (K : PySem.W.Frag) (D a : Addr) (cls : Value) (d : Option Addr) : List V → Hp → VK → Prop := fun xs H Q => cls = .ref D ∧ d = none ∧ rIsE K D a xs H Q
theorem call_isE' {a D : Addr} {cls : Value} {d : Option Addr} {oe : Obj} {pn : List (Addr × Obj)} (C : ExcC X.K D) (hz : Zc cls d oe) (hf : ∃ vs, oe.data = .fields vs) : CallR (X.suite a ((a, oe) :: pn)) (.builtin "isinstance") (rIsE' X.K D a cls d) := by
  intro pins s σ H xs us Q I r h
  obtain ⟨rfl, rfl, h⟩ := h
  exact call_isE C hz hf pins s σ H xs us Q I r h
end

section
variable {P : Program} {w : World} {K : PySem.W.Frag} {mg : Str → Option Value} {base : Heap}
/-- how many signs, and which -/
def wordOf (a x : List Nat) (m : Int) : Bool := decide (1 ≤ x.length ∧ (x.length : Int) ≤ m) && x.all (fun c => decide (c ∈ a))
def sp_is_word_of (K : PySem.W.Frag) : Sp := fun vs H Q _ => ∃ (a x : Str) (m : Int), vs = [.str a, .int m, .str x] ∧ x.length ≤ 1000 ∧
  ∀ H', Same H H' → Q (.bl (wordOf (TL.tl a) (TL.tl x) m)) H'
theorem ok_is_word_of (T : Txt K mg) : FnOk P w K mg base CX0 1 T.f_is_word_of T.d_is_word_of ["letters", "most", "text"] (sp_is_word_of K) := by
  refine T.F_is_word_of.ok sc_is_word_of (fun vs H Q E h => ?_) (fun cdv A outer s H vs Q E hr h => ?_)
  · obtain ⟨a, x, m, rfl, _⟩ := h
    rfl
  · obtain ⟨a, x, m, rfl, hx, q⟩ := h
    have hxl : x.length ≤ sizeLine := Nat.le_of_lt (small1000 hx)
    refine ⟨_, (pss_one (ps_ret (pe_and (pe_chain op_le op_le pe_int (pe_callB call_len_str (by rfl) T.z_len PySem.boot_len (pa_cons (pv 2) pa_nil)) (pv 1)) (pe_one (pe_callB (cr_all rfl) (by rfl) T.z_all (by decide +kernel) (pa_cons (pe_lc (own := [("letter", 3)]) (g := gName 3) (tt := tYes) rfl sc_is_word_of.nd (pi_str (pv 2)) (blkOk_by (own := [("letter", 3)]) (N := N_is_word_of) (sc := defScope s_is_word_of) (by decide +kernel)) (fun _ _ _ _ _ => (pg_name (i := 3) sc_is_word_of.nd rfl (Or.inl rfl))) (fun _ _ _ _ _ => pts_nil) (fun _ _ _ _ _ => (pe_cmpR op_in_sign (pv 3) (pv 0) rfl))) pa_nil)))))), ?_⟩
    walk_at "st"
    refine iteD (fun h1 => ?_) (fun h1 => ?_)
    · walk_at "st"
      refine iteD (fun h2 => ?_) (fun h2 => ?_)
      · refine ⟨_, rfl, x, rfl, fun D nD => ?_⟩
        have s1 : ∀ o, Same H (upd H D o) := fun o => same_upd nD
        refine lc_it (walk_str (z := x)) (fun i H' => H' = upd H D (.lst (((TL.tl x).take i).map fun c => V.bl (decide (c ∈ TL.tl a))))) rfl (fun _ _ _ _ => trivial) ?_ ?_
        · rintro i v H' H2 hi rfl ⟨rfl, c, hc, rfl⟩
          have hc2 : (TL.tl x)[i]? = some c := by rw [show TL.tl x = x.cps.toList from rfl, Array.getElem?_toList]; exact hc
          refine ⟨rfl, ?_⟩
          walk_at "st"
          refine ⟨small1000 ?_, ?_⟩
          · rw [List.length_map, List.length_take, ← TL.len_tl]
            omega
          · rw [upd_upd, take_succ hc2, List.map_append]
            rfl
        · rintro H' rfl
          refine ⟨D, (TL.tl x).map fun c => decide (c ∈ TL.tl a), rfl, ?_, ?_⟩
          · refine SqL.of (upd_same.trans ?_)
            rw [List.map_map, List.take_of_length_le (by simp)]
            rfl
          · have e : wordOf (TL.tl a) (TL.tl x) m = (((TL.tl x).map fun c => decide (c ∈ TL.tl a)).all id) := by
              unfold wordOf
              rw [← TL.len_tl, decide_eq_true ⟨by omega, h2⟩, Bool.true_and, List.all_map]
              rfl
            rw [← e]
            exact q _ (s1 _)
      · have e : wordOf (TL.tl a) (TL.tl x) m = false := by
          unfold wordOf
          rw [← TL.len_tl, decide_eq_false (fun h => h2 h.2), Bool.false_and]
        rw [e] at q
        exact q H (.refl H)
    · have e : wordOf (TL.tl a) (TL.tl x) m = false := by
        unfold wordOf
        rw [← TL.len_tl, decide_eq_false (fun h => h1 (by omega)), Bool.false_and]
      rw [e] at q
      walk_at "st"
      exact q H (.refl H)
def isD (x : List Nat) : Bool := wordOf (TL.tl ("0123456789" : Str)) x 20
theorem isD_iff {x : List Nat} : isD x = true ↔ 1 ≤ x.length ∧ x.length ≤ 20 ∧ NumText.AllDigits x := by
  have hm : ∀ c : Nat, c ∈ TL.tl ("0123456789" : Str) ↔ 48 ≤ c ∧ c ≤ 57 := by
    intro c
    rw [show TL.tl ("0123456789" : Str) = [48, 49, 50, 51, 52, 53, 54, 55, 56, 57] from rfl]
    simp only [List.mem_cons, List.not_mem_nil, or_false]
    omega
  unfold isD wordOf
  rw [Bool.and_eq_true, decide_eq_true_iff, List.all_eq_true]
  constructor
  · rintro ⟨⟨h1, h2⟩, h3⟩
    exact ⟨h1, by omega, fun c hc => (hm c).mp (of_decide_eq_true (h3 c hc))⟩
  · rintro ⟨h1, h2, h3⟩
    exact ⟨⟨h1, by omega⟩, fun c hc => decide_eq_true ((hm c).mpr (h3 c hc))⟩
def sp_is_digits (K : PySem.W.Frag) : Sp := fun vs H Q _ => ∃ x : Str, vs = [.str x] ∧ x.length ≤ 1000 ∧ ∀ H', Same H H' → Q (.bl (isD (TL.tl x))) H'
theorem ok_is_digits (T : Txt K mg) : FnOk P w K mg base CX0 2 T.f_is_digits T.d_is_digits ["text"] (sp_is_digits K) := by
  refine T.F_is_digits.ok sc_is_digits (fun vs H Q E h => ?_) (fun cdv A outer s H vs Q E hr h => ?_)
  · obtain ⟨x, rfl, _⟩ := h
    rfl
  · obtain ⟨x, rfl, hx, q⟩ := h
    have G_is_word_of : FnOk P w K mg base CX0 1 T.f_is_word_of T.d_is_word_of ["letters", "most", "text"] (sp_is_word_of K) := ok_is_word_of T
    refine ⟨_, (pss_one (ps_ret (pe_call G_is_word_of hr (by rfl) T.m_is_word_of T.F_is_word_of.kp T.b_is_word_of .nil pass0 (pa_cons (pe_glob (v := .str "0123456789") rfl T.m_DIGITS ⟨_, rfl⟩) (pa_cons (pe_glob (v := .int 20) rfl T.m_MOST_DIGITS ⟨_, rfl⟩) (pa_cons (pv 0) pa_nil)))))), ?_⟩
    walk_at "st"
    exact q

theorem lenle {x : Str} {n : Nat} (h : (TL.tl x).length ≤ n) (hn : n ≤ 1000) : x.length ≤ sizeLine := Nat.le_of_lt (small1000 (by rw [TL.len_tl]; omega))
theorem fmt_joined {s : Str} {c : Int} {n : Nat} (hn : c.natAbs = n) (hs : TL.tl s = if c < 0 then [45] else []) (r : Int) (hr : r = ((n % 100 : Nat) : Int)) :
    Str.empty ++ s ++ Str.ofString (toString ((n / 100 : Nat) : Int)) ++ ("." : Str) ++ (⟨#[48 + r.toNat / 10, 48 + r.toNat % 10]⟩ : Str) = ⟨(fmtL c).toArray⟩ := by
  refine TL.ext_tl ?_
  rw [TL.tl_append, TL.tl_append, TL.tl_append, TL.tl_append, TL.tl_num, hs, TL.tl_mk, hr, Int.toNat_natCast]
  unfold fmtL fmtN
  rw [hn]
  show ([] ++ (if c < 0 then [45] else []) ++ TL.numL (n / 100) ++ [46]) ++ [48 + n % 100 / 10, 48 + n % 100 % 10] = (if c < 0 then [45] else []) ++ (TL.numL (n / 100) ++ [46, 48 + n % 100 / 10, 48 + n % 100 % 10])
  simp only [List.append_assoc, List.cons_append, List.nil_append]
def sp_format_cents (K : PySem.W.Frag) : Sp := fun vs H Q _ => ∃ c : Int, vs = [.int c] ∧ c.natAbs < 10 ^ 60 ∧ ∀ H', Same H H' → Q (.str ⟨(fmtL c).toArray⟩) H'
theorem ok_format_cents (T : Txt K mg) : FnOk P w K mg base CX0 1 T.f_format_cents T.d_format_cents ["cents"] (sp_format_cents K) := by
  refine T.F_format_cents.ok sc_format_cents (fun vs H Q E h => ?_) (fun cdv A outer s H vs Q E hr h => ?_)
  · obtain ⟨c, rfl, _⟩ := h
    rfl
  · obtain ⟨c, rfl, hc, q⟩ := h
    
    refine ⟨_, (pss_cons (ps_set (i := 1) sc_format_cents.nd rfl (Or.inl rfl) (pe_ifExp (pt_cmpR op_lt (pv 0) pe_int (nomark _)) pe_str pe_str))
    (pss_cons (ps_asg (pe_callB call_divmod (by rfl) T.z_divmod (by decide +kernel) (pa_cons (pe_callB call_abs (by rfl) T.z_abs (by decide +kernel) (pa_cons (pv 0) pa_nil)) (pa_cons pe_int pa_nil))) (pg_tup rfl (pgs_cons (pg_name (i := 2) sc_format_cents.nd rfl (Or.inl rfl)) (pgs_cons (pg_name (i := 3) sc_format_cents.nd rfl (Or.inl rfl)) pgs_nil))))
    (pss_one (ps_ret (pe_joined (PJ.cons (pe_fmt (pv 1)) (PJ.cons (pe_fmt (pv 2)) (PJ.cons pe_str (PJ.cons (pe_fmt02 (pv 3)) PJ.nil))))))))), ?_⟩
    walk_at "st"
    have hlen : (fmtL c).length ≤ 70 := fmtL_len hc
    have hsz : ∀ s : Str, TL.tl s = (if c < 0 then [45] else []) → ∀ n, c.natAbs = n → ∀ r : Int, r = ((n % 100 : Nat) : Int) → (Str.empty ++ s ++ Str.ofString (toString ((n / 100 : Nat) : Int)) ++ ("." : Str) ++ (⟨#[48 + r.toNat / 10, 48 + r.toNat % 10]⟩ : Str)).length ≤ 70 := by
      intro s hs n hn r hr
      rw [fmt_joined hn hs r hr, TL.len_tl, TL.tl_mk]
      exact hlen
    obtain ⟨n, hn, hA⟩ : ∃ n : Nat, c.natAbs = n ∧ (if c < 0 then -c else c) = (n : Int) := ⟨c.natAbs, rfl, by split <;> omega⟩
    have hdiv : (n : Int) / 100 = ((n / 100 : Nat) : Int) := by omega
    have hmod : (n : Int) % 100 = ((n % 100 : Nat) : Int) := by omega
    refine iteD (fun hc0 => ?_) (fun hc0 => ?_)
    · have hs : TL.tl ("-" : Str) = (if c < 0 then [45] else []) := by rw [if_pos hc0] <;> rfl
      have l5 := hsz _ hs n hn _ rfl
      have j5 := fmt_joined hn hs _ rfl
      walk_at "st"
      intro p np
      walk_at "st"
      rw [hA, hdiv, hmod]
      have l4 := l5
      rw [TL.len_tl, TL.tl_append, List.length_append] at l4
      have l3 := l4
      rw [TL.tl_append, List.length_append] at l3
      have l2 := l3
      rw [TL.tl_append, List.length_append] at l2
      refine .inl ⟨_, rfl, by decide, _, rfl, by decide, _, rfl, .inr ⟨_, rfl, natAbs_log (k := 200) (by omega) (by decide) (by decide), _, rfl, lenle (n := 70) (by rw [TL.tl_append, List.length_append]; omega) (by decide),
        _, rfl, lenle (n := 70) (by rw [TL.tl_append, List.length_append, TL.tl_append, List.length_append]; omega) (by decide), _, rfl, _, rfl, by omega, by omega, _, rfl, Nat.le_of_lt (small1000 (by omega)), ?_⟩⟩
      rw [j5]
      exact q _ (same_upd np)
    · have hs : TL.tl ("" : Str) = (if c < 0 then [45] else []) := by rw [if_neg hc0] <;> rfl
      have l5 := hsz _ hs n hn _ rfl
      have j5 := fmt_joined hn hs _ rfl
      walk_at "st"
      intro p np
      walk_at "st"
      rw [hA, hdiv, hmod]
      have l4 := l5
      rw [TL.len_tl, TL.tl_append, List.length_append] at l4
      have l3 := l4
      rw [TL.tl_append, List.length_append] at l3
      have l2 := l3
      rw [TL.tl_append, List.length_append] at l2
      refine .inl ⟨_, rfl, by decide, _, rfl, by decide, _, rfl, .inr ⟨_, rfl, natAbs_log (k := 200) (by omega) (by decide) (by decide), _, rfl, lenle (n := 70) (by rw [TL.tl_append, List.length_append]; omega) (by decide),
        _, rfl, lenle (n := 70) (by rw [TL.tl_append, List.length_append, TL.tl_append, List.length_append]; omega) (by decide), _, rfl, _, rfl, by omega, by omega, _, rfl, Nat.le_of_lt (small1000 (by omega)), ?_⟩⟩
      rw [j5]
      exact q _ (same_upd np)

def sp_parse_cents (K : PySem.W.Frag) (C : Addr) : Sp := fun vs H Q E => ∃ x : Str, vs = [.str x] ∧ x.length ≤ 600 ∧
  (∀ c H', Written (TL.tl x) c → Same H H' → Q (.int c) H') ∧ (∀ H', (∀ c, ¬ Written (TL.tl x) c) → Same H H' → E (.ref C) none H')
theorem ok_parse_cents (T : Txt K mg) : FnOk P w K mg base (L2.CX P w) 3 T.f_parse_cents T.d_parse_cents ["text"] (sp_parse_cents K T.c_InvalidAmount) := by
  refine T.F_parse_cents.okX sc_parse_cents (fun vs H Q E h => ?_) (fun cdv A outer s H vs Q E hr h => ?_)
  · obtain ⟨x, rfl, _⟩ := h
    rfl
  · obtain ⟨x, rfl, hx, q, qe⟩ := h
    have G_is_digits : FnOk P w K mg base CX0 2 T.f_is_digits T.d_is_digits ["text"] (sp_is_digits K) := ok_is_digits T
    have G_format_cents : FnOk P w K mg base CX0 1 T.f_format_cents T.d_format_cents ["cents"] (sp_format_cents K) := ok_format_cents T
    have hxl : x.length ≤ sizeLine := Nat.le_of_lt (small1000 (by omega))
    have hbl : (TL.tl (Txt.replace (Txt.removeprefix x "-") "." "")).length ≤ 600 := by
      rw [tl_bare]
      have := bare_le (TL.tl x)
      rw [← TL.len_tl x] at this
      omega
    refine ⟨_, (pss_cons (ps_set (i := 1) sc_parse_cents.nd rfl (Or.inl rfl) (pe_rpR (pv 0)))
    (pss_cons (ps_if (pt_not (pt_val (pe_call G_is_digits hr (by rfl) T.m_is_digits T.F_is_digits.kp T.b_is_digits .nil pass0 (pa_cons (pv 1) pa_nil))))
      (pss_one (ps_raise rfl (takes_of rfl rfl rfl rfl) (pmk_own PySem.F.excBase_ValueError T.x_InvalidAmount T.m_InvalidAmount T.k_InvalidAmount (raises_own T.b_InvalidAmount T.t_InvalidAmount) (by rfl))))
      pss_nil)
    (pss_cons (ps_set (i := 2) sc_parse_cents.nd rfl (Or.inl rfl) (pe_callTy call_int_str (by rfl) T.z_int (by decide +kernel) (pa_cons (pv 1) pa_nil)))
    (C8.pss_cut (ps_if (pt_val (pe_m1 PySem.F.slot_str_startswith PySem.F.type_str_startswith mt_startswith (pv 0) pe_str))
      (pss_one (ps_set (i := 2) sc_parse_cents.nd rfl (Or.inl rfl) (pe_un un_neg (pv 2))))
      pss_nil)
    (pss_cons (ps_if (PW.pt (pw_or (pt_cmpR op_gt (pe_callB call_abs (by rfl) T.z_abs (by decide +kernel) (pa_cons (pv 2) pa_nil)) (pe_glob (v := .int 1000000000000) rfl T.m_MOST_WRITTEN ⟨_, rfl⟩) (nomark _)) (pw_or1 (pt_cmpR op_ne (pe_call G_format_cents (hr.mono (by decide)) (by rfl) T.m_format_cents T.F_format_cents.kp T.b_format_cents .nil pass0 (pa_cons (pv 2) pa_nil)) (pv 0) (nomark _)))))
      (pss_one (ps_raise rfl (takes_of rfl rfl rfl rfl) (pmk_own PySem.F.excBase_ValueError T.x_InvalidAmount T.m_InvalidAmount T.k_InvalidAmount (raises_own T.b_InvalidAmount T.t_InvalidAmount) (by rfl))))
      pss_nil)
    (pss_one (ps_ret (pv 2)))))))), ?_⟩
    walk_at "st"
    have hrl : (Txt.removeprefix x "-").length ≤ 600 := by
      rw [TL.len_tl, tl_removeprefix]
      have := dm_len (TL.tl x)
      rw [← TL.len_tl x] at this
      omega
    refine ⟨by show _ + _ * 0 ≤ _; omega, ?_⟩
    have hb := tl_bare x
    generalize Txt.replace (Txt.removeprefix x "-") "." "" = y at hbl hb
    walk_at "st"
    refine ⟨by rw [TL.len_tl]; omega, fun H1 s1 => ?_⟩
    walk_at "st"
    refine iteB (fun hd => ?_) (fun hd => ?_)
    · refine qe H1 (fun c hw => ?_) s1
      have : isD (TL.tl y) = true := by
        rw [hb, ← hw.1]
        exact isD_iff.mpr ⟨(bare_len hw.2).1, (bare_len hw.2).2, bare_digits c⟩
      rw [this] at hd
      cases hd
    · have hD : isD (TL.tl y) = true := by
        cases e : isD (TL.tl y) with
        | true => rfl
        | false => rw [e] at hd; cases hd
      obtain ⟨n1, n2, nd⟩ := isD_iff.mp hD
      have hvl : NumText.digitsVal (TL.tl y) < 10 ^ 20 := Nat.lt_of_lt_of_le (val_lt _ nd) (Nat.pow_le_pow_right (by decide) n2)
      walk_at "st"
      refine ⟨int_of_digits nd n1 (by rw [TL.len_tl]; omega), by rw [TL.len_tl]; omega, ?_⟩
      refine ⟨fun σ' H' => H' = H1 ∧ σ' = [some (.str x), some (.str y), some (.int (valL (TL.tl x)))], ?_, ?_⟩
      · walk_at "st"
        refine ⟨⟨_, rfl⟩, _, _, rfl, rfl, _, rfl, ?_⟩
        rw [startswith_minus]
        refine iteD (fun h => ?_) (fun h => ?_)
        · walk_at "st"
          unfold valL
          rw [if_pos h, ← hb]
          rfl
        · refine ⟨rfl, ?_⟩
          unfold valL
          rw [if_neg h, ← hb]
          rfl
      · rintro σ' H' ⟨rfl, rfl⟩
        have hva : (valL (TL.tl x)).natAbs < 10 ^ 20 := by
          unfold valL
          rw [← hb]
          split <;> omega
        have hin : ∀ c, Written (TL.tl x) c → c = valL (TL.tl x) := fun c hw => by rw [← hw.1, valL_fmtL]
        generalize valL (TL.tl x) = v at hva hin
        walk_at "st"
        refine iteD (fun h => ?_) (fun h => ?_)
        · refine qe H' (fun c hw => ?_) s1
          have e := hin c hw
          have l := hw.2
          rw [e] at l
          split at h <;> omega
        · walk_at "st"
          intro H2 s2
          walk_at "st"
          refine iteB (fun h2 => ?_) (fun h2 => ?_)
          · refine qe H2 (fun c hw => ndec_t h2 ?_) (s1.trans s2)
            rw [← hin c hw, hw.1]
          · walk_at "st"
            refine q v H2 ⟨?_, ?_⟩ (s1.trans s2)
            · have e := V.str.inj (ndec_f h2)
              rw [← e]
            · split at h <;> omega

def sp_law_cell (K : PySem.W.Frag) : Sp := fun vs H Q _ => ∃ (a : Addr) (ns : List Int) (j : Nat), vs = [.ref a, .int j] ∧ SqL K H a (ns.map V.int) ∧ Q (.int (cellOf ns j)) H
theorem ok_law_cell (T : Txt K mg) : FnOk P w K mg base CX0 1 T.f_law_cell T.d_law_cell ["script", "k"] (sp_law_cell K) := by
  refine T.F_law_cell.ok sc_law_cell (fun vs H Q E h => ?_) (fun cdv A outer s H vs Q E hr h => ?_)
  · obtain ⟨a, ns, j, rfl, _⟩ := h
    rfl
  · obtain ⟨a, ns, j, rfl, hs, q⟩ := h
    refine ⟨_, (pss_cons (ps_if (pt_cmpR op_lt (pv 1) (pe_callB call_len_seq (by rfl) T.z_len PySem.boot_len (pa_cons (pv 0) pa_nil)) (nomark _))
      (pss_one (ps_ret (pe_ix ix_list (pv 0) (pv 1) (fun _ _ => rfl))))
      pss_nil)
    (pss_one (ps_ret pe_int))), ?_⟩
    walk_at "st"
    refine iteD (fun h => ?_) (fun h => ?_)
    · have hj : j < ns.length := by rw [List.length_map] at h; omega
      walk_at "st"
      exact ⟨atI_ints hj, q⟩
    · have hj : ¬ j < ns.length := by rw [List.length_map] at h; omega
      rw [cellOf_out hj] at q
      exact q

/-- what the draws are: only their number and their bounds matter -/
def sp_law_draws (K : PySem.W.Frag) : Sp := fun vs H Q _ => ∃ (cell : Int) (n : Nat) (size : Int), vs = [.int cell, .int (n : Int), .int size] ∧ n ≤ 1000 ∧ 0 < size ∧ size < 1073741824 ∧
  ∀ p H' (ds : List Int), Same H H' → H p = none → H' p = some (.lst (ds.map V.int)) → ds.length = n → (∀ d, d ∈ ds → 0 ≤ d ∧ d < size) → Q (.ref p) H'
theorem ok_law_draws (T : Txt K mg) : FnOk P w K mg base CX0 1 T.f_law_draws T.d_law_draws ["cell", "count", "size"] (sp_law_draws K) := by
  refine T.F_law_draws.ok sc_law_draws (fun vs H Q E h => ?_) (fun cdv A outer s H vs Q E hr h => ?_)
  · obtain ⟨cell, n, size, rfl, _⟩ := h
    rfl
  · obtain ⟨cell, n, size, rfl, hn, h0, h1, q⟩ := h
    refine ⟨_, (pss_cons (ps_set (i := 3) sc_law_draws.nd rfl (Or.inl rfl) (pe_lst pa_nil))
    (pss_cons (ps_set (i := 4) sc_law_draws.nd rfl (Or.inl rfl) (pe_callB call_abs (by rfl) T.z_abs (by decide +kernel) (pa_cons (pv 0) pa_nil)))
    (pss_cons (ps_if (pt_cmpR op_ge (pv 4) pe_int (nomark _))
      (pss_cons (ps_for PassesOwn.never rfl (pi_range1 (by rfl) T.z_range (pa_cons (pv 1) pa_nil)) (pg_name (i := 5) sc_law_draws.nd rfl (Or.inl rfl))
        (pss_cons (ps_expr (pe_bm PySem.F.plainAttrs_list PySem.F.slot_list_append PySem.F.type_list_append mt_append (pv 3) (pa_cons (pe_op op_mod (pe_callTy call_int_i (by rfl) T.z_int (by decide +kernel) (pa_cons (pv 4) pa_nil)) (pv 2)) pa_nil)))
        (pss_one (ps_set (i := 4) sc_law_draws.nd rfl (Or.inl rfl) (pe_op op_fdiv (pv 4) (pv 2))))))
      (pss_one (ps_ret (pv 3))))
      pss_nil)
    (pss_cons (ps_for PassesOwn.never rfl (pi_range1 (by rfl) T.z_range (pa_cons (pv 1) pa_nil)) (pg_name (i := 5) sc_law_draws.nd rfl (Or.inl rfl))
      (pss_cons (ps_set (i := 4) sc_law_draws.nd rfl (Or.inl rfl) (pe_op op_mod (pe_callTy call_int_i (by rfl) T.z_int (by decide +kernel) (pa_cons (pe_op op_add (pe_op op_add (pe_op op_mul (pv 4) pe_int) (pe_op op_mul (pv 5) pe_int)) pe_int) pa_nil)) pe_int))
      (pss_one (ps_expr (pe_bm PySem.F.plainAttrs_list PySem.F.slot_list_append PySem.F.type_list_append mt_append (pv 3) (pa_cons (pe_op op_mod (pe_op op_mod (pe_callTy call_int_i (by rfl) T.z_int (by decide +kernel) (pa_cons (pe_op op_add (pe_op op_mul (pv 4) pe_int) (pv 5)) pa_nil)) pe_int) (pv 2)) pa_nil))))))
    (pss_one (ps_ret (pv 3))))))), ?_⟩
    walk_at "st"
    intro D nD
    walk_at "st"
    generalize hrest : (if cell < 0 then -cell else cell) = rest
    have hrest0 : 0 ≤ rest := by rw [← hrest]; split <;> omega
    have eD : (upd H D (.lst [])) D = some (.lst (([] : List Int).map V.int)) := upd_same
    have s1 : Same H (upd H D (.lst [])) := same_upd nD
    generalize upd H D (.lst []) = H1 at eD s1
    refine iteB (fun h => ?_) (fun h => ?_)
    · walk_at "st"
      refine for_range (lo := 0) (n := ((n : Int)).toNat) (fun i σ H' => ∃ (v5 : Option V) (r : Int) (ds : List Int), σ = [some (.int cell), some (.int (n : Int)), some (.int size), some (.ref D), some (.int r), v5] ∧ 0 ≤ r ∧ H' D = some (.lst (ds.map V.int)) ∧ ds.length = i ∧ (∀ d, d ∈ ds → 0 ≤ d ∧ d < size) ∧ Same H H')
        ⟨none, rest, [], rfl, hrest0, eD, rfl, (fun _ hd => by cases hd), s1⟩ ?_ ?_
      · rintro i σ H' hi ⟨v5, r, ds, rfl, hr0, hD, hl, hb, e⟩
        have hlt : (ds.map V.int).length < sizeLine := small1000 (by rw [List.length_map]; omega)
        walk_at "st"
        refine ⟨some (.int (0 + (i : Int))), r / size, ds ++ [r % size], rfl, ?_, ?_, ?_, ?_, fun b o z => ?_⟩
        · exact Int.ediv_nonneg hr0 (by omega)
        · rw [upd_same, List.map_append]
          rfl
        · rw [List.length_append, hl]
          rfl
        · intro d hd
          rcases List.mem_append.mp hd with hd | hd
          · exact hb d hd
          · rw [List.mem_singleton.mp hd]
            exact ⟨Int.emod_nonneg _ (by omega), Int.emod_lt_of_pos _ h0⟩
        · rw [upd_ne (ne_of_none z nD)]
          exact e b o z
      · rintro σ H' ⟨v5, r, ds, rfl, hr0, hD, hl, hb, e⟩
        walk_at "st"
        exact q D H' ds e nD hD (by omega) hb
    · walk_at "st"
      refine for_range (lo := 0) (n := ((n : Int)).toNat) (fun i σ H' => ∃ (v5 : Option V) (r : Int) (ds : List Int), σ = [some (.int cell), some (.int (n : Int)), some (.int size), some (.ref D), some (.int r), v5] ∧ 0 ≤ r ∧ H' D = some (.lst (ds.map V.int)) ∧ ds.length = i ∧ (∀ d, d ∈ ds → 0 ≤ d ∧ d < size) ∧ Same H H')
        ⟨none, rest, [], rfl, hrest0, eD, rfl, (fun _ hd => by cases hd), s1⟩ ?_ ?_
      · rintro i σ H' hi ⟨v5, r, ds, rfl, hr0, hD, hl, hb, e⟩
        have hlt : (ds.map V.int).length < sizeLine := small1000 (by rw [List.length_map]; omega)
        walk_at "st"
        refine ⟨some (.int (0 + (i : Int))), (r * 48271 + (0 + (i : Int)) * 69621 + 11) % 2147483647, ds ++ [((r * 48271 + (0 + (i : Int)) * 69621 + 11) % 2147483647 * 16807 + (0 + (i : Int))) % 2147483629 % size], rfl, ?_, ?_, ?_, ?_, fun b o z => ?_⟩
        · exact Int.emod_nonneg _ (by decide)
        · rw [upd_same, List.map_append]
          rfl
        · rw [List.length_append, hl]
          rfl
        · intro d hd
          rcases List.mem_append.mp hd with hd | hd
          · exact hb d hd
          · rw [List.mem_singleton.mp hd]
            exact ⟨Int.emod_nonneg _ (by omega), Int.emod_lt_of_pos _ h0⟩
        · rw [upd_ne (ne_of_none z nD)]
          exact e b o z
      · rintro σ H' ⟨v5, r, ds, rfl, hr0, hD, hl, hb, e⟩
        walk_at "st"
        exact q D H' ds e nD hD (by omega) hb

theorem cut_from {z : Str} {i : Nat} (h : i ≤ z.length) : TL.tl (cutS z (some (i : Int)) none) = (TL.tl z).drop i := by
  show ((TL.tl z).drop (HT.sIx z.length 0 (some (i : Int)))).take (HT.sIx z.length z.length none - HT.sIx z.length 0 (some (i : Int))) = _
  have e1 : HT.sIx z.length 0 (some (i : Int)) = i := by
    rw [HT.sIx_nat]
    omega
  rw [e1]
  refine List.take_of_length_le ?_
  rw [List.length_drop, ← TL.len_tl]
  exact Nat.le_refl _
theorem cut_to {z : Str} {i : Nat} (h : i ≤ z.length) : TL.tl (cutS z none (some (i : Int))) = (TL.tl z).take i := by
  show ((TL.tl z).drop (HT.sIx z.length 0 none)).take (HT.sIx z.length z.length (some (i : Int)) - HT.sIx z.length 0 none) = _
  have e1 : HT.sIx z.length z.length (some (i : Int)) = i := by
    rw [HT.sIx_nat]
    omega
  rw [e1]
  rfl
theorem mem_digits (c : Nat) : c ∈ ("0123456789" : Str).cps.toList ↔ 48 ≤ c ∧ c ≤ 57 := by
  rw [show ("0123456789" : Str).cps.toList = [48, 49, 50, 51, 52, 53, 54, 55, 56, 57] from rfl]
  simp only [List.mem_cons, List.not_mem_nil, or_false]
  omega
def sp_law_due (K : PySem.W.Frag) : Sp := fun vs H Q _ => ∃ c : Int, vs = [.int c] ∧ c.natAbs < 10 ^ 60 ∧ Q (.str ⟨(fmtL c).toArray⟩) H
theorem ok_law_due (T : Txt K mg) : FnOk P w K mg base CX0 1 T.f_law_due T.d_law_due ["cents"] (sp_law_due K) := by
  refine T.F_law_due.ok sc_law_due (fun vs H Q E h => ?_) (fun cdv A outer s H vs Q E hr h => ?_)
  · obtain ⟨c, rfl, _⟩ := h
    rfl
  · obtain ⟨c, rfl, hc, q⟩ := h
    obtain ⟨n, hn, hA⟩ : ∃ n : Nat, c.natAbs = n ∧ (if c < 0 then -c else c) = (n : Int) := ⟨c.natAbs, rfl, by split <;> omega⟩
    have e1 := TL.tl_num (n / 100)
    have e2 := (TL.tl_num (n % 100 / 10)).trans (TL.numL_lt (by omega))
    have e3 := (TL.tl_num (n % 10)).trans (TL.numL_lt (by omega))
    have l1 := TL.numL_len (n := n / 100) (k := 60) (by decide) (by omega)
    refine ⟨_, (pss_cons (ps_set (i := 1) sc_law_due.nd rfl (Or.inl rfl) (pe_callB call_abs (by rfl) T.z_abs (by decide +kernel) (pa_cons (pv 0) pa_nil)))
    (pss_cons (ps_set (i := 2) sc_law_due.nd rfl (Or.inl rfl) (pe_op op_add_str (pe_op op_add_str (pe_op op_add_str (pe_callTy call_str_int (by rfl) T.z_str (by decide +kernel) (pa_cons (pe_op op_fdiv (pv 1) pe_int) pa_nil)) pe_str) (pe_callTy call_str_int (by rfl) T.z_str (by decide +kernel) (pa_cons (pe_op op_fdiv (pe_op op_mod (pv 1) pe_int) pe_int) pa_nil))) (pe_callTy call_str_int (by rfl) T.z_str (by decide +kernel) (pa_cons (pe_op op_mod (pv 1) pe_int) pa_nil))))
    (pss_cons (ps_if (pt_cmpR op_lt (pv 0) pe_int (nomark _))
      (pss_one (ps_ret (pe_op op_add_str pe_str (pv 2))))
      pss_nil)
    (pss_one (ps_ret (pv 2)))))), ?_⟩
    walk_at "st"
    rw [hA, show (n : Int) / 100 = ((n / 100 : Nat) : Int) by omega]
    refine ⟨natAbs_log (k := 200) (by omega) (by decide) (by decide), ?_⟩
    walk_at "st"
    generalize Str.ofString (toString ((n / 100 : Nat) : Int)) = t1 at *
    have k1 : t1.length ≤ 60 := by rw [TL.len_tl, e1]; exact l1
    refine ⟨Nat.le_of_lt (small1000 (by show t1.length + 1 ≤ 1000; omega)), ?_⟩
    walk_at "st"
    rw [show (n : Int) % 100 / 10 = ((n % 100 / 10 : Nat) : Int) by omega]
    refine ⟨natAbs_log (k := 200) (by omega) (by decide) (by decide), ?_⟩
    walk_at "st"
    generalize Str.ofString (toString ((n % 100 / 10 : Nat) : Int)) = t2 at *
    have k2 : t2.length = 1 := by rw [TL.len_tl, e2]; rfl
    have k12 : (t1 ++ ("." : Str)).length ≤ 61 := by
      rw [TL.len_tl, TL.tl_append, List.length_append, ← TL.len_tl]
      show t1.length + 1 ≤ 61
      omega
    refine ⟨Nat.le_of_lt (small1000 (by omega)), ?_⟩
    walk_at "st"
    rw [show (n : Int) % 10 = ((n % 10 : Nat) : Int) by omega]
    refine ⟨natAbs_log (k := 200) (by omega) (by decide) (by decide), ?_⟩
    walk_at "st"
    generalize Str.ofString (toString ((n % 10 : Nat) : Int)) = t3 at *
    have k3 : t3.length = 1 := by rw [TL.len_tl, e3]; rfl
    have k123 : (t1 ++ ("." : Str) ++ t2).length ≤ 62 := by
      rw [TL.len_tl, TL.tl_append, List.length_append, ← TL.len_tl, ← TL.len_tl]
      omega
    refine ⟨Nat.le_of_lt (small1000 (by omega)), ?_⟩
    have eT : TL.tl (t1 ++ ("." : Str) ++ t2 ++ t3) = fmtN (n / 100) (n % 100) := by
      rw [TL.tl_append, TL.tl_append, TL.tl_append, e1, e2, e3, show n % 10 = n % 100 % 10 by omega]
      unfold fmtN
      show TL.numL (n / 100) ++ [46] ++ _ ++ _ = _
      simp only [List.append_assoc, List.cons_append, List.nil_append]
    have kT : (t1 ++ ("." : Str) ++ t2 ++ t3).length ≤ 63 := by
      rw [TL.len_tl, TL.tl_append, List.length_append, ← TL.len_tl, ← TL.len_tl]
      omega
    generalize t1 ++ ("." : Str) ++ t2 ++ t3 = t at eT kT
    walk_at "st"
    refine iteD (fun h => ?_) (fun h => ?_)
    · walk_at "st"
      refine ⟨Nat.le_of_lt (small1000 (by show 1 + t.length ≤ 1000; omega)), ?_⟩
      have e : ("-" : Str) ++ t = ⟨(fmtL c).toArray⟩ := by
        refine TL.ext_tl ?_
        rw [TL.tl_append, eT, TL.tl_mk, fmtL_neg h, hn] <;> rfl
      rw [e]
      exact q
    · walk_at "st"
      have e : t = ⟨(fmtL c).toArray⟩ := by
        refine TL.ext_tl ?_
        rw [eT, TL.tl_mk, fmtL_pos h, hn]
      rw [e]
      exact q
def sp_law_value (K : PySem.W.Frag) : Sp := fun vs H Q _ => ∃ x : Str, vs = [.str x] ∧ x.length ≤ 40 ∧
  (∀ c, Written (TL.tl x) c → Q (.int c) H) ∧ ((∀ c, ¬ Written (TL.tl x) c) → Q .non H)
theorem ok_law_value (T : Txt K mg) : FnOk P w K mg base CX0 2 T.f_law_value T.d_law_value ["text"] (sp_law_value K) := by
  refine T.F_law_value.ok sc_law_value (fun vs H Q E h => ?_) (fun cdv A outer s H vs Q E hr h => ?_)
  · obtain ⟨x, rfl, _⟩ := h
    rfl
  · obtain ⟨x, rfl, hx, q, qn⟩ := h
    have G_law_due : FnOk P w K mg base CX0 1 T.f_law_due T.d_law_due ["cents"] (sp_law_due K) := ok_law_due T
    have hxl : x.length ≤ sizeLine := Nat.le_of_lt (small1000 (by omega))
    refine ⟨_, (pss_cons (ps_set (i := 1) sc_law_value.nd rfl (Or.inl rfl) (pv 0))
    (C8.pss_cut (ps_if (pt_val (pe_m1 PySem.F.slot_str_startswith PySem.F.type_str_startswith mt_startswith (pv 0) pe_str))
      (pss_one (ps_set (i := 1) sc_law_value.nd rfl (Or.inl rfl) (pe_slice sl_str (pv 0) (po_some pe_int) po_none)))
      pss_nil)
    (pss_cons (ps_if (PW.pt (pw_or (pt_cmpR op_lt (pe_callB call_len_str (by rfl) T.z_len PySem.boot_len (pa_cons (pv 1) pa_nil)) pe_int (nomark _)) (pw_or1 (pt_cmpR op_ne (pe_ix ix_str (pv 1) (pe_op op_sub (pe_callB call_len_str (by rfl) T.z_len PySem.boot_len (pa_cons (pv 1) pa_nil)) pe_int) (fun _ _ => rfl)) pe_str (nomark _)))))
      (pss_one (ps_ret pe_non))
      pss_nil)
    (pss_cons (ps_set (i := 2) sc_law_value.nd rfl (Or.inl rfl) (pe_op op_add_str (pe_slice sl_str (pv 1) po_none (po_some (pe_op op_sub (pe_callB call_len_str (by rfl) T.z_len PySem.boot_len (pa_cons (pv 1) pa_nil)) pe_int))) (pe_slice sl_str (pv 1) (po_some (pe_op op_sub (pe_callB call_len_str (by rfl) T.z_len PySem.boot_len (pa_cons (pv 1) pa_nil)) pe_int)) po_none)))
    (pss_cons (ps_for PassesOwn.never rfl (pi_str (pv 2)) (pg_name (i := 3) sc_law_value.nd rfl (Or.inl rfl))
      (pss_one (ps_if (pt_cmpR op_notIn_sign (pv 3) pe_str rfl)
        (pss_one (ps_ret pe_non))
        pss_nil)))
    (pss_cons (ps_set (i := 4) sc_law_value.nd rfl (Or.inl rfl) (pe_callTy call_int_str (by rfl) T.z_int (by decide +kernel) (pa_cons (pv 2) pa_nil)))
    (C8.pss_cut (ps_if (pt_val (pe_m1 PySem.F.slot_str_startswith PySem.F.type_str_startswith mt_startswith (pv 0) pe_str))
      (pss_one (ps_set (i := 4) sc_law_value.nd rfl (Or.inl rfl) (pe_un un_neg (pv 4))))
      pss_nil)
    (pss_cons (ps_if (PW.pt (pw_or (pt_cmpR op_ne (pe_call G_law_due hr (by rfl) T.m_law_due T.F_law_due.kp T.b_law_due .nil pass0 (pa_cons (pv 4) pa_nil)) (pv 0) (nomark _)) (pw_or1 (pt_cmpR op_gt (pe_callB call_abs (by rfl) T.z_abs (by decide +kernel) (pa_cons (pv 4) pa_nil)) pe_int (nomark _)))))
      (pss_one (ps_ret pe_non))
      pss_nil)
    (pss_one (ps_ret (pv 4))))))))))), ?_⟩
    walk_at "st"
    refine ⟨fun σ' H' => H' = H ∧ ∃ b : Str, σ' = [some (.str x), some (.str b), none, none, none] ∧ TL.tl b = dm (TL.tl x), ?_, ?_⟩
    · walk_at "st"
      refine ⟨⟨_, rfl⟩, _, _, rfl, rfl, _, rfl, ?_⟩
      rw [startswith_minus]
      refine iteD (fun h => ?_) (fun h => ?_)
      · walk_at "st"
        have hl1 : 1 ≤ x.length := by
          have := congrArg List.length h
          rw [List.length_take, ← TL.len_tl] at this
          simp only [List.length_cons, List.length_nil] at this
          omega
        rw [dm, if_pos h]
        exact cut_from (i := 1) hl1
      · refine ⟨rfl, x, rfl, ?_⟩
        unfold dm
        rw [if_neg h]
    · rintro σ' H' ⟨rfl, b, rfl, hb⟩
      have hbl : b.length ≤ 40 := by
        rw [TL.len_tl, hb]
        have := dm_len (TL.tl x)
        rw [← TL.len_tl x] at this
        omega
      have hbs : b.length ≤ sizeLine := Nat.le_of_lt (small1000 (by omega))
      walk_at "st"
      refine iteD (fun h4 => ?_) (fun h4 => ?_)
      · refine qn fun c hw => ?_
        have := (formed_fmtL c).1
        rw [hw.1, ← hb, ← TL.len_tl] at this
        omega
      · have hi3 : b.length - 3 < (TL.tl b).length := by rw [← TL.len_tl]; omega
        walk_at "st"
        rw [show (b.length : Int) - 3 = ((b.length - 3 : Nat) : Int) by omega]
        refine ⟨atI_nat (List.getElem?_eq_getElem hi3), ?_⟩
        walk_at "st"
        have h46 : ∀ c, Written (TL.tl x) c → (TL.tl b)[b.length - 3]? = some 46 := fun c hw => by
          have := (formed_fmtL c).2
          rw [hw.1, ← hb, ← TL.len_tl] at this
          exact this
        refine iteB (fun h5 => ?_) (fun h5 => ?_)
        · refine qn fun c hw => ndec_t h5 ?_
          have := h46 c hw
          rw [List.getElem?_eq_getElem hi3] at this
          have e : (TL.tl b)[b.length - 3] = 46 := Option.some.inj this
          show V.str ⟨#[(TL.tl b)[b.length - 3]]⟩ = _
          rw [e]
          rfl
        · walk_at "st"
          rw [show (b.length : Int) - 3 = ((b.length - 3 : Nat) : Int) by omega, show (b.length : Int) - 2 = ((b.length - 2 : Nat) : Int) by omega]
          have c1 := cut_to (z := b) (i := b.length - 3) (by omega)
          have c2 := cut_from (z := b) (i := b.length - 2) (by omega)
          have eY : TL.tl (cutS b none (some ((b.length - 3 : Nat) : Int)) ++ cutS b (some ((b.length - 2 : Nat) : Int)) none) = cut3 (TL.tl b) := by
            rw [TL.tl_append, c1, c2]
            unfold cut3
            rw [← TL.len_tl]
          have z1 := cutS_length b none (some ((b.length - 3 : Nat) : Int))
          have z2 := cutS_length b (some ((b.length - 2 : Nat) : Int)) none
          refine ⟨Nat.le_trans (Nat.add_le_add z1 z2) (Nat.le_of_lt (Nat.lt_of_le_of_lt (by omega : b.length + b.length ≤ 80) (by decide))), ?_⟩
          generalize cutS b none (some ((b.length - 3 : Nat) : Int)) ++ cutS b (some ((b.length - 2 : Nat) : Int)) none = y at eY
          have y1 : 3 ≤ (TL.tl y).length := by
            rw [eY]
            unfold cut3
            rw [List.length_append, List.length_take, List.length_drop, ← TL.len_tl]
            omega
          have y2 : (TL.tl y).length ≤ 42 := by
            rw [eY]
            unfold cut3
            rw [List.length_append, List.length_take, List.length_drop, ← TL.len_tl]
            omega
          have hbare : ∀ c, Written (TL.tl x) c → TL.tl y = bare (TL.tl x) := fun c hw => by
            rw [eY, hb, ← hw.1]
            exact cut3_fmtL c
          refine ⟨_, rfl, y, rfl, ?_⟩
          refine for_it (walk_str (z := y)) (fun i σ H2 => ∃ v : Option V, σ = [some (.str x), some (.str b), some (.str y), v, none] ∧ H2 = H' ∧ ∀ c, c ∈ (TL.tl y).take i → 48 ≤ c ∧ c ≤ 57)
            ⟨none, rfl, rfl, fun c hc => by rw [List.take_zero] at hc; cases hc⟩ (fun _ _ _ _ _ => trivial) ?_ ?_
          · rintro i v σ H2 H3 hi ⟨v0, rfl, rfl, hd⟩ ⟨rfl, c, hc, rfl⟩
            have hc2 : (TL.tl y)[i]? = some c := by rw [show TL.tl y = y.cps.toList from rfl, Array.getElem?_toList]; exact hc
            walk_at "st"
            refine iteB (fun h => ?_) (fun h => ?_)
            · refine qn fun c' hw => ndec_t h ((mem_digits c).mpr ?_)
              have e := bare_digits c'
              rw [hw.1, ← hbare c' hw] at e
              exact e c (List.mem_of_getElem? hc2)
            · refine ⟨some (.str ⟨#[c]⟩), rfl, rfl, fun d hd2 => ?_⟩
              rw [take_succ hc2] at hd2
              rcases List.mem_append.mp hd2 with hd2 | hd2
              · exact hd d hd2
              · rw [List.mem_singleton.mp hd2]
                exact (mem_digits c).mp (ndec_f h)
          · rintro σ H2 ⟨v0, rfl, rfl, hd⟩
            rw [List.take_of_length_le (by simp)] at hd
            have hvl : NumText.digitsVal (TL.tl y) < 10 ^ 42 := Nat.lt_of_lt_of_le (val_lt _ hd) (Nat.pow_le_pow_right (by decide) y2)
            walk_at "st"
            refine ⟨int_of_digits hd (by omega) (by rw [TL.len_tl]; omega), by rw [TL.len_tl]; omega, ?_⟩
            refine ⟨fun σ' H' => H' = H2 ∧ ∃ v : Int, σ' = [some (.str x), some (.str b), some (.str y), v0, some (.int v)] ∧ v.natAbs < 10 ^ 42 ∧ ∀ c, Written (TL.tl x) c → v = c, ?_, ?_⟩
            · walk_at "st"
              refine ⟨⟨_, rfl⟩, _, _, rfl, rfl, _, rfl, ?_⟩
              rw [startswith_minus]
              refine iteD (fun h => ?_) (fun h => ?_)
              · walk_at "st"
                intro c hw
                have e := valL_fmtL c
                rw [hw.1] at e
                unfold valL at e
                rw [if_pos h, ← hbare c hw] at e
                exact e
              · refine ⟨rfl, _, rfl, by omega, fun c hw => ?_⟩
                have e := valL_fmtL c
                rw [hw.1] at e
                unfold valL at e
                rw [if_neg h, ← hbare c hw] at e
                exact e
            · rintro σ' H' ⟨rfl, v, rfl, hva, hin⟩
              walk_at "st"
              refine iteB (fun h => ?_) (fun h => ?_)
              · refine qn fun c hw => ndec_t h ?_
                rw [hin c hw, hw.1]
              · walk_at "st"
                refine iteD (fun h2 => ?_) (fun h2 => ?_)
                · refine qn fun c hw => ?_
                  have l := hw.2
                  rw [← hin c hw] at l
                  split at h2 <;> omega
                · walk_at "st"
                  refine q v ⟨?_, ?_⟩
                  · have e := V.str.inj (ndec_f h)
                    rw [← e]
                  · split at h2 <;> omega

def sp_law_reads (K : PySem.W.Frag) : Sp := fun vs H Q _ => ∃ x : Str, vs = [.str x] ∧ x.length ≤ 40 ∧ ∀ H', Same H H' → Q (.bl true) H'
theorem ok_law_reads (T : Txt K mg) : FnOk P w K mg base CX0 4 T.f_law_reads T.d_law_reads ["text"] (sp_law_reads K) := by
  refine T.F_law_reads.ok sc_law_reads (fun vs H Q E h => ?_) (fun cdv A outer s H vs Q E hr h => ?_)
  · obtain ⟨x, rfl, _⟩ := h
    rfl
  · obtain ⟨x, rfl, hx, q⟩ := h
    have G_law_value : FnOk P w K mg base CX0 2 T.f_law_value T.d_law_value ["text"] (sp_law_value K) := ok_law_value T
    have G_parse_cents : FnOk P w K mg base (L2.CX P w) 3 T.f_parse_cents T.d_parse_cents ["text"] (sp_parse_cents K T.c_InvalidAmount) := ok_parse_cents T
    have te := PySem.W.exm_ref T.b_InvalidAmount T.d_InvalidAmount T.t_InvalidAmount T.s_InvalidAmount
    refine ⟨_, (pss_cons (ps_set (i := 1) sc_law_reads.nd rfl (Or.inl rfl) (pe_call G_law_value (hr.mono (by decide)) (by rfl) T.m_law_value T.F_law_value.kp T.b_law_value .nil pass0 (pa_cons (pv 0) pa_nil)))
    (pss_cons (ps_try_as (i := 3) rfl rfl sc_law_reads.nd rfl rfl ⟨rfl, by decide, Or.inl T.m_InvalidAmount⟩ takes0
      (fun W pn xe tk _ => (pss_one (ps_set (i := 2) sc_law_reads.nd rfl (Or.inl rfl) (pe_callS G_parse_cents hr (by rfl) T.m_parse_cents T.F_parse_cents.kp T.b_parse_cents (fun σ => passAt tk σ) (pa_cons (pv 0) pa_nil)))))
      (fun a oe cls d pn hz hf => (pss_one (ps_ret (pe_and (pe_cmpR op_isN (pv 1) pe_non (nomark _)) (pe_and (pe_callB (call_isE' T.e_InvalidAmount hz hf) (by rfl) T.z_isinstance (by decide +kernel) (pa_cons (pv 3) (pa_cons (pe_glob (v := .ref T.c_BourseError) rfl T.m_BourseError rfl) pa_nil))) (pe_one (pe_not (pe_callB (call_isE' T.e_InvalidAmount hz hf) (by rfl) T.z_isinstance (by decide +kernel) (pa_cons (pv 3) (pa_cons (pe_glob (v := .ref T.c_InvalidWeights) rfl T.m_InvalidWeights rfl) pa_nil)))))))))))
    (pss_cons (ps_if (PW.pt (pw_or (pt_not (pt_val (pe_callB call_isi (by rfl) T.z_isinstance (by decide +kernel) (pa_cons (pv 2) (pa_cons (pe_bltn (v := .ty "int") (u := .type "int") (by rfl) T.z_int (by decide +kernel) rfl) pa_nil))))) (pw_or (pt_val (pe_callB call_isi (by rfl) T.z_isinstance (by decide +kernel) (pa_cons (pv 2) (pa_cons (pe_bltn (v := .ty "bool") (u := .type "bool") (by rfl) T.z_bool (by decide +kernel) rfl) pa_nil)))) (pw_or1 (pt_cmpR op_isN (pv 1) pe_non (nomark _))))))
      (pss_one (ps_ret pe_bl))
      pss_nil)
    (pss_one (ps_ret (pe_cmpR op_eq (pv 2) (pv 1) (nomark _))))))), ?_⟩
    walk_at "st"
    refine ⟨fun c hw => ?_, fun hn => ?_⟩
    · walk_at "st"
      refine ⟨fun c2 H' hw2 s1 => ?_, fun H' hn s1 => absurd hw (hn c)⟩
      have e2 : c2 = c := fmtL_inj (hw2.1.trans hw.1.symm)
      rw [e2]
      refine ⟨_, rfl, ?_⟩
      refine ⟨_, _, _, _, true, rfl, .ty _, .base (.int _), kit_ty (by decide +kernel), ?_⟩
      refine ⟨_, rfl, iteF ?_⟩
      refine ⟨_, rfl, ?_⟩
      refine ⟨_, _, _, _, false, rfl, .ty _, .base (.int _), kit_ty (by decide +kernel), ?_⟩
      refine ⟨_, rfl, iteF ?_⟩
      walk_at "st"
      show Q (V.bl (decide (V.int c = V.int c))) H'
      rw [decide_eq_true rfl]
      exact q _ s1
    · walk_at "st"
      refine ⟨fun c2 H' hw2 s1 => absurd hw2 (hn c2), fun H' _ s1 => ?_⟩
      refine ⟨true, te, fun _ a0 _ => ?_, fun q => Bool.noConfusion q⟩
      walk_at "st"
      refine ⟨_, true, rfl, fun u hu => hu, T.kt_InvalidAmount_BourseError, ?_⟩
      refine ⟨true, rfl, iteT ?_⟩
      walk_at "st"
      refine ⟨_, false, rfl, fun u hu => hu, T.kt_InvalidAmount_InvalidWeights, ?_⟩
      refine ⟨false, rfl, ?_⟩
      exact q _ s1

theorem sign_at {z : Int} (h0 : 0 ≤ z) (h1 : z < 14) : ∃ c, atI ("0123456789-. a" : Str).cps.toList z = some c := by
  obtain ⟨n, rfl⟩ := Int.eq_ofNat_of_zero_le h0
  have hl : n < ("0123456789-. a" : Str).cps.toList.length := by
    rw [show ("0123456789-. a" : Str).cps.toList.length = 14 from rfl]
    omega
  exact ⟨_, atI_nat (List.getElem?_eq_getElem hl)⟩
theorem add_small {u v : Str} {n m : Nat} (h1 : u.length ≤ n) (h2 : v.length ≤ m) (h : n + m ≤ 1000) : u.length + v.length ≤ sizeLine := Nat.le_of_lt (small1000 (by omega))
theorem app_len {u v : Str} {n m : Nat} (h1 : u.length ≤ n) (h2 : v.length ≤ m) : (u ++ v).length ≤ n + m := by
  rw [TL.len_tl, TL.tl_append, List.length_append, ← TL.len_tl, ← TL.len_tl]
  omega
theorem joinL_len : ∀ ps : List (List Nat), (TL.joinL [] ps).length = (ps.map List.length).sum
  | [] => rfl
  | [p] => by show p.length = p.length + 0; omega
  | p :: q :: r => by
    show (p ++ ([] ++ TL.joinL [] (q :: r))).length = _
    rw [List.nil_append, List.length_append, joinL_len (q :: r)]
    rfl
theorem ones_sum : ∀ ys : List Str, (∀ y, y ∈ ys → y.length = 1) → (ys.map (·.length)).sum = ys.length
  | [], _ => rfl
  | y :: r, h => by
    rw [List.map_cons, List.sum_cons, List.length_cons, ones_sum r fun z hz => h z (List.mem_cons_of_mem _ hz)]
    have := h y List.mem_cons_self
    show y.length + r.length = _
    omega
theorem join_ones {ys : List Str} (h : ∀ y, y ∈ ys → y.length = 1) : (Txt.join "" ys).length = ys.length := by
  rw [TL.len_tl, (congrArg TL.tl (TL.join_eq "" ys)).trans (TL.tl_join "" ys), show TL.tl ("" : Str) = [] from rfl, joinL_len, List.map_map, ← ones_sum ys h]
  congr 1
def sp_law (K : PySem.W.Frag) : Sp := fun vs H Q _ => ∃ (a : Addr) (ns : List Int), vs = [.ref a] ∧ SqL K H a (ns.map V.int) ∧ ns.length ≤ 63 ∧ ∀ H', Q (.bl true) H'
theorem ok_law {f : Addr} {fd : FuncData} (T : Txt K mg) (F : Fun K "law" "law" s_law f fd) : FnOk P w K mg base CX0 5 f fd ["script"] (sp_law K) := by
  refine F.ok sc_law (fun vs H Q E h => ?_) (fun cdv A outer s H vs Q E hr h => ?_)
  · obtain ⟨a, ns, rfl, _⟩ := h
    rfl
  · obtain ⟨a, ns, rfl, hs, hlen, q⟩ := h
    have G_format_cents : FnOk P w K mg base CX0 1 T.f_format_cents T.d_format_cents ["cents"] (sp_format_cents K) := ok_format_cents T
    have G_law_draws : FnOk P w K mg base CX0 1 T.f_law_draws T.d_law_draws ["cell", "count", "size"] (sp_law_draws K) := ok_law_draws T
    have G_law_reads : FnOk P w K mg base CX0 4 T.f_law_reads T.d_law_reads ["text"] (sp_law_reads K) := ok_law_reads T
    have G_law_cell : FnOk P w K mg base CX0 1 T.f_law_cell T.d_law_cell ["script", "k"] (sp_law_cell K) := ok_law_cell T
    have G_law_due : FnOk P w K mg base CX0 1 T.f_law_due T.d_law_due ["cents"] (sp_law_due K) := ok_law_due T
    refine ⟨_, (pss_cons (ps_set (i := 1) sc_law.nd rfl (Or.inl rfl) (pe_op op_sub (pe_op op_mod (pe_call G_law_cell (hr.mono (by decide)) (by rfl) T.m_law_cell T.F_law_cell.kp T.b_law_cell .nil pass0 (pa_cons (pv 0) (pa_cons pe_int pa_nil))) pe_int) pe_int))
    (C8.pss_cut (ps_if (pt_cmpR op_eq (pe_op op_mod (pe_call G_law_cell (hr.mono (by decide)) (by rfl) T.m_law_cell T.F_law_cell.kp T.b_law_cell .nil pass0 (pa_cons (pv 0) (pa_cons pe_int pa_nil))) pe_int) pe_int (nomark _))
      (pss_one (ps_set (i := 1) sc_law.nd rfl (Or.inl rfl) (pe_op op_sub (pe_op op_mod (pe_call G_law_cell (hr.mono (by decide)) (by rfl) T.m_law_cell T.F_law_cell.kp T.b_law_cell .nil pass0 (pa_cons (pv 0) (pa_cons pe_int pa_nil))) pe_int) pe_int)))
      pss_nil)
    (pss_cons (ps_set (i := 2) sc_law.nd rfl (Or.inl rfl) (pe_call G_format_cents (hr.mono (by decide)) (by rfl) T.m_format_cents T.F_format_cents.kp T.b_format_cents .nil pass0 (pa_cons (pv 1) pa_nil)))
    (pss_cons (ps_if (PW.pt (pw_or (pt_not (pt_val (pe_callB call_isi (by rfl) T.z_isinstance (by decide +kernel) (pa_cons (pv 2) (pa_cons (pe_bltn (v := .ty "str") (u := .type "str") (by rfl) T.z_str (by decide +kernel) rfl) pa_nil))))) (pw_or (pt_cmpR op_ne (pv 2) (pe_call G_law_due (hr.mono (by decide)) (by rfl) T.m_law_due T.F_law_due.kp T.b_law_due .nil pass0 (pa_cons (pv 1) pa_nil)) (nomark _)) (pw_or1 (pt_not (pt_val (pe_call G_law_reads hr (by rfl) T.m_law_reads T.F_law_reads.kp T.b_law_reads .nil pass0 (pa_cons (pv 2) pa_nil))))))))
      (pss_one (ps_ret pe_bl))
      pss_nil)
    (pss_cons (ps_set (i := 3) sc_law.nd rfl (Or.inr rfl) pe_str)
    (pss_cons (ps_set (i := 4) sc_law.nd rfl (Or.inl rfl) (pe_call G_law_draws (hr.mono (by decide)) (by rfl) T.m_law_draws T.F_law_draws.kp T.b_law_draws .nil pass0 (pa_cons (pe_call G_law_cell (hr.mono (by decide)) (by rfl) T.m_law_cell T.F_law_cell.kp T.b_law_cell .nil pass0 (pa_cons (pv 0) (pa_cons pe_int pa_nil))) (pa_cons (pe_op op_mod (pe_call G_law_cell (hr.mono (by decide)) (by rfl) T.m_law_cell T.F_law_cell.kp T.b_law_cell .nil pass0 (pa_cons (pv 0) (pa_cons pe_int pa_nil))) pe_int) (pa_cons pe_int pa_nil)))))
    (pss_cons (ps_if (pt_not (pt_val (pe_call G_law_reads hr (by rfl) T.m_law_reads T.F_law_reads.kp T.b_law_reads .nil pass0 (pa_cons (pe_join pe_str (pe_lc (own := [("k", 5)]) (g := gName 5) (tt := tYes) rfl sc_law.nd (pi_list (pv 4)) (blkOk_by (own := [("k", 5)]) (N := N_law) (sc := defScope s_law) (by decide +kernel)) (fun _ _ _ _ _ => (pg_name (i := 5) sc_law.nd rfl (Or.inl rfl))) (fun _ _ _ _ _ => pts_nil) (fun _ _ _ _ _ => (pe_ix (show IxR _ rIxS from ix_str) (pv 3) (pv 5) (fun _ _ => rfl))))) pa_nil))))
      (pss_one (ps_ret pe_bl))
      pss_nil)
    (pss_cons (ps_set (i := 6) sc_law.nd rfl (Or.inl rfl) (pe_op op_mod (pe_call G_law_cell (hr.mono (by decide)) (by rfl) T.m_law_cell T.F_law_cell.kp T.b_law_cell .nil pass0 (pa_cons (pv 0) (pa_cons pe_int pa_nil))) (pe_op op_add (pe_callB call_len_str (by rfl) T.z_len PySem.boot_len (pa_cons (pv 2) pa_nil)) pe_int)))
    (pss_cons (ps_set (i := 7) sc_law.nd rfl (Or.inl rfl) (pe_ix ix_str (pv 3) (pe_op op_mod (pe_call G_law_cell (hr.mono (by decide)) (by rfl) T.m_law_cell T.F_law_cell.kp T.b_law_cell .nil pass0 (pa_cons (pv 0) (pa_cons pe_int pa_nil))) pe_int) (fun _ _ => rfl)))
    (pss_cons (ps_if (PW.pt (pw_or (pt_not (pt_val (pe_call G_law_reads hr (by rfl) T.m_law_reads T.F_law_reads.kp T.b_law_reads .nil pass0 (pa_cons (pe_op op_add_str (pe_op op_add_str (pe_slice sl_str (pv 2) po_none (po_some (pv 6))) (pv 7)) (pe_slice sl_str (pv 2) (po_some (pv 6)) po_none)) pa_nil)))) (pw_or1 (pt_not (pt_val (pe_call G_law_reads hr (by rfl) T.m_law_reads T.F_law_reads.kp T.b_law_reads .nil pass0 (pa_cons (pe_op op_add_str (pe_slice sl_str (pv 2) po_none (po_some (pv 6))) (pe_slice sl_str (pv 2) (po_some (pe_op op_add (pv 6) pe_int)) po_none)) pa_nil)))))))
      (pss_one (ps_ret pe_bl))
      pss_nil)
    (pss_one (ps_ret (pe_call G_law_reads hr (by rfl) T.m_law_reads T.F_law_reads.kp T.b_law_reads .nil pass0 (pa_cons (pe_op op_add_str (pe_op op_add_str (pe_slice sl_str (pv 2) po_none (po_some (pv 6))) (pv 7)) (pe_slice sl_str (pv 2) (po_some (pe_op op_add (pv 6) pe_int)) po_none)) pa_nil)))))))))))))), ?_⟩
    walk_at "st"
    have h01 := Int.emod_nonneg (cellOf ns 0) (by decide : (2000000000001 : Int) ≠ 0)
    have h02 := Int.emod_lt_of_pos (cellOf ns 0) (by decide : (0 : Int) < 2000000000001)
    have h11 := Int.emod_nonneg (cellOf ns 0) (by decide : (241 : Int) ≠ 0)
    have h12 := Int.emod_lt_of_pos (cellOf ns 0) (by decide : (0 : Int) < 241)
    refine ⟨fun σ' H' => H' = H ∧ ∃ c : Int, σ' = [some (.ref a), some (.int c), none, none, none, none, none, none] ∧ c.natAbs ≤ 1000000000000, ?_, ?_⟩
    · walk_at "st"
      refine iteB (fun h => ?_) (fun h => ?_)
      · walk_at "st"
        omega
      · exact ⟨rfl, _, rfl, by omega⟩
    · rintro σ' H0 ⟨rfl, c, rfl, hc⟩
      have hlen : (fmtL c).length ≤ 16 := by
        have := TL.numL_len (n := c.natAbs / 100) (k := 11) (by decide) (by omega)
        unfold fmtL fmtN
        rw [List.length_append, List.length_append]
        split <;> (simp only [List.length_cons, List.length_nil]; omega)
      walk_at "st"
      intro H1 s1
      have tl_t : TL.tl (⟨(fmtL c).toArray⟩ : Str) = fmtL c := TL.tl_mk _
      have t_len : (⟨(fmtL c).toArray⟩ : Str).length ≤ 16 := by rw [TL.len_tl, tl_t]; exact hlen
      generalize hT : (⟨(fmtL c).toArray⟩ : Str) = text at tl_t t_len
      refine ⟨_, rfl, ?_⟩
      refine ⟨_, _, _, _, true, rfl, .ty _, .base (.str _), kit_ty (by decide +kernel), ?_⟩
      refine ⟨_, rfl, iteF ?_⟩
      walk_at "st"
      refine iteB (fun h => (ndec_t h (congrArg V.str hT.symm)).elim) (fun _ => ?_)
      walk_at "st"
      intro H2 s2
      have s02 := s1.trans s2
      have hs2 := s02.seq hs
      obtain ⟨m, hm⟩ : ∃ m : Nat, cellOf ns 3 % 9 = (m : Int) := ⟨(cellOf ns 3 % 9).toNat, (Int.toNat_of_nonneg (Int.emod_nonneg _ (by decide))).symm⟩
      have hm9 : m < 9 := by have := Int.emod_lt_of_pos (cellOf ns 3) (by decide : (0 : Int) < 9); omega
      walk_at "st"
      change [V.int (cellOf ns 2), V.int (cellOf ns 3 % 9), V.int 14] = _ ∧ _
      rw [hm]
      apply And.intro
      · exact rfl
      refine ⟨by omega, by decide, by decide, fun p H3 ds s3 np hp hl hb => ?_⟩
      have s03 := s02.trans s3
      have hs3 := s03.seq hs
      refine ⟨⟨_, rfl⟩, _, rfl, p, rfl, ⟨_, SqL.of hp⟩, fun D nD => ?_⟩
      have sD : ∀ o, Same H3 (upd H3 D o) := fun o => same_upd nD
      refine lc_list (K := K) (a := p) (xs := ds.map V.int) (fun i H' => ∃ ys : List Str, H' = upd H3 D (.lst (ys.map V.str)) ∧ ys.length = i ∧ ∀ y, y ∈ ys → y.length = 1) ⟨[], rfl, rfl, fun _ h => by cases h⟩ (fun i H' _ ⟨ys, e, _, _⟩ => by rw [e]; exact (sD _).seq (SqL.of hp)) ?_ ?_
      · rintro i x H' hx ⟨ys, rfl, hyl, hy⟩
        obtain ⟨z, hz, rfl⟩ := ints_at hx
        have hzb := hb z (List.mem_of_getElem? hz)
        obtain ⟨c1, hc1⟩ := sign_at hzb.1 hzb.2
        have hi := (List.getElem?_eq_some_iff.mp hz).1
        refine ⟨rfl, ?_⟩
        walk_at "st"
        refine ⟨by decide, hc1, ys.map V.str, upd_same, small1000 (by rw [List.length_map]; omega), ys ++ [⟨#[c1]⟩], ?_, ?_, ?_⟩
        · rw [upd_upd, List.map_append]
          rfl
        · rw [List.length_append, hyl]
          rfl
        · intro y hy2
          rcases List.mem_append.mp hy2 with hy2 | hy2
          · exact hy y hy2
          · rw [List.mem_singleton.mp hy2]
            rfl
      · rintro H' ⟨ys, rfl, hyl, hy⟩
        rw [List.length_map] at hyl
        refine ⟨_, D, ys, rfl, rfl, .inl (SqL.of upd_same), ?_, ?_⟩
        · rw [ones_sum ys hy]
          show _ + _ * 0 ≤ _
          omega
        have hj := join_ones hy
        generalize Txt.join "" ys = j at hj
        have s4 := s03.trans (sD (.lst (ys.map V.str)))
        generalize upd H3 D (.lst (ys.map V.str)) = H4 at s4
        have hs4 := s4.seq hs
        walk_at "st"
        intro H5 s5
        have s05 := s4.trans s5
        have hs5 := s05.seq hs
        obtain ⟨c2, hc2⟩ := sign_at (Int.emod_nonneg (cellOf ns 5) (by decide : (14 : Int) ≠ 0)) (Int.emod_lt_of_pos (cellOf ns 5) (by decide : (0 : Int) < 14))
        have hts : text.length ≤ sizeLine := Nat.le_of_lt (small1000 (by omega))
        walk_at "st"
        have zc : ∀ lo hi, (cutS text lo hi).length ≤ 16 := fun lo hi => Nat.le_trans (cutS_length text lo hi) t_len
        have z1 : (⟨#[c2]⟩ : Str).length ≤ 1 := Nat.le_refl 1
        refine ⟨by decide, hc2, ?_⟩
        walk_at "st"
        refine ⟨add_small (zc _ _) z1 (by decide), ?_⟩
        walk_at "st"
        refine ⟨add_small (app_len (zc _ _) z1) (zc _ _) (by decide), ?_⟩
        walk_at "st"
        refine ⟨Nat.le_trans (app_len (app_len (zc _ _) z1) (zc _ _)) (by decide), fun H6 s6 => ?_⟩
        walk_at "st"
        refine ⟨add_small (zc _ _) (zc _ _) (by decide), ?_⟩
        walk_at "st"
        refine ⟨Nat.le_trans (app_len (zc _ _) (zc _ _)) (by decide), fun H7 s7 => ?_⟩
        walk_at "st"
        refine ⟨add_small (zc _ _) z1 (by decide), ?_⟩
        walk_at "st"
        refine ⟨add_small (app_len (zc _ _) z1) (zc _ _) (by decide), ?_⟩
        walk_at "st"
        refine ⟨Nat.le_trans (app_len (app_len (zc _ _) z1) (zc _ _)) (by decide), fun H8 s8 => ?_⟩
        exact q H8

end
theorem all_mk {l : PySem.W.OpenLaw} {w : World} {K : PySem.W.Frag} {h : Heap} {mg : Str → Option Value} {fa f1 f2 f3 f4 f5 f6 f7 f8 f9 f10 : Addr} (X : K.In h) (G : h.Ns mainGlobals mg) (hfa : mg "law" = some (.ref fa))
    {od1 an1 od2 an2 od3 an3 od4 an4 od5 an5 od6 an6 od7 an7 od8 an8 od9 an9 od10 an10 : Option Addr} {sl1 sl2 sl3 sl4 sl5 sl6 sl7 sl8 sl9 sl10 : Array (Option Value)} {oc1 kV1 dc1 pm1 cd1 ct1 oc2 kV2 dc2 pm2 cd2 ct2 oc3 kV3 dc3 pm3 cd3 ct3 oc4 kV4 dc4 pm4 cd4 ct4 oc5 kV5 dc5 pm5 cd5 ct5 oc6 kV6 dc6 pm6 cd6 ct6 oc7 kV7 dc7 pm7 cd7 ct7 oc8 kV8 dc8 pm8 cd8 ct8 oc9 kV9 dc9 pm9 cd9 ct9 oc10 kV10 dc10 pm10 cd10 ct10 : Value}
    (a1 : PySem.W.nsIn K mainGlobals "is_word_of" = some (some (.ref f1)))
    (l1 : K.lookup f1 = some ⟨oc1, od1, .func (PySem.W.fnOf "is_word_of" "is_word_of" (defArgs s_is_word_of) (defBody s_is_word_of) (defScope s_is_word_of) .none kV1 dc1 pm1 an1 cd1 ct1), sl1⟩) (c1 : PySem.W.codeIn K cd1 "is_word_of" = true) (k1 : PySem.W.keepIn K (.ref f1) = true)
    (a2 : PySem.W.nsIn K mainGlobals "is_digits" = some (some (.ref f2)))
    (l2 : K.lookup f2 = some ⟨oc2, od2, .func (PySem.W.fnOf "is_digits" "is_digits" (defArgs s_is_digits) (defBody s_is_digits) (defScope s_is_digits) .none kV2 dc2 pm2 an2 cd2 ct2), sl2⟩) (c2 : PySem.W.codeIn K cd2 "is_digits" = true) (k2 : PySem.W.keepIn K (.ref f2) = true)
    (a3 : PySem.W.nsIn K mainGlobals "format_cents" = some (some (.ref f3)))
    (l3 : K.lookup f3 = some ⟨oc3, od3, .func (PySem.W.fnOf "format_cents" "format_cents" (defArgs s_format_cents) (defBody s_format_cents) (defScope s_format_cents) .none kV3 dc3 pm3 an3 cd3 ct3), sl3⟩) (c3 : PySem.W.codeIn K cd3 "format_cents" = true) (k3 : PySem.W.keepIn K (.ref f3) = true)
    (a4 : PySem.W.nsIn K mainGlobals "parse_cents" = some (some (.ref f4)))
    (l4 : K.lookup f4 = some ⟨oc4, od4, .func (PySem.W.fnOf "parse_cents" "parse_cents" (defArgs s_parse_cents) (defBody s_parse_cents) (defScope s_parse_cents) .none kV4 dc4 pm4 an4 cd4 ct4), sl4⟩) (c4 : PySem.W.codeIn K cd4 "parse_cents" = true) (k4 : PySem.W.keepIn K (.ref f4) = true)
    (a5 : PySem.W.nsIn K mainGlobals "_law_cell" = some (some (.ref f5)))
    (l5 : K.lookup f5 = some ⟨oc5, od5, .func (PySem.W.fnOf "_law_cell" "_law_cell" (defArgs s_law_cell) (defBody s_law_cell) (defScope s_law_cell) .none kV5 dc5 pm5 an5 cd5 ct5), sl5⟩) (c5 : PySem.W.codeIn K cd5 "_law_cell" = true) (k5 : PySem.W.keepIn K (.ref f5) = true)
    (a6 : PySem.W.nsIn K mainGlobals "_law_draws" = some (some (.ref f6)))
    (l6 : K.lookup f6 = some ⟨oc6, od6, .func (PySem.W.fnOf "_law_draws" "_law_draws" (defArgs s_law_draws) (defBody s_law_draws) (defScope s_law_draws) .none kV6 dc6 pm6 an6 cd6 ct6), sl6⟩) (c6 : PySem.W.codeIn K cd6 "_law_draws" = true) (k6 : PySem.W.keepIn K (.ref f6) = true)
    (a7 : PySem.W.nsIn K mainGlobals "_law_due" = some (some (.ref f7)))
    (l7 : K.lookup f7 = some ⟨oc7, od7, .func (PySem.W.fnOf "_law_due" "_law_due" (defArgs s_law_due) (defBody s_law_due) (defScope s_law_due) .none kV7 dc7 pm7 an7 cd7 ct7), sl7⟩) (c7 : PySem.W.codeIn K cd7 "_law_due" = true) (k7 : PySem.W.keepIn K (.ref f7) = true)
    (a8 : PySem.W.nsIn K mainGlobals "_law_value" = some (some (.ref f8)))
    (l8 : K.lookup f8 = some ⟨oc8, od8, .func (PySem.W.fnOf "_law_value" "_law_value" (defArgs s_law_value) (defBody s_law_value) (defScope s_law_value) .none kV8 dc8 pm8 an8 cd8 ct8), sl8⟩) (c8 : PySem.W.codeIn K cd8 "_law_value" = true) (k8 : PySem.W.keepIn K (.ref f8) = true)
    (a9 : PySem.W.nsIn K mainGlobals "_law_reads" = some (some (.ref f9)))
    (l9 : K.lookup f9 = some ⟨oc9, od9, .func (PySem.W.fnOf "_law_reads" "_law_reads" (defArgs s_law_reads) (defBody s_law_reads) (defScope s_law_reads) .none kV9 dc9 pm9 an9 cd9 ct9), sl9⟩) (c9 : PySem.W.codeIn K cd9 "_law_reads" = true) (k9 : PySem.W.keepIn K (.ref f9) = true)
    (a10 : PySem.W.nsIn K mainGlobals "law" = some (some (.ref f10)))
    (l10 : K.lookup f10 = some ⟨oc10, od10, .func (PySem.W.fnOf "law" "law" (defArgs s_law) (defBody s_law) (defScope s_law) .none kV10 dc10 pm10 an10 cd10 ct10), sl10⟩) (c10 : PySem.W.codeIn K cd10 "law" = true) (k10 : PySem.W.keepIn K (.ref f10) = true)
    (z_abs : PySem.W.nsIn K mainGlobals "abs" = some none)
    (z_all : PySem.W.nsIn K mainGlobals "all" = some none)
    (z_bool : PySem.W.nsIn K mainGlobals "bool" = some none)
    (z_divmod : PySem.W.nsIn K mainGlobals "divmod" = some none)
    (z_int : PySem.W.nsIn K mainGlobals "int" = some none)
    (z_isinstance : PySem.W.nsIn K mainGlobals "isinstance" = some none)
    (z_len : PySem.W.nsIn K mainGlobals "len" = some none)
    (z_range : PySem.W.nsIn K mainGlobals "range" = some none)
    (z_str : PySem.W.nsIn K mainGlobals "str" = some none)
    {t_DIGITS t_MOST_DIGITS t_MOST_WRITTEN : Tok}
    (v_DIGITS : PySem.W.nsIn K mainGlobals "DIGITS" = some (some (.str "0123456789" t_DIGITS)))
    (v_MOST_DIGITS : PySem.W.nsIn K mainGlobals "MOST_DIGITS" = some (some (.int 20 t_MOST_DIGITS)))
    (v_MOST_WRITTEN : PySem.W.nsIn K mainGlobals "MOST_WRITTEN" = some (some (.int 1000000000000 t_MOST_WRITTEN)))
    {c_BourseError c_InvalidAmount c_InvalidWeights : Addr}
    (g_BourseError : PySem.W.nsIn K mainGlobals "BourseError" = some (some (.ref c_BourseError)))
    (g_InvalidAmount : PySem.W.nsIn K mainGlobals "InvalidAmount" = some (some (.ref c_InvalidAmount)))
    (x_InvalidAmount : PySem.W.excIn K c_InvalidAmount [.type "ValueError", .type "Exception", .type "BaseException", .type "object"] "ValueError.__new__" = true)
    (k_InvalidAmount : PySem.W.keepIn K (.ref c_InvalidAmount) = true)
    (b_InvalidAmount : PySem.W.subIn K (.ref c_InvalidAmount) (.type "BaseException") = some true)
    (t_InvalidAmount : PySem.W.typeIn K (.ref c_InvalidAmount) = some (.type "type"))
    (d_InvalidAmount : PySem.W.hasDictIn K c_InvalidAmount = true)
    (s_InvalidAmount : PySem.W.subIn K (.ref c_InvalidAmount) (.ref c_InvalidAmount) = some true)
    (eg_InvalidAmount : PySem.W.findIn K (.ref c_InvalidAmount) "__getattribute__" = some (some (.builtin "BaseException.__getattribute__")))
    (ek_InvalidAmount : PySem.W.findIn K (.ref c_InvalidAmount) "__getattr__" = some none)
    (ea_InvalidAmount : PySem.W.findIn K (.ref c_InvalidAmount) "__class__" = some (some (.builtin "object.__class__")))
    (en_InvalidAmount : PySem.W.specialIn K (.builtin "object.__class__") "__get__" = some (some (.builtin "getset_descriptor.__get__")))
    (et_InvalidAmount : PySem.W.takesIn K (.builtin "object.__class__") = some true)
    (em_InvalidAmount : PySem.W.mroIn K c_InvalidAmount (.type "object") = some true)
    (g_InvalidWeights : PySem.W.nsIn K mainGlobals "InvalidWeights" = some (some (.ref c_InvalidWeights)))
    (kt_InvalidAmount_BourseError : PySem.W.kitOne K (.ref c_InvalidAmount) (.ref c_BourseError) = some true)
    (kt_InvalidAmount_InvalidWeights : PySem.W.kitOne K (.ref c_InvalidAmount) (.ref c_InvalidWeights) = some false) :
    ∃ fd : FuncData, (∀ (s : Shared) (v : Value), BindsTo s fd ⟨[v], []⟩ [("script", v)]) ∧ ∀ base : Heap, K.In base → base.Ns mainGlobals mg → FnOk l.prog w K mg base CX0 5 fa fd ["script"] (sp_law K) := by
  have e := hfa.symm.trans (PySem.W.mg_of X G a10)
  cases e
  have F1 := fun_mk (st := s_is_word_of) l1 c1 k1
  have b1 := F1.binds (ps := ["letters", "most", "text"]) fun _ _ _ _ _ _ us hl => match us, hl with | [_, _, _], _ => rfl
  have F2 := fun_mk (st := s_is_digits) l2 c2 k2
  have b2 := F2.binds (ps := ["text"]) fun _ _ _ _ _ _ us hl => match us, hl with | [_], _ => rfl
  have F3 := fun_mk (st := s_format_cents) l3 c3 k3
  have b3 := F3.binds (ps := ["cents"]) fun _ _ _ _ _ _ us hl => match us, hl with | [_], _ => rfl
  have F4 := fun_mk (st := s_parse_cents) l4 c4 k4
  have b4 := F4.binds (ps := ["text"]) fun _ _ _ _ _ _ us hl => match us, hl with | [_], _ => rfl
  have F5 := fun_mk (st := s_law_cell) l5 c5 k5
  have b5 := F5.binds (ps := ["script", "k"]) fun _ _ _ _ _ _ us hl => match us, hl with | [_, _], _ => rfl
  have F6 := fun_mk (st := s_law_draws) l6 c6 k6
  have b6 := F6.binds (ps := ["cell", "count", "size"]) fun _ _ _ _ _ _ us hl => match us, hl with | [_, _, _], _ => rfl
  have F7 := fun_mk (st := s_law_due) l7 c7 k7
  have b7 := F7.binds (ps := ["cents"]) fun _ _ _ _ _ _ us hl => match us, hl with | [_], _ => rfl
  have F8 := fun_mk (st := s_law_value) l8 c8 k8
  have b8 := F8.binds (ps := ["text"]) fun _ _ _ _ _ _ us hl => match us, hl with | [_], _ => rfl
  have F9 := fun_mk (st := s_law_reads) l9 c9 k9
  have b9 := F9.binds (ps := ["text"]) fun _ _ _ _ _ _ us hl => match us, hl with | [_], _ => rfl
  have F10 := fun_mk (st := s_law) l10 c10 k10
  have b10 := F10.binds (ps := ["script"]) fun _ _ _ _ _ _ us hl => match us, hl with | [_], _ => rfl
  have T : Txt K mg := ⟨f1, _, F1, PySem.W.mg_of X G a1, b1, f2, _, F2, PySem.W.mg_of X G a2, b2, f3, _, F3, PySem.W.mg_of X G a3, b3, f4, _, F4, PySem.W.mg_of X G a4, b4, f5, _, F5, PySem.W.mg_of X G a5, b5, f6, _, F6, PySem.W.mg_of X G a6, b6, f7, _, F7, PySem.W.mg_of X G a7, b7, f8, _, F8, PySem.W.mg_of X G a8, b8, f9, _, F9, PySem.W.mg_of X G a9, b9, c_BourseError, PySem.W.mg_of X G g_BourseError, c_InvalidAmount, PySem.W.mg_of X G g_InvalidAmount, x_InvalidAmount, k_InvalidAmount, b_InvalidAmount, t_InvalidAmount, d_InvalidAmount, s_InvalidAmount, eg_InvalidAmount, ek_InvalidAmount, ea_InvalidAmount, en_InvalidAmount, et_InvalidAmount, em_InvalidAmount, ⟨eg_InvalidAmount, ek_InvalidAmount, b_InvalidAmount, d_InvalidAmount, ea_InvalidAmount, en_InvalidAmount, et_InvalidAmount, em_InvalidAmount⟩, c_InvalidWeights, PySem.W.mg_of X G g_InvalidWeights, kt_InvalidAmount_BourseError, kt_InvalidAmount_InvalidWeights, PySem.W.mg_none_of X G z_abs, PySem.W.mg_none_of X G z_all, PySem.W.mg_none_of X G z_bool, PySem.W.mg_none_of X G z_divmod, PySem.W.mg_none_of X G z_int, PySem.W.mg_none_of X G z_isinstance, PySem.W.mg_none_of X G z_len, PySem.W.mg_none_of X G z_range, PySem.W.mg_none_of X G z_str, t_DIGITS, PySem.W.mg_of X G v_DIGITS, t_MOST_DIGITS, PySem.W.mg_of X G v_MOST_DIGITS, t_MOST_WRITTEN, PySem.W.mg_of X G v_MOST_WRITTEN⟩
  exact ⟨PySem.W.fnOf "law" "law" (defArgs s_law) (defBody s_law) (defScope s_law) .none kV10 dc10 pm10 an10 cd10 ct10, fun s v => .of_eq rfl, fun base _ _ => ok_law T F10⟩
end FB
open PySem PySem.W PyProof.Rows
set_option maxRecDepth 100000 in
set_option maxHeartbeats 0 in
theorem PySem.Challenge.cw_fairbourse_k16_written_amounts_holds : PySem.Challenge.rw_fairbourse_k16_written_amounts.Holds := by
  w_on; o_law; k_head; (case hw => w_witness2)
  k_fill
  refine L2.walk_of (l := PySem.Challenge.rw_fairbourse_k16_written_amounts) (n := 63) (k := 5) (x := "script") (CX := fun _ => L2.CX0) (sp := fun w => FB.sp_law _) rfl (by decide) rfl ⟨rfl, by decide, by decide⟩ (fun w h Y => PySem.W.kIn_of Y) ?F (fun _ _ a ns hl _ hS => ⟨a, ns, rfl, hS, hl, fun _ => rfl⟩) (fun _ _ _ _ _ h => h)
  case F =>
    intro w mg fa h KX G hmg
    refine' FB.all_mk KX G hmg ?a1 ?l1 ?c1 ?k1 ?a2 ?l2 ?c2 ?k2 ?a3 ?l3 ?c3 ?k3 ?a4 ?l4 ?c4 ?k4 ?a5 ?l5 ?c5 ?k5 ?a6 ?l6 ?c6 ?k6 ?a7 ?l7 ?c7 ?k7 ?a8 ?l8 ?c8 ?k8 ?a9 ?l9 ?c9 ?k9 ?a10 ?l10 ?c10 ?k10 ?z_abs ?z_all ?z_bool ?z_divmod ?z_int ?z_isinstance ?z_len ?z_range ?z_str ?v_DIGITS ?v_MOST_DIGITS ?v_MOST_WRITTEN ?g_BourseError ?g_InvalidAmount ?x_InvalidAmount ?k_InvalidAmount ?b_InvalidAmount ?t_InvalidAmount ?d_InvalidAmount ?s_InvalidAmount ?eg_InvalidAmount ?ek_InvalidAmount ?ea_InvalidAmount ?en_InvalidAmount ?et_InvalidAmount ?em_InvalidAmount ?g_InvalidWeights ?kt_InvalidAmount_BourseError ?kt_InvalidAmount_InvalidWeights
    (case a1 => k_is)
    (case l1 => k_is)
    (case c1 => k_is)
    (case k1 => k_is)
    (case a2 => k_is)
    (case l2 => k_is)
    (case c2 => k_is)
    (case k2 => k_is)
    (case a3 => k_is)
    (case l3 => k_is)
    (case c3 => k_is)
    (case k3 => k_is)
    (case a4 => k_is)
    (case l4 => k_is)
    (case c4 => k_is)
    (case k4 => k_is)
    (case a5 => k_is)
    (case l5 => k_is)
    (case c5 => k_is)
    (case k5 => k_is)
    (case a6 => k_is)
    (case l6 => k_is)
    (case c6 => k_is)
    (case k6 => k_is)
    (case a7 => k_is)
    (case l7 => k_is)
    (case c7 => k_is)
    (case k7 => k_is)
    (case a8 => k_is)
    (case l8 => k_is)
    (case c8 => k_is)
    (case k8 => k_is)
    (case a9 => k_is)
    (case l9 => k_is)
    (case c9 => k_is)
    (case k9 => k_is)
    (case a10 => k_is)
    (case l10 => k_is)
    (case c10 => k_is)
    (case k10 => k_is)
    (case z_abs => k_is)
    (case z_all => k_is)
    (case z_bool => k_is)
    (case z_divmod => k_is)
    (case z_int => k_is)
    (case z_isinstance => k_is)
    (case z_len => k_is)
    (case z_range => k_is)
    (case z_str => k_is)
    (case v_DIGITS => k_is)
    (case v_MOST_DIGITS => k_is)
    (case v_MOST_WRITTEN => k_is)
    (case g_BourseError => k_is)
    (case g_InvalidAmount => k_is)
    (case x_InvalidAmount => k_exc)
    (case k_InvalidAmount => k_is)
    (case b_InvalidAmount => k_is)
    (case t_InvalidAmount => k_is)
    (case d_InvalidAmount => k_is)
    (case s_InvalidAmount => first | rfl | k_is)
    (case eg_InvalidAmount => k_is)
    (case ek_InvalidAmount => k_is)
    (case ea_InvalidAmount => k_is)
    (case en_InvalidAmount => k_is)
    (case et_InvalidAmount => k_is)
    (case em_InvalidAmount => k_is)
    (case g_InvalidWeights => k_is)
    (case kt_InvalidAmount_BourseError => kit_is)
    (case kt_InvalidAmount_InvalidWeights => kit_is)
#print axioms PySem.Challenge.cw_fairbourse_k16_written_amounts_holds
