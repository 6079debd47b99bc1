import PyProof.Rows.All
import Wide.All
import OpenK.AllK
import Wide.FinOn
import HandS.ForMost
import HandS.ForExc
import HandS.Defaults
import HandS.IsInst
import HandS.Wide
import HandS.StrMore
import HandS.FStr
import HandS.Walk
import HandS.Codes
import HandS.RaiseMore
import PySem.Challenge.RW_fairbourse_k99_tape_of_lines_out_of_orde
set_option Elab.async false
set_option linter.all false
set_option maxRecDepth 100000
namespace FB
open PySem PySem.Spec PyProof.Rows L2
def topS (i : Nat) : Stmt := PySem.Challenge.pw_fairbourse_k99_tape_of_lines_out_of_orde.main.body.getD i (.Pass ⟨0, 0, 0, 0⟩)
abbrev s_check_of : Stmt := topS 8
abbrev N_check_of : List Str := ["text", "value", "sign"]
theorem sc_check_of : FnScope N_check_of ["text"] (defScope s_check_of) := ⟨rfl, rfl, rfl, by decide +kernel, rfl, by decide +kernel, by decide +kernel⟩
abbrev s_write_line : Stmt := topS 9
abbrev N_write_line : List Str := ["number", "text", "numbered"]
theorem sc_write_line : FnScope N_write_line ["number", "text"] (defScope s_write_line) := ⟨rfl, rfl, rfl, by decide +kernel, rfl, by decide +kernel, by decide +kernel⟩
abbrev s_read_tape : Stmt := topS 10
abbrev N_read_tape : List Str := ["tape", "texts", "length", "text"]
theorem sc_read_tape : FnScope N_read_tape ["tape"] (defScope s_read_tape) := ⟨rfl, rfl, rfl, by decide +kernel, rfl, by decide +kernel, by decide +kernel⟩
abbrev s_text_at : Stmt := topS 11
abbrev N_text_at : List Str := ["tape", "start", "number", "line", "text"]
theorem sc_text_at : FnScope N_text_at ["tape", "start", "number"] (defScope s_text_at) := ⟨rfl, rfl, rfl, by decide +kernel, rfl, by decide +kernel, by decide +kernel⟩
abbrev s_is_text : Stmt := topS 12
abbrev N_is_text : List Str := ["text", "sign"]
theorem sc_is_text : FnScope N_is_text ["text"] (defScope s_is_text) := ⟨rfl, rfl, rfl, by decide +kernel, rfl, by decide +kernel, by decide +kernel⟩
abbrev s_law_digit : Stmt := topS 14
abbrev N_law_digit : List Str := ["cell", "base", "k", "left", "step"]
theorem sc_law_digit : FnScope N_law_digit ["cell", "base", "k"] (defScope s_law_digit) := ⟨rfl, rfl, rfl, by decide +kernel, rfl, by decide +kernel, by decide +kernel⟩
abbrev s_law_text : Stmt := topS 15
abbrev N_law_text : List Str := ["cell", "words", "size", "k"]
theorem sc_law_text : FnScope N_law_text ["cell"] (defScope s_law_text) := ⟨rfl, rfl, rfl, by decide +kernel, rfl, by decide +kernel, by decide +kernel⟩
abbrev s_law_lines : Stmt := topS 16
abbrev N_law_lines : List Str := ["script", "lines", "k", "cell"]
theorem sc_law_lines : FnScope N_law_lines ["script"] (defScope s_law_lines) := ⟨rfl, rfl, rfl, by decide +kernel, rfl, by decide +kernel, by decide +kernel⟩
abbrev s_law_raw : Stmt := topS 17
abbrev N_law_raw : List Str := ["number", "text", "body"]
theorem sc_law_raw : FnScope N_law_raw ["number", "text"] (defScope s_law_raw) := ⟨rfl, rfl, rfl, by decide +kernel, rfl, by decide +kernel, by decide +kernel⟩
abbrev s_law_spoil : Stmt := topS 18
abbrev N_law_spoil : List Str := ["lines", "at", "step"]
theorem sc_law_spoil : FnScope N_law_spoil ["lines", "at", "step"] (defScope s_law_spoil) := ⟨rfl, rfl, rfl, by decide +kernel, rfl, by decide +kernel, by decide +kernel⟩
abbrev s_law : Stmt := topS 19
abbrev N_law : List Str := ["script", "lines", "at", "step", "good", "texts", "k", "told", "length"]
theorem sc_law : FnScope N_law ["script"] (defScope s_law) := ⟨rfl, rfl, rfl, by decide +kernel, rfl, by decide +kernel, by decide +kernel⟩
set_option maxHeartbeats 0 in
structure Txt (K : PySem.W.Frag) (mg : Str → Option Value) where
  f_check_of : Addr
  d_check_of : FuncData
  F_check_of : Fun K "check_of" "check_of" s_check_of f_check_of d_check_of
  m_check_of : mg "check_of" = some (.ref f_check_of)
  b_check_of : Binds K d_check_of ["text"] []
  f_write_line : Addr
  d_write_line : FuncData
  F_write_line : Fun K "write_line" "write_line" s_write_line f_write_line d_write_line
  m_write_line : mg "write_line" = some (.ref f_write_line)
  b_write_line : Binds K d_write_line ["number", "text"] []
  f_read_tape : Addr
  d_read_tape : FuncData
  F_read_tape : Fun K "read_tape" "read_tape" s_read_tape f_read_tape d_read_tape
  m_read_tape : mg "read_tape" = some (.ref f_read_tape)
  b_read_tape : Binds K d_read_tape ["tape"] []
  f_text_at : Addr
  d_text_at : FuncData
  F_text_at : Fun K "_text_at" "_text_at" s_text_at f_text_at d_text_at
  m_text_at : mg "_text_at" = some (.ref f_text_at)
  b_text_at : Binds K d_text_at ["tape", "start", "number"] []
  f_is_text : Addr
  d_is_text : FuncData
  F_is_text : Fun K "_is_text" "_is_text" s_is_text f_is_text d_is_text
  m_is_text : mg "_is_text" = some (.ref f_is_text)
  b_is_text : Binds K d_is_text ["text"] []
  f_law_digit : Addr
  d_law_digit : FuncData
  F_law_digit : Fun K "_law_digit" "_law_digit" s_law_digit f_law_digit d_law_digit
  m_law_digit : mg "_law_digit" = some (.ref f_law_digit)
  b_law_digit : Binds K d_law_digit ["cell", "base", "k"] []
  f_law_text : Addr
  d_law_text : FuncData
  F_law_text : Fun K "_law_text" "_law_text" s_law_text f_law_text d_law_text
  m_law_text : mg "_law_text" = some (.ref f_law_text)
  b_law_text : Binds K d_law_text ["cell"] []
  f_law_lines : Addr
  d_law_lines : FuncData
  F_law_lines : Fun K "_law_lines" "_law_lines" s_law_lines f_law_lines d_law_lines
  m_law_lines : mg "_law_lines" = some (.ref f_law_lines)
  b_law_lines : Binds K d_law_lines ["script"] []
  f_law_raw : Addr
  d_law_raw : FuncData
  F_law_raw : Fun K "_law_raw" "_law_raw" s_law_raw f_law_raw d_law_raw
  m_law_raw : mg "_law_raw" = some (.ref f_law_raw)
  b_law_raw : Binds K d_law_raw ["number", "text"] []
  f_law_spoil : Addr
  d_law_spoil : FuncData
  F_law_spoil : Fun K "_law_spoil" "_law_spoil" s_law_spoil f_law_spoil d_law_spoil
  m_law_spoil : mg "_law_spoil" = some (.ref f_law_spoil)
  b_law_spoil : Binds K d_law_spoil ["lines", "at", "step"] []
  c_BourseError : Addr
  m_BourseError : mg "BourseError" = some (.ref c_BourseError)
  c_BrokenTape : Addr
  m_BrokenTape : mg "BrokenTape" = some (.ref c_BrokenTape)
  z_all : mg "all" = none
  z_enumerate : mg "enumerate" = none
  z_int : mg "int" = none
  z_len : mg "len" = none
  z_ord : mg "ord" = none
  z_range : mg "range" = none
  z_str : mg "str" = none
  z_sum : mg "sum" = none
  t_FIRST_VALUE : Tok
  m_FIRST_VALUE : mg "FIRST_VALUE" = some (.int 7 t_FIRST_VALUE)
  t_FACTOR : Tok
  m_FACTOR : mg "FACTOR" = some (.int 31 t_FACTOR)
  t_MODULUS : Tok
  m_MODULUS : mg "MODULUS" = some (.int 9973 t_MODULUS)
  t_BEHIND_TEXT : Tok
  m_BEHIND_TEXT : mg "BEHIND_TEXT" = some (.int 6 t_BEHIND_TEXT)
/-! own short words -/
theorem iteD {p A B : Prop} [Decidable p] (h1 : p → A) (h2 : ¬ p → B) : if decide p = true then A else B := by
  by_cases h : p
  · rw [decide_eq_true h, if_pos rfl]; exact h1 h
  · rw [decide_eq_false h, if_neg Bool.false_ne_true]; exact h2 h
theorem iteDN {p A B : Prop} [Decidable p] (h1 : ¬ p → A) (h2 : p → B) : if (!decide p) = true then A else B := by
  by_cases h : p
  · rw [decide_eq_true h]; exact iteF (h2 h)
  · rw [decide_eq_false h]; exact iteT (h1 h)
theorem len_le {n : Nat} (h : Nat.ble n 1000 = true) : n ≤ sizeLine := Nat.le_trans (Nat.le_of_ble_eq_true h) (by decide)
theorem iteB {b : Bool} {A B : Prop} (h1 : b = true → A) (h2 : b = false → B) : if b = true then A else B := by
  cases b with
  | true => exact iteT (h1 rfl)
  | false => exact iteF (h2 rfl)
theorem cmul_l {i j : Int} (h : -(2 ^ 64) < i) (h' : i < 2 ^ 64) : CMul i j := .inl ⟨h, h'⟩
theorem cmul_r {i j : Int} (h : -(2 ^ 64) < j) (h' : j < 2 ^ 64) : CMul i j := .inr ⟨h, h'⟩
theorem dec_t {p : Prop} [Decidable p] (h : decide p = true) : p := of_decide_eq_true h
theorem dec_f {p : Prop} [Decidable p] (h : decide p = false) : ¬ p := of_decide_eq_false h
theorem ndec_t {p : Prop} [Decidable p] (h : (!decide p) = true) : ¬ p := fun q => by rw [decide_eq_true q] at h; cases h
theorem ndec_f {p : Prop} [Decidable p] (h : (!decide p) = false) : p := by
  by_cases q : p
  · exact q
  · rw [decide_eq_false q] at h; cases h
theorem fld_lt {n : Nat} (h : Nat.ble (n + 1) 1000 = true) : n < 1000 := Nat.le_of_ble_eq_true h
def rLen (K : PySem.W.Frag) : List V → Hp → VK → Prop := fun xs H Q => ∃ p ys, xs = [.ref p] ∧ (SqL K H p ys ∨ SqT K H p ys) ∧ Q (.int ys.length) H
def rListOf (K : PySem.W.Frag) : List V → Hp → VK → Prop := fun xs H Q => ∃ p ys, xs = [.ref p] ∧ (SqL K H p ys ∨ SqT K H p ys) ∧ ∀ l, H l = none → Q (.ref l) (upd H l (.lst ys))
def rTupleOf (K : PySem.W.Frag) : List V → Hp → VK → Prop := fun xs H Q => ∃ p ys, xs = [.ref p] ∧ ((SqL K H p ys ∧ ∀ l, H l = none → Q (.ref l) (upd H l (.tup ys))) ∨ (SqT K H p ys ∧ Q (.ref p) H))
theorem len0 : ([] : List V).length ≤ sizeLine := len_le rfl
theorem len1 {a : V} : [a].length ≤ sizeLine := len_le rfl
theorem len2 {a b : V} : [a, b].length ≤ sizeLine := len_le rfl
theorem len3 {a b c : V} : [a, b, c].length ≤ sizeLine := len_le rfl
theorem len4 {a b c d : V} : [a, b, c, d].length ≤ sizeLine := len_le rfl
theorem len5 {a b c d e : V} : [a, b, c, d, e].length ≤ sizeLine := len_le rfl
local macro_rules | `(tactic| walk_at "st") => `(tactic| repeat (first
  | (apply Exists.intro (α := V))
  | (apply Exists.intro (α := Int))
  | (apply Exists.intro (α := Bool))
  | (apply Exists.intro (α := Addr))
  | (apply Exists.intro (α := List V))
  | (apply Exists.intro (α := List Int))
  | (apply Exists.intro (α := List (Str × V)))
  | (apply Exists.intro (α := Str))
  | (apply And.intro; focus (first | omega | (dsimp only; omega) | (simp only [List.length_map, List.length_replicate]; omega) | exact rfl | assumption | exact SqL.of (by assumption) | exact Or.inl (by assumption) | exact Or.inr (by assumption) | exact Or.inr (SqT.of (by assumption)) | exact Or.inl (Or.inl upd_same) | exact Or.inl (Or.inl (Or.inl upd_same)) | (with_reducible exact len0) | (with_reducible exact len1) | (with_reducible exact len2) | (with_reducible exact len3) | (with_reducible exact len4) | (with_reducible exact len5) | exact upd_same | exact ⟨_, Or.inl (Or.inl upd_same)⟩ | exact ⟨_, SqL.of (by assumption)⟩ | exact ⟨_, by assumption⟩ | exact Or.inl ⟨rfl, _, SqL.of (by assumption)⟩ | exact Or.inl ⟨rfl, _, SqL.of upd_same⟩ | exact cmul_l (by omega) (by omega) | exact cmul_r (by omega) (by omega) | exact ⟨by omega, by omega⟩ | (simp only [List.length_map, List.length_replicate]; omega) | exact Or.inl (SqL.of (by assumption)) | exact SqT.of (by assumption) | exact fld_lt rfl | exact Or.inl ⟨_, by assumption, rfl⟩))))
/-- the script's cell at j, 0 where there is none -/
def cellOf (ns : List Int) (j : Nat) : Int := ns.getD j 0
theorem atI_ints {ns : List Int} {j : Nat} (h : j < ns.length) : atI (ns.map V.int) (j : Int) = some (.int (cellOf ns j)) := by
  refine at_of (j := j) rfl ?_
  rw [List.getElem?_map, List.getElem?_eq_getElem h]
  unfold cellOf
  rw [List.getD_eq_getElem?_getD, List.getElem?_eq_getElem h]
  rfl
theorem cellOf_out {ns : List Int} {j : Nat} (h : ¬ j < ns.length) : cellOf ns j = 0 := by
  unfold cellOf
  rw [List.getD_eq_getElem?_getD, List.getElem?_eq_none (by omega)]
  rfl
theorem same_upd {H : Hp} {p : Addr} {o : HO} (h : H p = none) : Same H (upd H p o) := fun b x e => by
  rw [upd_ne (ne_of_none e h)]
  exact e
/-- a slice of a list of ints -/
def cutI (ns : List Int) (lo hi : Option Int) : List Int := (ns.drop (HT.sIx ns.length 0 lo)).take (HT.sIx ns.length ns.length hi - HT.sIx ns.length 0 lo)
theorem cutV_ints (ns : List Int) (lo hi : Option Int) : cutV (ns.map V.int) lo hi = (cutI ns lo hi).map V.int := by
  unfold cutV cutI
  rw [List.length_map, List.map_take, List.map_drop]
theorem cutI_len (ns : List Int) (lo hi : Option Int) : (cutI ns lo hi).length ≤ ns.length := by
  unfold cutI
  rw [List.length_take, List.length_drop]
  omega
theorem ints_at {ns : List Int} {i : Nat} {x : V} (h : (ns.map V.int)[i]? = some x) : ∃ z, ns[i]? = some z ∧ x = V.int z := by
  rw [List.getElem?_map] at h
  cases e : ns[i]? with
  | none => rw [e] at h; cases h
  | some z => rw [e] at h; exact ⟨z, rfl, (Option.some.inj h).symm⟩
theorem take_succ {α : Type} {xs : List α} {i : Nat} {x : α} (h : xs[i]? = some x) : xs.take (i + 1) = xs.take i ++ [x] := by
  rw [List.take_add_one, h]
  rfl
theorem sum_le_mul : ∀ (ws : List Int) (b : Int), (∀ w, w ∈ ws → w ≤ b) → ws.sum ≤ (ws.length : Int) * b
  | [], b, _ => by show (0 : Int) ≤ ((0 : Nat) : Int) * b; omega
  | w :: ws, b, h => by
    rw [List.sum_cons, List.length_cons, Int.natCast_add, Int.add_mul]
    have h1 := h w List.mem_cons_self
    have h2 := sum_le_mul ws b fun x hx => h x (List.mem_cons_of_mem _ hx)
    omega
theorem ixN_nat {n j : Nat} (h : j < n) : ixN n (j : Int) = some j := by
  unfold ixN
  rw [if_pos (by omega), if_pos (by omega), Int.toNat_natCast]
theorem call_int_i {X : Cx} : CallR X (.type "int") (fun xs H Q => ∃ i : Int, xs = [.int i] ∧ Q (.int i) H) := by
  intro pins s σ H xs us Q I r h
  obtain ⟨i, e, q⟩ := h
  exact call_int1 pins s σ H xs us Q I r (.inl ⟨i, e, q⟩)
theorem dpAll_ints {K : PySem.W.Frag} {H : Hp} : ∀ xs : List Int, DpAll K H (xs.map V.int) (xs.map PyData.int)
  | [] => .nil
  | x :: xs => .cons (.int x) (dpAll_ints xs)
theorem eqvAll_ints : ∀ xs ys : List Int, PyData.eqvAll (xs.map PyData.int) (ys.map PyData.int) = decide (xs = ys)
  | [], [] => by simp [PyData.eqvAll]
  | [], _ :: _ => by simp [PyData.eqvAll]
  | _ :: _, [] => by simp [PyData.eqvAll]
  | x :: xs, y :: ys => by
    rw [List.map_cons, List.map_cons]
    simp only [PyData.eqvAll, PyData.eqv]
    rw [eqvAll_ints xs ys]
    by_cases h : x = y <;> by_cases h2 : xs = ys <;> simp [h, h2]
theorem lay_ints : ∀ xs : List Int, PyData.canLayAll0 (xs.map PyData.int) = true
  | [] => rfl
  | x :: xs => by
    rw [List.map_cons]
    simp only [PyData.canLayAll0, PyData.canLay0, Bool.true_and]
    exact lay_ints xs
theorem depth_ints : ∀ xs : List Int, PyData.depthAll (xs.map PyData.int) = 0
  | [] => rfl
  | x :: xs => by
    rw [List.map_cons]
    simp only [PyData.depthAll, PyData.depth, depth_ints xs]
    rfl
theorem shaped_ints (xs : List Int) : SeqAt.shaped (.list (xs.map PyData.int)) = true := by
  unfold SeqAt.shaped
  simp only [PyData.canLay0, PyData.depth, lay_ints, depth_ints]
  rfl
theorem eqD_ints {K : PySem.W.Frag} {H : Hp} {a b : Addr} {xs ys : List Int} {Q : VK} (h1 : SqL K H a (xs.map V.int)) (h2 : SqL K H b (ys.map V.int)) (q : Q (.bl (decide (xs = ys))) H) : rEqD K (.ref a) (.ref b) H Q :=
  ⟨_, _, .lst h1 (dpAll_ints xs), .lst h2 (dpAll_ints ys), shaped_ints xs, shaped_ints ys, by rw [show PyData.eqv (.list (xs.map PyData.int)) (.list (ys.map PyData.int)) = decide (xs = ys) by simp only [PyData.eqv, eqvAll_ints]]; exact q⟩
theorem neD_ints {K : PySem.W.Frag} {H : Hp} {a b : Addr} {xs ys : List Int} {Q : VK} (h1 : SqL K H a (xs.map V.int)) (h2 : SqL K H b (ys.map V.int)) (q : Q (.bl (!decide (xs = ys))) H) : rNeD K (.ref a) (.ref b) H Q :=
  ⟨_, _, .lst h1 (dpAll_ints xs), .lst h2 (dpAll_ints ys), shaped_ints xs, shaped_ints ys, by rw [show PyData.eqv (.list (xs.map PyData.int)) (.list (ys.map PyData.int)) = decide (xs = ys) by simp only [PyData.eqv, eqvAll_ints]]; exact q⟩

/-- for i, x in enumerate(xs): each turn a new pair -/
theorem for_enum {K : PySem.W.Frag} {a : Addr} {xs : List V} {g : TG} {tb : TS} {D : Ends} {σ : L2.St} {H : Hp} (Pv : Nat → L2.St → Hp → Prop) (h0 : Pv 0 σ H) (hl : ∀ i σ H, i ≤ xs.length → Pv i σ H → SqL K H a xs)
    (hs : ∀ (i : Nat) (x : V) (σ : L2.St) (H : Hp) (T : Addr), xs[i]? = some x → Pv i σ H → H T = none → g (.ref T) σ (upd H T (.tup [.int (i : Int), x])) fun σ2 H2 => tb { D with nx := Pv (i + 1), ct := Pv (i + 1), bk := D.nx } σ2 H2) (hd : ∀ σ H, Pv xs.length σ H → D.nx σ H) :
    ∃ W : Nat → Nat → L2.St → Hp → Prop, (∃ m, W 0 m σ H) ∧ ∀ i m σ H, W i m σ H →
      ((Ite K a).stop i H ∧ D.nx σ H) ∨ ((Ite K a).go i H ∧ ∃ N : L2.St → Hp → Prop, (∀ σ' H', N σ' H' → ∃ m', m' < m ∧ W (i + 1) m' σ' H') ∧ ∀ x H', (Ite K a).yld i H x H' → g x σ H' fun σ2 H2 => tb { D with nx := N, ct := N, bk := D.nx } σ2 H2) := by
  refine ⟨fun i m σ H => m + i = xs.length ∧ Pv i σ H, ⟨xs.length, rfl, h0⟩, ?_⟩
  rintro i m σ H ⟨em, p⟩
  have q := hl i σ H (by omega) p
  by_cases hlt : i < xs.length
  · refine .inr ⟨⟨xs, xs[i], q, List.getElem?_eq_getElem hlt⟩, Pv (i + 1), fun σ' H' p' => ⟨m - 1, by omega, by omega, p'⟩, fun x H' y => ?_⟩
    obtain ⟨T, z, rfl, nT, rfl, hz⟩ := y
    exact hs i z σ H T (hz xs q) p nT
  · have e : i = xs.length := by omega
    subst e
    exact .inl ⟨⟨xs, q, Nat.le_refl _⟩, hd σ H p⟩
theorem call_int_b {X : Cx} : CallR X (.type "int") (fun xs H Q => ∃ b : Bool, xs = [.bl b] ∧ Q (.int (if b = true then 1 else 0)) H) := by
  intro pins s σ H xs us Q I r h
  obtain ⟨i, e, q⟩ := h
  exact call_int1 pins s σ H xs us Q I r (.inr ⟨i, e, q⟩)

/-! ### the mathematics of a tape, over lists of codes -/
def chkF (v : Nat) (l : List Nat) : Nat := l.foldl (fun v c => (v * 31 + c) % 9973) v
def dig4 (n : Nat) : List Nat := [48 + n / 1000, 48 + n / 100 % 10, 48 + n / 10 % 10, 48 + n % 10]
/-- a line: what stands ahead of the text, the text, the check -/
def lineP (p t : List Nat) : List Nat := p ++ t ++ ([32] ++ dig4 (chkF 7 (p ++ t)) ++ [10])
def goodT (t : List Nat) : Bool := !t.isEmpty && t.all (fun c => decide (32 ≤ c ∧ c ≤ 126))
theorem goodT_iff {t : List Nat} : goodT t = true ↔ t ≠ [] ∧ ∀ c, c ∈ t → 32 ≤ c ∧ c ≤ 126 := by
  unfold goodT
  rw [Bool.and_eq_true, List.all_eq_true]
  constructor
  · rintro ⟨h1, h2⟩
    refine ⟨fun e => by rw [e] at h1; simp at h1, fun c hc => of_decide_eq_true (h2 c hc)⟩
  · rintro ⟨h1, h2⟩
    refine ⟨?_, fun c hc => decide_eq_true (h2 c hc)⟩
    cases t with
    | nil => exact absurd rfl h1
    | cons a b => rfl
theorem chkF_lt {v : Nat} (h : v < 9973) : ∀ l : List Nat, chkF v l < 9973
  | [] => h
  | c :: l => chkF_lt (v := (v * 31 + c) % 9973) (Nat.mod_lt _ (by decide)) l
theorem chkF_inj : ∀ (l : List Nat) {v w : Nat}, v < 9973 → w < 9973 → chkF v l = chkF w l → v = w
  | [], _, _, _, _, h => h
  | c :: l, v, w, hv, hw, h => by
    have := chkF_inj l (Nat.mod_lt _ (by decide)) (Nat.mod_lt _ (by decide)) h
    omega
theorem chkF_append (v : Nat) (a b : List Nat) : chkF v (a ++ b) = chkF (chkF v a) b := List.foldl_append ..
/-- one sign changed: the check is another one -/
theorem chkF_one {v : Nat} {a b : List Nat} {c d : Nat} (hc : c < 9973) (hd : d < 9973) (h : chkF v (a ++ c :: b) = chkF v (a ++ d :: b)) : c = d := by
  rw [chkF_append, chkF_append] at h
  have := chkF_inj b (v := (chkF v a * 31 + c) % 9973) (w := (chkF v a * 31 + d) % 9973) (Nat.mod_lt _ (by decide)) (Nat.mod_lt _ (by decide)) h
  omega
theorem dig4_inj {n m : Nat} (h : dig4 n = dig4 m) : n = m := by
  unfold dig4 at h
  simp only [List.cons.injEq, and_true] at h
  omega
theorem dig4_no {n : Nat} : 10 ∉ dig4 n := by
  unfold dig4
  simp only [List.mem_cons, List.not_mem_nil, or_false]
  omega
theorem lineP_len (p t : List Nat) : (lineP p t).length = p.length + t.length + 6 := by
  unfold lineP dig4
  simp only [List.length_append, List.length_cons, List.length_nil]
/-- up to the newline -/
def rowOf : List Nat → List Nat
  | [] => []
  | c :: r => if c = 10 then [10] else if 10 ∈ r then c :: rowOf r else []
theorem rowOf_no : ∀ {l : List Nat}, 10 ∉ l → rowOf l = []
  | [], _ => rfl
  | c :: r, h => by
    unfold rowOf
    rw [if_neg fun e => h (by rw [e]; exact List.mem_cons_self), if_neg fun e => h (List.mem_cons_of_mem _ e)]
theorem rowOf_app : ∀ {a b : List Nat}, 10 ∉ a → rowOf (a ++ 10 :: b) = a ++ [10]
  | [], b, _ => by
    show rowOf (10 :: b) = [10]
    unfold rowOf
    rw [if_pos rfl]
  | c :: r, b, h => by
    show rowOf (c :: (r ++ 10 :: b)) = c :: (r ++ [10])
    unfold rowOf
    rw [if_neg fun e => h (by rw [e]; exact List.mem_cons_self), if_pos (by simp), rowOf_app fun e => h (List.mem_cons_of_mem _ e)]
theorem split10 : ∀ {l : List Nat}, 10 ∈ l → ∃ a b, l = a ++ 10 :: b ∧ 10 ∉ a
  | c :: r, h => by
    by_cases hc : c = 10
    · exact ⟨[], r, by rw [hc]; rfl, by simp⟩
    · obtain ⟨a, b, e, n⟩ := split10 (l := r) ((List.mem_cons.mp h).resolve_left fun e => hc e.symm)
      refine ⟨c :: a, b, by rw [e]; rfl, fun z => ?_⟩
      rcases List.mem_cons.mp z with z | z
      · exact hc z.symm
      · exact n z
def bodyOf (k : Nat) (row : List Nat) : List Nat := (row.drop k).take (row.length - 6 - k)
/-- the text that stands at the beginning, if a good line stands there -/
def textAt (p r : List Nat) : Option (List Nat) := if goodT (bodyOf p.length (rowOf r)) = true ∧ lineP p (bodyOf p.length (rowOf r)) = rowOf r then some (bodyOf p.length (rowOf r)) else none
theorem bodyOf_line (p t : List Nat) : bodyOf p.length (lineP p t) = t := by
  unfold bodyOf
  rw [lineP_len, show p.length + t.length + 6 - 6 - p.length = t.length by omega]
  unfold lineP
  rw [List.append_assoc, List.drop_left, List.take_left]
theorem no10_good {t : List Nat} (h : goodT t = true) : 10 ∉ t := fun z => by
  have := (goodT_iff.mp h).2 10 z
  omega
/-- a line without its newline -/
def bareP (p t : List Nat) : List Nat := p ++ t ++ ([32] ++ dig4 (chkF 7 (p ++ t)))
theorem lineP_bare (p t : List Nat) : lineP p t = bareP p t ++ [10] := by
  unfold lineP bareP
  simp only [List.append_assoc]
theorem bareP_no {p t : List Nat} (hp : 10 ∉ p) (ht : 10 ∉ t) : 10 ∉ bareP p t := by
  unfold bareP
  simp only [List.mem_append, not_or]
  exact ⟨⟨hp, ht⟩, by decide, dig4_no⟩
theorem rowOf_line {p t r : List Nat} (hp : 10 ∉ p) (ht : 10 ∉ t) : rowOf (lineP p t ++ r) = lineP p t := by
  rw [lineP_bare, List.append_assoc]
  exact rowOf_app (bareP_no hp ht)
theorem textAt_line {p t r : List Nat} (hp : 10 ∉ p) (ht : goodT t = true) : textAt p (lineP p t ++ r) = some t := by
  unfold textAt
  rw [rowOf_line hp (no10_good ht), bodyOf_line, if_pos ⟨ht, rfl⟩]
theorem textAt_no {p r : List Nat} (h : 10 ∉ r) : textAt p r = none := by
  unfold textAt
  rw [rowOf_no h, show bodyOf p.length [] = [] from by unfold bodyOf; simp]
  exact if_neg fun z => by have := (goodT_iff.mp z.1).1; exact this rfl
theorem textAt_some {p r t : List Nat} (h : textAt p r = some t) : goodT t = true ∧ rowOf r = lineP p t := by
  unfold textAt at h
  split at h
  · rename_i z
    cases h
    exact ⟨z.1, z.2.symm⟩
  · cases h
theorem rowOf_pre : ∀ r : List Nat, rowOf r = [] ∨ ∃ s, r = rowOf r ++ s
  | [] => .inl rfl
  | c :: r => by
    unfold rowOf
    by_cases hc : c = 10
    · rw [if_pos hc]
      exact .inr ⟨r, by rw [hc]; rfl⟩
    · rw [if_neg hc]
      by_cases hr : 10 ∈ r
      · rw [if_pos hr]
        rcases rowOf_pre r with h | ⟨s, h⟩
        · exfalso
          obtain ⟨a, b, e, n⟩ := split10 hr
          rw [e, rowOf_app n] at h
          simp at h
        · exact .inr ⟨s, by rw [List.cons_append, ← h]⟩
      · rw [if_neg hr]
        exact .inl rfl
theorem lineP_ne (p t : List Nat) : lineP p t ≠ [] := fun e => by
  have := congrArg List.length e
  rw [lineP_len] at this
  simp at this
/-- what is read from the line k on: the texts and how long they are -/
inductive Reads (p : Nat → List Nat) : List Nat → Nat → List (List Nat) → Nat → Prop where
  | stop {r k} (h : textAt (p k) r = none) : Reads p r k [] 0
  | step {r k t ts n} (h : textAt (p k) r = some t) (g : Reads p (r.drop (lineP (p k) t).length) (k + 1) ts n) : Reads p r k (t :: ts) ((lineP (p k) t).length + n)
def rowsP (p : Nat → List Nat) : Nat → List (List Nat) → List (List Nat)
  | _, [] => []
  | k, t :: ts => lineP (p k) t :: rowsP p (k + 1) ts
theorem rowsP_len (p : Nat → List Nat) : ∀ (ts : List (List Nat)) (k : Nat), (rowsP p k ts).length = ts.length
  | [], _ => rfl
  | t :: ts, k => by
    show (rowsP p (k + 1) ts).length + 1 = ts.length + 1
    rw [rowsP_len p ts (k + 1)]
theorem rowsP_at (p : Nat → List Nat) : ∀ (ts : List (List Nat)) (k i : Nat), (rowsP p k ts)[i]? = (ts[i]?).map (lineP (p (k + i)))
  | [], _, _ => by simp [rowsP]
  | t :: ts, k, 0 => rfl
  | t :: ts, k, i + 1 => by
    show (rowsP p (k + 1) ts)[i]? = (ts[i]?).map _
    rw [rowsP_at p ts (k + 1) i, show k + 1 + i = k + (i + 1) by omega]
/-- good lines are read -/
theorem reads_ahead {p : Nat → List Nat} (hp : ∀ k, 10 ∉ p k) {r : List Nat} {us : List (List Nat)} {n : Nat} : ∀ (ts : List (List Nat)) (k : Nat), (∀ t, t ∈ ts → goodT t = true) → Reads p r (k + ts.length) us n →
    Reads p ((rowsP p k ts).flatten ++ r) k (ts ++ us) ((rowsP p k ts).flatten.length + n)
  | [], k, _, h => by
    show Reads p ([] ++ r) k ([] ++ us) (0 + n)
    rw [List.nil_append, List.nil_append, Nat.zero_add]
    exact h
  | t :: ts, k, g, h => by
    have ih := reads_ahead hp ts (k + 1) (fun x hx => g x (List.mem_cons_of_mem _ hx)) (by rw [show k + 1 + ts.length = k + (t :: ts).length by rw [List.length_cons]; omega]; exact h)
    show Reads p ((lineP (p k) t ++ (rowsP p (k + 1) ts).flatten) ++ r) k (t :: (ts ++ us)) ((lineP (p k) t ++ (rowsP p (k + 1) ts).flatten).length + n)
    rw [List.length_append, Nat.add_assoc, List.append_assoc]
    refine .step (textAt_line (hp k) (g t List.mem_cons_self)) ?_
    rw [List.drop_left]
    exact ih
/-- how many of the first lines fit -/
def fit : Nat → List (List Nat) → Nat
  | _, [] => 0
  | cut, l :: ls => if l.length ≤ cut then fit (cut - l.length) ls + 1 else 0
theorem fit_le : ∀ (ls : List (List Nat)) (cut : Nat), fit cut ls ≤ ls.length
  | [], _ => Nat.le_refl _
  | l :: ls, cut => by
    unfold fit
    split
    · have := fit_le ls (cut - l.length)
      rw [List.length_cons]
      omega
    · omega
theorem fit_lt : ∀ (ls : List (List Nat)) (cut i : Nat) {l : List Nat}, i ≤ fit cut ls → ls[i]? = some l → (i < fit cut ls ↔ (ls.take i).flatten.length + l.length ≤ cut)
  | [], _, _, _, _, h => by simp at h
  | a :: ls, cut, 0, l, _, h => by
    have e : a = l := by simpa using h
    unfold fit
    rw [e, List.take_zero]
    split <;> simp <;> omega
  | a :: ls, cut, i + 1, l, hi, h => by
    have h2 : ls[i]? = some l := by simpa using h
    unfold fit at hi ⊢
    rw [List.take_succ_cons, List.flatten_cons, List.length_append]
    split
    · rename_i ha
      rw [if_pos ha] at hi
      have := fit_lt ls (cut - a.length) i (by omega) h2
      omega
    · rename_i ha
      rw [if_neg ha] at hi
      omega
/-- a tape that is cut -/
theorem reads_cut {p : Nat → List Nat} (hp : ∀ k, 10 ∉ p k) : ∀ (ts : List (List Nat)) (k cut : Nat), (∀ t, t ∈ ts → goodT t = true) →
    Reads p ((rowsP p k ts).flatten.take cut) k (ts.take (fit cut (rowsP p k ts))) ((rowsP p k ts).take (fit cut (rowsP p k ts))).flatten.length
  | [], k, cut, _ => by
    show Reads p (([] : List Nat).take cut) k [] 0
    rw [List.take_nil]
    exact .stop (textAt_no (by simp))
  | t :: ts, k, cut, g => by
    show Reads p ((lineP (p k) t ++ (rowsP p (k + 1) ts).flatten).take cut) k ((t :: ts).take (fit cut (lineP (p k) t :: rowsP p (k + 1) ts))) ((lineP (p k) t :: rowsP p (k + 1) ts).take (fit cut (lineP (p k) t :: rowsP p (k + 1) ts))).flatten.length
    unfold fit
    by_cases h : (lineP (p k) t).length ≤ cut
    · rw [if_pos h, List.take_succ_cons, List.take_succ_cons, List.flatten_cons, List.length_append, List.take_append, List.take_of_length_le h]
      refine .step (textAt_line (hp k) (g t List.mem_cons_self)) ?_
      rw [List.drop_left]
      exact reads_cut hp ts (k + 1) _ fun x hx => g x (List.mem_cons_of_mem _ hx)
    · rw [if_neg h]
      refine .stop (textAt_no fun z => ?_)
      rw [List.take_append_of_le_length (by omega), lineP_bare, List.take_append_of_le_length (by rw [lineP_bare, List.length_append, List.length_singleton] at h; omega)] at z
      exact bareP_no (hp k) (no10_good (g t List.mem_cons_self)) (List.mem_of_mem_take z)
/-- a line with one other sign is no good line -/
theorem textAt_changed {p t r a b : List Nat} {c d : Nat} (hp : 10 ∉ p) (hpl : ∀ x, x ∈ p → x < 9973) (ht : goodT t = true) (e : bareP p t = a ++ c :: b) (hne : d ≠ c) (hd : d ≠ 10) (hd2 : d < 9973) : textAt p (a ++ d :: b ++ 10 :: r) = none := by
  cases h : textAt p (a ++ d :: b ++ 10 :: r) with
  | none => rfl
  | some u =>
    exfalso
    obtain ⟨gu, hr⟩ := textAt_some h
    have hno := bareP_no hp (no10_good ht)
    rw [e] at hno
    have hno2 : 10 ∉ a ++ d :: b := by
      simp only [List.mem_append, List.mem_cons, not_or] at hno ⊢
      exact ⟨hno.1, fun z => hd z.symm, hno.2.2⟩
    rw [rowOf_app hno2, lineP_bare] at hr
    have h2 : bareP p u = a ++ d :: b := (List.append_cancel_right hr).symm
    have hl : u.length = t.length := by
      have h3 := congrArg List.length h2
      have h4 := congrArg List.length e
      unfold bareP at h3 h4
      simp only [List.length_append, List.length_cons] at h3 h4
      have e1 : (dig4 (chkF 7 (p ++ t))).length = 4 := rfl
      have e2 : (dig4 (chkF 7 (p ++ u))).length = 4 := rfl
      rw [e1] at h4
      rw [e2] at h3
      omega
    -- the numbered parts differ at one place, or are the same
    have hA : ∀ x : List Nat, x.length = t.length → ∀ y, bareP p x = y → p ++ x = y.take (p.length + t.length) ∧ dig4 (chkF 7 (p ++ x)) = y.drop (p.length + t.length + 1) := by
      intro x hx y hy
      rw [← hy]
      unfold bareP
      constructor
      · rw [List.take_append_of_le_length (by rw [List.length_append, hx]; exact Nat.le_refl _), List.take_of_length_le (by rw [List.length_append, hx]; exact Nat.le_refl _)]
      · rw [List.drop_append, List.drop_of_length_le (by rw [List.length_append, hx]; omega), List.nil_append, List.length_append, hx, show p.length + t.length + 1 - (p.length + t.length) = 1 by omega]
        rfl
    obtain ⟨t1, t2⟩ := hA t rfl _ e
    obtain ⟨u1, u2⟩ := hA u hl _ h2
    by_cases hpl2 : a.length < p.length + t.length
    · -- the changed sign stands in the numbered part: the check digits are the same
      have f : ∀ x : Nat, (a ++ x :: b).take (p.length + t.length) = a ++ x :: b.take (p.length + t.length - a.length - 1) := by
        intro x
        rw [List.take_append, List.take_of_length_le (by omega), show p.length + t.length - a.length = (p.length + t.length - a.length - 1) + 1 by omega, List.take_succ_cons, show p.length + t.length - a.length - 1 + 1 - 1 = p.length + t.length - a.length - 1 by omega]
      have g : ∀ x : Nat, (a ++ x :: b).drop (p.length + t.length + 1) = b.drop (p.length + t.length - a.length) := by
        intro x
        rw [List.drop_append, List.drop_of_length_le (by omega), List.nil_append, show p.length + t.length + 1 - a.length = (p.length + t.length - a.length) + 1 by omega, List.drop_succ_cons]
      rw [f] at t1 u1
      rw [g] at t2 u2
      have hc := dig4_inj (t2.trans u2.symm)
      rw [t1, u1] at hc
      have hcl : c < 9973 := by
        have : c ∈ p ++ t := by rw [t1]; simp
        rcases List.mem_append.mp this with z | z
        · exact hpl c z
        · have := (goodT_iff.mp ht).2 c z; omega
      exact hne (chkF_one hcl hd2 hc).symm
    · -- it stands behind: the texts are the same, so the lines are
      have f : ∀ x : Nat, (a ++ x :: b).take (p.length + t.length) = a.take (p.length + t.length) := fun x => List.take_append_of_le_length (by omega)
      rw [f] at t1 u1
      have : t = u := List.append_cancel_left (t1.trans u1.symm)
      rw [← this, e] at h2
      have := List.append_cancel_left h2
      injection this with z _
      exact hne z.symm

/-- how items of one kind are told as data; equal data are equal items -/
structure LayD {α : Type} [DecidableEq α] (L : α → PyData) (k : Nat) (G : α → Prop) : Prop where
  lay : ∀ x, G x → (L x).canLay0 = true
  dep : ∀ x, (L x).depth ≤ k
  eqv : ∀ x y, PyData.eqv (L x) (L y) = decide (x = y)
theorem LayD.shaped {α : Type} [DecidableEq α] {L : α → PyData} {k : Nat} {G : α → Prop} (h : LayD L k G) (hk : k ≤ 64) {x : α} (g : G x) : SeqAt.shaped (L x) = true := by
  have h1 := h.lay x g
  have h2 := h.dep x
  unfold SeqAt.shaped
  rw [h1, Bool.true_and]
  exact decide_eq_true (by omega)
theorem layD_int : LayD PyData.int 0 (fun _ => True) := ⟨fun _ _ => rfl, fun _ => Nat.le_refl _, fun x y => by simp only [PyData.eqv]; exact (Bool.beq_eq_decide_eq x y)⟩
theorem layD_str : LayD PyData.str 0 (fun x => PyData.strOk x = true) := ⟨fun _ h => by simp only [PyData.canLay0]; exact h, fun _ => Nat.le_refl _, fun x y => by simp only [PyData.eqv]; exact (Bool.beq_eq_decide_eq x y)⟩
theorem decide_and2 {p q r : Prop} [Decidable p] [Decidable q] [Decidable r] (h : r ↔ p ∧ q) : (decide p && decide q) = decide r := by
  by_cases hp : p <;> by_cases hq : q <;> simp [h, hp, hq]
theorem layD_all {α : Type} [DecidableEq α] {L : α → PyData} {k : Nat} {G : α → Prop} (h : LayD L k G) : (∀ xs : List α, (∀ x, x ∈ xs → G x) → PyData.canLayAll0 (xs.map L) = true) ∧ (∀ xs : List α, PyData.depthAll (xs.map L) ≤ k) ∧ ∀ xs ys : List α, PyData.eqvAll (xs.map L) (ys.map L) = decide (xs = ys) := by
  refine ⟨fun xs => ?_, fun xs => ?_, fun xs => ?_⟩
  · induction xs with
    | nil => exact fun _ => rfl
    | cons x xs ih =>
      intro g
      rw [List.map_cons]
      simp only [PyData.canLayAll0, ih fun y hy => g y (List.mem_cons_of_mem _ hy), h.lay x (g x List.mem_cons_self)]
      rfl
  · induction xs with
    | nil => exact Nat.zero_le _
    | cons x xs ih => rw [List.map_cons]; simp only [PyData.depthAll]; exact Nat.max_le.mpr ⟨h.dep x, ih⟩
  · induction xs with
    | nil =>
      intro ys
      cases ys with
      | nil => rfl
      | cons y ys => simp [PyData.eqvAll]
    | cons x xs ih =>
      intro ys
      cases ys with
      | nil => simp [PyData.eqvAll]
      | cons y ys =>
        rw [List.map_cons, List.map_cons]
        simp only [PyData.eqvAll]
        rw [ih ys, h.eqv x y]
        exact decide_and2 (by rw [List.cons.injEq])
theorem LayD.list {α : Type} [DecidableEq α] {L : α → PyData} {k : Nat} {G : α → Prop} (h : LayD L k G) : LayD (fun xs : List α => PyData.list (xs.map L)) (k + 1) (fun xs => ∀ x, x ∈ xs → G x) := by
  obtain ⟨h1, h2, h3⟩ := layD_all h
  refine ⟨fun xs g => ?_, fun xs => ?_, fun xs ys => ?_⟩
  · simp only [PyData.canLay0]; exact h1 xs g
  · simp only [PyData.depth]; exact Nat.succ_le_succ (h2 xs)
  · simp only [PyData.eqv]; exact h3 xs ys
theorem LayD.tup2 {α β : Type} [DecidableEq α] [DecidableEq β] {L : α → PyData} {M : β → PyData} {k : Nat} {G : α → Prop} {G2 : β → Prop} (h : LayD L k G) (g : LayD M k G2) : LayD (fun x : α × β => PyData.tuple [L x.1, M x.2]) (k + 1) (fun x => G x.1 ∧ G2 x.2) := by
  refine ⟨fun x a => ?_, fun x => ?_, fun x y => ?_⟩
  · simp only [PyData.canLay0, PyData.canLayAll0, h.lay _ a.1, g.lay _ a.2, Bool.and_true]
  · simp only [PyData.depth, PyData.depthAll]
    have := h.dep x.1
    have := g.dep x.2
    omega
  · simp only [PyData.eqv, PyData.eqvAll, h.eqv, g.eqv, Bool.and_true]
    exact decide_and2 (by rw [Prod.ext_iff])
theorem LayD.tup3 {α β γ : Type} [DecidableEq α] [DecidableEq β] [DecidableEq γ] {L : α → PyData} {M : β → PyData} {N : γ → PyData} {k : Nat} {G : α → Prop} {G2 : β → Prop} {G3 : γ → Prop} (h : LayD L k G) (g : LayD M k G2) (e : LayD N k G3) : LayD (fun x : α × β × γ => PyData.tuple [L x.1, M x.2.1, N x.2.2]) (k + 1) (fun x => G x.1 ∧ G2 x.2.1 ∧ G3 x.2.2) := by
  refine ⟨fun x a => ?_, fun x => ?_, fun x y => ?_⟩
  · simp only [PyData.canLay0, PyData.canLayAll0, h.lay _ a.1, g.lay _ a.2.1, e.lay _ a.2.2, Bool.and_true]
  · simp only [PyData.depth, PyData.depthAll]
    have := h.dep x.1
    have := g.dep x.2.1
    have := e.dep x.2.2
    omega
  · simp only [PyData.eqv, PyData.eqvAll, h.eqv, g.eqv, e.eqv, Bool.and_true]
    rw [decide_and2 (r := x.2 = y.2) (by rw [Prod.ext_iff])]
    exact decide_and2 (by rw [Prod.ext_iff])
theorem LayD.tup4 {α β γ δ : Type} [DecidableEq α] [DecidableEq β] [DecidableEq γ] [DecidableEq δ] {L : α → PyData} {M : β → PyData} {N : γ → PyData} {O : δ → PyData} {k : Nat} {G : α → Prop} {G2 : β → Prop} {G3 : γ → Prop} {G4 : δ → Prop} (h : LayD L k G) (g : LayD M k G2) (e : LayD N k G3) (d : LayD O k G4) : LayD (fun x : α × β × γ × δ => PyData.tuple [L x.1, M x.2.1, N x.2.2.1, O x.2.2.2]) (k + 1) (fun x => G x.1 ∧ G2 x.2.1 ∧ G3 x.2.2.1 ∧ G4 x.2.2.2) := by
  refine ⟨fun x a => ?_, fun x => ?_, fun x y => ?_⟩
  · simp only [PyData.canLay0, PyData.canLayAll0, h.lay _ a.1, g.lay _ a.2.1, e.lay _ a.2.2.1, d.lay _ a.2.2.2, Bool.and_true]
  · simp only [PyData.depth, PyData.depthAll]
    have := h.dep x.1
    have := g.dep x.2.1
    have := e.dep x.2.2.1
    have := d.dep x.2.2.2
    omega
  · simp only [PyData.eqv, PyData.eqvAll, h.eqv, g.eqv, e.eqv, d.eqv, Bool.and_true]
    rw [decide_and2 (r := x.2.2 = y.2.2) (by rw [Prod.ext_iff]), decide_and2 (r := x.2 = y.2) (by rw [Prod.ext_iff])]
    exact decide_and2 (by rw [Prod.ext_iff])
theorem eqL {α : Type} [DecidableEq α] {L : α → PyData} {k : Nat} {G : α → Prop} (h : LayD L k G) (hk : k ≤ 64) {K : PySem.W.Frag} {H : Hp} {x y : V} {a b : α} {Q : VK} (ga : G a) (gb : G b) (h1 : Dp K H x (L a)) (h2 : Dp K H y (L b)) (q : Q (.bl (decide (a = b))) H) : rEqD K x y H Q :=
  ⟨_, _, h1, h2, h.shaped hk ga, h.shaped hk gb, by rw [h.eqv]; exact q⟩
theorem neL {α : Type} [DecidableEq α] {L : α → PyData} {k : Nat} {G : α → Prop} (h : LayD L k G) (hk : k ≤ 64) {K : PySem.W.Frag} {H : Hp} {x y : V} {a b : α} {Q : VK} (ga : G a) (gb : G b) (h1 : Dp K H x (L a)) (h2 : Dp K H y (L b)) (q : Q (.bl (!decide (a = b))) H) : rNeD K x y H Q :=
  ⟨_, _, h1, h2, h.shaped hk ga, h.shaped hk gb, by rw [h.eqv]; exact q⟩
theorem dpAll_refs {α : Type} {L : α → PyData} {K : PySem.W.Frag} {H : Hp} : ∀ {ps : List Addr} {xs : List α}, ps.length = xs.length → (∀ (i : Nat) (p : Addr) (x : α), ps[i]? = some p → xs[i]? = some x → Dp K H (.ref p) (L x)) → DpAll K H (ps.map V.ref) (xs.map L)
  | [], [], _, _ => .nil
  | [], _ :: _, h, _ => by cases h
  | _ :: _, [], h, _ => by cases h
  | p :: ps, x :: xs, h, e => .cons (e 0 p x rfl rfl) (dpAll_refs (Nat.succ.inj h) fun i p' x' h1 h2 => e (i + 1) p' x' h1 h2)

/-! ### texts by their codes -/
def strL (l : List Nat) : Str := ⟨l.toArray⟩
theorem strL_tl (x : Str) : strL (TL.tl x) = x := TL.mk_tl x
theorem tl_strL (l : List Nat) : TL.tl (strL l) = l := TL.tl_mk l
theorem strL_len (l : List Nat) : (strL l).length = l.length := by rw [TL.len_tl, tl_strL]
theorem strL_inj {a b : List Nat} (h : strL a = strL b) : a = b := by rw [← tl_strL a, h, tl_strL]
theorem natAbs_log {c : Int} {k : Nat} (h : c.natAbs < 2 ^ k) (hk : k ≤ 1920) (h0 : 0 < k) : c.natAbs.log2 < 1920 := by
  by_cases z : c.natAbs = 0
  · rw [z]
    decide
  · have := (Nat.log2_lt z).mpr h
    omega
theorem cut_nat {z : Str} {i j : Nat} : TL.tl (cutS z (some (i : Int)) (some (j : Int))) = ((TL.tl z).drop i).take (j - i) := by
  unfold cutS
  rw [TL.tl_mk, HT.sIx_nat, HT.sIx_nat, TL.len_tl]
  show (((TL.tl z).drop (min i (TL.tl z).length)).take (min j (TL.tl z).length - min i (TL.tl z).length)) = _
  rcases Nat.le_total i (TL.tl z).length with h | h
  · rw [Nat.min_eq_left h]
    rcases Nat.le_total j (TL.tl z).length with h2 | h2
    · rw [Nat.min_eq_left h2]
    · rw [Nat.min_eq_right h2, List.take_of_length_le (by rw [List.length_drop]; exact Nat.le_refl _), List.take_of_length_le (by rw [List.length_drop]; omega)]
  · rw [Nat.min_eq_right h, List.drop_of_length_le (Nat.le_refl _), List.drop_of_length_le h, List.take_nil, List.take_nil]
theorem cut_end {z : Str} {i : Nat} : TL.tl (cutS z none (some (i : Int))) = (TL.tl z).take i := by
  unfold cutS
  rw [TL.tl_mk, HT.sIx_nat, HT.sIx_none, TL.len_tl]
  show (((TL.tl z).drop 0).take (min i (TL.tl z).length - 0)) = _
  rw [List.drop_zero, Nat.sub_zero]
  rcases Nat.le_total i (TL.tl z).length with h | h
  · rw [Nat.min_eq_left h]
  · rw [Nat.min_eq_right h, List.take_length, List.take_of_length_le h]
theorem cut_begin {z : Str} {i : Nat} : TL.tl (cutS z (some (i : Int)) none) = (TL.tl z).drop i := by
  unfold cutS
  rw [TL.tl_mk, HT.sIx_nat, HT.sIx_none, TL.len_tl]
  show (((TL.tl z).drop (min i (TL.tl z).length)).take ((TL.tl z).length - min i (TL.tl z).length)) = _
  rcases Nat.le_total i (TL.tl z).length with h | h
  · rw [Nat.min_eq_left h, List.take_of_length_le (by rw [List.length_drop]; exact Nat.le_refl _)]
  · rw [Nat.min_eq_right h, List.drop_of_length_le (Nat.le_refl _), List.drop_of_length_le h, List.take_nil]
theorem cut_body {z : Str} {i : Nat} : TL.tl (cutS z (some (i : Int)) (some (-6))) = bodyOf i (TL.tl z) := by
  unfold cutS bodyOf
  rw [TL.tl_mk, HT.sIx_nat, TL.len_tl]
  show (((TL.tl z).drop (min i (TL.tl z).length)).take ((if (-6 : Int) < 0 then ((-6 : Int) + ((TL.tl z).length : Int)).toNat else min (-6 : Int).toNat (TL.tl z).length) - min i (TL.tl z).length)) = _
  rw [if_pos (by decide), show ((-6 : Int) + ((TL.tl z).length : Int)).toNat = (TL.tl z).length - 6 by omega]
  rcases Nat.le_total i (TL.tl z).length with h | h
  · rw [Nat.min_eq_left h]
  · rw [Nat.min_eq_right h, List.drop_of_length_le (Nat.le_refl _), List.drop_of_length_le h, List.take_nil, List.take_nil]
theorem len_le' {n m : Nat} (h : n ≤ m) (h2 : Nat.ble m 1000 = true) : n ≤ sizeLine := Nat.le_trans h (len_le h2)
/-- the newline from the place s on -/
theorem find_row (x : Str) (s : Nat) (hs : s ≤ x.length) : (Txt.find3 x "\n" (s : Int) = -1 ∧ rowOf ((TL.tl x).drop s) = []) ∨
    (∃ m : Nat, (rowOf ((TL.tl x).drop s)).length = m + 1 ∧ Txt.find3 x "\n" (s : Int) = ((s + m : Nat) : Int) ∧ rowOf ((TL.tl x).drop s) = ((TL.tl x).drop s).take (m + 1) ∧ s + m < x.length) := by
  have hf : PySem.fromIndex x.length (s : Int) = s := by
    unfold PySem.fromIndex
    rw [if_neg (by omega)]
    rfl
  have hlen := TL.len_tl x
  have gd : ∀ v, v < x.length → x.cps.getD v 0 = ((TL.tl x).drop s).getD (v - s) 0 ∨ v < s := by
    intro v hv
    by_cases h : v < s
    · exact .inr h
    · refine .inl ?_
      rw [List.getD_eq_getElem?_getD, List.getElem?_drop, show s + (v - s) = v by omega]
      have h2 : v < (TL.tl x).length := by omega
      rw [List.getElem?_eq_getElem h2]
      exact PySem.StrLaws.getD_of_getElem? (List.getElem?_eq_getElem h2)
  rcases PySem.StrLaws.find3_spec x 10 (s : Int) with ⟨h0, hn⟩ | ⟨k, hk, h1, h2, h3, h4⟩
  · left
    refine ⟨h0, rowOf_no fun z => ?_⟩
    obtain ⟨i, hi⟩ := List.mem_iff_getElem?.mp z
    have hil := (List.getElem?_eq_some_iff.mp hi).1
    rw [List.length_drop] at hil
    rw [hf] at hn
    refine hn (s + i) (by omega) (by omega) ?_
    rcases gd (s + i) (by omega) with e | e
    · rw [e, List.getD_eq_getElem?_getD, show s + i - s = i by omega, hi]
      rfl
    · omega
  · right
    rw [hf] at h1 h4
    have hdl : ((TL.tl x).drop s).length = x.length - s := by rw [List.length_drop, hlen]
    have hat : ((TL.tl x).drop s)[k - s]? = some 10 := by
      rcases gd k h2 with e | e
      · rw [h3, List.getD_eq_getElem?_getD] at e
        have hl : k - s < ((TL.tl x).drop s).length := by omega
        rw [List.getElem?_eq_getElem hl] at e ⊢
        rw [e]
        rfl
      · omega
    have hno : 10 ∉ ((TL.tl x).drop s).take (k - s) := fun z => by
      obtain ⟨i, hi⟩ := List.mem_iff_getElem?.mp z
      have hil := (List.getElem?_eq_some_iff.mp hi).1
      rw [List.length_take] at hil
      rw [List.getElem?_take_of_lt (by omega)] at hi
      refine h4 (s + i) (by omega) (by omega) ?_
      rcases gd (s + i) (by omega) with e | e
      · rw [e, List.getD_eq_getElem?_getD, show s + i - s = i by omega, hi]
        rfl
      · omega
    have hsp : (TL.tl x).drop s = ((TL.tl x).drop s).take (k - s) ++ 10 :: ((TL.tl x).drop s).drop (k - s + 1) := by
      have e1 := List.take_append_drop (k - s) ((TL.tl x).drop s)
      have e2 := List.drop_eq_getElem_cons (l := (TL.tl x).drop s) (i := k - s) (by omega)
      have e3 : ((TL.tl x).drop s)[k - s]'(by omega) = 10 := by
        rw [List.getElem?_eq_getElem (by omega)] at hat
        exact Option.some.inj hat
      rw [e3] at e2
      rw [← e2]
      exact e1.symm
    have hrow : rowOf ((TL.tl x).drop s) = ((TL.tl x).drop s).take (k - s) ++ [10] := by
      rw [hsp]
      have h5 : ((((TL.tl x).drop s).take (k - s) ++ 10 :: ((TL.tl x).drop s).drop (k - s + 1)).take (k - s)) = ((TL.tl x).drop s).take (k - s) := by
        rw [← hsp]
      rw [h5]
      exact rowOf_app hno
    refine ⟨k - s, ?_, ?_, ?_, by omega⟩
    · rw [hrow, List.length_append, List.length_take, List.length_singleton]
      omega
    · have : (Txt.find3 x "\n" (s : Int)) = (k : Int) := hk
      rw [this]
      omega
    · rw [hrow, take_succ hat]

/-! ### {x:04d} -/
theorem pad4 {n : Nat} (h : n < 10000) : List.replicate (4 - (TL.numL n).length) 48 ++ TL.numL n = dig4 n := by
  unfold dig4
  by_cases h1 : n < 10
  · rw [TL.numL_lt h1, show n / 1000 = 0 by omega, show n / 100 % 10 = 0 by omega, show n / 10 % 10 = 0 by omega, show n % 10 = n by omega] <;> rfl
  · rw [TL.numL_step (by omega)]
    by_cases h2 : n / 10 < 10
    · rw [TL.numL_lt h2, show n / 1000 = 0 by omega, show n / 100 % 10 = 0 by omega, show n / 10 % 10 = n / 10 by omega] <;> rfl
    · rw [TL.numL_step (n := n / 10) (by omega)]
      by_cases h3 : n / 10 / 10 < 10
      · rw [TL.numL_lt h3, show n / 1000 = 0 by omega, show n / 100 % 10 = n / 10 / 10 by omega] <;> rfl
      · rw [TL.numL_step (n := n / 10 / 10) (by omega), TL.numL_lt (n := n / 10 / 10 / 10) (by omega), show n / 1000 = n / 10 / 10 / 10 by omega, show n / 100 % 10 = n / 10 / 10 % 10 by omega] <;> rfl
theorem numL_4 {n : Nat} (h : n < 10000) : (TL.numL n).length ≤ 4 ∧ TL.numL n ≠ [] := ⟨TL.numL_len (by decide) (by omega), TL.numL_ne n⟩
section
open Builtin Builtin.Str Builtin.Int Builtin.Float
set_option maxHeartbeats 0 in
theorem fig4 {a : Int} (h0 : 0 ≤ a) (h1 : a < 9973) : ∀ {prog : Program} {w : World} {A : Around} {E : Value → Shared → Prop} {s : Shared} {t : Tok} {Q : Value → Shared → Prop},
    (∀ t' k, Q (.str ⟨(dig4 a.toNat).toArray⟩ t') { s with toks := k }) → wpAny (model prog w) A (formatField (.int a t) "04d") Q E s := by
  intro prog w A E s t Q h
  obtain ⟨n, rfl⟩ := Int.eq_ofNat_of_zero_le h0
  have hn : n < 9973 := by omega
  refine PySem.W.KXf.field_int (y := ⟨(dig4 n).toArray⟩) (spec' := "04d") rfl (by decide +kernel) (by decide +kernel) ?_ h
  intro _
  apply PySem.W.KPc.meets_of
  intro _ _ _ _ _ _ _
  unfold Builtin.«int.__format__»
  refine wpAny_bind (wpAny_of_eq (a := (_, _)) rfl ?_)
  refine wpAny_bind (wpAny_of_eq (a := _) rfl ?_)
  kxf_if
  refine wpAny_bind (wpAny_typeNameOf (T := "str") (typeIs_str _ _ _) (by decide) fun _ => ?_)
  refine wpAny_bind (wpAny_of_eq (a := some _) rfl ?_)
  kxf_if
  kxf_if
  refine wpAny_bind (wpAny_typeNameOfCut_int ?_)
  (repeat kxf_if)
  refine wpAny_bind (wpAny_of_eq (PySem.overDigitLimit_small (natAbs_log (k := 14) (by omega) (by decide) (by decide))) ?_)
  (repeat kxf_if)
  refine (fun e => PySem.W.KXf.ret_text (T := ⟨(dig4 n).toArray⟩) e (by rw [e]; show 4 ≤ sizeLine; decide) (by assumption)) ?_
  rw [show decide ((n : Int) < 0) = false from decide_eq_false (by omega)]
  rw [← pad4 (show n < 10000 by omega)]
  generalize hds : List.map _ (Nat.toDigits _ _) = ds
  have hds2 : ds = TL.numL n := hds.symm.trans (by rfl)
  obtain ⟨hl, hne⟩ := numL_4 (show n < 10000 by omega)
  rw [← hds2] at hl hne ⊢
  clear hds hds2
  rcases ds with _ | ⟨a, _ | ⟨b, _ | ⟨c, _ | ⟨d, _ | ⟨e, r⟩⟩⟩⟩⟩
  · exact absurd rfl hne
  · rfl
  · rfl
  · rfl
  · rfl
  · simp at hl
end
section
variable {X : Cx}
/-- {x:04d}, x from 0 to 9972 -/
def tFmt4 (te : TE) : TE := fun σ H Q => te σ H fun x H1 => ∃ i : Int, x = .int i ∧ 0 ≤ i ∧ i < 9973 ∧ Q (.str ⟨(dig4 i.toNat).toArray⟩) H1
theorem pe_fmt04 {e : Expr} {te : TE} {j : Nat} {p1 p2 pos : Pos} (he : PE X e te) : PE X (.FormattedValue e (-1) (some (.JoinedStr [.Constant (.str "04d") j p1] p2)) pos) (tFmt4 te) := by
  refine ⟨fun pins s σ H Q I h => ?_⟩
  refine wpAny_FormattedValue_spec (thn (he.run pins s σ H _ I h) fun v s1 hv => ?_)
  obtain ⟨x, H1, I1, r1, i, rfl, h0, h1, q⟩ := hv
  obtain ⟨t, rfl⟩ := r1
  refine thn ((pe_joined1 pe_str : PE X (.JoinedStr [.Constant (.str "04d") j p1] p2) (tC (.str "04d"))).run pins s1 σ H1 (fun v H2 => v = .str "04d" ∧ H2 = H1) I1 ⟨rfl, rfl⟩) fun v2 s2 hv2 => ?_
  obtain ⟨x2, H2, I2, r2, rfl, rfl⟩ := hv2
  obtain ⟨t2, rfl⟩ := r2
  exact ⟨_, t2, rfl, fig4 h0 h1 fun t' k => ⟨.str _, _, I2.tok k, ⟨t', rfl⟩, q⟩⟩
end

section
variable {P : Program} {w : World} {K : PySem.W.Frag} {mg : Str → Option Value} {base : Heap}
/-- what stands ahead of the text in the line n -/
def preL (n : Nat) : List Nat := TL.numL n ++ [32]
theorem preL_no (n : Nat) : 10 ∉ preL n := by
  unfold preL
  rw [List.mem_append, not_or]
  exact ⟨TL.numL_free (by decide), by decide⟩
theorem preL_small (n : Nat) : ∀ x, x ∈ preL n → x < 9973 := by
  intro x hx
  unfold preL at hx
  rcases List.mem_append.mp hx with h | h
  · have := TL.numL_digits n x h
    omega
  · rw [List.mem_singleton.mp h]
    decide
theorem numL_3 {n : Nat} (h : n < 1000) : (TL.numL n).length ≤ 3 := TL.numL_len (by decide) (by omega)
theorem at_code {x : Str} {i c : Nat} (hc : x.cps[i]? = some c) : (TL.tl x)[i]? = some c := by
  rw [show TL.tl x = x.cps.toList from rfl, Array.getElem?_toList]
  exact hc
def sp_check_of (K : PySem.W.Frag) : Sp := fun vs H Q _ => ∃ x : Str, vs = [.str x] ∧ x.length ≤ 1000 ∧ Q (.str (strL (dig4 (chkF 7 (TL.tl x))))) H
set_option maxHeartbeats 0 in
theorem ok_check_of (T : Txt K mg) : FnOk P w K mg base CX0 1 T.f_check_of T.d_check_of ["text"] (sp_check_of K) := by
  refine T.F_check_of.ok sc_check_of (fun vs H Q E h => ?_) (fun cdv A outer s H vs Q E hr h => ?_)
  · obtain ⟨x, rfl, _⟩ := h
    rfl
  · obtain ⟨x, rfl, hx, q⟩ := h
    refine ⟨_, (pss_cons (ps_set (i := 1) sc_check_of.nd rfl (Or.inl rfl) (pe_glob (v := .int 7) rfl T.m_FIRST_VALUE ⟨_, rfl⟩))
    (pss_cons (ps_for PassesOwn.never rfl (pi_str (pv 0)) (pg_name (i := 2) sc_check_of.nd rfl (Or.inl rfl))
      (pss_one (ps_set (i := 1) sc_check_of.nd rfl (Or.inl rfl) (pe_op op_mod (pe_op op_add (pe_op op_mul (pv 1) (pe_glob (v := .int 31) rfl T.m_FACTOR ⟨_, rfl⟩)) (pe_callB call_ord (by rfl) T.z_ord (by decide +kernel) (pa_cons (pv 2) pa_nil))) (pe_glob (v := .int 9973) rfl T.m_MODULUS ⟨_, rfl⟩)))))
    (pss_one (ps_ret (pe_joined1 (pe_fmt04 (pv 1))))))), ?_⟩
    walk_at "st"
    refine for_it (walk_str (z := x)) (fun i σ H2 => ∃ v : Option V, σ = [some (.str x), some (.int ((chkF 7 ((TL.tl x).take i) : Nat) : Int)), v] ∧ H2 = H) ⟨none, rfl, rfl⟩ (fun _ _ _ _ _ => trivial) ?_ ?_
    · rintro i v σ H2 H3 hi ⟨v0, rfl, rfl⟩ ⟨rfl, c, hc, rfl⟩
      have hc2 := at_code hc
      walk_at "st"
      have e : (((chkF 7 ((TL.tl x).take i) : Nat) : Int) * 31 + (((⟨#[c]⟩ : Str).cps.getD 0 0 : Nat) : Int)) % 9973 = ((chkF 7 ((TL.tl x).take (i + 1)) : Nat) : Int) := by
        rw [take_succ hc2, chkF_append]
        show _ = (((chkF 7 ((TL.tl x).take i) * 31 + c) % 9973 : Nat) : Int)
        show (((chkF 7 ((TL.tl x).take i) : Nat) : Int) * 31 + ((c : Nat) : Int)) % 9973 = _
        omega
      refine ⟨some (.str ⟨#[c]⟩), ?_, rfl⟩
      rw [← e]
      rfl
    · rintro σ H2 ⟨v0, rfl, rfl⟩
      rw [List.take_of_length_le (by simp)]
      have hb := chkF_lt (v := 7) (by decide) (TL.tl x)
      walk_at "st"
      rw [Int.toNat_natCast]
      exact q
theorem code_le1 (a b : Nat) : (!decide ([a] < [b])) = decide (b ≤ a) := by
  by_cases h : a < b
  · have h2 : [a] < [b] := List.Lex.rel h
    rw [decide_eq_true h2, decide_eq_false (by omega)]
    rfl
  · have : ¬ [a] < [b] := fun z => by
      cases z with
      | rel h2 => exact h h2
      | cons h2 => cases h2
    rw [decide_eq_false this, decide_eq_true (by omega)]
    rfl
def sp_is_text (K : PySem.W.Frag) : Sp := fun vs H Q _ => ∃ x : Str, vs = [.str x] ∧ x.length ≤ 1000 ∧ ∀ H', Same H H' → Q (.bl (goodT (TL.tl x))) H'
set_option maxHeartbeats 0 in
theorem ok_is_text (T : Txt K mg) : FnOk P w K mg base CX0 1 T.f_is_text T.d_is_text ["text"] (sp_is_text K) := by
  refine T.F_is_text.ok sc_is_text (fun vs H Q E h => ?_) (fun cdv A outer s H vs Q E hr h => ?_)
  · obtain ⟨x, rfl, _⟩ := h
    rfl
  · obtain ⟨x, rfl, hx, q⟩ := h
    refine ⟨_, (pss_one (ps_ret (pe_and (pe_cmpR op_ne (pv 0) pe_str (nomark _)) (pe_one (pe_callB (cr_all rfl) (by rfl) T.z_all (by decide +kernel) (pa_cons (pe_lc (own := [("sign", 1)]) (g := gName 1) (tt := tYes) rfl sc_is_text.nd (pi_str (pv 0)) (blkOk_by (own := [("sign", 1)]) (N := N_is_text) (sc := defScope s_is_text) (by decide +kernel)) (fun _ _ _ _ _ => (pg_name (i := 1) sc_is_text.nd rfl (Or.inl rfl))) (fun _ _ _ _ _ => pts_nil) (fun _ _ _ _ _ => (pe_chain op_le_str op_le_str pe_str (pv 1) pe_str))) pa_nil)))))), ?_⟩
    walk_at "st"
    cases e : decide (V.str x = V.str "") with
    | true =>
      have e2 : x = "" := V.str.inj (of_decide_eq_true e)
      rw [e2] at q
      walk_at "st"
      exact q H (.refl H)
    | false =>
      have e2 : TL.tl x ≠ [] := fun z => of_decide_eq_false e (congrArg V.str (TL.ext_tl (x := x) (y := "") z))
      walk_at "st"
      intro D nD
      have s1 : ∀ o, Same H (upd H D o) := fun o => same_upd nD
      refine lc_it (walk_str (z := x)) (fun i H' => H' = upd H D (.lst (((TL.tl x).take i).map fun c => V.bl (decide (32 ≤ c ∧ c ≤ 126))))) rfl (fun _ _ _ _ => trivial) ?_ ?_
      · rintro i v H' H2 hi rfl ⟨rfl, c, hc, rfl⟩
        have hc2 := at_code hc
        have hlt : (((TL.tl x).take i).map fun c => V.bl (decide (32 ≤ c ∧ c ≤ 126))).length < sizeLine := small1000 (by rw [List.length_map, List.length_take, ← TL.len_tl]; omega)
        refine ⟨rfl, ?_⟩
        walk_at "st"
        have l1 : (!decide ((⟨#[c]⟩ : Str).cps.toList < (" " : Str).cps.toList)) = decide (32 ≤ c) := code_le1 c 32
        have l2 : (!decide (("~" : Str).cps.toList < (⟨#[c]⟩ : Str).cps.toList)) = decide (c ≤ 126) := code_le1 126 c
        have fin : ∀ b : Bool, b = decide (32 ≤ c ∧ c ≤ 126) → upd (upd H D (.lst (((TL.tl x).take i).map fun c => V.bl (decide (32 ≤ c ∧ c ≤ 126))))) D (.lst ((((TL.tl x).take i).map fun c => V.bl (decide (32 ≤ c ∧ c ≤ 126))) ++ [V.bl b])) = upd H D (.lst (((TL.tl x).take (i + 1)).map fun c => V.bl (decide (32 ≤ c ∧ c ≤ 126)))) := by
          intro b e
          rw [upd_upd, take_succ hc2, List.map_append, e]
          rfl
        refine iteB (fun h => ?_) (fun h => ?_)
        · refine ⟨_, _, rfl, rfl, _, upd_same, hlt, fin _ ?_⟩
          refine Eq.trans l2 ?_
          have h' := of_decide_eq_true (l1.symm.trans h)
          by_cases z : c ≤ 126
          · rw [decide_eq_true z, decide_eq_true ⟨h', z⟩]
          · rw [decide_eq_false z, decide_eq_false fun q => z q.2]
        · refine ⟨_, upd_same, hlt, fin _ ?_⟩
          have h' := of_decide_eq_false (l1.symm.trans h)
          rw [decide_eq_false fun q => h' q.1]
      · rintro H' rfl
        refine ⟨D, (TL.tl x).map fun c => decide (32 ≤ c ∧ c ≤ 126), rfl, ?_, ?_⟩
        · refine SqL.of (upd_same.trans ?_)
          rw [List.map_map, List.take_of_length_le (by simp)]
          rfl
        · have e3 : goodT (TL.tl x) = (((TL.tl x).map fun c => decide (32 ≤ c ∧ c ≤ 126)).all id) := by
            unfold goodT
            rw [List.all_map]
            cases h : TL.tl x with
            | nil => exact absurd h e2
            | cons a b => rfl
          rw [← e3]
          exact q _ (s1 _)
def sp_write_line (K : PySem.W.Frag) : Sp := fun vs H Q _ => ∃ (n : Nat) (x : Str), vs = [.int (n : Int), .str x] ∧ n < 1000 ∧ x.length ≤ 900 ∧ goodT (TL.tl x) = true ∧ ∀ H', Same H H' → Q (.str (strL (lineP (preL n) (TL.tl x)))) H'
set_option maxHeartbeats 0 in
theorem ok_write_line (T : Txt K mg) : FnOk P w K mg base CX0 2 T.f_write_line T.d_write_line ["number", "text"] (sp_write_line K) := by
  refine T.F_write_line.ok sc_write_line (fun vs H Q E h => ?_) (fun cdv A outer s H vs Q E hr h => ?_)
  · obtain ⟨n, x, rfl, _⟩ := h
    rfl
  · obtain ⟨n, x, rfl, hn, hx, hg, q⟩ := h
    have G_is_text : FnOk P w K mg base CX0 1 T.f_is_text T.d_is_text ["text"] (sp_is_text K) := ok_is_text T
    have G_check_of : FnOk P w K mg base CX0 1 T.f_check_of T.d_check_of ["text"] (sp_check_of K) := ok_check_of T
    refine ⟨_, (pss_cons (ps_if (pt_not (pt_val (pe_call G_is_text hr (by rfl) T.m_is_text T.F_is_text.kp T.b_is_text .nil pass0 (pa_cons (pv 1) pa_nil))))
      (pss_one ps_never)
      pss_nil)
    (pss_cons (ps_set (i := 2) sc_write_line.nd rfl (Or.inl rfl) (pe_joined (PJ.cons (pe_fmt (pv 0)) (PJ.cons pe_str (PJ.cons (pe_fmt (pv 1)) PJ.nil)))))
    (pss_one (ps_ret (pe_joined (PJ.cons (pe_fmt (pv 2)) (PJ.cons pe_str (PJ.cons (pe_fmt (pe_call G_check_of hr (by rfl) T.m_check_of T.F_check_of.kp T.b_check_of .nil pass0 (pa_cons (pv 2) pa_nil))) (PJ.cons pe_str PJ.nil))))))))), ?_⟩
    walk_at "st"
    intro H1 s1
    rw [hg]
    walk_at "st"
    have hn3 := numL_3 hn
    have e1 : TL.tl (Str.ofString (toString ((n : Nat) : Int))) = TL.numL n := TL.tl_num n
    generalize hs : Str.ofString (toString ((n : Nat) : Int)) = sn at e1
    have ln : sn.length ≤ 3 := by rw [TL.len_tl, e1]; exact hn3
    have b1 : (Str.empty ++ sn).length ≤ 3 := by rw [TL.len_tl, TL.tl_append, ← e1] at *; rw [List.length_append]; exact (by show 0 + _ ≤ 3; omega)
    have b2 : (Str.empty ++ sn ++ (" " : Str)).length ≤ 4 := by rw [TL.len_tl, TL.tl_append, List.length_append, ← TL.len_tl]; exact Nat.add_le_add b1 (Nat.le_refl 1)
    have b3 : (Str.empty ++ sn ++ (" " : Str) ++ x).length ≤ 904 := by rw [TL.len_tl, TL.tl_append, List.length_append, ← TL.len_tl, ← TL.len_tl]; omega
    have e3 : TL.tl (Str.empty ++ sn ++ (" " : Str) ++ x) = preL n ++ TL.tl x := by
      rw [TL.tl_append, TL.tl_append, TL.tl_append, e1]
      rfl
    refine .inr ⟨_, rfl, natAbs_log (k := 10) (by omega) (by decide) (by decide), _, rfl, ?_, ?_⟩
    · rw [hs]
      exact len_le' b1 rfl
    rw [hs]
    refine ⟨_, rfl, len_le' b2 rfl, ⟨_, rfl, .inl ⟨_, rfl, len_le' hx rfl, _, rfl, len_le' b3 rfl, ?_⟩⟩⟩
    generalize Str.empty ++ sn ++ (" " : Str) ++ x = nx at b3 e3
    have c1 : (Str.empty ++ nx).length ≤ 904 := by rw [TL.len_tl, TL.tl_append, List.length_append, ← TL.len_tl nx]; show 0 + _ ≤ _; omega
    have c2 : (Str.empty ++ nx ++ (" " : Str)).length ≤ 905 := by rw [TL.len_tl, TL.tl_append, List.length_append, ← TL.len_tl]; exact Nat.add_le_add c1 (Nat.le_refl 1)
    have c3 : (Str.empty ++ nx ++ (" " : Str) ++ strL (dig4 (chkF 7 (TL.tl nx)))).length ≤ 909 := by rw [TL.len_tl, TL.tl_append, List.length_append, ← TL.len_tl, tl_strL]; exact Nat.add_le_add c2 (Nat.le_refl 4)
    have c4 : (Str.empty ++ nx ++ (" " : Str) ++ strL (dig4 (chkF 7 (TL.tl nx))) ++ ("\n" : Str)).length ≤ 910 := by rw [TL.len_tl, TL.tl_append, List.length_append, ← TL.len_tl]; exact Nat.add_le_add c3 (Nat.le_refl 1)
    have e : Str.empty ++ nx ++ (" " : Str) ++ strL (dig4 (chkF 7 (TL.tl nx))) ++ ("\n" : Str) = strL (lineP (preL n) (TL.tl x)) := by
      refine TL.ext_tl ?_
      rw [TL.tl_append, TL.tl_append, TL.tl_append, TL.tl_append, tl_strL, tl_strL, e3]
      unfold lineP
      show [] ++ (preL n ++ TL.tl x) ++ [32] ++ dig4 _ ++ [10] = _
      simp only [List.append_assoc, List.nil_append]
    have q' := q H1 s1
    rw [← e] at q'
    refine ⟨_, rfl, .inl ⟨_, rfl, len_le' b3 rfl, _, rfl, len_le' c1 rfl, _, rfl, len_le' c2 rfl, ?_⟩⟩
    walk_at "st"
    refine .inl ⟨_, rfl, by rw [strL_len]; exact len_le rfl, _, rfl, len_le' c3 rfl, _, rfl, len_le' c4 rfl, q'⟩
/-- a text, or None -/
def optV : Option (List Nat) → V
  | some t => .str (strL t)
  | none => .non
def sp_text_at (K : PySem.W.Frag) : Sp := fun vs H Q _ => ∃ (x : Str) (s n : Nat), vs = [.str x, .int (s : Int), .int (n : Int)] ∧ x.length ≤ 900 ∧ s ≤ x.length ∧ n < 1000 ∧ ∀ H', Same H H' → Q (optV (textAt (preL n) ((TL.tl x).drop s))) H'
set_option maxHeartbeats 0 in
theorem ok_text_at (T : Txt K mg) : FnOk P w K mg base CX0 3 T.f_text_at T.d_text_at ["tape", "start", "number"] (sp_text_at K) := by
  refine T.F_text_at.ok sc_text_at (fun vs H Q E h => ?_) (fun cdv A outer s H vs Q E hr h => ?_)
  · obtain ⟨x, s, n, rfl, _⟩ := h
    rfl
  · obtain ⟨x, s, n, rfl, hx, hs, hn, q⟩ := h
    have G_is_text : FnOk P w K mg base CX0 1 T.f_is_text T.d_is_text ["text"] (sp_is_text K) := ok_is_text T
    have G_write_line : FnOk P w K mg base CX0 2 T.f_write_line T.d_write_line ["number", "text"] (sp_write_line K) := ok_write_line T
    have hxl : x.length ≤ sizeLine := len_le' hx rfl
    have hrow : TL.tl (cutS x (some (s : Int)) (some (Txt.find3 x "\n" (s : Int) + 1))) = rowOf ((TL.tl x).drop s) := by
      rcases find_row x s hs with ⟨h1, h2⟩ | ⟨m, h1, h2, h3, h4⟩
      · rw [h1, h2, show (-1 : Int) + 1 = ((0 : Nat) : Int) from rfl, cut_nat, Nat.zero_sub, List.take_zero]
      · rw [h2, show (((s + m : Nat) : Int) + 1) = ((s + m + 1 : Nat) : Int) by omega, cut_nat, h3]
        congr 1
        omega
    have ll := Nat.le_trans (cutS_length x (some (s : Int)) (some (Txt.find3 x "\n" (s : Int) + 1))) hx
    refine ⟨_, (pss_cons (ps_set (i := 3) sc_text_at.nd rfl (Or.inl rfl) (pe_slice sl_str (pv 0) (po_some (pv 1)) (po_some (pe_op op_add (pe_bm PySem.F.plainAttrs_str PySem.F.slot_str_find PySem.F.type_str_find mt_find3 (pv 0) (pa_cons pe_str (pa_cons (pv 1) pa_nil))) pe_int))))
    (pss_cons (ps_set (i := 4) sc_text_at.nd rfl (Or.inl rfl) (pe_slice sl_str (pv 3) (po_some (pe_callB call_len_str (by rfl) T.z_len PySem.boot_len (pa_cons (pe_joined (PJ.cons (pe_fmt (pv 2)) (PJ.cons pe_str PJ.nil))) pa_nil))) (po_some (pe_un un_neg (pe_glob (v := .int 6) rfl T.m_BEHIND_TEXT ⟨_, rfl⟩)))))
    (pss_cons (ps_if (PW.pt (pw_or (pt_not (pt_val (pe_call G_is_text (hr.mono (by decide)) (by rfl) T.m_is_text T.F_is_text.kp T.b_is_text .nil pass0 (pa_cons (pv 4) pa_nil)))) (pw_or1 (pt_cmpR op_ne (pe_call G_write_line hr (by rfl) T.m_write_line T.F_write_line.kp T.b_write_line .nil pass0 (pa_cons (pv 2) (pa_cons (pv 4) pa_nil))) (pv 3) (nomark _)))))
      (pss_one (ps_ret pe_non))
      pss_nil)
    (pss_one (ps_ret (pv 4)))))), ?_⟩
    walk_at "st"
    generalize hL : cutS x (some (s : Int)) (some (Txt.find3 x "\n" (s : Int) + 1)) = line at hrow ll
    have hn3 := numL_3 hn
    have e1 : TL.tl (Str.ofString (toString ((n : Nat) : Int))) = TL.numL n := TL.tl_num n
    generalize hs : Str.ofString (toString ((n : Nat) : Int)) = sn at e1
    have ln : sn.length ≤ 3 := by rw [TL.len_tl, e1]; exact hn3
    have b1 : (Str.empty ++ sn).length ≤ 3 := by rw [TL.len_tl, TL.tl_append, ← e1] at *; rw [List.length_append]; exact (by show 0 + _ ≤ 3; omega)
    have b2 : (Str.empty ++ sn ++ (" " : Str)).length ≤ 4 := by rw [TL.len_tl, TL.tl_append, List.length_append, ← TL.len_tl]; exact Nat.add_le_add b1 (Nat.le_refl 1)
    have e3 : TL.tl (Str.empty ++ sn ++ (" " : Str)) = preL n := by
      rw [TL.tl_append, TL.tl_append, e1]
      rfl
    refine .inr ⟨_, rfl, natAbs_log (k := 10) (by omega) (by decide) (by decide), _, rfl, ?_, ?_⟩
    · rw [hs]
      exact len_le' b1 rfl
    rw [hs]
    refine ⟨_, rfl, len_le' b2 rfl, _, rfl, len_le' b2 rfl, _, rfl, ?_⟩
    rw [TL.len_tl (Str.empty ++ sn ++ (" " : Str)), e3]
    refine ⟨_, rfl, _, rfl, line, rfl, len_le' ll rfl, ?_⟩
    show gName 4 (V.str (cutS line (some ((preL n).length : Int)) (some (-6)))) _ _ _
    generalize hB : cutS line (some ((preL n).length : Int)) (some (-6)) = body
    have eB : TL.tl body = bodyOf (preL n).length (TL.tl line) := by rw [← hB]; exact cut_body
    have lB : body.length ≤ 900 := by
      rw [← hB]
      exact Nat.le_trans (cutS_length _ _ _) ll
    walk_at "st"
    intro H1 s1
    have hat : ∀ b : Bool, goodT (TL.tl body) = b → b = false → textAt (preL n) ((TL.tl x).drop s) = none := fun b h1 h2 => by
      unfold textAt
      rw [← hrow, ← eB]
      exact if_neg fun z => by rw [h2] at h1; rw [h1] at z; exact Bool.false_ne_true z.1
    cases hg : goodT (TL.tl body) with
    | false =>
      rw [hat _ hg rfl] at q
      walk_at "st"
      exact q H1 s1
    | true =>
      walk_at "st"
      intro H2 s2
      walk_at "st"
      refine iteDN (fun h => ?_) (fun h => ?_)
      · have : textAt (preL n) ((TL.tl x).drop s) = none := by
          unfold textAt
          rw [← hrow, ← eB]
          refine if_neg fun z => h ?_
          rw [z.2, strL_tl]
        rw [this] at q
        walk_at "st"
        exact q H2 (s1.trans s2)
      · have : textAt (preL n) ((TL.tl x).drop s) = some (TL.tl body) := by
          unfold textAt
          rw [← hrow, ← eB]
          exact if_pos ⟨hg, by rw [← V.str.inj h, tl_strL]⟩
        rw [this] at q
        have q' := q H2 (s1.trans s2)
        rw [show optV (some (TL.tl body)) = V.str body from congrArg V.str (strL_tl body)] at q'
        walk_at "st"
        exact q'
def sp_read_tape (K : PySem.W.Frag) : Sp := fun vs H Q _ => ∃ (x : Str) (ts : List (List Nat)) (m : Nat), vs = [.str x] ∧ x.length ≤ 900 ∧ ts.length ≤ 100 ∧ Reads preL (TL.tl x) 1 ts m ∧
  ∀ p d H', Same H H' → H' p = some (.tup [.ref d, .int (m : Int)]) → H' d = some (.lst (ts.map fun t => V.str (strL t))) → Q (.ref p) H'
set_option maxHeartbeats 0 in
theorem ok_read_tape (T : Txt K mg) : FnOk P w K mg base CX0 4 T.f_read_tape T.d_read_tape ["tape"] (sp_read_tape K) := by
  refine T.F_read_tape.ok sc_read_tape (fun vs H Q E h => ?_) (fun cdv A outer s H vs Q E hr h => ?_)
  · obtain ⟨x, ts, m, rfl, _⟩ := h
    rfl
  · obtain ⟨x, ts, m, rfl, hx, hl, hR, q⟩ := h
    have G_text_at : FnOk P w K mg base CX0 3 T.f_text_at T.d_text_at ["tape", "start", "number"] (sp_text_at K) := ok_text_at T
    have hxl : x.length ≤ sizeLine := len_le' hx rfl
    refine ⟨_, (pss_cons (ps_set (i := 1) sc_read_tape.nd rfl (Or.inl rfl) (pe_lst pa_nil))
    (pss_cons (ps_set (i := 2) sc_read_tape.nd rfl (Or.inl rfl) pe_int)
    (pss_cons (ps_set (i := 3) sc_read_tape.nd rfl (Or.inl rfl) (pe_call G_text_at hr (by rfl) T.m_text_at T.F_text_at.kp T.b_text_at .nil pass0 (pa_cons (pv 0) (pa_cons (pv 2) (pa_cons pe_int pa_nil)))))
    (pss_cons (ps_while PassesOwn.never (pt_cmpR op_notN (pv 3) pe_non (nomark _))
      (pss_cons (ps_expr (pe_bm PySem.F.plainAttrs_list PySem.F.slot_list_append PySem.F.type_list_append mt_append (pv 1) (pa_cons (pv 3) pa_nil)))
      (pss_cons (ps_set (i := 2) sc_read_tape.nd rfl (Or.inl rfl) (pe_op op_add (pe_bm PySem.F.plainAttrs_str PySem.F.slot_str_find PySem.F.type_str_find mt_find3 (pv 0) (pa_cons pe_str (pa_cons (pv 2) pa_nil))) pe_int))
      (pss_one (ps_set (i := 3) sc_read_tape.nd rfl (Or.inl rfl) (pe_call G_text_at hr (by rfl) T.m_text_at T.F_text_at.kp T.b_text_at .nil pass0 (pa_cons (pv 0) (pa_cons (pv 2) (pa_cons (pe_op op_add (pe_callB call_len_seq (by rfl) T.z_len PySem.boot_len (pa_cons (pv 1) pa_nil)) pe_int) pa_nil)))))))))
    (pss_one (ps_ret (pe_tup (pa_cons (pv 1) (pa_cons (pv 2) pa_nil))))))))), ?_⟩
    walk_at "st"
    intro D nD
    walk_at "st"
    intro H1 s1
    have sD : Same H (upd H D (.lst [])) := same_upd nD
    refine while_by (fun σ H2 => ∃ (done rest : List (List Nat)) (L k : Nat), σ = [some (.str x), some (.ref D), some (.int (L : Int)), some (optV (textAt (preL (done.length + 1)) ((TL.tl x).drop L)))] ∧ Same H H2 ∧ H2 D = some (.lst (done.map fun t => V.str (strL t))) ∧ L ≤ x.length ∧ Reads preL ((TL.tl x).drop L) (done.length + 1) rest k ∧ done ++ rest = ts ∧ L + k = m)
      (fun σ _ => match σ with | [_, _, some (.int l), _] => x.length - l.toNat | _ => 0)
      ⟨[], ts, 0, m, rfl, sD.trans s1, s1 _ _ upd_same, Nat.zero_le _, hR, rfl, Nat.zero_add m⟩ ?_ ?_
    · rintro σ H2 ⟨done, rest, L, k, rfl, e2, hD, hLx, hR2, hts, hm⟩
      walk_at "st"
      cases hR2 with
      | stop h =>
        rw [h]
        refine iteDN (fun z => absurd rfl z) (fun _ => ?_)
        walk_at "st"
        intro p np
        rw [List.append_nil] at hts
        rw [← hts] at q
        have hL : (L : Int) = (m : Int) := by omega
        rw [hL]
        refine q p D _ (e2.trans (same_upd np)) upd_same ?_
        rw [upd_ne (ne_of_none hD np)]
        exact hD
      | @step _ _ t rest k h g =>
        rw [h]
        refine iteDN (fun _ => ?_) (fun z => by cases z)
        have hdl : done.length < 100 := by
          have := congrArg List.length hts
          rw [List.length_append, List.length_cons] at this
          omega
        have hlt : (done.map fun t => V.str (strL t)).length < sizeLine := small1000 (by rw [List.length_map]; omega)
        obtain ⟨gt, hrow⟩ := textAt_some h
        have hpl : ∃ j, (rowOf ((TL.tl x).drop L)).length = j + 1 ∧ Txt.find3 x "\n" (L : Int) = ((L + j : Nat) : Int) ∧ L + j < x.length := by
          rcases find_row x L hLx with ⟨_, h2⟩ | ⟨j, h1, h2, _, h4⟩
          · rw [hrow] at h2
            exact absurd h2 (lineP_ne _ _)
          · exact ⟨j, h1, h2, h4⟩
        obtain ⟨j, hj1, hj2, hj3⟩ := hpl
        rw [hrow] at hj1
        walk_at "st"
        change [V.str x, V.int (Txt.find3 x "\n" (L : Int) + 1), V.int (((List.map (fun t => V.str (strL t)) done ++ [optV (some t)]).length : Int) + 1)] = _ ∧ _
        rw [hj2, show (((L + j : Nat) : Int) + 1) = ((L + (lineP (preL (done.length + 1)) t).length : Nat) : Int) by omega, List.length_append, List.length_map, List.length_singleton, show (((done.length + 1 : Nat) : Int) + 1) = ((done.length + 1 + 1 : Nat) : Int) by omega]
        apply And.intro
        · exact rfl
        refine ⟨hx, by omega, by omega, fun H3 s3 => ?_⟩
        walk_at "st"
        have hcast : (((L + j : Nat) : Int) + 1) = ((L + (lineP (preL (done.length + 1)) t).length : Nat) : Int) := by omega
        refine ⟨⟨done ++ [t], rest, L + (lineP (preL (done.length + 1)) t).length, k, ?_, ?_, ?_, by omega, ?_, by rw [List.append_assoc]; exact hts, by omega⟩, ?_⟩
        · rw [List.length_append, List.length_singleton, ← hcast]
          rfl
        · refine Same.trans (fun b o z => ?_) s3
          rw [upd_ne (ne_of_none z nD)]
          exact e2 b o z
        · rw [List.map_append]
          exact s3 _ _ upd_same
        · rw [List.length_append, List.length_singleton, ← List.drop_drop]
          exact g
        · show x.length - (((L + j : Nat) : Int) + 1).toNat < x.length - (L : Int).toNat
          omega
    · intro σ H2 Q1 Q2 hq h
      obtain ⟨v, e, e2, k, e3, h⟩ := h
      exact ⟨v, e, e2, k, e3, hq _ _ h⟩

/-! ### the laws' own texts -/
def digF (c b : Int) : Nat → Int
  | 0 => c
  | k + 1 => digF c b k / b
def sp_law_digit (K : PySem.W.Frag) : Sp := fun vs H Q _ => ∃ (c b : Int) (k : Nat), vs = [.int c, .int b, .int (k : Int)] ∧ 0 < b ∧ b < 1073741824 ∧ k < 1000 ∧ Q (.int (digF c b k % b)) H
set_option maxHeartbeats 0 in
theorem ok_law_digit (T : Txt K mg) : FnOk P w K mg base CX0 1 T.f_law_digit T.d_law_digit ["cell", "base", "k"] (sp_law_digit K) := by
  refine T.F_law_digit.ok sc_law_digit (fun vs H Q E h => ?_) (fun cdv A outer s H vs Q E hr h => ?_)
  · obtain ⟨c, b, k, rfl, _⟩ := h
    rfl
  · obtain ⟨c, b, k, rfl, h0, h1, hk, q⟩ := h
    refine ⟨_, (pss_cons (ps_set (i := 3) sc_law_digit.nd rfl (Or.inl rfl) (pe_callTy call_int_i (by rfl) T.z_int (by decide +kernel) (pa_cons (pv 0) pa_nil)))
    (pss_cons (ps_for PassesOwn.never rfl (pi_range1 (by rfl) T.z_range (pa_cons (pv 2) pa_nil)) (pg_name (i := 4) sc_law_digit.nd rfl (Or.inl rfl))
      (pss_one (ps_set (i := 3) sc_law_digit.nd rfl (Or.inl rfl) (pe_op op_fdiv (pv 3) (pv 1)))))
    (pss_one (ps_ret (pe_op op_mod (pv 3) (pv 1)))))), ?_⟩
    walk_at "st"
    refine for_range (lo := 0) (n := ((k : Int)).toNat) (fun i σ H' => ∃ (v : Option V), σ = [some (.int c), some (.int b), some (.int (k : Int)), some (.int (digF c b i)), v] ∧ H' = H) ⟨none, rfl, rfl⟩ ?_ ?_
    · rintro i σ H' hi ⟨v, rfl, rfl⟩
      walk_at "st"
      exact ⟨_, rfl, rfl⟩
    · rintro σ H' ⟨v, rfl, rfl⟩
      rw [Int.toNat_natCast]
      walk_at "st"
      exact q
def wordsT : List Str := ["order", "ash 7", "0", "12 0007", "settle", " ", "~", "2 1234"]
def wordS (z : Int) : Str := wordsT.getD z.toNat ""
theorem words_at {z : Int} (h0 : 0 ≤ z) (h1 : z < 8) : atI (wordsT.map V.str) z = some (.str (wordS z)) := by
  obtain ⟨n, rfl⟩ := Int.eq_ofNat_of_zero_le h0
  refine at_of (j := n) rfl ?_
  have hn : n < wordsT.length := by
    show n < 8
    omega
  rw [List.getElem?_map, List.getElem?_eq_getElem hn]
  unfold wordS
  rw [Int.toNat_natCast, List.getD_eq_getElem?_getD, List.getElem?_eq_getElem hn]
  rfl
theorem wordS_good (z : Int) (h0 : 0 ≤ z) (h1 : z < 8) : goodT (TL.tl (wordS z)) = true ∧ (wordS z).length ≤ 7 := by
  obtain ⟨n, rfl⟩ := Int.eq_ofNat_of_zero_le h0
  have hn : n < 8 := by omega
  clear h0 h1
  revert n
  decide +kernel
def sizeF (c : Int) : Nat := (1 + c % 4).toNat
def partsF (c : Int) : List Str := (List.range (sizeF c)).map fun k => wordS (digF (c / 4) 8 k % 8)
def textF (c : Int) : List Nat := TL.joinL [32] ((partsF c).map TL.tl)
theorem joinL_good : ∀ ps : List (List Nat), ps ≠ [] → (∀ p, p ∈ ps → goodT p = true) → goodT (TL.joinL [32] ps) = true
  | [], h, _ => absurd rfl h
  | [p], _, h => h p List.mem_cons_self
  | p :: q :: r, _, h => by
    have h1 := goodT_iff.mp (h p List.mem_cons_self)
    have h2 := goodT_iff.mp (joinL_good (q :: r) (by simp) fun x hx => h x (List.mem_cons_of_mem _ hx))
    refine goodT_iff.mpr ⟨fun e => ?_, fun c hc => ?_⟩
    · have : p ++ ([32] ++ TL.joinL [32] (q :: r)) = [] := e
      simp at this
    · have hc2 : c ∈ p ++ ([32] ++ TL.joinL [32] (q :: r)) := hc
      rcases List.mem_append.mp hc2 with z | z
      · exact h1.2 c z
      · rcases List.mem_append.mp z with z | z
        · rw [List.mem_singleton.mp z]
          decide
        · exact h2.2 c z
theorem joinL_le {m : Nat} : ∀ ps : List (List Nat), (∀ p, p ∈ ps → p.length ≤ m) → (TL.joinL [32] ps).length ≤ ps.length * (m + 1)
  | [], _ => by show 0 ≤ _; omega
  | [p], h => by
    have := h p List.mem_cons_self
    show p.length ≤ 1 * (m + 1)
    omega
  | p :: q :: r, h => by
    have h1 := h p List.mem_cons_self
    have h2 := joinL_le (q :: r) fun x hx => h x (List.mem_cons_of_mem _ hx)
    show (p ++ ([32] ++ TL.joinL [32] (q :: r))).length ≤ ((q :: r).length + 1) * (m + 1)
    rw [List.length_append, List.length_append, List.length_singleton, Nat.add_mul]
    omega
theorem sizeF_b (c : Int) : 1 ≤ sizeF c ∧ sizeF c ≤ 4 := by
  unfold sizeF
  omega
theorem partsF_len (c : Int) : (partsF c).length = sizeF c := by
  unfold partsF
  rw [List.length_map, List.length_range]
theorem partsF_mem {c : Int} {y : Str} (h : y ∈ partsF c) : goodT (TL.tl y) = true ∧ y.length ≤ 7 := by
  unfold partsF at h
  obtain ⟨k, _, rfl⟩ := List.mem_map.mp h
  exact wordS_good _ (Int.emod_nonneg _ (by decide)) (Int.emod_lt_of_pos _ (by decide))
theorem textF_good (c : Int) : goodT (textF c) = true := by
  unfold textF
  refine joinL_good _ (fun e => ?_) fun p hp => ?_
  · have := congrArg List.length e
    rw [List.length_map, partsF_len] at this
    have h2 := (sizeF_b c).1
    simp at this
    omega
  · obtain ⟨y, hy, rfl⟩ := List.mem_map.mp hp
    exact (partsF_mem hy).1
theorem textF_len (c : Int) : (textF c).length ≤ 32 := by
  unfold textF
  have h := joinL_le (m := 7) ((partsF c).map TL.tl) fun p hp => by
    obtain ⟨y, hy, rfl⟩ := List.mem_map.mp hp
    rw [← TL.len_tl]
    exact (partsF_mem hy).2
  rw [List.length_map, partsF_len] at h
  have h2 := (sizeF_b c).2
  omega
theorem sum_small {m : Nat} : ∀ ys : List Str, (∀ y, y ∈ ys → y.length ≤ m) → (ys.map (·.length)).sum ≤ ys.length * m
  | [], _ => by simp
  | y :: ys, h => by
    rw [List.map_cons, List.sum_cons, List.length_cons, Nat.add_mul]
    have h1 := h y List.mem_cons_self
    have h2 := sum_small ys fun z hz => h z (List.mem_cons_of_mem _ hz)
    show y.length + _ ≤ _
    omega
def sp_law_text (K : PySem.W.Frag) : Sp := fun vs H Q _ => ∃ c : Int, vs = [.int c] ∧ ∀ H', Same H H' → Q (.str (strL (textF c))) H'
set_option maxHeartbeats 0 in
theorem ok_law_text (T : Txt K mg) : FnOk P w K mg base CX0 2 T.f_law_text T.d_law_text ["cell"] (sp_law_text K) := by
  refine T.F_law_text.ok sc_law_text (fun vs H Q E h => ?_) (fun cdv A outer s H vs Q E hr h => ?_)
  · obtain ⟨c, rfl, _⟩ := h
    rfl
  · obtain ⟨c, rfl, q⟩ := h
    have G_law_digit : FnOk P w K mg base CX0 1 T.f_law_digit T.d_law_digit ["cell", "base", "k"] (sp_law_digit K) := ok_law_digit T
    refine ⟨_, (pss_cons (ps_set (i := 1) sc_law_text.nd rfl (Or.inr rfl) (pe_lst (pa_cons pe_str (pa_cons pe_str (pa_cons pe_str (pa_cons pe_str (pa_cons pe_str (pa_cons pe_str (pa_cons pe_str (pa_cons pe_str pa_nil))))))))))
    (pss_cons (ps_set (i := 2) sc_law_text.nd rfl (Or.inl rfl) (pe_op op_add pe_int (pe_op op_mod (pe_callTy call_int_i (by rfl) T.z_int (by decide +kernel) (pa_cons (pv 0) pa_nil)) pe_int)))
    (pss_one (ps_ret (pe_join pe_str (pe_lc (own := [("k", 3)]) (g := gName 3) (tt := tYes) rfl sc_law_text.nd (pi_range1 (by rfl) T.z_range (pa_cons (pv 2) pa_nil)) (blkOk_by (own := [("k", 3)]) (N := N_law_text) (sc := defScope s_law_text) (by decide +kernel)) (fun _ _ _ _ _ => (pg_name (i := 3) sc_law_text.nd rfl (Or.inl rfl))) (fun _ _ _ _ _ => pts_nil) (fun _ _ _ _ _ => (pe_ix (show IxR _ (rIxL K) from ix_list) (pv 1) (pe_call G_law_digit hr (by rfl) T.m_law_digit T.F_law_digit.kp T.b_law_digit .nil pass0 (pa_cons (pe_op op_fdiv (pv 0) pe_int) (pa_cons pe_int (pa_cons (pv 3) pa_nil)))) (fun _ _ => rfl))))))))), ?_⟩
    refine ⟨len_le rfl, fun l hl => ?_⟩
    have hsz := sizeF_b c
    have e1 : 1 + c % 4 = ((sizeF c : Nat) : Int) := by
      unfold sizeF
      omega
    walk_at "st"
    show gName 2 (V.int (1 + c % 4)) _ _ _
    rw [e1]
    have hW : (upd H l (.lst [V.str "order", V.str "ash 7", V.str "0", V.str "12 0007", V.str "settle", V.str " ", V.str "~", V.str "2 1234"])) l = some (.lst (wordsT.map V.str)) := upd_same
    have s1 : Same H (upd H l (.lst [V.str "order", V.str "ash 7", V.str "0", V.str "12 0007", V.str "settle", V.str " ", V.str "~", V.str "2 1234"])) := same_upd hl
    generalize upd H l (.lst [V.str "order", V.str "ash 7", V.str "0", V.str "12 0007", V.str "settle", V.str " ", V.str "~", V.str "2 1234"]) = H1 at hW s1
    have hWs : SqL K H1 l (wordsT.map V.str) := SqL.of hW
    refine ⟨⟨_, rfl⟩, _, rfl, _, rfl, by omega, by omega, fun D nD => ?_⟩
    have hsD : ∀ o, Same H1 (upd H1 D o) := fun o => same_upd nD
    refine lc_range (lo := 0) (n := ((sizeF c : Nat) : Int).toNat) (fun i H' => ∃ ys : List Str, H' = upd H1 D (.lst (ys.map V.str)) ∧ ys = (List.range i).map fun k => wordS (digF (c / 4) 8 k % 8)) ⟨[], rfl, rfl⟩ ?_ ?_
    · rintro i H' hi ⟨ys, rfl, hy⟩
      refine ⟨rfl, ?_⟩
      have hWx := (hsD (.lst (ys.map V.str))).seq hWs
      have hz0 := Int.emod_nonneg (digF (c / 4) 8 i) (by decide : (8 : Int) ≠ 0)
      have hz1 := Int.emod_lt_of_pos (digF (c / 4) 8 i) (by decide : (0 : Int) < 8)
      have hw := words_at hz0 hz1
      have hyl : ys.length = i := by rw [hy, List.length_map, List.length_range]
      have hlt : (ys.map V.str).length < sizeLine := small1000 (by rw [List.length_map]; omega)
      walk_at "st"
      rw [Nat.zero_add]
      refine ⟨hw, _, upd_same, hlt, ys ++ [wordS (digF (c / 4) 8 i % 8)], ?_, ?_⟩
      · rw [upd_upd, List.map_append]
        rfl
      · rw [hy, List.range_succ, List.map_append]
        rfl
    · rintro H' ⟨ys, rfl, hy⟩
      rw [Int.toNat_natCast] at hy
      have hy2 : ys = partsF c := hy
      have hs7 := sum_small (m := 7) ys fun y h => (partsF_mem (by rw [← hy2]; exact h)).2
      have hyl : ys.length = sizeF c := by rw [hy2, partsF_len]
      refine ⟨_, D, ys, rfl, rfl, .inl (SqL.of upd_same), ?_, ?_⟩
      · show _ + ys.length * 1 ≤ _
        omega
      · have e : Txt.join " " ys = strL (textF c) := by
          refine TL.ext_tl ?_
          rw [tl_strL, (congrArg TL.tl (TL.join_eq " " ys)).trans (TL.tl_join " " ys), hy2]
          rfl
        rw [e]
        exact q _ (s1.trans (hsD _))
/-- the cells that the law makes lines of -/
def cellsT (ns : List Int) : List Int := cutI ns (some 2) (some 14)
theorem cellsT_eq (ns : List Int) : cellsT ns = (ns.drop 2).take 12 := by
  unfold cellsT cutI
  rw [show (2 : Int) = ((2 : Nat) : Int) from rfl, show (14 : Int) = ((14 : Nat) : Int) from rfl, HT.sIx_nat, HT.sIx_nat]
  rcases Nat.le_total 2 ns.length with h | h
  · rw [Nat.min_eq_left h]
    rcases Nat.le_total 14 ns.length with h2 | h2
    · rw [Nat.min_eq_left h2]
    · rw [Nat.min_eq_right h2, List.take_of_length_le (by rw [List.length_drop]; exact Nat.le_refl _), List.take_of_length_le (by rw [List.length_drop]; omega)]
  · rw [Nat.min_eq_right h, List.drop_of_length_le (Nat.le_refl _), List.drop_of_length_le h, List.take_nil, List.take_nil]
theorem cellsT_len (ns : List Int) : (cellsT ns).length = min 12 (ns.length - 2) := by rw [cellsT_eq, List.length_take, List.length_drop]
theorem cellsT_at {ns : List Int} {i : Nat} {c : Int} (h : (cellsT ns)[i]? = some c) : ns[i + 2]? = some c := by
  rw [cellsT_eq] at h
  have hi := (List.getElem?_eq_some_iff.mp h).1
  rw [List.length_take] at hi
  rw [List.getElem?_take_of_lt (by omega), List.getElem?_drop] at h
  rw [show i + 2 = 2 + i by omega]
  exact h
def textsT (ns : List Int) : List (List Nat) := (cellsT ns).map textF
theorem textsT_good (ns : List Int) : ∀ t, t ∈ textsT ns → goodT t = true := fun t h => by
  obtain ⟨c, _, rfl⟩ := List.mem_map.mp h
  exact textF_good c
theorem textsT_len (ns : List Int) : (textsT ns).length ≤ 12 := by
  unfold textsT
  rw [List.length_map, cellsT_len]
  omega
def rowsT (ns : List Int) : List (List Nat) := rowsP preL 1 (textsT ns)
theorem rowsT_len (ns : List Int) : (rowsT ns).length = (textsT ns).length := rowsP_len _ _ _
theorem rowsT_small (ns : List Int) : ∀ r, r ∈ rowsT ns → r.length ≤ 42 := fun r h => by
  obtain ⟨i, hi⟩ := List.mem_iff_getElem?.mp h
  have hil := (List.getElem?_eq_some_iff.mp hi).1
  have hl := textsT_len ns
  rw [rowsT_len] at hil
  unfold rowsT at hi
  rw [rowsP_at] at hi
  cases e : (textsT ns)[i]? with
  | none => rw [e] at hi; cases hi
  | some t =>
    rw [e] at hi
    have hr : lineP (preL (1 + i)) t = r := Option.some.inj hi
    rw [← hr, lineP_len]
    have ht : t.length ≤ 32 := by
      obtain ⟨c, _, rfl⟩ := List.mem_map.mp (List.mem_of_getElem? e)
      exact textF_len c
    have hp : (preL (1 + i)).length ≤ 3 := by
      unfold preL
      rw [List.length_append, List.length_singleton]
      have := TL.numL_len (n := 1 + i) (k := 2) (by decide) (by omega)
      omega
    omega
theorem flat_le {m : Nat} : ∀ ls : List (List Nat), (∀ l, l ∈ ls → l.length ≤ m) → ls.flatten.length ≤ ls.length * m
  | [], _ => by simp
  | l :: ls, h => by
    rw [List.flatten_cons, List.length_append, List.length_cons, Nat.add_mul]
    have h1 := h l List.mem_cons_self
    have h2 := flat_le ls fun z hz => h z (List.mem_cons_of_mem _ hz)
    omega
theorem rowsT_flat (ns : List Int) : (rowsT ns).flatten.length ≤ 504 := by
  have h := flat_le (rowsT ns) (rowsT_small ns)
  have h2 := rowsT_len ns
  have h3 := textsT_len ns
  have h4 : (rowsT ns).length * 42 ≤ 12 * 42 := Nat.mul_le_mul_right _ (by omega)
  omega
def sp_law_lines (K : PySem.W.Frag) : Sp := fun vs H Q _ => ∃ (a : Addr) (ns : List Int), vs = [.ref a] ∧ SqL K H a (ns.map V.int) ∧
  ∀ p H', Same H H' → H p = none → H' p = some (.lst ((rowsT ns).map fun l => V.str (strL l))) → Q (.ref p) H'
set_option maxHeartbeats 0 in
theorem ok_law_lines (T : Txt K mg) : FnOk P w K mg base CX0 3 T.f_law_lines T.d_law_lines ["script"] (sp_law_lines K) := by
  refine T.F_law_lines.ok sc_law_lines (fun vs H Q E h => ?_) (fun cdv A outer s H vs Q E hr h => ?_)
  · obtain ⟨a, ns, rfl, _⟩ := h
    rfl
  · obtain ⟨a, ns, rfl, hs, q⟩ := h
    have G_write_line : FnOk P w K mg base CX0 2 T.f_write_line T.d_write_line ["number", "text"] (sp_write_line K) := ok_write_line T
    have G_law_text : FnOk P w K mg base CX0 2 T.f_law_text T.d_law_text ["cell"] (sp_law_text K) := ok_law_text T
    refine ⟨_, (pss_cons (ps_set (i := 1) sc_law_lines.nd rfl (Or.inl rfl) (pe_lst pa_nil))
    (pss_cons (ps_for PassesOwn.never rfl (pi_enum (by rfl) T.z_enumerate (pa_cons (pe_slice sl_list (pv 0) (po_some pe_int) (po_some pe_int)) pa_nil)) (pg_tup rfl (pgs_cons (pg_name (i := 2) sc_law_lines.nd rfl (Or.inl rfl)) (pgs_cons (pg_name (i := 3) sc_law_lines.nd rfl (Or.inl rfl)) pgs_nil)))
      (pss_one (ps_expr (pe_bm PySem.F.plainAttrs_list PySem.F.slot_list_append PySem.F.type_list_append mt_append (pv 1) (pa_cons (pe_call G_write_line hr (by rfl) T.m_write_line T.F_write_line.kp T.b_write_line .nil pass0 (pa_cons (pe_op op_add (pv 2) pe_int) (pa_cons (pe_call G_law_text hr (by rfl) T.m_law_text T.F_law_text.kp T.b_law_text .nil pass0 (pa_cons (pv 3) pa_nil)) pa_nil))) pa_nil)))))
    (pss_one (ps_ret (pv 1))))), ?_⟩
    walk_at "st"
    intro D nD
    have hsD : ∀ o, Same H (upd H D o) := fun o => same_upd nD
    have hs1 := (hsD (.lst [])).seq hs
    walk_at "st"
    intro C nC
    rw [cutV_ints]
    have hCl : (cellsT ns).length ≤ 12 := by rw [cellsT_len]; omega
    refine ⟨C, (cellsT ns).map V.int, rfl, SqL.of upd_same, ?_⟩
    have nCD : C ≠ D := fun e => by rw [e, upd_same] at nC; cases nC
    have nC0 : H C = none := by rw [upd_ne nCD] at nC; exact nC
    refine for_enum (a := C) (xs := (cellsT ns).map V.int) (fun i σ H' => ∃ v2 v3 : Option V, σ = [some (.ref a), some (.ref D), v2, v3] ∧ Same H H' ∧ H' C = some (.lst ((cellsT ns).map V.int)) ∧ H' D = some (.lst (((rowsT ns).take i).map fun l => V.str (strL l))))
      ⟨none, none, rfl, (hsD _).trans (same_upd nC), upd_same, by rw [upd_ne nCD.symm]; exact upd_same⟩ (fun i σ H' _ ⟨_, _, _, _, h, _⟩ => SqL.of h) ?_ ?_
    · rintro i x σ H' T hx ⟨v2, v3, rfl, e1, hC, hD⟩ nT
      obtain ⟨c, hc, rfl⟩ := ints_at hx
      have hi := (List.getElem?_eq_some_iff.mp hc).1
      have sT : ∀ o, Same H' (upd H' T o) := fun o => same_upd nT
      have hD2 := sT (.tup [.int (i : Int), .int c]) _ _ hD
      have hC2 := sT (.tup [.int (i : Int), .int c]) _ _ hC
      walk_at "st"
      intro H3 s3
      walk_at "st"
      refine ⟨by rw [strL_len]; exact Nat.le_trans (textF_len c) (by decide), by rw [tl_strL]; exact textF_good c, fun H4 s4 => ?_⟩
      rw [tl_strL]
      have hD4 := s4 _ _ (s3 _ _ hD2)
      have hrl : ((rowsT ns).take i).length ≤ 12 := by rw [List.length_take, rowsT_len]; have := textsT_len ns; omega
      have hlt : (((rowsT ns).take i).map fun l => V.str (strL l)).length < sizeLine := small1000 (by rw [List.length_map]; omega)
      walk_at "st"
      refine ⟨_, _, rfl, ?_, ?_, ?_⟩
      · intro b o z
        rw [upd_ne (ne_of_none z nD)]
        exact (e1.trans (((sT _).trans s3).trans s4)) b o z
      · rw [upd_ne nCD]
        exact s4 _ _ (s3 _ _ hC2)
      · rw [upd_same]
        have hr : (rowsT ns)[i]? = some (lineP (preL (i + 1)) (textF c)) := by
          unfold rowsT textsT
          rw [rowsP_at, List.getElem?_map, hc, Nat.add_comm]
          rfl
        rw [take_succ hr, List.map_append]
        rfl
    · rintro σ H' ⟨v2, v3, rfl, e1, hC, hD⟩
      walk_at "st"
      refine q D H' e1 nD ?_
      rw [hD, List.take_of_length_le (by rw [rowsT_len, List.length_map]; unfold textsT; rw [List.length_map]; exact Nat.le_refl _)]

theorem rowsT_at {ns : List Int} {i : Nat} (h : i < (rowsT ns).length) : atI ((rowsT ns).map fun l => V.str (strL l)) (i : Int) = some (.str (strL (rowsT ns)[i])) := by
  refine at_of (j := i) rfl ?_
  rw [List.getElem?_map, List.getElem?_eq_getElem h]
  rfl
theorem joined (ls : List (List Nat)) : Txt.join "" (ls.map strL) = strL ls.flatten := by
  refine TL.ext_tl ?_
  rw [tl_strL, (congrArg TL.tl (TL.join_eq "" (ls.map strL))).trans (TL.tl_join "" (ls.map strL)), List.map_map, show TL.tl ∘ strL = id from funext tl_strL, List.map_id]
  show TL.joinL [] ls = ls.flatten
  induction ls with
  | nil => rfl
  | cons a r ih =>
    cases r with
    | nil => show a = a ++ []; rw [List.append_nil]
    | cons b t =>
      show a ++ ([] ++ TL.joinL [] (b :: t)) = a ++ (b :: t).flatten
      rw [List.nil_append, ih]
theorem sum_flat : ∀ ls : List (List Nat), (((ls.map strL)).map (·.length)).sum = ls.flatten.length
  | [] => rfl
  | l :: ls => by
    rw [List.map_cons, List.map_cons, List.sum_cons, sum_flat ls, List.flatten_cons, List.length_append, strL_len]
def tapeT (ns : List Int) : List Nat := (rowsT ns).flatten
/-! ### what read_tape told, against the texts and their length -/
theorem strOk_good {t : List Nat} (h : goodT t = true) : PyData.strOk (strL t) = true := by
  refine Array.all_eq_true'.mpr ?_
  intro c hc
  have := (goodT_iff.mp h).2 c (by simpa [strL] using hc)
  exact decide_eq_true (by omega)
theorem dpAll_strs {K : PySem.W.Frag} {H : Hp} : ∀ ts : List Str, DpAll K H (ts.map V.str) (ts.map PyData.str)
  | [] => .nil
  | x :: xs => .cons (.str x) (dpAll_strs xs)
theorem eqT {K : PySem.W.Frag} {H : Hp} {p u d e : Addr} {ts : List (List Nat)} {m : Int} {Q : VK} (hg : ∀ t, t ∈ ts → goodT t = true) (h1 : SqT K H p [.ref d, .int m]) (h2 : SqL K H d (ts.map fun t => V.str (strL t)))
    (h3 : SqT K H u [.ref e, .int m]) (h4 : SqL K H e (ts.map fun t => V.str (strL t))) (q : Q (.bl true) H) : rEqD K (.ref p) (.ref u) H Q := by
  have e1 : (ts.map fun t => V.str (strL t)) = (ts.map strL).map V.str := by rw [List.map_map]; rfl
  rw [e1] at h2 h4
  have hG : ∀ x, x ∈ ts.map strL → PyData.strOk x = true := fun x hx => by
    obtain ⟨t, ht, rfl⟩ := List.mem_map.mp hx
    exact strOk_good (hg t ht)
  have LT : LayD (fun x : List Str × Int => PyData.tuple [PyData.list (x.1.map PyData.str), PyData.int x.2]) 2 (fun x => (∀ y, y ∈ x.1 → PyData.strOk y = true) ∧ True) := layD_str.list.tup2 (M := PyData.int) (G2 := fun _ => True) ⟨layD_int.lay, fun x => Nat.le_trans (layD_int.dep x) (Nat.zero_le _), layD_int.eqv⟩
  refine eqL LT (by decide) (a := (ts.map strL, m)) (b := (ts.map strL, m)) ⟨hG, trivial⟩ ⟨hG, trivial⟩ (.tup h1 (.cons (.lst h2 (dpAll_strs _)) (.cons (.int m) .nil))) (.tup h3 (.cons (.lst h4 (dpAll_strs _)) (.cons (.int m) .nil))) ?_
  rw [decide_eq_true rfl]
  exact q

theorem cutV_take {xs : List V} {n : Nat} : cutV xs none (some (n : Int)) = xs.take n := by
  unfold cutV
  rw [HT.sIx_nat, HT.sIx_none, List.drop_zero, Nat.sub_zero]
  rcases Nat.le_total n xs.length with h | h
  · rw [Nat.min_eq_left h]
  · rw [Nat.min_eq_right h, List.take_length, List.take_of_length_le h]
theorem cutV_drop {xs : List V} {n : Nat} : cutV xs (some (n : Int)) none = xs.drop n := by
  unfold cutV
  rw [HT.sIx_nat, HT.sIx_none]
  rcases Nat.le_total n xs.length with h | h
  · rw [Nat.min_eq_left h, List.take_of_length_le (by rw [List.length_drop]; exact Nat.le_refl _)]
  · rw [Nat.min_eq_right h, List.drop_of_length_le (Nat.le_refl _), List.drop_of_length_le h, List.take_nil]
theorem strs_map (ls : List (List Nat)) : (ls.map strL).map V.str = ls.map fun l => V.str (strL l) := by
  rw [List.map_map]
  rfl
theorem rowsP_take (p : Nat → List Nat) : ∀ (ts : List (List Nat)) (k n : Nat), rowsP p k (ts.take n) = (rowsP p k ts).take n
  | [], _, _ => by simp [rowsP]
  | t :: ts, k, 0 => rfl
  | t :: ts, k, n + 1 => by
    show lineP (p k) t :: rowsP p (k + 1) (ts.take n) = lineP (p k) t :: (rowsP p (k + 1) ts).take n
    rw [rowsP_take p ts (k + 1) n]

theorem call_str_any {X : Cx} : CallR X (.type "str") (fun xs H Q => (∃ i, xs = [.int i] ∧ i.natAbs.log2 < 1920 ∧ Q (.str (toString i)) H) ∨ ∃ a, xs = [.str a] ∧ Q (.str a) H) := by
  intro pins s σ H xs us Q I r h
  rcases h with h | h
  · exact call_str_int pins s σ H xs us Q I r h
  · exact SkE.call_str_str pins s σ H xs us Q I r h
/-! ### lines that are not the next good one -/
theorem app_32 : ∀ {l m x y : List Nat}, 32 ∉ l → 32 ∉ m → l ++ 32 :: x = m ++ 32 :: y → l = m
  | [], [], _, _, _, _, _ => rfl
  | [], b :: m, _, _, _, h2, e => by
    injection e with e1 _
    exact absurd (by rw [e1]; exact List.mem_cons_self) h2
  | a :: l, [], _, _, h1, _, e => by
    injection e with e1 _
    exact absurd (by rw [← e1]; exact List.mem_cons_self) h1
  | a :: l, b :: m, _, _, h1, h2, e => by
    injection e with e1 e2
    rw [e1, app_32 (fun z => h1 (List.mem_cons_of_mem _ z)) (fun z => h2 (List.mem_cons_of_mem _ z)) e2]
theorem textAt_other {n : Nat} {q t r : List Nat} (h10 : 10 ∉ q) (h32 : 32 ∉ q) (ht : 10 ∉ t) (h : q ≠ TL.numL n ∨ goodT t = false) : textAt (preL n) (lineP (q ++ [32]) t ++ r) = none := by
  cases e : textAt (preL n) (lineP (q ++ [32]) t ++ r) with
  | none => rfl
  | some u =>
    exfalso
    obtain ⟨gu, hr⟩ := textAt_some e
    rw [rowOf_line (by rw [List.mem_append, not_or]; exact ⟨h10, by decide⟩) ht] at hr
    have hq : q = TL.numL n := by
      unfold lineP preL at hr
      simp only [List.append_assoc] at hr
      exact app_32 h32 (TL.numL_free (by decide)) hr
    rcases h with h | h
    · exact h hq
    · rw [hq] at hr
      have hb := bodyOf_line (preL n) t
      rw [show lineP (preL n) t = lineP (preL n) u from hr, bodyOf_line] at hb
      rw [hb, h] at gu
      cases gu
def rawL (q t : List Nat) : List Nat := lineP (q ++ [32]) t
def sp_law_raw (K : PySem.W.Frag) : Sp := fun vs H Q _ => ∃ (v : V) (q : List Nat) (t : Str), vs = [v, .str t] ∧ ((∃ n : Nat, v = .int (n : Int) ∧ n < 1000 ∧ q = TL.numL n) ∨ v = .str (strL q)) ∧ q.length ≤ 10 ∧ t.length ≤ 20 ∧ Q (.str (strL (rawL q (TL.tl t)))) H
set_option maxHeartbeats 0 in
theorem ok_law_raw (T : Txt K mg) : FnOk P w K mg base CX0 2 T.f_law_raw T.d_law_raw ["number", "text"] (sp_law_raw K) := by
  refine T.F_law_raw.ok sc_law_raw (fun vs H Q E h => ?_) (fun cdv A outer s H vs Q E hr h => ?_)
  · obtain ⟨v, q, t, rfl, _⟩ := h
    rfl
  · obtain ⟨v, q, t, rfl, hv, hql, htl, qq⟩ := h
    have G_check_of : FnOk P w K mg base CX0 1 T.f_check_of T.d_check_of ["text"] (sp_check_of K) := ok_check_of T
    refine ⟨_, (pss_cons (ps_set (i := 2) sc_law_raw.nd rfl (Or.inl rfl) (pe_op op_add_str (pe_op op_add_str (pe_callTy call_str_any (by rfl) T.z_str (by decide +kernel) (pa_cons (pv 0) pa_nil)) pe_str) (pv 1)))
    (pss_one (ps_ret (pe_op op_add_str (pe_op op_add_str (pe_op op_add_str (pv 2) pe_str) (pe_call G_check_of hr (by rfl) T.m_check_of T.F_check_of.kp T.b_check_of .nil pass0 (pa_cons (pv 2) pa_nil))) pe_str)))), ?_⟩
    walk_at "st"
    have main : ∀ sq : Str, TL.tl sq = q → sq.length ≤ 10 ∧ (sq ++ (" " : Str)).length ≤ 11 ∧ (sq ++ (" " : Str) ++ t).length ≤ 31 ∧ TL.tl (sq ++ (" " : Str) ++ t) = q ++ [32] ++ TL.tl t := by
      intro sq e
      have l1 : sq.length ≤ 10 := by rw [TL.len_tl, e]; exact hql
      have l2 : (sq ++ (" " : Str)).length ≤ 11 := by rw [TL.len_tl, TL.tl_append, List.length_append, ← TL.len_tl]; exact Nat.add_le_add l1 (Nat.le_refl 1)
      refine ⟨l1, l2, ?_, ?_⟩
      · rw [TL.len_tl, TL.tl_append, List.length_append, ← TL.len_tl, ← TL.len_tl]
        omega
      · rw [TL.tl_append, TL.tl_append, e]
        rfl
    rcases hv with ⟨n, rfl, hn, hqn⟩ | rfl
    · refine .inl ⟨_, rfl, natAbs_log (k := 10) (by omega) (by decide) (by decide), ?_⟩
      have e1 : TL.tl (Str.ofString (toString ((n : Nat) : Int))) = q := by rw [hqn]; exact TL.tl_num n
      generalize Str.ofString (toString ((n : Nat) : Int)) = sq at e1
      obtain ⟨l1, l2, l3, e3⟩ := main sq e1
      refine ⟨_, _, rfl, rfl, len_le' (m := 11) (by show sq.length + 1 ≤ 11; omega) rfl, ?_⟩
      refine ⟨_, rfl, _, _, rfl, rfl, len_le' (m := 31) (by omega) rfl, ?_⟩
      generalize sq ++ (" " : Str) ++ t = body at l3 e3
      walk_at "st"
      have c2 : (body ++ (" " : Str)).length ≤ 32 := by rw [TL.len_tl, TL.tl_append, List.length_append, ← TL.len_tl]; exact Nat.add_le_add l3 (Nat.le_refl 1)
      have c3 : (body ++ (" " : Str) ++ strL (dig4 (chkF 7 (TL.tl body)))).length ≤ 36 := by rw [TL.len_tl, TL.tl_append, List.length_append, ← TL.len_tl, tl_strL]; exact Nat.add_le_add c2 (Nat.le_refl 4)
      have e : body ++ (" " : Str) ++ strL (dig4 (chkF 7 (TL.tl body))) ++ ("\n" : Str) = strL (rawL q (TL.tl t)) := by
        refine TL.ext_tl ?_
        rw [TL.tl_append, TL.tl_append, TL.tl_append, tl_strL, tl_strL, e3]
        unfold rawL lineP
        show q ++ [32] ++ TL.tl t ++ [32] ++ dig4 _ ++ [10] = _
        simp only [List.append_assoc]
      rw [← e] at qq
      refine ⟨len_le' (m := 32) (by show body.length + 1 ≤ 32; omega) rfl, ?_⟩
      walk_at "st"
      refine ⟨len_le' (m := 36) (by rw [strL_len]; exact Nat.add_le_add c2 (Nat.le_refl 4)) rfl, ?_⟩
      refine ⟨_, _, rfl, rfl, len_le' (m := 37) (Nat.add_le_add c3 (Nat.le_refl 1)) rfl, qq⟩
    · refine .inr ⟨_, rfl, ?_⟩
      have e1 : TL.tl (strL q) = q := tl_strL q
      generalize strL q = sq at e1
      obtain ⟨l1, l2, l3, e3⟩ := main sq e1
      refine ⟨_, _, rfl, rfl, len_le' (m := 11) (by show sq.length + 1 ≤ 11; omega) rfl, ?_⟩
      refine ⟨_, rfl, _, _, rfl, rfl, len_le' (m := 31) (by omega) rfl, ?_⟩
      generalize sq ++ (" " : Str) ++ t = body at l3 e3
      walk_at "st"
      have c2 : (body ++ (" " : Str)).length ≤ 32 := by rw [TL.len_tl, TL.tl_append, List.length_append, ← TL.len_tl]; exact Nat.add_le_add l3 (Nat.le_refl 1)
      have c3 : (body ++ (" " : Str) ++ strL (dig4 (chkF 7 (TL.tl body)))).length ≤ 36 := by rw [TL.len_tl, TL.tl_append, List.length_append, ← TL.len_tl, tl_strL]; exact Nat.add_le_add c2 (Nat.le_refl 4)
      have e : body ++ (" " : Str) ++ strL (dig4 (chkF 7 (TL.tl body))) ++ ("\n" : Str) = strL (rawL q (TL.tl t)) := by
        refine TL.ext_tl ?_
        rw [TL.tl_append, TL.tl_append, TL.tl_append, tl_strL, tl_strL, e3]
        unfold rawL lineP
        show q ++ [32] ++ TL.tl t ++ [32] ++ dig4 _ ++ [10] = _
        simp only [List.append_assoc]
      rw [← e] at qq
      refine ⟨len_le' (m := 32) (by show body.length + 1 ≤ 32; omega) rfl, ?_⟩
      walk_at "st"
      refine ⟨len_le' (m := 36) (by rw [strL_len]; exact Nat.add_le_add c2 (Nat.le_refl 4)) rfl, ?_⟩
      refine ⟨_, _, rfl, rfl, len_le' (m := 37) (Nat.add_le_add c3 (Nat.le_refl 1)) rfl, qq⟩
def strsV (ls : List (List Nat)) : List V := ls.map fun l => V.str (strL l)
/-- the lines with one spoilt -/
def spoilF (ls : List (List Nat)) (a : Nat) (step : Int) : List (List Nat) :=
  if step = 0 then ls.take a ++ ls.drop (a + 1)
  else if step = 1 then ls.take a ++ [ls.getD a []] ++ ls.drop a
  else if step = 2 then ls.take a ++ (ls.drop (a + 1)).take 1 ++ [ls.getD a []] ++ ls.drop (a + 2)
  else if step = 3 then ls.take a ++ [rawL (TL.numL (a + 2)) (TL.tl ("settle" : Str))] ++ ls.drop (a + 1)
  else if step = 4 then ls.take a ++ [rawL (TL.numL (a + 1)) (TL.tl ("" : Str))] ++ ls.drop (a + 1)
  else if step = 5 then ls.take a ++ [rawL (TL.numL (a + 1)) (TL.tl ("a\tb" : Str))] ++ ls.drop (a + 1)
  else ls.take a ++ [rawL (48 :: TL.numL (a + 1)) (TL.tl ("settle" : Str))] ++ ls.drop (a + 1)
theorem cutV_strs (ls : List (List Nat)) (n : Nat) : cutV (strsV ls) none (some (n : Int)) = strsV (ls.take n) ∧ cutV (strsV ls) (some (n : Int)) none = strsV (ls.drop n) := by
  unfold strsV
  rw [cutV_take, cutV_drop, List.map_take, List.map_drop]
  exact ⟨rfl, rfl⟩
theorem cutV_mid {xs : List V} {n m : Nat} : cutV xs (some (n : Int)) (some (m : Int)) = (xs.drop n).take (m - n) := by
  unfold cutV
  rw [HT.sIx_nat, HT.sIx_nat]
  rcases Nat.le_total n xs.length with h | h
  · rw [Nat.min_eq_left h]
    rcases Nat.le_total m xs.length with h2 | h2
    · rw [Nat.min_eq_left h2]
    · rw [Nat.min_eq_right h2, List.take_of_length_le (by rw [List.length_drop]; exact Nat.le_refl _), List.take_of_length_le (by rw [List.length_drop]; omega)]
  · rw [Nat.min_eq_right h, List.drop_of_length_le (Nat.le_refl _), List.drop_of_length_le h, List.take_nil, List.take_nil]
theorem strsV_app (a b : List (List Nat)) : strsV a ++ strsV b = strsV (a ++ b) := by
  unfold strsV
  rw [List.map_append]
theorem strsV_len (a : List (List Nat)) : (strsV a).length = a.length := by
  unfold strsV
  rw [List.length_map]
theorem strsV_at {ls : List (List Nat)} {a : Nat} (h : a < ls.length) : atI (strsV ls) (a : Int) = some (.str (strL (ls.getD a []))) := by
  refine at_of (j := a) rfl ?_
  unfold strsV
  rw [List.getElem?_map, List.getD_eq_getElem?_getD, List.getElem?_eq_getElem h]
  rfl
theorem ndec_t' {p : Prop} [Decidable p] (h : decide p = false) : ¬ p := of_decide_eq_false h
theorem fresh {H : Hp} {o : HO} {G : V → Hp → Prop} (q : ∀ p H', Same H H' → H' p = some o → G (.ref p) H') : ∀ p, H p = none → G (.ref p) (upd H p o) := fun p n => q p _ (same_upd n) upd_same
theorem cat_strs {H : Hp} {x y : Addr} {a b : List (List Nat)} {Q : VK} (hx : H x = some (.lst (strsV a))) (hy : H y = some (.lst (strsV b))) (ha : a.length ≤ 100) (hb : b.length ≤ 100)
    (q : ∀ p H', Same H H' → H' p = some (.lst (strsV (a ++ b))) → Q (.ref p) H') : rCat (.ref x) (.ref y) H Q := by
  refine ⟨x, y, _, _, rfl, rfl, hx, hy, ?_, fun p n => ?_⟩
  · rw [strsV_len, strsV_len]
    exact len_le' (m := 200) (by omega) rfl
  · rw [strsV_app]
    exact q p _ (same_upd n) upd_same
/-! ### what is read of spoilt lines -/
section
variable {ts : List (List Nat)}
theorem rows_getD {i : Nat} (h : i < ts.length) : ∃ t, ts[i]? = some t ∧ (rowsP preL 1 ts).getD i [] = lineP (preL (1 + i)) t := by
  refine ⟨_, List.getElem?_eq_getElem h, ?_⟩
  rw [List.getD_eq_getElem?_getD, rowsP_at, List.getElem?_eq_getElem h]
  rfl
theorem row_other (hg : ∀ t, t ∈ ts → goodT t = true) {i n : Nat} {r : List Nat} (h : i < ts.length) (hn : n ≠ 1 + i) : textAt (preL n) ((rowsP preL 1 ts).getD i [] ++ r) = none := by
  obtain ⟨t, h1, h2⟩ := rows_getD h
  rw [h2]
  exact textAt_other (q := TL.numL (1 + i)) (TL.numL_free (by decide)) (TL.numL_free (by decide)) (no10_good (hg t (List.mem_of_getElem? h1))) (.inl fun e => hn (TL.numL_inj e).symm)
theorem drop_flat {ls : List (List Nat)} {i : Nat} (h : i < ls.length) : (ls.drop i).flatten = ls.getD i [] ++ (ls.drop (i + 1)).flatten := by
  rw [List.drop_eq_getElem_cons h, List.flatten_cons, List.getD_eq_getElem?_getD, List.getElem?_eq_getElem h]
  rfl
theorem take_flat {ls : List (List Nat)} {i : Nat} (h : i < ls.length) : (ls.take (i + 1)).flatten = (ls.take i).flatten ++ ls.getD i [] := by
  rw [take_succ (List.getElem?_eq_getElem h), List.flatten_append, List.getD_eq_getElem?_getD, List.getElem?_eq_getElem h]
  simp
theorem stop_at (hg : ∀ t, t ∈ ts → goodT t = true) {g : Nat} {r : List Nat} (h : g ≤ ts.length) (hr : textAt (preL (1 + g)) r = none) :
    Reads preL (((rowsP preL 1 ts).take g).flatten ++ r) 1 (ts.take g) ((rowsP preL 1 ts).take g).flatten.length := by
  have e := reads_ahead preL_no (us := []) (n := 0) (r := r) (ts.take g) 1 (fun t ht => hg t (List.mem_of_mem_take ht)) (by
    rw [List.length_take, Nat.min_eq_left h]
    exact .stop hr)
  rw [List.append_nil, Nat.add_zero, rowsP_take] at e
  exact e
/-- how many of the texts are read -/
def goodN (n a : Nat) (step : Int) : Nat := if step = 1 then a + 1 else if step = 2 ∧ a + 1 = n then n else a
theorem spoil_reads (hg : ∀ t, t ∈ ts → goodT t = true) {a : Nat} (h : a < ts.length) (step : Int) :
    Reads preL (spoilF (rowsP preL 1 ts) a step).flatten 1 (ts.take (goodN ts.length a step)) ((rowsP preL 1 ts).take (goodN ts.length a step)).flatten.length := by
  have hl : (rowsP preL 1 ts).length = ts.length := rowsP_len _ _ _
  unfold spoilF goodN
  by_cases z0 : step = 0
  · rw [if_pos z0, if_neg (by omega), if_neg (by omega), List.flatten_append]
    refine stop_at hg (by omega) ?_
    by_cases h1 : a + 1 < ts.length
    · rw [drop_flat (by omega)]
      exact row_other hg h1 (by omega)
    · rw [List.drop_of_length_le (by omega)]
      exact textAt_no (by simp)
  rw [if_neg z0]
  by_cases z1 : step = 1
  · rw [if_pos z1, if_pos z1, List.flatten_append, List.flatten_append, show ([(rowsP preL 1 ts).getD a []] : List (List Nat)).flatten = (rowsP preL 1 ts).getD a [] by simp, ← take_flat (by omega)]
    refine stop_at hg (by omega) ?_
    rw [drop_flat (by omega)]
    exact row_other hg h (by omega)
  rw [if_neg z1, if_neg z1]
  by_cases z2 : step = 2
  · rw [if_pos z2]
    by_cases h1 : a + 1 = ts.length
    · rw [if_pos ⟨z2, h1⟩, List.drop_of_length_le (l := rowsP preL 1 ts) (by omega : (rowsP preL 1 ts).length ≤ a + 1), List.drop_of_length_le (l := rowsP preL 1 ts) (by omega : (rowsP preL 1 ts).length ≤ a + 2), List.take_nil, List.append_nil, List.append_nil, List.flatten_append,
        show ([(rowsP preL 1 ts).getD a []] : List (List Nat)).flatten = (rowsP preL 1 ts).getD a [] by simp, ← take_flat (by omega), ← h1]
      have e := stop_at hg (g := a + 1) (r := []) (by omega) (textAt_no (by simp))
      rw [List.append_nil] at e
      exact e
    · rw [if_neg (fun z => h1 z.2), List.append_assoc, List.append_assoc, List.flatten_append]
      refine stop_at hg (by omega) ?_
      have e : ((rowsP preL 1 ts).drop (a + 1)).take 1 = [(rowsP preL 1 ts).getD (a + 1) []] := by
        rw [List.drop_eq_getElem_cons (by omega), List.getD_eq_getElem?_getD, List.getElem?_eq_getElem (by omega)]
        rfl
      rw [e, List.flatten_append, show ([(rowsP preL 1 ts).getD (a + 1) []] : List (List Nat)).flatten = (rowsP preL 1 ts).getD (a + 1) [] by simp]
      exact row_other hg (by omega) (by omega)
  have hgd : (if step = 2 ∧ a + 1 = ts.length then ts.length else a) = a := if_neg fun z => z2 z.1
  rw [if_neg z2, hgd]
  have raw : ∀ (q t : List Nat), 10 ∉ q → 32 ∉ q → 10 ∉ t → (q ≠ TL.numL (1 + a) ∨ goodT t = false) → Reads preL ((rowsP preL 1 ts).take a ++ [rawL q t] ++ (rowsP preL 1 ts).drop (a + 1)).flatten 1 (ts.take a) ((rowsP preL 1 ts).take a).flatten.length := by
    intro q t h1 h2 h3 h4
    rw [List.append_assoc, List.flatten_append]
    refine stop_at hg (by omega) ?_
    rw [List.flatten_append, show ([rawL q t] : List (List Nat)).flatten = rawL q t by simp]
    exact textAt_other h1 h2 h3 h4
  have f10 : ∀ n, 10 ∉ TL.numL n := fun n => TL.numL_free (by decide)
  have f32 : ∀ n, 32 ∉ TL.numL n := fun n => TL.numL_free (by decide)
  split
  · exact raw (TL.numL (a + 2)) (TL.tl ("settle" : Str)) (f10 _) (f32 _) (by decide) (.inl fun e => by have := TL.numL_inj e; omega)
  split
  · exact raw (TL.numL (a + 1)) (TL.tl ("" : Str)) (f10 _) (f32 _) (by decide) (.inr (by decide))
  split
  · exact raw (TL.numL (a + 1)) (TL.tl ("a\tb" : Str)) (f10 _) (f32 _) (by decide) (.inr (by decide))
  · refine raw (48 :: TL.numL (a + 1)) (TL.tl ("settle" : Str)) ?_ ?_ (by decide) (.inl fun e => ?_)
    · intro z
      rcases List.mem_cons.mp z with z | z
      · exact absurd z (by decide)
      · exact f10 _ z
    · intro z
      rcases List.mem_cons.mp z with z | z
      · exact absurd z (by decide)
      · exact f32 _ z
    · have := congrArg List.length e
      rw [List.length_cons, Nat.add_comm a 1] at this
      omega
theorem getD_mem {ls : List (List Nat)} {i : Nat} (h : i < ls.length) : ls.getD i [] ∈ ls := by
  rw [List.getD_eq_getElem?_getD, List.getElem?_eq_getElem h]
  exact List.getElem_mem h
theorem spoilF_len {ls : List (List Nat)} {a : Nat} (h : a < ls.length) (hl : ls.length ≤ 12) (hs : ∀ l, l ∈ ls → l.length ≤ 42) (step : Int) : (spoilF ls a step).length ≤ 14 ∧ (∀ l, l ∈ spoilF ls a step → l.length ≤ 42) := by
  have hA : ∀ n l, l ∈ ls.take n → l.length ≤ 42 := fun n l z => hs l (List.mem_of_mem_take z)
  have hB : ∀ n l, l ∈ ls.drop n → l.length ≤ 42 := fun n l z => hs l (List.mem_of_mem_drop z)
  have hC := hs _ (getD_mem h)
  have hR : ∀ q t, q.length ≤ 10 → t.length ≤ 6 → (rawL q t).length ≤ 42 := fun q t h1 h2 => by
    unfold rawL
    rw [lineP_len, List.length_append, List.length_singleton]
    omega
  have n3 : ∀ k, k ≤ 14 → (TL.numL k).length ≤ 3 := fun k hk => numL_3 (by omega)
  have hD := hR (TL.numL (a + 2)) (TL.tl ("settle" : Str)) (Nat.le_trans (n3 _ (by omega)) (by decide)) (by decide)
  have hE := hR (TL.numL (a + 1)) (TL.tl ("" : Str)) (Nat.le_trans (n3 _ (by omega)) (by decide)) (by decide)
  have hF := hR (TL.numL (a + 1)) (TL.tl ("a\tb" : Str)) (Nat.le_trans (n3 _ (by omega)) (by decide)) (by decide)
  have hG := hR (48 :: TL.numL (a + 1)) (TL.tl ("settle" : Str)) (by rw [List.length_cons]; have := n3 (a + 1) (by omega); omega) (by decide)
  constructor
  · unfold spoilF
    repeat' split
    all_goals (simp only [List.length_append, List.length_take, List.length_drop, List.length_cons, List.length_nil]; omega)
  · intro l hl2
    unfold spoilF at hl2
    repeat' split at hl2
    all_goals (simp only [List.mem_append, List.mem_cons, List.not_mem_nil, or_false] at hl2)
    all_goals (rcases hl2 with hl2 | hl2 <;> first
      | exact hA _ _ hl2
      | exact hB _ _ hl2
      | (rcases hl2 with hl2 | hl2 <;> first
        | exact hA _ _ hl2
        | (rw [hl2]; first | exact hC | exact hD | exact hE | exact hF | exact hG)
        | (rcases hl2 with hl2 | hl2 <;> first
          | exact hA _ _ hl2
          | exact hB _ _ (List.mem_of_mem_take hl2))))
end

def sp_law_spoil (K : PySem.W.Frag) : Sp := fun vs H Q _ => ∃ (R : Addr) (ls : List (List Nat)) (a : Nat) (step : Int), vs = [.ref R, .int (a : Int), .int step] ∧ SqL K H R (strsV ls) ∧ a < ls.length ∧ ls.length ≤ 12 ∧
  ∀ p H', Same H H' → H' p = some (.lst (strsV (spoilF ls a step))) → Q (.ref p) H'
set_option maxHeartbeats 0 in
theorem ok_law_spoil (T : Txt K mg) : FnOk P w K mg base CX0 3 T.f_law_spoil T.d_law_spoil ["lines", "at", "step"] (sp_law_spoil K) := by
  refine T.F_law_spoil.ok sc_law_spoil (fun vs H Q E h => ?_) (fun cdv A outer s H vs Q E hr h => ?_)
  · obtain ⟨R, ls, a, step, rfl, _⟩ := h
    rfl
  · obtain ⟨R, ls, a, step, rfl, hR, ha, hl, q⟩ := h
    have G_law_raw : FnOk P w K mg base CX0 2 T.f_law_raw T.d_law_raw ["number", "text"] (sp_law_raw K) := ok_law_raw T
    refine ⟨_, (pss_cons (ps_if (pt_cmpR op_eq (pv 2) pe_int (nomark _))
      (pss_one (ps_ret (pe_op op_cat (pe_slice sl_list (pv 0) po_none (po_some (pv 1))) (pe_slice sl_list (pv 0) (po_some (pe_op op_add (pv 1) pe_int)) po_none))))
      pss_nil)
    (pss_cons (ps_if (pt_cmpR op_eq (pv 2) pe_int (nomark _))
      (pss_one (ps_ret (pe_op op_cat (pe_op op_cat (pe_slice sl_list (pv 0) po_none (po_some (pv 1))) (pe_lst (pa_cons (pe_ix ix_list (pv 0) (pv 1) (fun _ _ => rfl)) pa_nil))) (pe_slice sl_list (pv 0) (po_some (pv 1)) po_none))))
      pss_nil)
    (pss_cons (ps_if (pt_cmpR op_eq (pv 2) pe_int (nomark _))
      (pss_one (ps_ret (pe_op op_cat (pe_op op_cat (pe_op op_cat (pe_slice sl_list (pv 0) po_none (po_some (pv 1))) (pe_slice sl_list (pv 0) (po_some (pe_op op_add (pv 1) pe_int)) (po_some (pe_op op_add (pv 1) pe_int)))) (pe_lst (pa_cons (pe_ix ix_list (pv 0) (pv 1) (fun _ _ => rfl)) pa_nil))) (pe_slice sl_list (pv 0) (po_some (pe_op op_add (pv 1) pe_int)) po_none))))
      pss_nil)
    (pss_cons (ps_if (pt_cmpR op_eq (pv 2) pe_int (nomark _))
      (pss_one (ps_ret (pe_op op_cat (pe_op op_cat (pe_slice sl_list (pv 0) po_none (po_some (pv 1))) (pe_lst (pa_cons (pe_call G_law_raw hr (by rfl) T.m_law_raw T.F_law_raw.kp T.b_law_raw .nil pass0 (pa_cons (pe_op op_add (pv 1) pe_int) (pa_cons pe_str pa_nil))) pa_nil))) (pe_slice sl_list (pv 0) (po_some (pe_op op_add (pv 1) pe_int)) po_none))))
      pss_nil)
    (pss_cons (ps_if (pt_cmpR op_eq (pv 2) pe_int (nomark _))
      (pss_one (ps_ret (pe_op op_cat (pe_op op_cat (pe_slice sl_list (pv 0) po_none (po_some (pv 1))) (pe_lst (pa_cons (pe_call G_law_raw hr (by rfl) T.m_law_raw T.F_law_raw.kp T.b_law_raw .nil pass0 (pa_cons (pe_op op_add (pv 1) pe_int) (pa_cons pe_str pa_nil))) pa_nil))) (pe_slice sl_list (pv 0) (po_some (pe_op op_add (pv 1) pe_int)) po_none))))
      pss_nil)
    (pss_cons (ps_if (pt_cmpR op_eq (pv 2) pe_int (nomark _))
      (pss_one (ps_ret (pe_op op_cat (pe_op op_cat (pe_slice sl_list (pv 0) po_none (po_some (pv 1))) (pe_lst (pa_cons (pe_call G_law_raw hr (by rfl) T.m_law_raw T.F_law_raw.kp T.b_law_raw .nil pass0 (pa_cons (pe_op op_add (pv 1) pe_int) (pa_cons pe_str pa_nil))) pa_nil))) (pe_slice sl_list (pv 0) (po_some (pe_op op_add (pv 1) pe_int)) po_none))))
      pss_nil)
    (pss_one (ps_ret (pe_op op_cat (pe_op op_cat (pe_slice sl_list (pv 0) po_none (po_some (pv 1))) (pe_lst (pa_cons (pe_call G_law_raw hr (by rfl) T.m_law_raw T.F_law_raw.kp T.b_law_raw .nil pass0 (pa_cons (pe_op op_add_str pe_str (pe_callTy call_str_int (by rfl) T.z_str (by decide +kernel) (pa_cons (pe_op op_add (pv 1) pe_int) pa_nil))) (pa_cons pe_str pa_nil))) pa_nil))) (pe_slice sl_list (pv 0) (po_some (pe_op op_add (pv 1) pe_int)) po_none)))))))))), ?_⟩
    obtain ⟨k1, _⟩ := cutV_strs ls a
    obtain ⟨_, k2⟩ := cutV_strs ls (a + 1)
    obtain ⟨_, k0⟩ := cutV_strs ls a
    obtain ⟨_, k3⟩ := cutV_strs ls (a + 2)
    have tl : (ls.take a).length ≤ 12 := by rw [List.length_take]; omega
    have dl : ∀ n, (ls.drop n).length ≤ 12 := fun n => by rw [List.length_drop]; omega
    have hat := strsV_at ha
    walk_at "st"
    have kmid : cutV (strsV ls) (some ((a + 1 : Nat) : Int)) (some ((a + 2 : Nat) : Int)) = strsV ((ls.drop (a + 1)).take 1) := by
      rw [cutV_mid, show a + 2 - (a + 1) = 1 by omega]
      unfold strsV
      rw [List.map_take, List.map_drop]
    refine iteB (fun y0 => ?_) (fun y0 => ?_)
    · walk_at "st"
      intro p1 n1
      generalize hH1 : upd H p1 _ = H1
      have t1 : Same H H1 := hH1 ▸ same_upd n1
      have h1 := (congrFun hH1 p1).symm.trans upd_same
      rw [k1] at h1
      have hR1 := t1.seq hR
      walk_at "st"
      intro p2 n2
      generalize hH2 : upd H1 p2 _ = H2
      have t2 : Same H1 H2 := hH2 ▸ same_upd n2
      have h2 := (congrFun hH2 p2).symm.trans upd_same
      rw [show (a : Int) + 1 = ((a + 1 : Nat) : Int) by omega, k2] at h2
      have hR2 := t2.seq hR1
      have g1 : H2 p1 = some (.lst (strsV (ls.take a))) := t2 _ _ h1
      refine cat_strs g1 h2 (by simp only [List.length_append, List.length_take, List.length_drop, List.length_cons, List.length_nil]; omega) (by simp only [List.length_append, List.length_take, List.length_drop, List.length_cons, List.length_nil]; omega) fun p3 H3 t3 h3 => ?_
      refine q p3 H3 ((t1.trans t2).trans t3) ?_
      rw [h3]
      unfold spoilF
      rw [if_pos (V.int.inj (dec_t y0))]
    have z0 : step ≠ 0 := fun e => ndec_t' y0 (by rw [e])
    walk_at "st"
    refine iteB (fun y1 => ?_) (fun y1 => ?_)
    · walk_at "st"
      intro p1 n1
      generalize hH1 : upd H p1 _ = H1
      have t1 : Same H H1 := hH1 ▸ same_upd n1
      have h1 := (congrFun hH1 p1).symm.trans upd_same
      rw [k1] at h1
      have hR1 := t1.seq hR
      walk_at "st"
      intro p2 n2
      generalize hH2 : upd H1 p2 _ = H2
      have t2 : Same H1 H2 := hH2 ▸ same_upd n2
      have h2 := (congrFun hH2 p2).symm.trans upd_same
      have hR2 := t2.seq hR1
      change H2 p2 = some (.lst (strsV [ls.getD a []])) at h2
      have g1 : H2 p1 = some (.lst (strsV (ls.take a))) := t2 _ _ h1
      have l2 : (strsV (ls.take a)).length + (strsV [ls.getD a []]).length ≤ sizeLine := by rw [strsV_len, strsV_len]; exact len_le' (m := 200) (by simp only [List.length_append, List.length_take, List.length_drop, List.length_cons, List.length_nil]; omega) rfl
      walk_at "st"
      intro p3 n3
      generalize hH3 : upd H2 p3 _ = H3
      have t3 : Same H2 H3 := hH3 ▸ same_upd n3
      have h3 := (congrFun hH3 p3).symm.trans upd_same
      rw [strsV_app] at h3
      have hR3 := t3.seq hR2
      walk_at "st"
      intro p4 n4
      generalize hH4 : upd H3 p4 _ = H4
      have t4 : Same H3 H4 := hH4 ▸ same_upd n4
      have h4 := (congrFun hH4 p4).symm.trans upd_same
      rw [k0] at h4
      have hR4 := t4.seq hR3
      have g3 : H4 p3 = some (.lst (strsV ((ls.take a) ++ [ls.getD a []]))) := t4 _ _ h3
      refine cat_strs g3 h4 (by simp only [List.length_append, List.length_take, List.length_drop, List.length_cons, List.length_nil]; omega) (by simp only [List.length_append, List.length_take, List.length_drop, List.length_cons, List.length_nil]; omega) fun p5 H5 t5 h5 => ?_
      refine q p5 H5 ((((t1.trans t2).trans t3).trans t4).trans t5) ?_
      rw [h5]
      unfold spoilF
      rw [if_neg z0, if_pos (V.int.inj (dec_t y1))]
    have z1 : step ≠ 1 := fun e => ndec_t' y1 (by rw [e])
    walk_at "st"
    refine iteB (fun y2 => ?_) (fun y2 => ?_)
    · walk_at "st"
      intro p1 n1
      generalize hH1 : upd H p1 _ = H1
      have t1 : Same H H1 := hH1 ▸ same_upd n1
      have h1 := (congrFun hH1 p1).symm.trans upd_same
      rw [k1] at h1
      have hR1 := t1.seq hR
      walk_at "st"
      intro p2 n2
      generalize hH2 : upd H1 p2 _ = H2
      have t2 : Same H1 H2 := hH2 ▸ same_upd n2
      have h2 := (congrFun hH2 p2).symm.trans upd_same
      rw [show (a : Int) + 1 = ((a + 1 : Nat) : Int) by omega, show (a : Int) + 2 = ((a + 2 : Nat) : Int) by omega, kmid] at h2
      have hR2 := t2.seq hR1
      have g1 : H2 p1 = some (.lst (strsV (ls.take a))) := t2 _ _ h1
      have l2 : (strsV (ls.take a)).length + (strsV ((ls.drop (a + 1)).take 1)).length ≤ sizeLine := by rw [strsV_len, strsV_len]; exact len_le' (m := 200) (by simp only [List.length_append, List.length_take, List.length_drop, List.length_cons, List.length_nil]; omega) rfl
      walk_at "st"
      intro p3 n3
      generalize hH3 : upd H2 p3 _ = H3
      have t3 : Same H2 H3 := hH3 ▸ same_upd n3
      have h3 := (congrFun hH3 p3).symm.trans upd_same
      rw [strsV_app] at h3
      have hR3 := t3.seq hR2
      walk_at "st"
      intro p4 n4
      generalize hH4 : upd H3 p4 _ = H4
      have t4 : Same H3 H4 := hH4 ▸ same_upd n4
      have h4 := (congrFun hH4 p4).symm.trans upd_same
      have hR4 := t4.seq hR3
      change H4 p4 = some (.lst (strsV [ls.getD a []])) at h4
      have g3 : H4 p3 = some (.lst (strsV ((ls.take a) ++ ((ls.drop (a + 1)).take 1)))) := t4 _ _ h3
      have l4 : (strsV ((ls.take a) ++ ((ls.drop (a + 1)).take 1))).length + (strsV [ls.getD a []]).length ≤ sizeLine := by rw [strsV_len, strsV_len]; exact len_le' (m := 200) (by simp only [List.length_append, List.length_take, List.length_drop, List.length_cons, List.length_nil]; omega) rfl
      walk_at "st"
      intro p5 n5
      generalize hH5 : upd H4 p5 _ = H5
      have t5 : Same H4 H5 := hH5 ▸ same_upd n5
      have h5 := (congrFun hH5 p5).symm.trans upd_same
      rw [strsV_app] at h5
      have hR5 := t5.seq hR4
      walk_at "st"
      intro p6 n6
      generalize hH6 : upd H5 p6 _ = H6
      have t6 : Same H5 H6 := hH6 ▸ same_upd n6
      have h6 := (congrFun hH6 p6).symm.trans upd_same
      rw [show (a : Int) + 2 = ((a + 2 : Nat) : Int) by omega, k3] at h6
      have hR6 := t6.seq hR5
      have g5 : H6 p5 = some (.lst (strsV (((ls.take a) ++ ((ls.drop (a + 1)).take 1)) ++ [ls.getD a []]))) := t6 _ _ h5
      refine cat_strs g5 h6 (by simp only [List.length_append, List.length_take, List.length_drop, List.length_cons, List.length_nil]; omega) (by simp only [List.length_append, List.length_take, List.length_drop, List.length_cons, List.length_nil]; omega) fun p7 H7 t7 h7 => ?_
      refine q p7 H7 ((((((t1.trans t2).trans t3).trans t4).trans t5).trans t6).trans t7) ?_
      rw [h7]
      unfold spoilF
      rw [if_neg z0, if_neg z1, if_pos (V.int.inj (dec_t y2))]
    have z2 : step ≠ 2 := fun e => ndec_t' y2 (by rw [e])
    walk_at "st"
    refine iteB (fun y3 => ?_) (fun y3 => ?_)
    · walk_at "st"
      intro p1 n1
      generalize hH1 : upd H p1 _ = H1
      have t1 : Same H H1 := hH1 ▸ same_upd n1
      have h1 := (congrFun hH1 p1).symm.trans upd_same
      rw [k1] at h1
      have hR1 := t1.seq hR
      walk_at "st"
      refine ⟨(TL.numL (a + 2)), "settle", rfl, .inl ⟨a + 2, congrArg V.int (by omega), by omega, rfl⟩, ?_, by decide, ?_⟩
      · exact Nat.le_trans (numL_3 (n := a + 2) (by omega)) (by decide)
      walk_at "st"
      intro p2 n2
      generalize hH2 : upd H1 p2 _ = H2
      have t2 : Same H1 H2 := hH2 ▸ same_upd n2
      have h2 := (congrFun hH2 p2).symm.trans upd_same
      have hR2 := t2.seq hR1
      change H2 p2 = some (.lst (strsV [rawL (TL.numL (a + 2)) (TL.tl ("settle" : Str))])) at h2
      have g1 : H2 p1 = some (.lst (strsV (ls.take a))) := t2 _ _ h1
      have l2 : (strsV (ls.take a)).length + (strsV [rawL (TL.numL (a + 2)) (TL.tl ("settle" : Str))]).length ≤ sizeLine := by rw [strsV_len, strsV_len]; exact len_le' (m := 200) (by simp only [List.length_append, List.length_take, List.length_drop, List.length_cons, List.length_nil]; omega) rfl
      walk_at "st"
      intro p3 n3
      generalize hH3 : upd H2 p3 _ = H3
      have t3 : Same H2 H3 := hH3 ▸ same_upd n3
      have h3 := (congrFun hH3 p3).symm.trans upd_same
      rw [strsV_app] at h3
      have hR3 := t3.seq hR2
      walk_at "st"
      intro p4 n4
      generalize hH4 : upd H3 p4 _ = H4
      have t4 : Same H3 H4 := hH4 ▸ same_upd n4
      have h4 := (congrFun hH4 p4).symm.trans upd_same
      rw [show (a : Int) + 1 = ((a + 1 : Nat) : Int) by omega, k2] at h4
      have hR4 := t4.seq hR3
      have g3 : H4 p3 = some (.lst (strsV ((ls.take a) ++ [rawL (TL.numL (a + 2)) (TL.tl ("settle" : Str))]))) := t4 _ _ h3
      refine cat_strs g3 h4 (by simp only [List.length_append, List.length_take, List.length_drop, List.length_cons, List.length_nil]; omega) (by simp only [List.length_append, List.length_take, List.length_drop, List.length_cons, List.length_nil]; omega) fun p5 H5 t5 h5 => ?_
      refine q p5 H5 ((((t1.trans t2).trans t3).trans t4).trans t5) ?_
      rw [h5]
      unfold spoilF
      rw [if_neg z0, if_neg z1, if_neg z2, if_pos (V.int.inj (dec_t y3))]
    have z3 : step ≠ 3 := fun e => ndec_t' y3 (by rw [e])
    walk_at "st"
    refine iteB (fun y4 => ?_) (fun y4 => ?_)
    · walk_at "st"
      intro p1 n1
      generalize hH1 : upd H p1 _ = H1
      have t1 : Same H H1 := hH1 ▸ same_upd n1
      have h1 := (congrFun hH1 p1).symm.trans upd_same
      rw [k1] at h1
      have hR1 := t1.seq hR
      walk_at "st"
      refine ⟨(TL.numL (a + 1)), "", rfl, .inl ⟨a + 1, congrArg V.int (by omega), by omega, rfl⟩, ?_, by decide, ?_⟩
      · exact Nat.le_trans (numL_3 (n := a + 1) (by omega)) (by decide)
      walk_at "st"
      intro p2 n2
      generalize hH2 : upd H1 p2 _ = H2
      have t2 : Same H1 H2 := hH2 ▸ same_upd n2
      have h2 := (congrFun hH2 p2).symm.trans upd_same
      have hR2 := t2.seq hR1
      change H2 p2 = some (.lst (strsV [rawL (TL.numL (a + 1)) (TL.tl ("" : Str))])) at h2
      have g1 : H2 p1 = some (.lst (strsV (ls.take a))) := t2 _ _ h1
      have l2 : (strsV (ls.take a)).length + (strsV [rawL (TL.numL (a + 1)) (TL.tl ("" : Str))]).length ≤ sizeLine := by rw [strsV_len, strsV_len]; exact len_le' (m := 200) (by simp only [List.length_append, List.length_take, List.length_drop, List.length_cons, List.length_nil]; omega) rfl
      walk_at "st"
      intro p3 n3
      generalize hH3 : upd H2 p3 _ = H3
      have t3 : Same H2 H3 := hH3 ▸ same_upd n3
      have h3 := (congrFun hH3 p3).symm.trans upd_same
      rw [strsV_app] at h3
      have hR3 := t3.seq hR2
      walk_at "st"
      intro p4 n4
      generalize hH4 : upd H3 p4 _ = H4
      have t4 : Same H3 H4 := hH4 ▸ same_upd n4
      have h4 := (congrFun hH4 p4).symm.trans upd_same
      rw [show (a : Int) + 1 = ((a + 1 : Nat) : Int) by omega, k2] at h4
      have hR4 := t4.seq hR3
      have g3 : H4 p3 = some (.lst (strsV ((ls.take a) ++ [rawL (TL.numL (a + 1)) (TL.tl ("" : Str))]))) := t4 _ _ h3
      refine cat_strs g3 h4 (by simp only [List.length_append, List.length_take, List.length_drop, List.length_cons, List.length_nil]; omega) (by simp only [List.length_append, List.length_take, List.length_drop, List.length_cons, List.length_nil]; omega) fun p5 H5 t5 h5 => ?_
      refine q p5 H5 ((((t1.trans t2).trans t3).trans t4).trans t5) ?_
      rw [h5]
      unfold spoilF
      rw [if_neg z0, if_neg z1, if_neg z2, if_neg z3, if_pos (V.int.inj (dec_t y4))]
    have z4 : step ≠ 4 := fun e => ndec_t' y4 (by rw [e])
    walk_at "st"
    refine iteB (fun y5 => ?_) (fun y5 => ?_)
    · walk_at "st"
      intro p1 n1
      generalize hH1 : upd H p1 _ = H1
      have t1 : Same H H1 := hH1 ▸ same_upd n1
      have h1 := (congrFun hH1 p1).symm.trans upd_same
      rw [k1] at h1
      have hR1 := t1.seq hR
      walk_at "st"
      refine ⟨(TL.numL (a + 1)), "a\tb", rfl, .inl ⟨a + 1, congrArg V.int (by omega), by omega, rfl⟩, ?_, by decide, ?_⟩
      · exact Nat.le_trans (numL_3 (n := a + 1) (by omega)) (by decide)
      walk_at "st"
      intro p2 n2
      generalize hH2 : upd H1 p2 _ = H2
      have t2 : Same H1 H2 := hH2 ▸ same_upd n2
      have h2 := (congrFun hH2 p2).symm.trans upd_same
      have hR2 := t2.seq hR1
      change H2 p2 = some (.lst (strsV [rawL (TL.numL (a + 1)) (TL.tl ("a\tb" : Str))])) at h2
      have g1 : H2 p1 = some (.lst (strsV (ls.take a))) := t2 _ _ h1
      have l2 : (strsV (ls.take a)).length + (strsV [rawL (TL.numL (a + 1)) (TL.tl ("a\tb" : Str))]).length ≤ sizeLine := by rw [strsV_len, strsV_len]; exact len_le' (m := 200) (by simp only [List.length_append, List.length_take, List.length_drop, List.length_cons, List.length_nil]; omega) rfl
      walk_at "st"
      intro p3 n3
      generalize hH3 : upd H2 p3 _ = H3
      have t3 : Same H2 H3 := hH3 ▸ same_upd n3
      have h3 := (congrFun hH3 p3).symm.trans upd_same
      rw [strsV_app] at h3
      have hR3 := t3.seq hR2
      walk_at "st"
      intro p4 n4
      generalize hH4 : upd H3 p4 _ = H4
      have t4 : Same H3 H4 := hH4 ▸ same_upd n4
      have h4 := (congrFun hH4 p4).symm.trans upd_same
      rw [show (a : Int) + 1 = ((a + 1 : Nat) : Int) by omega, k2] at h4
      have hR4 := t4.seq hR3
      have g3 : H4 p3 = some (.lst (strsV ((ls.take a) ++ [rawL (TL.numL (a + 1)) (TL.tl ("a\tb" : Str))]))) := t4 _ _ h3
      refine cat_strs g3 h4 (by simp only [List.length_append, List.length_take, List.length_drop, List.length_cons, List.length_nil]; omega) (by simp only [List.length_append, List.length_take, List.length_drop, List.length_cons, List.length_nil]; omega) fun p5 H5 t5 h5 => ?_
      refine q p5 H5 ((((t1.trans t2).trans t3).trans t4).trans t5) ?_
      rw [h5]
      unfold spoilF
      rw [if_neg z0, if_neg z1, if_neg z2, if_neg z3, if_neg z4, if_pos (V.int.inj (dec_t y5))]
    have z5 : step ≠ 5 := fun e => ndec_t' y5 (by rw [e])
    walk_at "st"
    intro p1 n1
    generalize hH1 : upd H p1 _ = H1
    have t1 : Same H H1 := hH1 ▸ same_upd n1
    have h1 := (congrFun hH1 p1).symm.trans upd_same
    rw [k1] at h1
    have hR1 := t1.seq hR
    walk_at "st"
    rw [show (a : Int) + 1 = ((a + 1 : Nat) : Int) by omega]
    have e0 : TL.tl (("0" : Str) ++ Str.ofString (toString ((a + 1 : Nat) : Int))) = 48 :: TL.numL (a + 1) := by
      rw [TL.tl_append, TL.tl_num]
      rfl
    have l0 : (Str.ofString (toString ((a + 1 : Nat) : Int))).length ≤ 3 := by rw [TL.len_tl, TL.tl_num]; exact numL_3 (by omega)
    refine ⟨natAbs_log (k := 10) (by omega) (by decide) (by decide), ?_⟩
    walk_at "st"
    refine ⟨len_le' (m := 4) (by show 1 + _ ≤ 4; omega) rfl, ?_⟩
    walk_at "st"
    refine ⟨(48 :: TL.numL (a + 1)), "settle", rfl, .inr (congrArg V.str (TL.ext_tl (by rw [e0, tl_strL]))), ?_, by decide, ?_⟩
    · exact (by rw [List.length_cons]; have := numL_3 (n := a + 1) (by omega); omega)
    walk_at "st"
    intro p2 n2
    generalize hH2 : upd H1 p2 _ = H2
    have t2 : Same H1 H2 := hH2 ▸ same_upd n2
    have h2 := (congrFun hH2 p2).symm.trans upd_same
    have hR2 := t2.seq hR1
    change H2 p2 = some (.lst (strsV [rawL (48 :: TL.numL (a + 1)) (TL.tl ("settle" : Str))])) at h2
    have g1 : H2 p1 = some (.lst (strsV (ls.take a))) := t2 _ _ h1
    have l2 : (strsV (ls.take a)).length + (strsV [rawL (48 :: TL.numL (a + 1)) (TL.tl ("settle" : Str))]).length ≤ sizeLine := by rw [strsV_len, strsV_len]; exact len_le' (m := 200) (by simp only [List.length_append, List.length_take, List.length_drop, List.length_cons, List.length_nil]; omega) rfl
    walk_at "st"
    intro p3 n3
    generalize hH3 : upd H2 p3 _ = H3
    have t3 : Same H2 H3 := hH3 ▸ same_upd n3
    have h3 := (congrFun hH3 p3).symm.trans upd_same
    rw [strsV_app] at h3
    have hR3 := t3.seq hR2
    walk_at "st"
    intro p4 n4
    generalize hH4 : upd H3 p4 _ = H4
    have t4 : Same H3 H4 := hH4 ▸ same_upd n4
    have h4 := (congrFun hH4 p4).symm.trans upd_same
    rw [show (a : Int) + 1 = ((a + 1 : Nat) : Int) by omega, k2] at h4
    have hR4 := t4.seq hR3
    have g3 : H4 p3 = some (.lst (strsV ((ls.take a) ++ [rawL (48 :: TL.numL (a + 1)) (TL.tl ("settle" : Str))]))) := t4 _ _ h3
    refine cat_strs g3 h4 (by simp only [List.length_append, List.length_take, List.length_drop, List.length_cons, List.length_nil]; omega) (by simp only [List.length_append, List.length_take, List.length_drop, List.length_cons, List.length_nil]; omega) fun p5 H5 t5 h5 => ?_
    refine q p5 H5 ((((t1.trans t2).trans t3).trans t4).trans t5) ?_
    rw [h5]
    unfold spoilF
    rw [if_neg z0, if_neg z1, if_neg z2, if_neg z3, if_neg z4, if_neg z5]
def sp_law (K : PySem.W.Frag) : Sp := fun vs H Q _ => ∃ (a : Addr) (ns : List Int), vs = [.ref a] ∧ SqL K H a (ns.map V.int) ∧ ns.length ≤ 63 ∧ ∀ H', Q (.bl true) H'
set_option maxHeartbeats 0 in
theorem ok_law {f : Addr} {fd : FuncData} (T : Txt K mg) (F : Fun K "law" "law" s_law f fd) : FnOk P w K mg base CX0 5 f fd ["script"] (sp_law K) := by
  refine F.ok sc_law (fun vs H Q E h => ?_) (fun cdv A outer s H vs Q E hr h => ?_)
  · obtain ⟨a, ns, rfl, _⟩ := h
    rfl
  · obtain ⟨a, ns, rfl, hs, hlen, q⟩ := h
    have G_read_tape : FnOk P w K mg base CX0 4 T.f_read_tape T.d_read_tape ["tape"] (sp_read_tape K) := ok_read_tape T
    have G_law_lines : FnOk P w K mg base CX0 3 T.f_law_lines T.d_law_lines ["script"] (sp_law_lines K) := ok_law_lines T
    have G_law_text : FnOk P w K mg base CX0 2 T.f_law_text T.d_law_text ["cell"] (sp_law_text K) := ok_law_text T
    have G_law_spoil : FnOk P w K mg base CX0 3 T.f_law_spoil T.d_law_spoil ["lines", "at", "step"] (sp_law_spoil K) := ok_law_spoil T
    refine ⟨_, (pss_cons (ps_set (i := 1) sc_law.nd rfl (Or.inr rfl) (pe_slice sl_list (pe_call G_law_lines (hr.mono (by decide)) (by rfl) T.m_law_lines T.F_law_lines.kp T.b_law_lines .nil pass0 (pa_cons (pv 0) pa_nil)) po_none (po_some pe_int)))
    (pss_cons (ps_if (pt_not (pt_truth (pv 1) (by intro _; rfl)))
      (pss_one (ps_ret (pe_cmpR (op_eqD hr.units) (pe_call G_read_tape hr (by rfl) T.m_read_tape T.F_read_tape.kp T.b_read_tape .nil pass0 (pa_cons pe_str pa_nil)) (pe_tup (pa_cons (pe_lst pa_nil) (pa_cons pe_int pa_nil))) (nomark _))))
      pss_nil)
    (pss_cons (ps_set (i := 2) sc_law.nd rfl (Or.inl rfl) (pe_op op_mod (pe_callTy call_int_i (by rfl) T.z_int (by decide +kernel) (pa_cons (pe_ix ix_list (pv 0) pe_int (fun _ _ => rfl)) pa_nil)) (pe_callB call_len_seq (by rfl) T.z_len PySem.boot_len (pa_cons (pv 1) pa_nil))))
    (pss_cons (ps_set (i := 3) sc_law.nd rfl (Or.inl rfl) (pe_op op_mod (pe_op op_fdiv (pe_callTy call_int_i (by rfl) T.z_int (by decide +kernel) (pa_cons (pe_ix ix_list (pv 0) pe_int (fun _ _ => rfl)) pa_nil)) pe_int) pe_int))
    (pss_cons (ps_set (i := 4) sc_law.nd rfl (Or.inl rfl) (pv 2))
    (C8.pss_cut (ps_if (pt_cmpR op_eq (pv 3) pe_int (nomark _))
      (pss_one (ps_set (i := 4) sc_law.nd rfl (Or.inl rfl) (pe_op op_add (pv 2) pe_int)))
      pss_nil)
    (pss_cons (ps_setLc (i := 5) (own := [("k", 6)]) (g := gName 6) (tt := tYes) rfl sc_law.nd rfl rfl (sw_true rfl rfl rfl (by decide +kernel)) (pi_range1 (by rfl) T.z_range (pa_cons (pv 4) pa_nil)) (blkOk_by (own := [("k", 6)]) (N := N_law) (sc := defScope s_law) (by decide +kernel)) (fun _ _ _ _ _ => (pg_name (i := 6) sc_law.nd rfl (Or.inl rfl))) (fun _ _ _ _ _ => pts_nil) (fun _ _ _ _ _ => (pe_call G_law_text (hr.mono (by decide)) (by rfl) T.m_law_text T.F_law_text.kp T.b_law_text .nil pass0 (pa_cons (pe_ix (show IxR _ (rIxL K) from ix_list) (pv 0) (pe_op op_add (pv 6) pe_int) (fun _ _ => rfl)) pa_nil))))
    (C8.pss_cut (ps_if (PW.pt (pw_and (pt_cmpR op_eq (pv 3) pe_int (nomark _)) (pw_and1 (pt_cmpR op_eq (pe_op op_add (pv 2) pe_int) (pe_callB call_len_seq (by rfl) T.z_len PySem.boot_len (pa_cons (pv 1) pa_nil)) (nomark _)))))
      (pss_one (ps_setLc (i := 5) (own := [("k", 6)]) (g := gName 6) (tt := tYes) rfl sc_law.nd rfl rfl (sw_true rfl rfl rfl (by decide +kernel)) (pi_range1 (by rfl) T.z_range (pa_cons (pe_callB call_len_seq (by rfl) T.z_len PySem.boot_len (pa_cons (pv 1) pa_nil)) pa_nil)) (blkOk_by (own := [("k", 6)]) (N := N_law) (sc := defScope s_law) (by decide +kernel)) (fun _ _ _ _ _ => (pg_name (i := 6) sc_law.nd rfl (Or.inl rfl))) (fun _ _ _ _ _ => pts_nil) (fun _ _ _ _ _ => (pe_call G_law_text (hr.mono (by decide)) (by rfl) T.m_law_text T.F_law_text.kp T.b_law_text .nil pass0 (pa_cons (pe_ix (show IxR _ (rIxL K) from ix_list) (pv 0) (pe_op op_add (pv 6) pe_int) (fun _ _ => rfl)) pa_nil)))))
      pss_nil)
    (C8.pss_cut (ps_if (PW.pt (pw_and (pt_cmpR op_eq (pv 3) pe_int (nomark _)) (pw_and1 (pt_cmpR op_eq (pe_op op_add (pv 2) pe_int) (pe_callB call_len_seq (by rfl) T.z_len PySem.boot_len (pa_cons (pv 1) pa_nil)) (nomark _)))))
      (pss_one (ps_set (i := 5) sc_law.nd rfl (Or.inl rfl) (pe_slice sl_list (pv 5) po_none (po_some (pv 2)))))
      pss_nil)
    (pss_cons (ps_set (i := 7) sc_law.nd rfl (Or.inl rfl) (pe_call G_read_tape hr (by rfl) T.m_read_tape T.F_read_tape.kp T.b_read_tape .nil pass0 (pa_cons (pe_join pe_str (pe_call G_law_spoil (hr.mono (by decide)) (by rfl) T.m_law_spoil T.F_law_spoil.kp T.b_law_spoil .nil pass0 (pa_cons (pv 1) (pa_cons (pv 2) (pa_cons (pv 3) pa_nil))))) pa_nil)))
    (pss_cons (ps_set (i := 8) sc_law.nd rfl (Or.inl rfl) (pe_callB (cr_sum rfl) (by rfl) T.z_sum (by decide +kernel) (pa_cons (pe_lc (own := [("k", 6)]) (g := gName 6) (tt := tYes) rfl sc_law.nd (pi_range1 (by rfl) T.z_range (pa_cons (pe_callB call_len_seq (by rfl) T.z_len PySem.boot_len (pa_cons (pv 5) pa_nil)) pa_nil)) (blkOk_by (own := [("k", 6)]) (N := N_law) (sc := defScope s_law) (by decide +kernel)) (fun _ _ _ _ _ => (pg_name (i := 6) sc_law.nd rfl (Or.inl rfl))) (fun _ _ _ _ _ => pts_nil) (fun _ _ _ _ _ => (pe_callB call_len_str (by rfl) T.z_len PySem.boot_len (pa_cons (pe_ix (show IxR _ (rIxL K) from ix_list) (pv 1) (pv 6) (fun _ _ => rfl)) pa_nil)))) pa_nil)))
    (pss_one (ps_ret (pe_cmpR (op_eqD hr.units) (pv 7) (pe_tup (pa_cons (pv 5) (pa_cons (pv 8) pa_nil))) (nomark _))))))))))))))), ?_⟩
    walk_at "st"
    intro R0 H0 s0 nR0 hR0
    have hs0 := s0.seq hs
    have hR0s : SqL K H0 R0 (strsV (rowsT ns)) := SqL.of hR0
    walk_at "st"
    intro R nR
    generalize hH1 : upd H0 R _ = H1
    have s01 : Same H0 H1 := hH1 ▸ same_upd nR
    have hR := (congrFun hH1 R).symm.trans upd_same
    rw [show (10 : Int) = ((10 : Nat) : Int) from rfl, (cutV_strs (rowsT ns) 10).1] at hR
    have hs1 := s01.seq hs0
    -- the texts and the lines
    have hrows : (rowsT ns).take 10 = rowsP preL 1 ((textsT ns).take 10) := (rowsP_take _ _ _ _).symm
    have hgood : ∀ t, t ∈ (textsT ns).take 10 → goodT t = true := fun t ht => textsT_good ns t (List.mem_of_mem_take ht)
    have hsmall : ∀ l, l ∈ (rowsT ns).take 10 → l.length ≤ 42 := fun l hl => rowsT_small ns l (List.mem_of_mem_take hl)
    have htl : ((textsT ns).take 10).length = ((rowsT ns).take 10).length := by rw [List.length_take, List.length_take, rowsT_len]
    have hl10 : ((rowsT ns).take 10).length ≤ 10 := List.length_take_le _ _
    have htx : ∀ i x, (cellsT ns)[i]? = some x → i < ((rowsT ns).take 10).length → ((textsT ns).take 10)[i]? = some (textF x) := fun i x hx hi => by
      rw [List.getElem?_take_of_lt (by omega)]
      unfold textsT
      rw [List.getElem?_map, hx]
      rfl
    have hcell : ∀ i, i < ((rowsT ns).take 10).length → ∃ x, (cellsT ns)[i]? = some x := fun i hi => by
      rw [← htl, List.length_take] at hi
      unfold textsT at hi
      rw [List.length_map] at hi
      exact ⟨_, List.getElem?_eq_getElem (by omega)⟩
    generalize hts : (textsT ns).take 10 = ts at hrows hgood htl htx
    generalize hls : (rowsT ns).take 10 = ls at *
    have hR2 : SqL K H1 R (strsV ls) := SqL.of hR
    walk_at "st"
    cases hr : ls with
    | nil =>
      walk_at "st"
      refine ⟨[], 0, rfl, by decide, by decide, .stop (textAt_no (by decide)), fun p d H3 s3 hp hd => ?_⟩
      walk_at "st"
      intro l nl
      walk_at "st"
      intro u nu
      have s4 : Same H3 (upd H3 l (.lst [])) := same_upd nl
      have s5 : Same (upd H3 l (.lst [])) (upd (upd H3 l (.lst [])) u (.tup [.ref l, .int 0])) := same_upd nu
      refine eqT (K := K) (ts := []) (fun t ht => by cases ht) (SqT.of (s5 _ _ (s4 _ _ hp))) (SqL.of (s5 _ _ (s4 _ _ hd))) (SqT.of upd_same) (SqL.of (s5 _ _ upd_same)) ?_
      exact q _
    | cons r0 rs =>
      have hne : 1 ≤ ls.length := by rw [hr, List.length_cons]; omega
      rw [← hr]
      have hkc : (!(strsV ls).isEmpty) = true := by rw [hr]; rfl
      rw [hkc]
      have hn3 : 3 ≤ ns.length := by
        obtain ⟨x, hx⟩ := hcell 0 (by omega)
        have := (List.getElem?_eq_some_iff.mp (cellsT_at hx)).1
        omega
      have at0 := atI_ints (ns := ns) (j := 0) (by omega)
      have hrl0 : (0 : Int) < (((strsV ls).length : Nat) : Int) := by rw [strsV_len]; omega
      have hz0 := Int.emod_nonneg (cellOf ns 0) (show (((strsV ls).length : Nat) : Int) ≠ 0 by omega)
      have hz1 := Int.emod_lt_of_pos (cellOf ns 0) hrl0
      obtain ⟨n, hn⟩ := Int.eq_ofNat_of_zero_le hz0
      rw [hn, strsV_len] at hz1
      have hnl : n < ls.length := by omega
      walk_at "st"
      change gName 4 (V.int (cellOf ns 0 % (((strsV ls).length : Nat) : Int))) [some (V.ref a), some (V.ref R), some (V.int (cellOf ns 0 % (((strsV ls).length : Nat) : Int))), some (V.int (cellOf ns 0 / 12 % 7)), none, none, none, none, none] H1 _
      rw [hn]
      generalize cellOf ns 0 / 12 % 7 = step
      obtain ⟨g1, hg1⟩ : ∃ g1 : Nat, g1 = if step = 1 then n + 1 else n := ⟨_, rfl⟩
      have hg1l : g1 ≤ ls.length := by split at hg1 <;> omega
      refine ⟨fun σ' H' => H' = H1 ∧ σ' = [some (.ref a), some (.ref R), some (.int (n : Int)), some (.int step), some (.int (g1 : Int)), none, none, none, none], ?_, ?_⟩
      · walk_at "st"
        refine iteB (fun h => ?_) (fun h => ?_)
        · walk_at "st"
          rw [hg1, if_pos (V.int.inj (dec_t h))]
          rfl
        · refine ⟨rfl, ?_⟩
          rw [hg1, if_neg (fun e => dec_f h (by rw [e]))]
          rfl
      · rintro σ' H' ⟨rfl, rfl⟩
        walk_at "st"
        intro D nD
        have sD : ∀ o, Same H' (upd H' D o) := fun o => same_upd nD
        refine lc_range (lo := 0) (n := (((g1 : Nat)) : Int).toNat) (fun i H2 => Same H' H2 ∧ H2 D = some (.lst (strsV (ts.take i)))) ⟨sD _, upd_same⟩ ?_ ?_
        · rintro i H3 hi ⟨e3, hD⟩
          rw [Int.toNat_natCast] at hi
          have hil : i < ls.length := by have := hg1l; omega
          obtain ⟨x, hx⟩ := hcell i hil
          have hat2 : atI (ns.map V.int) ((0 + (i : Int)) + 2) = some (.int x) := by
            refine at_of (j := i + 2) (by omega) ?_
            rw [List.getElem?_map, cellsT_at hx]
            rfl
          have hs4 := e3.seq hs1
          refine ⟨rfl, ?_⟩
          walk_at "st"
          intro H4 s4
          have hlt : (strsV (ts.take i)).length < sizeLine := small1000 (by rw [strsV_len, List.length_take]; omega)
          refine ⟨_, s4 _ _ hD, hlt, fun b o z => ?_, ?_⟩
          · rw [upd_ne (ne_of_none z nD)]
            exact (e3.trans s4) b o z
          · rw [upd_same, take_succ (htx i x hx hil)]
            unfold strsV
            rw [List.map_append]
            rfl
        · rintro H3 ⟨e3, hD⟩
          rw [Int.toNat_natCast] at hD
          have hs3 := e3.seq hs1
          have hR3 := e3.seq hR2
          obtain ⟨g2, hg2⟩ : ∃ g2 : Nat, g2 = goodN ls.length n step := ⟨_, rfl⟩
          have hg2l : g2 ≤ ls.length := by
            unfold goodN at hg2
            split at hg2
            · omega
            · split at hg2 <;> omega
          refine ⟨fun σ' H2 => Same H' H2 ∧ ∃ _ : Unit, ∃ D2 : Addr, σ' = [some (.ref a), some (.ref R), some (.int (n : Int)), some (.int step), some (.int (g1 : Int)), some (.ref D2), none, none, none] ∧ H2 D2 = some (.lst (strsV (ts.take g2))), ?_, ?_⟩
          · walk_at "st"
            refine iteB (fun y1 => ?_) (fun y1 => ?_)
            · have e1 : step = 2 := V.int.inj (dec_t y1)
              walk_at "st"
              refine iteB (fun y2 => ?_) (fun y2 => ?_)
              · have e2 : n + 1 = ls.length := by
                  have := V.int.inj (dec_t y2)
                  rw [strsV_len] at this
                  omega
                have hlv := strsV_len ls
                walk_at "st"
                intro D2 nD2
                have sD2 : ∀ o, Same H3 (upd H3 D2 o) := fun o => same_upd nD2
                refine lc_range (lo := 0) (n := ((((strsV ls).length : Nat)) : Int).toNat) (fun i H2 => Same H3 H2 ∧ H2 D2 = some (.lst (strsV (ts.take i)))) ⟨sD2 _, upd_same⟩ ?_ ?_
                · rintro i H4 hi ⟨e4, hD4⟩
                  rw [Int.toNat_natCast] at hi
                  have hil : i < ls.length := by have := strsV_len ls; omega
                  obtain ⟨x, hx⟩ := hcell i hil
                  have hat2 : atI (ns.map V.int) ((0 + (i : Int)) + 2) = some (.int x) := by
                    refine at_of (j := i + 2) (by omega) ?_
                    rw [List.getElem?_map, cellsT_at hx]
                    rfl
                  have hs4 := e4.seq hs3
                  refine ⟨rfl, ?_⟩
                  walk_at "st"
                  intro H5 s5
                  have hlt : (strsV (ts.take i)).length < sizeLine := small1000 (by rw [strsV_len, List.length_take]; omega)
                  refine ⟨_, s5 _ _ hD4, hlt, fun b o z => ?_, ?_⟩
                  · rw [upd_ne (ne_of_none z nD2)]
                    exact (e4.trans s5) b o z
                  · rw [upd_same, take_succ (htx i x hx hil)]
                    unfold strsV
                    rw [List.map_append]
                    rfl
                · rintro H4 ⟨e4, hD4⟩
                  rw [Int.toNat_natCast] at hD4
                  refine ⟨e3.trans e4, (), D2, rfl, ?_⟩
                  rw [hD4, strsV_len, hg2]
                  unfold goodN
                  rw [if_neg (by omega), if_pos ⟨e1, e2⟩]
              · have e2 : ¬ n + 1 = ls.length := fun z => dec_f y2 (by rw [strsV_len, ← z]; rfl)
                refine ⟨e3, (), D, rfl, ?_⟩
                rw [hD, hg2, hg1]
                unfold goodN
                rw [if_neg (by omega), if_neg (by omega), if_neg (fun z => e2 z.2)]
            · have e1 : ¬ step = 2 := fun z => dec_f y1 (by rw [z])
              refine ⟨e3, (), D, rfl, ?_⟩
              rw [hD, hg2, hg1]
              unfold goodN
              rw [if_neg (c := step = 2 ∧ n + 1 = ls.length) (fun z => e1 z.1)]
          · rintro σ' H2 ⟨e4, _, D2, rfl, hD2⟩
            have hR4 := e4.seq hR2
            have hD2s : SqL K H2 D2 (strsV (ts.take g2)) := SqL.of hD2
            refine ⟨fun σ' H3 => Same H' H3 ∧ ∃ _ : Unit, ∃ D2 : Addr, σ' = [some (.ref a), some (.ref R), some (.int (n : Int)), some (.int step), some (.int (g1 : Int)), some (.ref D2), none, none, none] ∧ H3 D2 = some (.lst (strsV (ts.take g2))), ?_, ?_⟩
            · walk_at "st"
              refine iteB (fun y1 => ?_) (fun y1 => ?_)
              · have e1 : step = 0 := V.int.inj (dec_t y1)
                walk_at "st"
                refine iteB (fun y2 => ?_) (fun y2 => ?_)
                · walk_at "st"
                  intro D5 nD5
                  refine ⟨e4.trans (same_upd nD5), (), D5, rfl, ?_⟩
                  have e5 : g2 = n := by
                    rw [hg2]
                    unfold goodN
                    rw [if_neg (by omega), if_neg (fun z => by omega)]
                  rw [upd_same, (cutV_strs _ n).1, e5, List.take_take, Nat.min_self]
                · exact ⟨e4, (), D2, rfl, hD2⟩
              · exact ⟨e4, (), D2, rfl, hD2⟩
            · rintro σ' H3 ⟨e5, _, D3, rfl, hD3⟩
              have hR5 := e5.seq hR2
              have hf := spoilF_len hnl (by omega) hsmall step
              have hfl : (spoilF ls n step).flatten.length ≤ 588 := by
                have h1 := flat_le _ hf.2
                have h2 : (spoilF ls n step).length * 42 ≤ 14 * 42 := Nat.mul_le_mul_right _ hf.1
                omega
              have hRd := spoil_reads (ts := ts) hgood (a := n) (by rw [htl]; exact hnl) step
              rw [← hrows, htl, ← hg2] at hRd
              refine ⟨⟨_, rfl⟩, ?_⟩
              walk_at "st"
              refine ⟨ls, n, step, rfl, hR5, hnl, by omega, fun p H6 s6 hp => ?_⟩
              refine ⟨_, p, (spoilF ls n step).map strL, rfl, rfl, .inl (SqL.of (by rw [hp, strs_map]; rfl)), ?_, ?_⟩
              · rw [sum_flat]
                show _ + _ * 0 ≤ _
                omega
              rw [joined]
              walk_at "st"
              refine ⟨ts.take g2, (ls.take g2).flatten.length, rfl, by rw [strL_len]; omega, by rw [List.length_take]; omega, by rw [tl_strL]; exact hRd, fun p7 d7 H7 s7 hp7 hd7 => ?_⟩
              have hR7 := s7.seq (s6.seq hR5)
              have hD7 := s7 _ _ (s6 _ _ hD3)
              have hD7s : SqL K H7 D3 (strsV (ts.take g2)) := SqL.of hD7
              have hlv : (strsV (ts.take g2)).length = g2 := by rw [strsV_len, List.length_take]; omega
              walk_at "st"
              rw [hlv]
              intro D8 nD8
              have sD8 : ∀ o, Same H7 (upd H7 D8 o) := fun o => same_upd nD8
              refine lc_range (lo := 0) (n := ((g2 : Nat) : Int).toNat) (fun i H8 => H8 = upd H7 D8 (.lst (((ls.take i).map fun l => (l.length : Int)).map V.int))) (by rw [List.take_zero]; rfl) ?_ ?_
              · rintro i H8 hi rfl
                rw [Int.toNat_natCast] at hi
                have hil : i < ls.length := by omega
                have hR8 := (sD8 (.lst (((ls.take i).map fun l => (l.length : Int)).map V.int))).seq hR7
                have hat8 : atI (strsV ls) (0 + (i : Int)) = some (.str (strL (ls.getD i []))) := by
                  rw [show (0 : Int) + (i : Int) = (i : Int) by omega]
                  exact strsV_at hil
                have hls8 : (strL (ls.getD i [])).length ≤ sizeLine := by rw [strL_len]; exact len_le' (hsmall _ (getD_mem hil)) rfl
                have hlt : (((ls.take i).map fun l => (l.length : Int)).map V.int).length < sizeLine := small1000 (by rw [List.length_map, List.length_map, List.length_take]; omega)
                refine ⟨rfl, ?_⟩
                walk_at "st"
                rw [upd_upd, strL_len, take_succ (List.getElem?_eq_getElem hil), List.map_append, List.map_append, List.getD_eq_getElem?_getD, List.getElem?_eq_getElem hil]
                rfl
              · rintro H8 rfl
                rw [Int.toNat_natCast]
                refine ⟨D8, (ls.take g2).map (fun l => (l.length : Int)), rfl, SqL.of upd_same, ?_⟩
                have hsum : ∀ xs : List (List Nat), (xs.map fun l => (l.length : Int)).sum = ((xs.flatten.length : Nat) : Int) := by
                  intro xs
                  induction xs with
                  | nil => rfl
                  | cons x xs ih => rw [List.map_cons, List.sum_cons, ih, List.flatten_cons, List.length_append]; omega
                rw [hsum]
                walk_at "st"
                intro u nu
                have s9 : ∀ o, Same (upd H7 D8 (.lst (((ls.take g2).map fun l => (l.length : Int)).map V.int))) (upd (upd H7 D8 (.lst (((ls.take g2).map fun l => (l.length : Int)).map V.int))) u o) := fun o => same_upd nu
                refine eqT (K := K) (fun t ht => hgood t (List.mem_of_mem_take ht)) (SqT.of (s9 _ _ _ (sD8 _ _ _ hp7))) (SqL.of (s9 _ _ _ (sD8 _ _ _ hd7))) (SqT.of upd_same) (SqL.of (s9 _ _ _ (sD8 _ _ _ hD7))) ?_
                exact q _

end
set_option maxHeartbeats 0 in
theorem all_mk {l : PySem.W.OpenLaw} {w : World} {K : PySem.W.Frag} {h : Heap} {mg : Str → Option Value} {fa f1 f2 f3 f4 f5 f6 f7 f8 f9 f10 f11 : Addr} (X : K.In h) (G : h.Ns mainGlobals mg) (hfa : mg "law" = some (.ref fa))
    {c_BourseError c_BrokenTape : Addr}
    {od1 an1 od2 an2 od3 an3 od4 an4 od5 an5 od6 an6 od7 an7 od8 an8 od9 an9 od10 an10 od11 an11 : Option Addr} {sl1 sl2 sl3 sl4 sl5 sl6 sl7 sl8 sl9 sl10 sl11 : Array (Option Value)} {oc1 kV1 dc1 pm1 cd1 ct1 oc2 kV2 dc2 pm2 cd2 ct2 oc3 kV3 dc3 pm3 cd3 ct3 oc4 kV4 dc4 pm4 cd4 ct4 oc5 kV5 dc5 pm5 cd5 ct5 oc6 kV6 dc6 pm6 cd6 ct6 oc7 kV7 dc7 pm7 cd7 ct7 oc8 kV8 dc8 pm8 cd8 ct8 oc9 kV9 dc9 pm9 cd9 ct9 oc10 kV10 dc10 pm10 cd10 ct10 oc11 kV11 dc11 pm11 cd11 ct11 : Value}
    (a1 : PySem.W.nsIn K mainGlobals "check_of" = some (some (.ref f1)))
    (l1 : K.lookup f1 = some ⟨oc1, od1, .func (PySem.W.fnOf "check_of" "check_of" (defArgs s_check_of) (defBody s_check_of) (defScope s_check_of) .none kV1 dc1 pm1 an1 cd1 ct1), sl1⟩) (c1 : PySem.W.codeIn K cd1 "check_of" = true) (k1 : PySem.W.keepIn K (.ref f1) = true)
    (a2 : PySem.W.nsIn K mainGlobals "write_line" = some (some (.ref f2)))
    (l2 : K.lookup f2 = some ⟨oc2, od2, .func (PySem.W.fnOf "write_line" "write_line" (defArgs s_write_line) (defBody s_write_line) (defScope s_write_line) .none kV2 dc2 pm2 an2 cd2 ct2), sl2⟩) (c2 : PySem.W.codeIn K cd2 "write_line" = true) (k2 : PySem.W.keepIn K (.ref f2) = true)
    (a3 : PySem.W.nsIn K mainGlobals "read_tape" = some (some (.ref f3)))
    (l3 : K.lookup f3 = some ⟨oc3, od3, .func (PySem.W.fnOf "read_tape" "read_tape" (defArgs s_read_tape) (defBody s_read_tape) (defScope s_read_tape) .none kV3 dc3 pm3 an3 cd3 ct3), sl3⟩) (c3 : PySem.W.codeIn K cd3 "read_tape" = true) (k3 : PySem.W.keepIn K (.ref f3) = true)
    (a4 : PySem.W.nsIn K mainGlobals "_text_at" = some (some (.ref f4)))
    (l4 : K.lookup f4 = some ⟨oc4, od4, .func (PySem.W.fnOf "_text_at" "_text_at" (defArgs s_text_at) (defBody s_text_at) (defScope s_text_at) .none kV4 dc4 pm4 an4 cd4 ct4), sl4⟩) (c4 : PySem.W.codeIn K cd4 "_text_at" = true) (k4 : PySem.W.keepIn K (.ref f4) = true)
    (a5 : PySem.W.nsIn K mainGlobals "_is_text" = some (some (.ref f5)))
    (l5 : K.lookup f5 = some ⟨oc5, od5, .func (PySem.W.fnOf "_is_text" "_is_text" (defArgs s_is_text) (defBody s_is_text) (defScope s_is_text) .none kV5 dc5 pm5 an5 cd5 ct5), sl5⟩) (c5 : PySem.W.codeIn K cd5 "_is_text" = true) (k5 : PySem.W.keepIn K (.ref f5) = true)
    (a6 : PySem.W.nsIn K mainGlobals "_law_digit" = some (some (.ref f6)))
    (l6 : K.lookup f6 = some ⟨oc6, od6, .func (PySem.W.fnOf "_law_digit" "_law_digit" (defArgs s_law_digit) (defBody s_law_digit) (defScope s_law_digit) .none kV6 dc6 pm6 an6 cd6 ct6), sl6⟩) (c6 : PySem.W.codeIn K cd6 "_law_digit" = true) (k6 : PySem.W.keepIn K (.ref f6) = true)
    (a7 : PySem.W.nsIn K mainGlobals "_law_text" = some (some (.ref f7)))
    (l7 : K.lookup f7 = some ⟨oc7, od7, .func (PySem.W.fnOf "_law_text" "_law_text" (defArgs s_law_text) (defBody s_law_text) (defScope s_law_text) .none kV7 dc7 pm7 an7 cd7 ct7), sl7⟩) (c7 : PySem.W.codeIn K cd7 "_law_text" = true) (k7 : PySem.W.keepIn K (.ref f7) = true)
    (a8 : PySem.W.nsIn K mainGlobals "_law_lines" = some (some (.ref f8)))
    (l8 : K.lookup f8 = some ⟨oc8, od8, .func (PySem.W.fnOf "_law_lines" "_law_lines" (defArgs s_law_lines) (defBody s_law_lines) (defScope s_law_lines) .none kV8 dc8 pm8 an8 cd8 ct8), sl8⟩) (c8 : PySem.W.codeIn K cd8 "_law_lines" = true) (k8 : PySem.W.keepIn K (.ref f8) = true)
    (a9 : PySem.W.nsIn K mainGlobals "_law_raw" = some (some (.ref f9)))
    (l9 : K.lookup f9 = some ⟨oc9, od9, .func (PySem.W.fnOf "_law_raw" "_law_raw" (defArgs s_law_raw) (defBody s_law_raw) (defScope s_law_raw) .none kV9 dc9 pm9 an9 cd9 ct9), sl9⟩) (c9 : PySem.W.codeIn K cd9 "_law_raw" = true) (k9 : PySem.W.keepIn K (.ref f9) = true)
    (a10 : PySem.W.nsIn K mainGlobals "_law_spoil" = some (some (.ref f10)))
    (l10 : K.lookup f10 = some ⟨oc10, od10, .func (PySem.W.fnOf "_law_spoil" "_law_spoil" (defArgs s_law_spoil) (defBody s_law_spoil) (defScope s_law_spoil) .none kV10 dc10 pm10 an10 cd10 ct10), sl10⟩) (c10 : PySem.W.codeIn K cd10 "_law_spoil" = true) (k10 : PySem.W.keepIn K (.ref f10) = true)
    (a11 : PySem.W.nsIn K mainGlobals "law" = some (some (.ref f11)))
    (l11 : K.lookup f11 = some ⟨oc11, od11, .func (PySem.W.fnOf "law" "law" (defArgs s_law) (defBody s_law) (defScope s_law) .none kV11 dc11 pm11 an11 cd11 ct11), sl11⟩) (c11 : PySem.W.codeIn K cd11 "law" = true) (k11 : PySem.W.keepIn K (.ref f11) = true)
    (z_all : PySem.W.nsIn K mainGlobals "all" = some none)
    (z_enumerate : PySem.W.nsIn K mainGlobals "enumerate" = some none)
    (z_int : PySem.W.nsIn K mainGlobals "int" = some none)
    (z_len : PySem.W.nsIn K mainGlobals "len" = some none)
    (z_ord : PySem.W.nsIn K mainGlobals "ord" = some none)
    (z_range : PySem.W.nsIn K mainGlobals "range" = some none)
    (z_str : PySem.W.nsIn K mainGlobals "str" = some none)
    (z_sum : PySem.W.nsIn K mainGlobals "sum" = some none)
    {t_FIRST_VALUE t_FACTOR t_MODULUS t_BEHIND_TEXT : Tok}
    (v_FIRST_VALUE : PySem.W.nsIn K mainGlobals "FIRST_VALUE" = some (some (.int 7 t_FIRST_VALUE)))
    (v_FACTOR : PySem.W.nsIn K mainGlobals "FACTOR" = some (some (.int 31 t_FACTOR)))
    (v_MODULUS : PySem.W.nsIn K mainGlobals "MODULUS" = some (some (.int 9973 t_MODULUS)))
    (v_BEHIND_TEXT : PySem.W.nsIn K mainGlobals "BEHIND_TEXT" = some (some (.int 6 t_BEHIND_TEXT)))
    (g_BourseError : PySem.W.nsIn K mainGlobals "BourseError" = some (some (.ref c_BourseError)))
    (g_BrokenTape : PySem.W.nsIn K mainGlobals "BrokenTape" = some (some (.ref c_BrokenTape))) :
    ∃ fd : FuncData, (∀ (s : Shared) (v : Value), BindsTo s fd ⟨[v], []⟩ [("script", v)]) ∧ ∀ base : Heap, K.In base → base.Ns mainGlobals mg → FnOk l.prog w K mg base CX0 5 fa fd ["script"] (sp_law K) := by
  have e := hfa.symm.trans (PySem.W.mg_of X G a11)
  cases e
  have F1 := fun_mk (st := s_check_of) l1 c1 k1
  have b1 := F1.binds (ps := ["text"]) fun _ _ _ _ _ _ us hl => match us, hl with | [_], _ => rfl
  have F2 := fun_mk (st := s_write_line) l2 c2 k2
  have b2 := F2.binds (ps := ["number", "text"]) fun _ _ _ _ _ _ us hl => match us, hl with | [_, _], _ => rfl
  have F3 := fun_mk (st := s_read_tape) l3 c3 k3
  have b3 := F3.binds (ps := ["tape"]) fun _ _ _ _ _ _ us hl => match us, hl with | [_], _ => rfl
  have F4 := fun_mk (st := s_text_at) l4 c4 k4
  have b4 := F4.binds (ps := ["tape", "start", "number"]) fun _ _ _ _ _ _ us hl => match us, hl with | [_, _, _], _ => rfl
  have F5 := fun_mk (st := s_is_text) l5 c5 k5
  have b5 := F5.binds (ps := ["text"]) fun _ _ _ _ _ _ us hl => match us, hl with | [_], _ => rfl
  have F6 := fun_mk (st := s_law_digit) l6 c6 k6
  have b6 := F6.binds (ps := ["cell", "base", "k"]) fun _ _ _ _ _ _ us hl => match us, hl with | [_, _, _], _ => rfl
  have F7 := fun_mk (st := s_law_text) l7 c7 k7
  have b7 := F7.binds (ps := ["cell"]) fun _ _ _ _ _ _ us hl => match us, hl with | [_], _ => rfl
  have F8 := fun_mk (st := s_law_lines) l8 c8 k8
  have b8 := F8.binds (ps := ["script"]) fun _ _ _ _ _ _ us hl => match us, hl with | [_], _ => rfl
  have F9 := fun_mk (st := s_law_raw) l9 c9 k9
  have b9 := F9.binds (ps := ["number", "text"]) fun _ _ _ _ _ _ us hl => match us, hl with | [_, _], _ => rfl
  have F10 := fun_mk (st := s_law_spoil) l10 c10 k10
  have b10 := F10.binds (ps := ["lines", "at", "step"]) fun _ _ _ _ _ _ us hl => match us, hl with | [_, _, _], _ => rfl
  have F11 := fun_mk (st := s_law) l11 c11 k11
  have b11 := F11.binds (ps := ["script"]) fun _ _ _ _ _ _ us hl => match us, hl with | [_], _ => rfl
  have T : Txt K mg := ⟨f1, _, F1, PySem.W.mg_of X G a1, b1, f2, _, F2, PySem.W.mg_of X G a2, b2, f3, _, F3, PySem.W.mg_of X G a3, b3, f4, _, F4, PySem.W.mg_of X G a4, b4, f5, _, F5, PySem.W.mg_of X G a5, b5, f6, _, F6, PySem.W.mg_of X G a6, b6, f7, _, F7, PySem.W.mg_of X G a7, b7, f8, _, F8, PySem.W.mg_of X G a8, b8, f9, _, F9, PySem.W.mg_of X G a9, b9, f10, _, F10, PySem.W.mg_of X G a10, b10, c_BourseError, PySem.W.mg_of X G g_BourseError, c_BrokenTape, PySem.W.mg_of X G g_BrokenTape, PySem.W.mg_none_of X G z_all, PySem.W.mg_none_of X G z_enumerate, PySem.W.mg_none_of X G z_int, PySem.W.mg_none_of X G z_len, PySem.W.mg_none_of X G z_ord, PySem.W.mg_none_of X G z_range, PySem.W.mg_none_of X G z_str, PySem.W.mg_none_of X G z_sum, t_FIRST_VALUE, PySem.W.mg_of X G v_FIRST_VALUE, t_FACTOR, PySem.W.mg_of X G v_FACTOR, t_MODULUS, PySem.W.mg_of X G v_MODULUS, t_BEHIND_TEXT, PySem.W.mg_of X G v_BEHIND_TEXT⟩
  exact ⟨PySem.W.fnOf "law" "law" (defArgs s_law) (defBody s_law) (defScope s_law) .none kV11 dc11 pm11 an11 cd11 ct11, fun s v => .of_eq rfl, fun base _ _ => ok_law T F11⟩
end FB
open PySem PySem.W PyProof.Rows
set_option maxRecDepth 100000 in
set_option maxHeartbeats 0 in
theorem PySem.Challenge.cw_fairbourse_k99_tape_of_lines_out_of_orde_holds : PySem.Challenge.rw_fairbourse_k99_tape_of_lines_out_of_orde.Holds := by
  w_on; o_law; k_head; (case hw => w_witness2)
  k_fill
  refine L2.walk_of (l := PySem.Challenge.rw_fairbourse_k99_tape_of_lines_out_of_orde) (n := 63) (k := 5) (x := "script") (CX := fun _ => L2.CX0) (sp := fun w => FB.sp_law _) rfl (by decide) rfl ⟨rfl, by decide, by decide⟩ (fun w h Y => PySem.W.kIn_of Y) ?F (fun _ _ a ns hl _ hS => ⟨a, ns, rfl, hS, hl, fun _ => rfl⟩) (fun _ _ _ _ _ h => h)
  case F =>
    intro w mg fa h KX G hmg
    refine' FB.all_mk KX G hmg ?a1 ?l1 ?c1 ?k1 ?a2 ?l2 ?c2 ?k2 ?a3 ?l3 ?c3 ?k3 ?a4 ?l4 ?c4 ?k4 ?a5 ?l5 ?c5 ?k5 ?a6 ?l6 ?c6 ?k6 ?a7 ?l7 ?c7 ?k7 ?a8 ?l8 ?c8 ?k8 ?a9 ?l9 ?c9 ?k9 ?a10 ?l10 ?c10 ?k10 ?a11 ?l11 ?c11 ?k11 ?z_all ?z_enumerate ?z_int ?z_len ?z_ord ?z_range ?z_str ?z_sum ?v_FIRST_VALUE ?v_FACTOR ?v_MODULUS ?v_BEHIND_TEXT ?g_BourseError ?g_BrokenTape
    (case g_BourseError => k_is)
    (case g_BrokenTape => k_is)
    (case a1 => k_is)
    (case l1 => k_is)
    (case c1 => k_is)
    (case k1 => k_is)
    (case a2 => k_is)
    (case l2 => k_is)
    (case c2 => k_is)
    (case k2 => k_is)
    (case a3 => k_is)
    (case l3 => k_is)
    (case c3 => k_is)
    (case k3 => k_is)
    (case a4 => k_is)
    (case l4 => k_is)
    (case c4 => k_is)
    (case k4 => k_is)
    (case a5 => k_is)
    (case l5 => k_is)
    (case c5 => k_is)
    (case k5 => k_is)
    (case a6 => k_is)
    (case l6 => k_is)
    (case c6 => k_is)
    (case k6 => k_is)
    (case a7 => k_is)
    (case l7 => k_is)
    (case c7 => k_is)
    (case k7 => k_is)
    (case a8 => k_is)
    (case l8 => k_is)
    (case c8 => k_is)
    (case k8 => k_is)
    (case a9 => k_is)
    (case l9 => k_is)
    (case c9 => k_is)
    (case k9 => k_is)
    (case a10 => k_is)
    (case l10 => k_is)
    (case c10 => k_is)
    (case k10 => k_is)
    (case a11 => k_is)
    (case l11 => k_is)
    (case c11 => k_is)
    (case k11 => k_is)
    (case z_all => k_is)
    (case z_enumerate => k_is)
    (case z_int => k_is)
    (case z_len => k_is)
    (case z_ord => k_is)
    (case z_range => k_is)
    (case z_str => k_is)
    (case z_sum => k_is)
    (case v_FIRST_VALUE => k_is)
    (case v_FACTOR => k_is)
    (case v_MODULUS => k_is)
    (case v_BEHIND_TEXT => k_is)
