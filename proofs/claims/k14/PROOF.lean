import PyProof.Rows.All
import Wide.All
import OpenK.AllK
import Wide.FinOn
import HandS.ForMost
import HandS.Defaults
import HandS.IsInst
import HandS.Wide
import PySem.Challenge.RW_fairbourse_k14_fees_of_a_run
set_option Elab.async false
set_option linter.all false
set_option maxRecDepth 100000
namespace FB
open PySem PySem.Spec PyProof.Rows L2
def topS (i : Nat) : Stmt := PySem.Challenge.pw_fairbourse_k14_fees_of_a_run.main.body.getD i (.Pass ⟨0, 0, 0, 0⟩)
abbrev s_check_amount : Stmt := topS 6
abbrev N_check_amount : List Str := ["amount", "most"]
theorem sc_check_amount : FnScope N_check_amount ["amount", "most"] (defScope s_check_amount) := ⟨rfl, rfl, rfl, by decide +kernel, rfl, by decide +kernel, by decide +kernel⟩
abbrev s_fee : Stmt := topS 7
abbrev N_fee : List Str := ["amount", "rate", "carried"]
theorem sc_fee : FnScope N_fee ["amount", "rate", "carried"] (defScope s_fee) := ⟨rfl, rfl, rfl, by decide +kernel, rfl, by decide +kernel, by decide +kernel⟩
abbrev s_law_cell : Stmt := topS 9
abbrev N_law_cell : List Str := ["script", "k"]
theorem sc_law_cell : FnScope N_law_cell ["script", "k"] (defScope s_law_cell) := ⟨rfl, rfl, rfl, by decide +kernel, rfl, by decide +kernel, by decide +kernel⟩
abbrev s_law_is_integer : Stmt := topS 10
abbrev N_law_is_integer : List Str := ["actual"]
theorem sc_law_is_integer : FnScope N_law_is_integer ["actual"] (defScope s_law_is_integer) := ⟨rfl, rfl, rfl, by decide +kernel, rfl, by decide +kernel, by decide +kernel⟩
abbrev s_law_pair : Stmt := topS 11
abbrev N_law_pair : List Str := ["actual"]
theorem sc_law_pair : FnScope N_law_pair ["actual"] (defScope s_law_pair) := ⟨rfl, rfl, rfl, by decide +kernel, rfl, by decide +kernel, by decide +kernel⟩
abbrev s_law : Stmt := topS 12
abbrev N_law : List Str := ["script", "rate", "first", "size", "amounts", "cell", "cents", "carried", "due", "amount", "actual"]
theorem sc_law : FnScope N_law ["script"] (defScope s_law) := ⟨rfl, rfl, rfl, by decide +kernel, rfl, by decide +kernel, by decide +kernel⟩
structure Txt (K : PySem.W.Frag) (mg : Str → Option Value) where
  f_check_amount : Addr
  d_check_amount : FuncData
  F_check_amount : Fun K "_check_amount" "_check_amount" s_check_amount f_check_amount d_check_amount
  m_check_amount : mg "_check_amount" = some (.ref f_check_amount)
  b_check_amount : Binds K d_check_amount ["amount", "most"] []
  f_fee : Addr
  d_fee : FuncData
  F_fee : FunD K "fee" "fee" (defArgs s_fee) (defBody s_fee) (defScope s_fee) [.int 0] [] f_fee d_fee
  b0_fee : ∃ ds, Vals [.int 0] ds ∧ Binds K d_fee ["amount", "rate", "carried"] ds
  m_fee : mg "fee" = some (.ref f_fee)
  b_fee : Binds K d_fee ["amount", "rate", "carried"] []
  f_law_cell : Addr
  d_law_cell : FuncData
  F_law_cell : Fun K "_law_cell" "_law_cell" s_law_cell f_law_cell d_law_cell
  m_law_cell : mg "_law_cell" = some (.ref f_law_cell)
  b_law_cell : Binds K d_law_cell ["script", "k"] []
  f_law_is_integer : Addr
  d_law_is_integer : FuncData
  F_law_is_integer : Fun K "_law_is_integer" "_law_is_integer" s_law_is_integer f_law_is_integer d_law_is_integer
  m_law_is_integer : mg "_law_is_integer" = some (.ref f_law_is_integer)
  b_law_is_integer : Binds K d_law_is_integer ["actual"] []
  f_law_pair : Addr
  d_law_pair : FuncData
  F_law_pair : Fun K "_law_pair" "_law_pair" s_law_pair f_law_pair d_law_pair
  m_law_pair : mg "_law_pair" = some (.ref f_law_pair)
  b_law_pair : Binds K d_law_pair ["actual"] []
  z_bool : mg "bool" = none
  z_divmod : mg "divmod" = none
  z_int : mg "int" = none
  z_isinstance : mg "isinstance" = none
  z_len : mg "len" = none
  z_tuple : mg "tuple" = none
  t_MOST_AMOUNT : Tok
  m_MOST_AMOUNT : mg "MOST_AMOUNT" = some (.int 1000000000000000000 t_MOST_AMOUNT)
  t_MILLION : Tok
  m_MILLION : mg "MILLION" = some (.int 1000000 t_MILLION)
/-! own short words -/
theorem iteD {p A B : Prop} [Decidable p] (h1 : p → A) (h2 : ¬ p → B) : if decide p = true then A else B := by
  by_cases h : p
  · rw [decide_eq_true h, if_pos rfl]; exact h1 h
  · rw [decide_eq_false h, if_neg Bool.false_ne_true]; exact h2 h
theorem iteDN {p A B : Prop} [Decidable p] (h1 : ¬ p → A) (h2 : p → B) : if (!decide p) = true then A else B := by
  by_cases h : p
  · rw [decide_eq_true h]; exact iteF (h2 h)
  · rw [decide_eq_false h]; exact iteT (h1 h)
theorem len_le {n : Nat} (h : Nat.ble n 1000 = true) : n ≤ sizeLine := Nat.le_trans (Nat.le_of_ble_eq_true h) (by decide)
theorem iteB {b : Bool} {A B : Prop} (h1 : b = true → A) (h2 : b = false → B) : if b = true then A else B := by
  cases b with
  | true => exact iteT (h1 rfl)
  | false => exact iteF (h2 rfl)
theorem cmul_l {i j : Int} (h : -(2 ^ 64) < i) (h' : i < 2 ^ 64) : CMul i j := .inl ⟨h, h'⟩
theorem cmul_r {i j : Int} (h : -(2 ^ 64) < j) (h' : j < 2 ^ 64) : CMul i j := .inr ⟨h, h'⟩
theorem dec_t {p : Prop} [Decidable p] (h : decide p = true) : p := of_decide_eq_true h
theorem dec_f {p : Prop} [Decidable p] (h : decide p = false) : ¬ p := of_decide_eq_false h
theorem ndec_t {p : Prop} [Decidable p] (h : (!decide p) = true) : ¬ p := fun q => by rw [decide_eq_true q] at h; cases h
theorem ndec_f {p : Prop} [Decidable p] (h : (!decide p) = false) : p := by
  by_cases q : p
  · exact q
  · rw [decide_eq_false q] at h; cases h
local macro_rules | `(tactic| walk_at "st") => `(tactic| repeat (first
  | (apply Exists.intro (α := V))
  | (apply Exists.intro (α := Int))
  | (apply Exists.intro (α := Bool))
  | (apply Exists.intro (α := Addr))
  | (apply Exists.intro (α := List V))
  | (apply Exists.intro (α := List Int))
  | (apply Exists.intro (α := List (Str × V)))
  | (apply Exists.intro (α := Str))
  | (apply And.intro; focus (first | exact rfl | assumption | exact SqL.of (by assumption) | exact Or.inl (by assumption) | exact Or.inr (by assumption) | exact Or.inr (SqT.of (by assumption)) | exact Or.inl (Or.inl upd_same) | exact Or.inl (Or.inl (Or.inl upd_same)) | exact len_le rfl | exact upd_same | exact ⟨_, Or.inl (Or.inl upd_same)⟩ | exact ⟨_, SqL.of (by assumption)⟩ | exact ⟨_, by assumption⟩ | omega | (dsimp only; omega) | exact cmul_l (by omega) (by omega) | exact cmul_r (by omega) (by omega) | exact ⟨by omega, by omega⟩ | exact Or.inl (SqL.of (by assumption)) | exact SqT.of (by assumption)))))
/-- the script's cell at j, 0 where there is none -/
def cellOf (ns : List Int) (j : Nat) : Int := ns.getD j 0
theorem atI_ints {ns : List Int} {j : Nat} (h : j < ns.length) : atI (ns.map V.int) (j : Int) = some (.int (cellOf ns j)) := by
  refine at_of (j := j) rfl ?_
  rw [List.getElem?_map, List.getElem?_eq_getElem h]
  unfold cellOf
  rw [List.getD_eq_getElem?_getD, List.getElem?_eq_getElem h]
  rfl
theorem cellOf_out {ns : List Int} {j : Nat} (h : ¬ j < ns.length) : cellOf ns j = 0 := by
  unfold cellOf
  rw [List.getD_eq_getElem?_getD, List.getElem?_eq_none (by omega)]
  rfl
theorem same_upd {H : Hp} {p : Addr} {o : HO} (h : H p = none) : Same H (upd H p o) := fun b x e => by
  rw [upd_ne (ne_of_none e h)]
  exact e
/-- a slice of a list of ints -/
def cutI (ns : List Int) (lo hi : Option Int) : List Int := (ns.drop (HT.sIx ns.length 0 lo)).take (HT.sIx ns.length ns.length hi - HT.sIx ns.length 0 lo)
theorem cutV_ints (ns : List Int) (lo hi : Option Int) : cutV (ns.map V.int) lo hi = (cutI ns lo hi).map V.int := by
  unfold cutV cutI
  rw [List.length_map, List.map_take, List.map_drop]
theorem cutI_len (ns : List Int) (lo hi : Option Int) : (cutI ns lo hi).length ≤ ns.length := by
  unfold cutI
  rw [List.length_take, List.length_drop]
  omega
theorem ints_at {ns : List Int} {i : Nat} {x : V} (h : (ns.map V.int)[i]? = some x) : ∃ z, ns[i]? = some z ∧ x = V.int z := by
  rw [List.getElem?_map] at h
  cases e : ns[i]? with
  | none => rw [e] at h; cases h
  | some z => rw [e] at h; exact ⟨z, rfl, (Option.some.inj h).symm⟩
theorem take_succ {α : Type} {xs : List α} {i : Nat} {x : α} (h : xs[i]? = some x) : xs.take (i + 1) = xs.take i ++ [x] := by
  rw [List.take_add_one, h]
  rfl

section
variable {P : Program} {w : World} {K : PySem.W.Frag} {mg : Str → Option Value} {base : Heap}
def sp_check_amount (K : PySem.W.Frag) : Sp := fun vs H Q _ => ∃ a m : Int, vs = [.int a, .int m] ∧ 0 ≤ a ∧ a ≤ m ∧ Q .non H
theorem ok_check_amount (T : Txt K mg) : FnOk P w K mg base CX0 1 T.f_check_amount T.d_check_amount ["amount", "most"] (sp_check_amount K) := by
  refine T.F_check_amount.ok sc_check_amount (fun vs H Q E h => ?_) (fun cdv A outer s H vs Q E hr h => ?_)
  · obtain ⟨a, m, rfl, _⟩ := h
    rfl
  · obtain ⟨a, m, rfl, h1, h2, q⟩ := h
    refine ⟨_, (pss_one (ps_if (pt_not (pt_chain op_le op_le pe_int (pv 0) (pv 1)))
      (pss_one ps_never)
      pss_nil)), ?_⟩
    walk_at "st"
    refine iteD (fun _ => ?_) (fun h => absurd h1 h)
    walk_at "st"
    exact iteDN (fun h => absurd h2 h) (fun _ => q)
def sp_fee (K : PySem.W.Frag) : Sp := fun vs H Q _ => ∃ a r c : Int, vs = [.int a, .int r, .int c] ∧ (0 ≤ a ∧ a ≤ 1000000000000000000) ∧ (0 ≤ r ∧ r ≤ 1000000) ∧ (0 ≤ c ∧ c ≤ 999999) ∧
  ∀ p, H p = none → Q (.ref p) (upd H p (.tup [.int ((a * r + c) / 1000000), .int ((a * r + c) % 1000000)]))
theorem ok_fee (T : Txt K mg) : FnOk P w K mg base CX0 2 T.f_fee T.d_fee ["amount", "rate", "carried"] (sp_fee K) := by
  refine T.F_fee.ok sc_fee (fun vs H Q E h => ?_) (fun cdv A outer s H vs Q E hr h => ?_)
  · obtain ⟨a, r, c, rfl, _⟩ := h
    rfl
  · obtain ⟨a, r, c, rfl, ha, hr0, hc, q⟩ := h
    have G_check_amount : FnOk P w K mg base CX0 1 T.f_check_amount T.d_check_amount ["amount", "most"] (sp_check_amount K) := ok_check_amount T
    refine ⟨_, (PSs.nox (pss_cons (ps_expr (pe_call G_check_amount hr (by rfl) T.m_check_amount T.F_check_amount.kp T.b_check_amount .nil pass0 (pa_cons (pv 0) (pa_cons (pe_glob (v := .int 1000000000000000000) rfl T.m_MOST_AMOUNT ⟨_, rfl⟩) pa_nil))))
    (pss_cons (ps_expr (pe_call G_check_amount hr (by rfl) T.m_check_amount T.F_check_amount.kp T.b_check_amount .nil pass0 (pa_cons (pv 1) (pa_cons (pe_glob (v := .int 1000000) rfl T.m_MILLION ⟨_, rfl⟩) pa_nil))))
    (pss_cons (ps_expr (pe_call G_check_amount hr (by rfl) T.m_check_amount T.F_check_amount.kp T.b_check_amount .nil pass0 (pa_cons (pv 2) (pa_cons (pe_op op_sub (pe_glob (v := .int 1000000) rfl T.m_MILLION ⟨_, rfl⟩) pe_int) pa_nil))))
    (pss_one (ps_ret (pe_callB call_divmod (by rfl) T.z_divmod (by decide +kernel) (pa_cons (pe_op op_add (pe_op op_mul (pv 0) (pv 1)) (pv 2)) (pa_cons (pe_glob (v := .int 1000000) rfl T.m_MILLION ⟨_, rfl⟩) pa_nil))))))))), ?_⟩
    walk_at "st"
    exact q
def sp_law_cell (K : PySem.W.Frag) : Sp := fun vs H Q _ => ∃ (a : Addr) (ns : List Int) (j : Nat), vs = [.ref a, .int j] ∧ SqL K H a (ns.map V.int) ∧ Q (.int (cellOf ns j)) H
theorem ok_law_cell (T : Txt K mg) : FnOk P w K mg base CX0 1 T.f_law_cell T.d_law_cell ["script", "k"] (sp_law_cell K) := by
  refine T.F_law_cell.ok sc_law_cell (fun vs H Q E h => ?_) (fun cdv A outer s H vs Q E hr h => ?_)
  · obtain ⟨a, ns, j, rfl, _⟩ := h
    rfl
  · obtain ⟨a, ns, j, rfl, hs, q⟩ := h
    refine ⟨_, (pss_cons (ps_if (pt_cmpR op_lt (pv 1) (pe_callB call_len_seq (by rfl) T.z_len PySem.boot_len (pa_cons (pv 0) pa_nil)) (nomark _))
      (pss_one (ps_ret (pe_ix ix_list (pv 0) (pv 1) (fun _ _ => rfl))))
      pss_nil)
    (pss_one (ps_ret pe_int))), ?_⟩
    walk_at "st"
    refine iteD (fun h => ?_) (fun h => ?_)
    · have hj : j < ns.length := by rw [List.length_map] at h; omega
      walk_at "st"
      exact ⟨atI_ints hj, q⟩
    · have hj : ¬ j < ns.length := by rw [List.length_map] at h; omega
      rw [cellOf_out hj] at q
      exact q

def sp_law_is_integer (K : PySem.W.Frag) : Sp := fun vs H Q _ => ∃ x : Int, vs = [.int x] ∧ Q (.bl true) H
theorem ok_law_is_integer (T : Txt K mg) : FnOk P w K mg base CX0 1 T.f_law_is_integer T.d_law_is_integer ["actual"] (sp_law_is_integer K) := by
  refine T.F_law_is_integer.ok sc_law_is_integer (fun vs H Q E h => ?_) (fun cdv A outer s H vs Q E hr h => ?_)
  · obtain ⟨x, rfl, _⟩ := h
    rfl
  · obtain ⟨x, rfl, q⟩ := h
    refine ⟨_, (pss_one (ps_ret (pe_and (pe_callB call_isi (by rfl) T.z_isinstance (by decide +kernel) (pa_cons (pv 0) (pa_cons (pe_bltn (v := .ty "int") (u := .type "int") (by rfl) T.z_int (by decide +kernel) rfl) pa_nil))) (pe_one (pe_not (pe_callB call_isi (by rfl) T.z_isinstance (by decide +kernel) (pa_cons (pv 0) (pa_cons (pe_bltn (v := .ty "bool") (u := .type "bool") (by rfl) T.z_bool (by decide +kernel) rfl) pa_nil)))))))), ?_⟩
    refine ⟨_, rfl, ?_⟩
    refine ⟨_, _, _, _, true, rfl, .ty _, .base (.int _), kit_ty (by decide +kernel), ?_⟩
    refine ⟨true, rfl, iteT ?_⟩
    refine ⟨_, rfl, ?_⟩
    refine ⟨_, _, _, _, false, rfl, .ty _, .base (.int _), kit_ty (by decide +kernel), ?_⟩
    refine ⟨false, rfl, ?_⟩
    exact q

def sp_law_pair (K : PySem.W.Frag) : Sp := fun vs H Q _ => ∃ (p : Addr) (x y : Int), vs = [.ref p] ∧ H p = some (.tup [.int x, .int y]) ∧ 0 ≤ y ∧ y < 1000000 ∧ Q (.bl true) H
theorem ok_law_pair (T : Txt K mg) : FnOk P w K mg base CX0 2 T.f_law_pair T.d_law_pair ["actual"] (sp_law_pair K) := by
  refine T.F_law_pair.ok sc_law_pair (fun vs H Q E h => ?_) (fun cdv A outer s H vs Q E hr h => ?_)
  · obtain ⟨p, x, y, rfl, _⟩ := h
    rfl
  · obtain ⟨p, x, y, rfl, hp, h0, h1, q⟩ := h
    have G_law_is_integer : FnOk P w K mg base CX0 1 T.f_law_is_integer T.d_law_is_integer ["actual"] (sp_law_is_integer K) := ok_law_is_integer T
    refine ⟨_, (pss_cons (ps_if (PW.pt (pw_or (pt_not (pt_val (pe_callB call_isi (by rfl) T.z_isinstance (by decide +kernel) (pa_cons (pv 0) (pa_cons (pe_bltn (v := .ty "tuple") (u := .type "tuple") (by rfl) T.z_tuple (by decide +kernel) rfl) pa_nil))))) (pw_or1 (pt_cmpR op_ne (pe_callB call_len_seq (by rfl) T.z_len PySem.boot_len (pa_cons (pv 0) pa_nil)) pe_int (nomark _)))))
      (pss_one (ps_ret pe_bl))
      pss_nil)
    (pss_cons (ps_if (PW.pt (pw_or (pt_not (pt_val (pe_call G_law_is_integer hr (by rfl) T.m_law_is_integer T.F_law_is_integer.kp T.b_law_is_integer .nil pass0 (pa_cons (pe_ix ix_tup (pv 0) pe_int (fun _ _ => rfl)) pa_nil)))) (pw_or1 (pt_not (pt_val (pe_call G_law_is_integer hr (by rfl) T.m_law_is_integer T.F_law_is_integer.kp T.b_law_is_integer .nil pass0 (pa_cons (pe_ix ix_tup (pv 0) pe_int (fun _ _ => rfl)) pa_nil)))))))
      (pss_one (ps_ret pe_bl))
      pss_nil)
    (pss_one (ps_ret (pe_chain op_le op_lt pe_int (pe_ix ix_tup (pv 0) pe_int (fun _ _ => rfl)) pe_int))))), ?_⟩
    refine ⟨_, rfl, ?_⟩
    refine ⟨_, _, _, _, true, rfl, .ty _, .base (.tup hp), kit_ty (by decide +kernel), ?_⟩
    refine ⟨_, rfl, iteF ?_⟩
    walk_at "st"
    refine iteD (fun _ => ?_) (fun h => absurd h0 h)
    walk_at "st"
    show Q (V.bl (decide (y < 1000000))) H
    rw [decide_eq_true h1]
    exact q
def sp_law (K : PySem.W.Frag) : Sp := fun vs H Q _ => ∃ (a : Addr) (ns : List Int), vs = [.ref a] ∧ SqL K H a (ns.map V.int) ∧ ns.length ≤ 63 ∧ ∀ H', Q (.bl true) H'
theorem ok_law {f : Addr} {fd : FuncData} (T : Txt K mg) (F : Fun K "law" "law" s_law f fd) : FnOk P w K mg base CX0 3 f fd ["script"] (sp_law K) := by
  refine F.ok sc_law (fun vs H Q E h => ?_) (fun cdv A outer s H vs Q E hr h => ?_)
  · obtain ⟨a, ns, rfl, _⟩ := h
    rfl
  · obtain ⟨a, ns, rfl, hs, hlen, q⟩ := h
    have G_law_cell : FnOk P w K mg base CX0 1 T.f_law_cell T.d_law_cell ["script", "k"] (sp_law_cell K) := ok_law_cell T
    have G_fee : FnOk P w K mg base CX0 2 T.f_fee T.d_fee ["amount", "rate", "carried"] (sp_fee K) := ok_fee T
    have G_law_pair : FnOk P w K mg base CX0 2 T.f_law_pair T.d_law_pair ["actual"] (sp_law_pair K) := ok_law_pair T
    obtain ⟨D0_fee, B0_fee⟩ := T.b0_fee
    refine ⟨_, (pss_cons (ps_set (i := 1) sc_law.nd rfl (Or.inl rfl) (pe_op op_mod (pe_call G_law_cell (hr.mono (by decide)) (by rfl) T.m_law_cell T.F_law_cell.kp T.b_law_cell .nil pass0 (pa_cons (pv 0) (pa_cons pe_int pa_nil))) pe_int))
    (pss_cons (ps_set (i := 2) sc_law.nd rfl (Or.inl rfl) (pe_op op_mod (pe_call G_law_cell (hr.mono (by decide)) (by rfl) T.m_law_cell T.F_law_cell.kp T.b_law_cell .nil pass0 (pa_cons (pv 0) (pa_cons pe_int pa_nil))) pe_int))
    (pss_cons (ps_set (i := 3) sc_law.nd rfl (Or.inr rfl) (pe_ix ix_list (pe_lst (pa_cons pe_int (pa_cons pe_int pa_nil))) (pe_op op_mod (pe_call G_law_cell (hr.mono (by decide)) (by rfl) T.m_law_cell T.F_law_cell.kp T.b_law_cell .nil pass0 (pa_cons (pv 0) (pa_cons pe_int pa_nil))) pe_int) (fun _ _ => rfl)))
    (pss_cons (ps_setLc (i := 4) (own := [("cell", 5)]) (g := gName 5) (tt := tYes) rfl sc_law.nd rfl rfl (sw_true rfl rfl rfl (by decide +kernel)) (pi_list (pe_slice sl_list (pv 0) (po_some pe_int) (po_some pe_int))) (blkOk_by (own := [("cell", 5)]) (N := N_law) (sc := defScope s_law) (by decide +kernel)) (fun _ _ _ _ _ => (pg_name (i := 5) sc_law.nd rfl (Or.inl rfl))) (fun _ _ _ _ _ => pts_nil) (fun _ _ _ _ _ => (pe_op op_mod (pv 5) (pv 3))))
    (pss_cons (ps_set (i := 6) sc_law.nd rfl (Or.inl rfl) pe_int)
    (pss_cons (ps_set (i := 7) sc_law.nd rfl (Or.inl rfl) (pv 2))
    (pss_cons (ps_set (i := 8) sc_law.nd rfl (Or.inl rfl) (pv 2))
    (pss_cons (ps_for PassesOwn.never rfl (pi_list (pv 4)) (pg_name (i := 9) sc_law.nd rfl (Or.inl rfl))
      (pss_cons (ps_set (i := 10) sc_law.nd rfl (Or.inl rfl) (pe_call G_fee hr (by rfl) T.m_fee T.F_fee.kp T.b_fee .nil pass0 (pa_cons (pv 9) (pa_cons (pv 1) (pa_cons (pv 7) pa_nil)))))
      (pss_cons (ps_if (pt_not (pt_val (pe_call G_law_pair hr (by rfl) T.m_law_pair T.F_law_pair.kp T.b_law_pair .nil pass0 (pa_cons (pv 10) pa_nil))))
        (pss_one (ps_ret pe_bl))
        pss_nil)
      (pss_cons (ps_set (i := 8) sc_law.nd rfl (Or.inl rfl) (pe_op op_add (pv 8) (pe_op op_mul (pv 9) (pv 1))))
      (pss_cons (ps_set (i := 6) sc_law.nd rfl (Or.inl rfl) (pe_op op_add (pv 6) (pe_ix ix_tup (pv 10) pe_int (fun _ _ => rfl))))
      (pss_cons (ps_set (i := 7) sc_law.nd rfl (Or.inl rfl) (pe_ix ix_tup (pv 10) pe_int (fun _ _ => rfl)))
      (pss_one (ps_if (pt_cmpR op_ne (pe_op op_add (pe_op op_mul (pv 6) pe_int) (pv 7)) (pv 8) (nomark _))
        (pss_one (ps_ret pe_bl))
        pss_nil))))))))
    (pss_cons (ps_set (i := 9) sc_law.nd rfl (Or.inl rfl) (pe_op op_mod (pe_call G_law_cell (hr.mono (by decide)) (by rfl) T.m_law_cell T.F_law_cell.kp T.b_law_cell .nil pass0 (pa_cons (pv 0) (pa_cons pe_int pa_nil))) pe_int))
    (pss_one (ps_ret (pe_and (pe_cmpR (op_eqD hr.units) (pe_call G_fee hr (by rfl) T.m_fee T.F_fee.kp B0_fee.2 B0_fee.1 pass0 (pa_cons (pv 9) (pa_cons (pv 1) pa_nil))) (pe_call G_fee hr (by rfl) T.m_fee T.F_fee.kp T.b_fee .nil pass0 (pa_cons (pv 9) (pa_cons (pv 1) (pa_cons pe_int pa_nil)))) (nomark _)) (pe_one (pe_call G_law_pair hr (by rfl) T.m_law_pair T.F_law_pair.kp T.b_law_pair .nil pass0 (pa_cons (pe_call G_fee hr (by rfl) T.m_fee T.F_fee.kp B0_fee.2 B0_fee.1 pass0 (pa_cons (pv 9) (pa_cons (pv 1) pa_nil))) pa_nil))))))))))))))), ?_⟩
    walk_at "st"
    intro p1 np1
    have s1 : Same H (upd H p1 (.lst [.int 100, .int 1000000000001])) := same_upd np1
    obtain ⟨size, hat, hsz0, hsz1⟩ : ∃ size : Int, atI [V.int 100, V.int 1000000000001] (cellOf ns 2 % 2) = some (.int size) ∧ 0 < size ∧ size ≤ 1000000000001 := by
      rcases (by omega : cellOf ns 2 % 2 = 0 ∨ cellOf ns 2 % 2 = 1) with e | e
      · exact ⟨100, by rw [e]; rfl, by decide, by decide⟩
      · exact ⟨1000000000001, by rw [e]; rfl, by decide, by decide⟩
    have hs1 := s1.seq hs
    walk_at "st"
    intro c nc
    have s2 := same_upd (o := .lst (cutV (ns.map V.int) (some 3) (some 63))) nc
    have s12 := s1.trans s2
    generalize hH2 : upd (upd H p1 (.lst [.int 100, .int 1000000000001])) c _ = H2 at s2 s12
    have hc2 : H2 c = some (.lst ((cutI ns (some 3) (some 63)).map V.int)) := by rw [← hH2, upd_same, cutV_ints]
    have hcl := cutI_len ns (some 3) (some 63)
    generalize cutI ns (some 3) (some 63) = cells at hc2 hcl
    refine ⟨c, rfl, ⟨_, SqL.of hc2⟩, fun D nD => ?_⟩
    have s3 : ∀ o, Same H2 (upd H2 D o) := fun o => same_upd nD
    refine lc_list (K := K) (a := c) (xs := cells.map V.int) (fun i H' => H' = upd H2 D (.lst ((cells.take i).map fun z => V.int (z % size)))) rfl (fun i H' _ e => by rw [e]; exact (s3 _).seq (SqL.of hc2)) ?_ ?_
    · rintro i x H' hx rfl
      obtain ⟨z, hz, rfl⟩ := ints_at hx
      refine ⟨rfl, ?_⟩
      walk_at "st"
      refine ⟨?_, ?_⟩
      · have hi := (List.getElem?_eq_some_iff.mp hz).1
        refine small1000 ?_
        rw [List.length_map, List.length_take]
        omega
      · rw [upd_upd, take_succ hz, List.map_append]
        rfl
    · rintro H' rfl
      have eA : (cells.take (cells.map V.int).length).map (fun z => V.int (z % size)) = (cells.map (· % size)).map V.int := by
        rw [List.take_of_length_le (by rw [List.length_map]; exact Nat.le_refl _), List.map_map]
        rfl
      rw [eA]
      have hD : (upd H2 D (.lst ((cells.map (· % size)).map V.int))) D = some (.lst ((cells.map (· % size)).map V.int)) := upd_same
      have s13 := s12.trans (s3 (.lst ((cells.map (· % size)).map V.int)))
      generalize upd H2 D (.lst ((cells.map (· % size)).map V.int)) = H3 at hD s13
      have hb : ∀ y, y ∈ cells.map (· % size) → 0 ≤ y ∧ y ≤ 1000000000000 := by
        intro y hy
        obtain ⟨z, _, rfl⟩ := List.mem_map.mp hy
        have h1 := Int.emod_nonneg z (by omega : size ≠ 0)
        have h2 := Int.emod_lt_of_pos z hsz0
        exact ⟨h1, by omega⟩
      generalize cells.map (· % size) = ams at hD hb
      have hr0 := Int.emod_nonneg (cellOf ns 0) (by decide : (1000001 : Int) ≠ 0)
      have hr1 := Int.emod_lt_of_pos (cellOf ns 0) (by decide : (0 : Int) < 1000001)
      have hf0 := Int.emod_nonneg (cellOf ns 1) (by decide : (1000000 : Int) ≠ 0)
      have hf1 := Int.emod_lt_of_pos (cellOf ns 1) (by decide : (0 : Int) < 1000000)
      have hm0 := Int.emod_nonneg (cellOf ns 2) (by decide : (1000000000001 : Int) ≠ 0)
      have hm1 := Int.emod_lt_of_pos (cellOf ns 2) (by decide : (0 : Int) < 1000000000001)
      walk_at "st"
      refine for_list (K := K) (a := D) (xs := ams.map V.int) (fun i σ H' => ∃ (ct cr : Int) (v9 v10 : Option V), σ = [some (.ref a), some (.int (cellOf ns 0 % 1000001)), some (.int (cellOf ns 1 % 1000000)), some (.int size), some (.ref D), none,
        some (.int ct), some (.int cr), some (.int (ct * 1000000 + cr)), v9, v10] ∧ 0 ≤ cr ∧ cr ≤ 999999 ∧ Same H3 H') ⟨0, cellOf ns 1 % 1000000, none, none, ?_, hf0, by omega, .refl _⟩ (fun i σ H' _ ⟨_, _, _, _, _, _, _, e⟩ => e.seq (SqL.of hD)) ?_ ?_
      · rw [show (0 : Int) * 1000000 + cellOf ns 1 % 1000000 = cellOf ns 1 % 1000000 by omega]
        rfl
      · rintro i x σ H' hx ⟨ct, cr, v9, v10, rfl, hc0, hc1, e⟩
        obtain ⟨z, hz, rfl⟩ := ints_at hx
        have hzb := hb z (List.mem_of_getElem? hz)
        walk_at "st"
        intro p np
        have e2 := e.trans (same_upd (o := .tup [.int ((z * (cellOf ns 0 % 1000001) + cr) / 1000000), .int ((z * (cellOf ns 0 % 1000001) + cr) % 1000000)]) np)
        walk_at "st"
        walk_at "st"
        refine iteB (fun h => ?_) (fun _ => ?_)
        · exact (ndec_t h (congrArg V.int (by omega))).elim
        · refine ⟨ct + (z * (cellOf ns 0 % 1000001) + cr) / 1000000, (z * (cellOf ns 0 % 1000001) + cr) % 1000000, some (.int z), some (.ref p), ?_, Int.emod_nonneg _ (by decide), ?_, e2⟩
          · rw [show (ct + (z * (cellOf ns 0 % 1000001) + cr) / 1000000) * 1000000 + (z * (cellOf ns 0 % 1000001) + cr) % 1000000 = ct * 1000000 + cr + z * (cellOf ns 0 % 1000001) by omega]
            rfl
          · have := Int.emod_lt_of_pos (z * (cellOf ns 0 % 1000001) + cr) (by decide : (0 : Int) < 1000000)
            omega
      · rintro σ H' ⟨ct, cr, v9, v10, rfl, hc0, hc1, e⟩
        have hs4 := (s13.trans e).seq hs
        walk_at "st"
        intro p np
        walk_at "st"
        intro p' np'
        have npp : p ≠ p' := fun z => by rw [← z, upd_same] at np'; cases np'
        refine ⟨_, _, .tup (SqT.of ((upd_ne npp).trans upd_same)) (.cons (.int _) (.cons (.int _) .nil)), .tup (SqT.of upd_same) (.cons (.int _) (.cons (.int _) .nil)), rfl, rfl, ?_⟩
        refine ⟨true, ?_, iteT ?_⟩
        · rw [V.bl.injEq]
          simp [PyData.eqv, PyData.eqvAll]
        walk_at "st"
        intro p2 np2
        walk_at "st"
        exact q _
end
theorem all_mk {l : PySem.W.OpenLaw} {w : World} {K : PySem.W.Frag} {h : Heap} {mg : Str → Option Value} {fa f1 f2 f3 f4 f5 f6 : Addr} (X : K.In h) (G : h.Ns mainGlobals mg) (hfa : mg "law" = some (.ref fa))
    {od1 an1 od2 an2 od3 an3 od4 an4 od5 an5 od6 an6 : Option Addr} {sl1 sl2 sl3 sl4 sl5 sl6 : Array (Option Value)} {oc1 kV1 dc1 pm1 cd1 ct1 oc2 kV2 dc2 pm2 cd2 ct2 oc3 kV3 dc3 pm3 cd3 ct3 oc4 kV4 dc4 pm4 cd4 ct4 oc5 kV5 dc5 pm5 cd5 ct5 oc6 kV6 dc6 pm6 cd6 ct6 : Value}
    (a1 : PySem.W.nsIn K mainGlobals "_check_amount" = some (some (.ref f1)))
    (l1 : K.lookup f1 = some ⟨oc1, od1, .func (PySem.W.fnOf "_check_amount" "_check_amount" (defArgs s_check_amount) (defBody s_check_amount) (defScope s_check_amount) .none kV1 dc1 pm1 an1 cd1 ct1), sl1⟩) (c1 : PySem.W.codeIn K cd1 "_check_amount" = true) (k1 : PySem.W.keepIn K (.ref f1) = true)
    (a2 : PySem.W.nsIn K mainGlobals "fee" = some (some (.ref f2)))
    {T2 : Addr} {ocT2 : Value} {odT2 : Option Addr} {slT2 : Array (Option Value)} {nT2 : Nat} {tT2_0 : Tok}
    (l2 : K.lookup f2 = some ⟨oc2, od2, .func (PySem.W.fnOf "fee" "fee" (defArgs s_fee) (defBody s_fee) (defScope s_fee) (.ref T2) kV2 dc2 pm2 an2 cd2 ct2), sl2⟩)
    (lT2 : K.lookup T2 = some ⟨ocT2, odT2, .seq #[.int 0 tT2_0] nT2, slT2⟩)
    (c2 : PySem.W.codeIn K cd2 "fee" = true) (k2 : PySem.W.keepIn K (.ref f2) = true)
    (a3 : PySem.W.nsIn K mainGlobals "_law_cell" = some (some (.ref f3)))
    (l3 : K.lookup f3 = some ⟨oc3, od3, .func (PySem.W.fnOf "_law_cell" "_law_cell" (defArgs s_law_cell) (defBody s_law_cell) (defScope s_law_cell) .none kV3 dc3 pm3 an3 cd3 ct3), sl3⟩) (c3 : PySem.W.codeIn K cd3 "_law_cell" = true) (k3 : PySem.W.keepIn K (.ref f3) = true)
    (a4 : PySem.W.nsIn K mainGlobals "_law_is_integer" = some (some (.ref f4)))
    (l4 : K.lookup f4 = some ⟨oc4, od4, .func (PySem.W.fnOf "_law_is_integer" "_law_is_integer" (defArgs s_law_is_integer) (defBody s_law_is_integer) (defScope s_law_is_integer) .none kV4 dc4 pm4 an4 cd4 ct4), sl4⟩) (c4 : PySem.W.codeIn K cd4 "_law_is_integer" = true) (k4 : PySem.W.keepIn K (.ref f4) = true)
    (a5 : PySem.W.nsIn K mainGlobals "_law_pair" = some (some (.ref f5)))
    (l5 : K.lookup f5 = some ⟨oc5, od5, .func (PySem.W.fnOf "_law_pair" "_law_pair" (defArgs s_law_pair) (defBody s_law_pair) (defScope s_law_pair) .none kV5 dc5 pm5 an5 cd5 ct5), sl5⟩) (c5 : PySem.W.codeIn K cd5 "_law_pair" = true) (k5 : PySem.W.keepIn K (.ref f5) = true)
    (a6 : PySem.W.nsIn K mainGlobals "law" = some (some (.ref f6)))
    (l6 : K.lookup f6 = some ⟨oc6, od6, .func (PySem.W.fnOf "law" "law" (defArgs s_law) (defBody s_law) (defScope s_law) .none kV6 dc6 pm6 an6 cd6 ct6), sl6⟩) (c6 : PySem.W.codeIn K cd6 "law" = true) (k6 : PySem.W.keepIn K (.ref f6) = true)
    (z_bool : PySem.W.nsIn K mainGlobals "bool" = some none)
    (z_divmod : PySem.W.nsIn K mainGlobals "divmod" = some none)
    (z_int : PySem.W.nsIn K mainGlobals "int" = some none)
    (z_isinstance : PySem.W.nsIn K mainGlobals "isinstance" = some none)
    (z_len : PySem.W.nsIn K mainGlobals "len" = some none)
    (z_tuple : PySem.W.nsIn K mainGlobals "tuple" = some none)
    {t_MOST_AMOUNT t_MILLION : Tok}
    (v_MOST_AMOUNT : PySem.W.nsIn K mainGlobals "MOST_AMOUNT" = some (some (.int 1000000000000000000 t_MOST_AMOUNT)))
    (v_MILLION : PySem.W.nsIn K mainGlobals "MILLION" = some (some (.int 1000000 t_MILLION))) :
    ∃ fd : FuncData, (∀ (s : Shared) (v : Value), BindsTo s fd ⟨[v], []⟩ [("script", v)]) ∧ ∀ base : Heap, K.In base → base.Ns mainGlobals mg → FnOk l.prog w K mg base CX0 3 fa fd ["script"] (sp_law K) := by
  have e := hfa.symm.trans (PySem.W.mg_of X G a6)
  cases e
  have F1 := fun_mk (st := s_check_amount) l1 c1 k1
  have b1 := F1.binds (ps := ["amount", "most"]) fun _ _ _ _ _ _ us hl => match us, hl with | [_, _], _ => rfl
  have F2 : FunD K "fee" "fee" (defArgs s_fee) (defBody s_fee) (defScope s_fee) [.int 0] [] f2 (PySem.W.fnOf "fee" "fee" (defArgs s_fee) (defBody s_fee) (defScope s_fee) (.ref T2) kV2 dc2 pm2 an2 cd2 ct2) := ⟨⟨_, _, _, _, _, _, _, _, _, _, rfl, l2, c2, .inr ⟨by simp, T2, _, _, _, rfl, lT2, rfl, .cons ⟨_, rfl⟩ (.nil)⟩, .inl rfl⟩, k2⟩
  have b2_0 := F2.binds1 (ps := ["amount", "rate", "carried"]) 2 0 (by simp) rfl fun _ _ _ _ _ _ _ us its h1 h2 => match us, its, h1, h2 with | [_, _], [_], _, _ => ⟨_, rfl, rfl⟩
  have b2 : Binds K (PySem.W.fnOf "fee" "fee" (defArgs s_fee) (defBody s_fee) (defScope s_fee) (.ref T2) kV2 dc2 pm2 an2 cd2 ct2) ["amount", "rate", "carried"] [] := by
    obtain ⟨ds, v, b⟩ := F2.binds1 (ps := ["amount", "rate", "carried"]) 3 1 (by simp) rfl fun _ _ _ _ _ _ _ us its h1 h2 => match us, its, h1, h2 with | [_, _, _], [_], _, _ => ⟨_, rfl, rfl⟩
    cases v
    exact b
  have F3 := fun_mk (st := s_law_cell) l3 c3 k3
  have b3 := F3.binds (ps := ["script", "k"]) fun _ _ _ _ _ _ us hl => match us, hl with | [_, _], _ => rfl
  have F4 := fun_mk (st := s_law_is_integer) l4 c4 k4
  have b4 := F4.binds (ps := ["actual"]) fun _ _ _ _ _ _ us hl => match us, hl with | [_], _ => rfl
  have F5 := fun_mk (st := s_law_pair) l5 c5 k5
  have b5 := F5.binds (ps := ["actual"]) fun _ _ _ _ _ _ us hl => match us, hl with | [_], _ => rfl
  have F6 := fun_mk (st := s_law) l6 c6 k6
  have b6 := F6.binds (ps := ["script"]) fun _ _ _ _ _ _ us hl => match us, hl with | [_], _ => rfl
  have T : Txt K mg := ⟨f1, _, F1, PySem.W.mg_of X G a1, b1, f2, _, F2, b2_0, PySem.W.mg_of X G a2, b2, f3, _, F3, PySem.W.mg_of X G a3, b3, f4, _, F4, PySem.W.mg_of X G a4, b4, f5, _, F5, PySem.W.mg_of X G a5, b5, PySem.W.mg_none_of X G z_bool, PySem.W.mg_none_of X G z_divmod, PySem.W.mg_none_of X G z_int, PySem.W.mg_none_of X G z_isinstance, PySem.W.mg_none_of X G z_len, PySem.W.mg_none_of X G z_tuple, t_MOST_AMOUNT, PySem.W.mg_of X G v_MOST_AMOUNT, t_MILLION, PySem.W.mg_of X G v_MILLION⟩
  exact ⟨PySem.W.fnOf "law" "law" (defArgs s_law) (defBody s_law) (defScope s_law) .none kV6 dc6 pm6 an6 cd6 ct6, fun s v => .of_eq rfl, fun base _ _ => ok_law T F6⟩
end FB
open PySem PySem.W PyProof.Rows
set_option maxRecDepth 100000 in
set_option maxHeartbeats 0 in
theorem PySem.Challenge.cw_fairbourse_k14_fees_of_a_run_holds : PySem.Challenge.rw_fairbourse_k14_fees_of_a_run.Holds := by
  w_on; o_law; k_head; (case hw => w_witness2)
  k_fill
  refine L2.walk_of (l := PySem.Challenge.rw_fairbourse_k14_fees_of_a_run) (n := 63) (k := 3) (x := "script") (CX := fun _ => L2.CX0) (sp := fun w => FB.sp_law _) rfl (by decide) rfl ⟨rfl, by decide, by decide⟩ (fun w h Y => PySem.W.kIn_of Y) ?F (fun _ _ a ns hl _ hS => ⟨a, ns, rfl, hS, hl, fun _ => rfl⟩) (fun _ _ _ _ _ h => h)
  case F =>
    intro w mg fa h KX G hmg
    refine' FB.all_mk KX G hmg ?a1 ?l1 ?c1 ?k1 ?a2 ?l2 ?lT2 ?c2 ?k2 ?a3 ?l3 ?c3 ?k3 ?a4 ?l4 ?c4 ?k4 ?a5 ?l5 ?c5 ?k5 ?a6 ?l6 ?c6 ?k6 ?z_bool ?z_divmod ?z_int ?z_isinstance ?z_len ?z_tuple ?v_MOST_AMOUNT ?v_MILLION
    (case a1 => k_is)
    (case l1 => k_is)
    (case c1 => k_is)
    (case k1 => k_is)
    (case a2 => k_is)
    (case l2 => k_is)
    (case lT2 => k_is)
    (case c2 => k_is)
    (case k2 => k_is)
    (case a3 => k_is)
    (case l3 => k_is)
    (case c3 => k_is)
    (case k3 => k_is)
    (case a4 => k_is)
    (case l4 => k_is)
    (case c4 => k_is)
    (case k4 => k_is)
    (case a5 => k_is)
    (case l5 => k_is)
    (case c5 => k_is)
    (case k5 => k_is)
    (case a6 => k_is)
    (case l6 => k_is)
    (case c6 => k_is)
    (case k6 => k_is)
    (case z_bool => k_is)
    (case z_divmod => k_is)
    (case z_int => k_is)
    (case z_isinstance => k_is)
    (case z_len => k_is)
    (case z_tuple => k_is)
    (case v_MOST_AMOUNT => k_is)
    (case v_MILLION => k_is)
#print axioms PySem.Challenge.cw_fairbourse_k14_fees_of_a_run_holds
