import PyProof.Rows.All
import Wide.All
import OpenK.AllK
import Wide.FinOn
import HandS.ForMost
import HandS.ForExc
import HandS.Defaults
import HandS.IsInst
import HandS.Wide
import HandS.Codes
import HandS.Walk
import HandS.SetFor
import HandS.More
import HandS.Conv
import KE.DataFind
import HandS.ExcIs
import HandS.MakeKwOnly
import HandS.CallSlots
import HandS.Lambda
import HandS.EndTab
import HandS.SetFor
import HandS.Strs
import PyProof.Rows.SetFrom
import KE.DataMinMax
import HandS.Deep
import HandS.SortKw
import KE.SortKeyHeap
import HandS.ListItems
import PySem.Challenge.RW_fairbourse_k34_errors_of_a_call
set_option Elab.async false
set_option linter.all false
set_option maxRecDepth 100000
namespace FB
open PySem PySem.Spec PyProof.Rows L2
def topS (i : Nat) : Stmt := PySem.Challenge.pw_fairbourse_k34_errors_of_a_call.main.body.getD i (.Pass ⟨0, 0, 0, 0⟩)
abbrev s_pair_off : Stmt := topS 1
abbrev N_pair_off : List Str := ["givers", "takers", "pairs", "wanted", "_", "amount", "at", "giver", "rest", "part"]
theorem sc_pair_off : FnScope N_pair_off ["givers", "takers"] (defScope s_pair_off) := ⟨rfl, rfl, rfl, by decide +kernel, rfl, by decide +kernel, by decide +kernel⟩
abbrev s_is_integral : Stmt := topS 6
abbrev N_is_integral : List Str := ["value"]
theorem sc_is_integral : FnScope N_is_integral ["value"] (defScope s_is_integral) := ⟨rfl, rfl, rfl, by decide +kernel, rfl, by decide +kernel, by decide +kernel⟩
abbrev s_is_within : Stmt := topS 7
abbrev N_is_within : List Str := ["least", "most", "value"]
theorem sc_is_within : FnScope N_is_within ["least", "most", "value"] (defScope s_is_within) := ⟨rfl, rfl, rfl, by decide +kernel, rfl, by decide +kernel, by decide +kernel⟩
abbrev s_accepts : Stmt := topS 11
abbrev N_accepts : List Str := ["side", "limit", "price"]
theorem sc_accepts : FnScope N_accepts ["side", "limit", "price"] (defScope s_accepts) := ⟨rfl, rfl, rfl, by decide +kernel, rfl, by decide +kernel, by decide +kernel⟩
abbrev s_check_side : Stmt := topS 12
abbrev N_check_side : List Str := ["side"]
theorem sc_check_side : FnScope N_check_side ["side"] (defScope s_check_side) := ⟨rfl, rfl, rfl, by decide +kernel, rfl, by decide +kernel, by decide +kernel⟩
abbrev s_check_number : Stmt := topS 13
abbrev N_check_number : List Str := ["number", "least", "most"]
theorem sc_check_number : FnScope N_check_number ["number", "least", "most"] (defScope s_check_number) := ⟨rfl, rfl, rfl, by decide +kernel, rfl, by decide +kernel, by decide +kernel⟩
abbrev s_check_price : Stmt := topS 14
abbrev N_check_price : List Str := ["price"]
theorem sc_check_price : FnScope N_check_price ["price"] (defScope s_check_price) := ⟨rfl, rfl, rfl, by decide +kernel, rfl, by decide +kernel, by decide +kernel⟩
abbrev s_check_quantity : Stmt := topS 15
abbrev N_check_quantity : List Str := ["quantity"]
theorem sc_check_quantity : FnScope N_check_quantity ["quantity"] (defScope s_check_quantity) := ⟨rfl, rfl, rfl, by decide +kernel, rfl, by decide +kernel, by decide +kernel⟩
abbrev s_call_price : Stmt := topS 17
abbrev N_call_price : List Str := ["orders", "reference", "prices", "bought", "sold", "ranks", "price", "best"]
theorem sc_call_price : FnScope N_call_price ["orders", "reference"] (defScope s_call_price) := ⟨rfl, rfl, rfl, by decide +kernel, rfl, by decide +kernel, by decide +kernel⟩
abbrev s_uncross : Stmt := topS 18
abbrev N_uncross : List Str := ["orders", "reference", "price", "volume", "bought", "sold", "trades"]
theorem sc_uncross : FnScope N_uncross ["orders", "reference"] (defScope s_uncross) := ⟨rfl, rfl, rfl, by decide +kernel, rfl, by decide +kernel, by decide +kernel⟩
abbrev s_check_call : Stmt := topS 19
abbrev N_check_call : List Str := ["orders", "reference", "_", "side", "price", "quantity"]
theorem sc_check_call : FnScope N_check_call ["orders", "reference"] (defScope s_check_call) := ⟨rfl, rfl, rfl, by decide +kernel, rfl, by decide +kernel, by decide +kernel⟩
abbrev s_candidates : Stmt := topS 20
abbrev N_candidates : List Str := ["orders", "reference", "limits", "_", "side", "price", "bounds", "beyond", "least", "most"]
theorem sc_candidates : FnScope N_candidates ["orders", "reference"] (defScope s_candidates) := ⟨rfl, rfl, rfl, by decide +kernel, rfl, by decide +kernel, by decide +kernel⟩
abbrev s_rank : Stmt := topS 21
abbrev N_rank : List Str := ["side", "price"]
theorem sc_rank : FnScope N_rank ["side", "price"] (defScope s_rank) := ⟨rfl, rfl, rfl, by decide +kernel, rfl, by decide +kernel, by decide +kernel⟩
abbrev s_ranked : Stmt := topS 22
abbrev N_ranked : List Str := ["orders", "side", "rows", "number", "_", "of_side", "price", "quantity"]
theorem sc_ranked : FnScope N_ranked ["orders", "side"] (defScope s_ranked) := ⟨rfl, rfl, rfl, by decide +kernel, rfl, by decide +kernel, by decide +kernel⟩
abbrev s_interests : Stmt := topS 23
abbrev N_interests : List Str := ["orders", "side", "prices", "ranked", "interests", "interest", "at", "price"]
theorem sc_interests : FnScope N_interests ["orders", "side", "prices"] (defScope s_interests) := ⟨rfl, rfl, rfl, by decide +kernel, rfl, by decide +kernel, by decide +kernel⟩
abbrev s_served : Stmt := topS 24
abbrev N_served : List Str := ["orders", "side", "volume", "served", "rest", "number", "_", "quantity"]
theorem sc_served : FnScope N_served ["orders", "side", "volume"] (defScope s_served) := ⟨rfl, rfl, rfl, by decide +kernel, rfl, by decide +kernel, by decide +kernel⟩
abbrev s_left : Stmt := topS 25
abbrev N_left : List Str := ["orders", "traded", "left", "number", "house", "side", "price", "quantity", "rest"]
theorem sc_left : FnScope N_left ["orders", "traded"] (defScope s_left) := ⟨rfl, rfl, rfl, by decide +kernel, rfl, by decide +kernel, by decide +kernel⟩
abbrev s_law_raises : Stmt := topS 27
abbrev N_law_raises : List Str := ["orders", "reference", "count", "e"]
theorem sc_law_raises : FnScope N_law_raises ["orders", "reference"] (defScope s_law_raises) := ⟨rfl, rfl, rfl, by decide +kernel, rfl, by decide +kernel, by decide +kernel⟩
abbrev s_law_spoil : Stmt := topS 28
abbrev N_law_spoil : List Str := ["order", "cell", "number", "house", "side", "price", "quantity", "step"]
theorem sc_law_spoil : FnScope N_law_spoil ["order", "cell"] (defScope s_law_spoil) := ⟨rfl, rfl, rfl, by decide +kernel, rfl, by decide +kernel, by decide +kernel⟩
abbrev s_law : Stmt := topS 29
abbrev N_law : List Str := ["script", "orders", "k", "cell", "side", "place", "bad"]
theorem sc_law : FnScope N_law ["script"] (defScope s_law) := ⟨rfl, rfl, rfl, by decide +kernel, rfl, by decide +kernel, by decide +kernel⟩
set_option maxHeartbeats 0 in
structure Txt (K : PySem.W.Frag) (mg : Str → Option Value) where
  f_pair_off : Addr
  d_pair_off : FuncData
  F_pair_off : Fun K "pair_off" "pair_off" s_pair_off f_pair_off d_pair_off
  m_pair_off : mg "pair_off" = some (.ref f_pair_off)
  b_pair_off : Binds K d_pair_off ["givers", "takers"] []
  f_is_integral : Addr
  d_is_integral : FuncData
  F_is_integral : Fun K "is_integral" "is_integral" s_is_integral f_is_integral d_is_integral
  m_is_integral : mg "is_integral" = some (.ref f_is_integral)
  b_is_integral : Binds K d_is_integral ["value"] []
  f_is_within : Addr
  d_is_within : FuncData
  F_is_within : Fun K "is_within" "is_within" s_is_within f_is_within d_is_within
  m_is_within : mg "is_within" = some (.ref f_is_within)
  b_is_within : Binds K d_is_within ["least", "most", "value"] []
  f_accepts : Addr
  d_accepts : FuncData
  F_accepts : Fun K "accepts" "accepts" s_accepts f_accepts d_accepts
  m_accepts : mg "accepts" = some (.ref f_accepts)
  b_accepts : Binds K d_accepts ["side", "limit", "price"] []
  f_check_side : Addr
  d_check_side : FuncData
  F_check_side : Fun K "check_side" "check_side" s_check_side f_check_side d_check_side
  m_check_side : mg "check_side" = some (.ref f_check_side)
  b_check_side : Binds K d_check_side ["side"] []
  f_check_number : Addr
  d_check_number : FuncData
  F_check_number : Fun K "check_number" "check_number" s_check_number f_check_number d_check_number
  m_check_number : mg "check_number" = some (.ref f_check_number)
  b_check_number : Binds K d_check_number ["number", "least", "most"] []
  f_check_price : Addr
  d_check_price : FuncData
  F_check_price : Fun K "check_price" "check_price" s_check_price f_check_price d_check_price
  m_check_price : mg "check_price" = some (.ref f_check_price)
  b_check_price : Binds K d_check_price ["price"] []
  f_check_quantity : Addr
  d_check_quantity : FuncData
  F_check_quantity : Fun K "check_quantity" "check_quantity" s_check_quantity f_check_quantity d_check_quantity
  m_check_quantity : mg "check_quantity" = some (.ref f_check_quantity)
  b_check_quantity : Binds K d_check_quantity ["quantity"] []
  f_call_price : Addr
  d_call_price : FuncData
  F_call_price : Fun K "call_price" "call_price" s_call_price f_call_price d_call_price
  m_call_price : mg "call_price" = some (.ref f_call_price)
  b_call_price : Binds K d_call_price ["orders", "reference"] []
  f_uncross : Addr
  d_uncross : FuncData
  F_uncross : Fun K "uncross" "uncross" s_uncross f_uncross d_uncross
  m_uncross : mg "uncross" = some (.ref f_uncross)
  b_uncross : Binds K d_uncross ["orders", "reference"] []
  f_check_call : Addr
  d_check_call : FuncData
  F_check_call : Fun K "_check_call" "_check_call" s_check_call f_check_call d_check_call
  m_check_call : mg "_check_call" = some (.ref f_check_call)
  b_check_call : Binds K d_check_call ["orders", "reference"] []
  f_candidates : Addr
  d_candidates : FuncData
  F_candidates : Fun K "_candidates" "_candidates" s_candidates f_candidates d_candidates
  m_candidates : mg "_candidates" = some (.ref f_candidates)
  b_candidates : Binds K d_candidates ["orders", "reference"] []
  f_rank : Addr
  d_rank : FuncData
  F_rank : Fun K "_rank" "_rank" s_rank f_rank d_rank
  m_rank : mg "_rank" = some (.ref f_rank)
  b_rank : Binds K d_rank ["side", "price"] []
  f_ranked : Addr
  d_ranked : FuncData
  F_ranked : Fun K "_ranked" "_ranked" s_ranked f_ranked d_ranked
  m_ranked : mg "_ranked" = some (.ref f_ranked)
  b_ranked : Binds K d_ranked ["orders", "side"] []
  f_interests : Addr
  d_interests : FuncData
  F_interests : Fun K "_interests" "_interests" s_interests f_interests d_interests
  m_interests : mg "_interests" = some (.ref f_interests)
  b_interests : Binds K d_interests ["orders", "side", "prices"] []
  f_served : Addr
  d_served : FuncData
  F_served : Fun K "_served" "_served" s_served f_served d_served
  m_served : mg "_served" = some (.ref f_served)
  b_served : Binds K d_served ["orders", "side", "volume"] []
  f_left : Addr
  d_left : FuncData
  F_left : Fun K "_left" "_left" s_left f_left d_left
  m_left : mg "_left" = some (.ref f_left)
  b_left : Binds K d_left ["orders", "traded"] []
  f_law_raises : Addr
  d_law_raises : FuncData
  F_law_raises : Fun K "_law_raises" "_law_raises" s_law_raises f_law_raises d_law_raises
  m_law_raises : mg "_law_raises" = some (.ref f_law_raises)
  b_law_raises : Binds K d_law_raises ["orders", "reference"] []
  f_law_spoil : Addr
  d_law_spoil : FuncData
  F_law_spoil : Fun K "_law_spoil" "_law_spoil" s_law_spoil f_law_spoil d_law_spoil
  m_law_spoil : mg "_law_spoil" = some (.ref f_law_spoil)
  b_law_spoil : Binds K d_law_spoil ["order", "cell"] []
  c_BourseError : Addr
  m_BourseError : mg "BourseError" = some (.ref c_BourseError)
  c_InvalidOrder : Addr
  m_InvalidOrder : mg "InvalidOrder" = some (.ref c_InvalidOrder)
  x_InvalidOrder : PySem.W.excIn K c_InvalidOrder [.type "ValueError", .type "Exception", .type "BaseException", .type "object"] "ValueError.__new__" = true
  k_InvalidOrder : PySem.W.keepIn K (.ref c_InvalidOrder) = true
  b_InvalidOrder : PySem.W.subIn K (.ref c_InvalidOrder) (.type "BaseException") = some true
  t_InvalidOrder : PySem.W.typeIn K (.ref c_InvalidOrder) = some (.type "type")
  d_InvalidOrder : PySem.W.hasDictIn K c_InvalidOrder = true
  s_InvalidOrder : PySem.W.subIn K (.ref c_InvalidOrder) (.ref c_InvalidOrder) = some true
  eg_InvalidOrder : PySem.W.findIn K (.ref c_InvalidOrder) "__getattribute__" = some (some (.builtin "BaseException.__getattribute__"))
  ek_InvalidOrder : PySem.W.findIn K (.ref c_InvalidOrder) "__getattr__" = some none
  ea_InvalidOrder : PySem.W.findIn K (.ref c_InvalidOrder) "__class__" = some (some (.builtin "object.__class__"))
  en_InvalidOrder : PySem.W.specialIn K (.builtin "object.__class__") "__get__" = some (some (.builtin "getset_descriptor.__get__"))
  et_InvalidOrder : PySem.W.takesIn K (.builtin "object.__class__") = some true
  em_InvalidOrder : PySem.W.mroIn K c_InvalidOrder (.type "object") = some true
  e_InvalidOrder : ExcC K c_InvalidOrder
  kt_InvalidOrder_BourseError : PySem.W.kitOne K (.ref c_InvalidOrder) (.ref c_BourseError) = some true
  z_abs : mg "abs" = none
  z_bool : mg "bool" = none
  z_enumerate : mg "enumerate" = none
  z_int : mg "int" = none
  z_isinstance : mg "isinstance" = none
  z_len : mg "len" = none
  z_list : mg "list" = none
  z_max : mg "max" = none
  z_min : mg "min" = none
  z_set : mg "set" = none
  z_sorted : mg "sorted" = none
  c_SIDES : Addr
  m_SIDES : mg "SIDES" = some (.ref c_SIDES)
  q_SIDES : ∀ H : Hp, SqT K H c_SIDES [.str "buy", .str "sell"]
  t_MOST : Tok
  m_MOST : mg "MOST" = some (.int 1000000 t_MOST)
  cq_ranked : Addr
  pq_ranked : Addr
  eq_ranked : d_ranked.code = .ref cq_ranked
  cq_interests : Addr
  pq_interests : Addr
  eq_interests : d_interests.code = .ref cq_interests
  nq_ranked_interests : pq_ranked ≠ pq_interests
/-- the code objects' tables and the names in them -/
def tabsL {K : PySem.W.Frag} {mg : Str → Option Value} (T : Txt K mg) : List (Addr × Str) := [(T.pq_ranked, ("_ranked" : Str) ++ ".<locals>." ++ "<lambda>"), (T.pq_interests, ("_interests" : Str) ++ ".<locals>." ++ "<lambda>")]
class TabsOk {K : PySem.W.Frag} {mg : Str → Option Value} (T : Txt K mg) (base : Heap) : Prop where
  tb_ranked : LamX.TabB base mg T.cq_ranked T.pq_ranked
  tb_interests : LamX.TabB base mg T.cq_interests T.pq_interests
theorem tabsU_ranked {K : PySem.W.Frag} {mg : Str → Option Value} (T : Txt K mg) : ∀ p ∈ tabsL T, p.1 = T.pq_ranked → p.2 = ("_ranked" : Str) ++ ".<locals>." ++ "<lambda>" := by
  intro p hp e
  rcases List.mem_cons.mp hp with z | hp
  · subst z
    exact rfl
  rcases List.mem_cons.mp hp with z | hp
  · subst z
    exact absurd e.symm T.nq_ranked_interests
  exact absurd hp List.not_mem_nil
theorem tabsU_interests {K : PySem.W.Frag} {mg : Str → Option Value} (T : Txt K mg) : ∀ p ∈ tabsL T, p.1 = T.pq_interests → p.2 = ("_interests" : Str) ++ ".<locals>." ++ "<lambda>" := by
  intro p hp e
  rcases List.mem_cons.mp hp with z | hp
  · subst z
    exact absurd e T.nq_ranked_interests
  rcases List.mem_cons.mp hp with z | hp
  · subst z
    exact rfl
  exact absurd hp List.not_mem_nil
/-! ### a lambda with one parameter -/
section
open LamX
/-- the names of a lambda: its one parameter a, captured ones and globals -/
structure LamP (up sc : Scope) (a : Str) : Prop where
  fn : sc.kind = .function
  nco : sc.isCoroutine = false
  ngen : sc.isGenerator = false
  par : sc.names.lookup a = some .local
  loc : ∀ y ∈ sc.names, y.2 = .local → y.1 = a
  nocell : ∀ y ∈ sc.names, y.2 ≠ .cell
  cap : ∀ y ∈ sc.names, y.2 = .free → up.names.lookup y.1 = some .cell ∨ up.names.lookup y.1 = some .free
def lamPB (up sc : Scope) (a : Str) : Bool :=
  decide (sc.kind = .function) && (!sc.isCoroutine && (!sc.isGenerator && (decide (sc.names.lookup a = some .local) && sc.names.all fun y => (!decide (y.2 = .local) || decide (y.1 = a)) && (!decide (y.2 = .cell) && (!decide (y.2 = .free) || (decide (up.names.lookup y.1 = some .cell) || decide (up.names.lookup y.1 = some .free)))))))
theorem lamP_by {up sc : Scope} {a : Str} (h : lamPB up sc a = true) : LamP up sc a := by
  unfold lamPB at h
  simp only [Bool.and_eq_true, Bool.or_eq_true, Bool.not_eq_true', decide_eq_true_eq, decide_eq_false_iff_not, List.all_eq_true] at h
  obtain ⟨q1, q2, q3, q4, q5⟩ := h
  refine ⟨q1, q2, q3, q4, fun y hy e => ?_, fun y hy => (q5 y hy).2.1, fun y hy e => ?_⟩
  · rcases (q5 y hy).1 with z | z
    · exact absurd e z
    · exact z
  · rcases (q5 y hy).2.2 with z | z
    · exact absurd e z
    · exact z
theorem LamP.caps {X : Cx} {sc : Scope} {a : Str} (L : LamP X.env.scope sc a) (ok : X.Ok) : ∀ y ∈ sc.names, y.2 = .free → ∃ c, X.env.cells.lookup y.1 = some c := fun y hy e => ok.has _ (L.cap y hy e)
/-- the context of its body, entered at s from the frames out -/
def lamCxP (X : Cx) (A : Around) (out : List Env) (s : Shared) (H : Hp) (E : XK) (sc : Scope) (a : Str) (f c' : Addr) : Cx where
  prog := X.prog
  w := X.w
  K := X.K
  mg := X.mg
  base := X.base
  A := A.deeper (lamEnv X sc s.heap.objs.size f c')
  N := X.N ++ [a]
  s_0 := s
  H_0 := H
  env := lamEnv X sc s.heap.objs.size f c'
  outer := out
  stack := lamEnv X sc s.heap.objs.size f c' :: out
  ex := []
  fn := fun _ => false
  calm := true
  pn := []
  xe := fun e s2 => wpAny (model X.prog X.w) (A.deeper (lamEnv X sc s.heap.objs.size f c')) (leaving (lamEnv X sc s.heap.objs.size f c') e) (fun _ s3 => L2.CX X.prog X.w out H s E e s3) (fun e' s3 => L2.CX X.prog X.w out H s E e' s3) s2
variable {X : Cx} {pins : List (Addr × Obj)} {σ : L2.St} {H HZ : Hp} {s s1 : Shared}
theorem lamP_start {A : Around} {out : List Env} {E : XK} {sc : Scope} {a : Str} {f c' : Addr} {g : Heap} {tk : Nat} {v : V} {u : Value} (I : Inv X pins σ H s) (L : LamP X.env.scope sc a) (na : X.N.all (fun y => decide (y ≠ a)) = true) (e0 : Env0 X.prog X.w X.K X.mg X.base A out s1 HZ) (hd : A.handled = none) (rv : L2.RelV v u)
    (un : Un (frs X.stack) [] H HZ s.heap s1.heap) (hns : g.Ns s1.heap.objs.size fun y => [(a, u)].reverse.lookup y) (kp : ∀ b o, s1.heap.get? b = some o → g.get? b = some o) :
    Inv (lamCxP X A out s1 HZ E sc a f c') [] (σ ++ [some v]) HZ { s1 with heap := g, toks := tk } := by
  have caps := L.caps I.ok
  have inCells : ∀ {y c}, (cloFrom X.env.cells sc.names []).lookup y = some c → X.env.cells.lookup y = some c := fun {y c} e => by
    rcases cloFrom_mem (PySem.mem_of_lookup e) with k | ⟨k1, k2⟩
    · cases k
    · obtain ⟨c1, z⟩ := caps _ k1 rfl
      have z : X.env.cells.lookup y = some c1 := z
      have same : c = c1 := by
        rw [k2, z] <;> rfl
      rw [same]
      exact z
  have found : ∀ {y}, sc.names.lookup y = some .free → ∃ c, (cloFrom X.env.cells sc.names []).lookup y = some c := fun {y} k => by
    have ky : (y, NameKind.free) ∈ sc.names := PySem.mem_of_lookup k
    exact mem_lookup (cloFrom_has (cells := X.env.cells) (acc := []) ky)
  have cells : ∀ {c : Addr} {x : Option Value}, H c = none → s.heap.IsCell c x → g.IsCell c x := fun {c x} k ⟨o, k1, k2⟩ => by
    obtain ⟨sl, z⟩ := un.any k1 k (by simp)
    exact ⟨_, kp _ _ z, k2⟩
  have exA : ∀ b : Addr, b ∉ (lamCxP X A out s1 HZ E sc a f c').ex := fun b z => absurd (show b ∈ ([] : List Addr) from z) (by simp)
  refine ⟨⟨e0.mod, L.fn, rfl, rfl, Nat.le_refl _, fun y z c k1 k2 => I.ok.inj y z c (inCells k1) (inCells k2), fun y k => ?_, fun y c z _ => ?_, fun _ => hd, Around.frames_deeper e0.frames, .inr ⟨rfl, rfl⟩, fun b z => absurd z (exA b), e0.bs, e0.bsz, fun b _ _ => exA b,
      fun b z => absurd z (exA b), e0.funs, e0.frf⟩,
    rfl, e0.bare, Un.kept kp, ⟨_, hns, fun i y x k1 k2 k3 => ?_⟩, fun y c k => ?_, e0.hok.fresh (Nat.le_refl _), fun y c k => ?_, fun q k => absurd (show q ∈ ([] : List (Addr × Obj)) ++ [] from k) (by simp), e0.hok.kept kp, by show (σ ++ [some v]).length = (X.N ++ [a]).length; rw [List.length_append, List.length_append, I.len]; rfl⟩
  · have k : sc.names.lookup y = some .cell ∨ sc.names.lookup y = some .free := k
    rcases k with k | k
    · exact absurd rfl (L.nocell _ (PySem.mem_of_lookup k))
    · exact found k
  · have z : false = true := z
    cases z
  · have k1 : (X.N ++ [a])[i]? = some y := k1
    have k3 : Vis sc y := k3
    have hlen : σ.length = X.N.length := I.len
    by_cases hi : i < X.N.length
    · rw [List.getElem?_append_left hi] at k1
      rw [List.getElem?_append_left (by omega)] at k2
      have hya : y ≠ a := of_decide_eq_true (List.all_eq_true.mp na y (List.mem_of_getElem? k1))
      rcases k3 with k | k | k
      · exact absurd (L.loc _ (PySem.mem_of_lookup k) rfl) hya
      · exact absurd rfl (L.nocell _ (PySem.mem_of_lookup k))
      · obtain ⟨m, _, hl⟩ := I.loc
        have vis : Vis X.env.scope y := (L.cap _ (PySem.mem_of_lookup k) rfl).elim (fun z => .inr (.inl z)) (fun z => .inr (.inr z))
        obtain ⟨w', r, q⟩ := hl i y x k1 k2 vis
        obtain ⟨c2, h2⟩ := found k
        refine ⟨w', r, .inr ⟨.inr k, c2, h2, ?_⟩⟩
        have c1 := inCells h2
        rcases q with ⟨k', _⟩ | ⟨_, c3, e', z⟩
        · have k' : X.env.scope.names.lookup y = some .local := k'
          rcases L.cap _ (PySem.mem_of_lookup k) rfl with k2 | k2 <;> rw [show X.env.scope.names.lookup y = _ from k2] at k' <;> cases k'
        · rw [c1] at e'
          cases e'
          exact cells (I.freeC y _ c1) z
    · rw [List.getElem?_append_right (by omega)] at k1 k2
      have hi1 := (List.getElem?_eq_some_iff.mp k1).1
      rw [List.length_cons, List.length_nil] at hi1
      rw [show i - X.N.length = 0 by omega] at k1
      rw [show i - σ.length = 0 by omega] at k2
      obtain rfl := Option.some.inj k1
      obtain rfl := Option.some.inj (Option.some.inj k2)
      exact ⟨u, rv, .inl ⟨L.par, by simp [List.lookup]⟩⟩
  · obtain ⟨w', z⟩ := I.cell y c (inCells k)
    exact ⟨w', cells (I.freeC y c (inCells k)) z⟩
  · obtain ⟨x, o, k1, k2⟩ := I.cell y c (inCells k)
    exact un.free c o k1 (I.freeC y c (inCells k)) (by simp)
/-- f(v), f the lambda: from any later state -/
theorem lamP_run {A : Around} {sc : Scope} {a : Str} {f c' : Addr} {pm ctv : Value} {params : Arguments} {body : Expr} {k : Nat} {E : XK} {tb : TE} {v : V} {u : Value} {Q : VK}
    (I : Inv X pins σ H s) (L : LamP X.env.scope sc a) (na : X.N.all (fun y => decide (y ≠ a)) = true) (e0 : Env0 X.prog X.w X.K X.mg X.base A X.stack s1 HZ) (un : Un (frs X.stack) [] H HZ s.heap s1.heap) (rv : L2.RelV v u) (hr : Room (k + 1) A)
    (hf : s1.heap.get? f = some (PySem.W.kla_obj "<lambda>" (X.env.qual ++ "<lambda>") params body sc (cloFrom X.env.cells sc.names []) pm c' ctv)) (hc : HZ c' = some (CodeO c' (X.env.qual ++ "<lambda>")))
    (hbind : bindArgs (PySem.W.kla_fn "<lambda>" (X.env.qual ++ "<lambda>") params body sc (cloFrom X.env.cells sc.names []) pm (.ref c') ctv) ⟨[u], []⟩ = pure [(a, u)])
    (hbody : ∀ (s : Shared) (H : Hp), Room k (A.deeper (lamEnv X sc s.heap.objs.size f c')) → PE (lamCxP X A X.stack s H E sc a f c') body tb) (lim : s1.heap.NoLimit)
    (ht : tb (σ ++ [some v]) HZ Q) : codeAny (model X.prog X.w) A (.call (.ref f) ⟨[u], []⟩) (CR (L2.CX X.prog X.w) X.stack X.prog X.w HZ s1 Q E) s1 := by
  obtain ⟨⟨oc, xs, t, hoc, hdc, hvc⟩, _, _⟩ := e0.hok c' _ hc
  refine PySem.W.kla_callFunE hr.depth hf rfl L.nco L.ngen rfl ⟨c', oc, xs, t, rfl, hoc, hdc, hvc⟩ ?_
  rw [hbind]
  refine wpAny_pure (wpAny_newFunctionEnv (fun y hy => L.nocell y hy) (fun y hy => ?_) (fun g hns hsb => ⟨lim.fresh _ hsb, ?_⟩) L.fn)
  · rw [List.mem_singleton.mp hy]
    exact L.par
  show codeAny _ _ (.expr body (lamEnv X sc s1.heap.objs.size f c')) _ _
  have kp : ∀ b o, s1.heap.get? b = some o → g.get? b = some o := fun b o e => hsb.extBut b o (Nat.ne_of_lt (Heap.lt_size e)) (Heap.get?_push_of_some _ e)
  have J : Inv (lamCxP X A X.stack s1 HZ E sc a f c') [] (σ ++ [some v]) HZ { s1 with heap := g, toks := s1.toks + [(a, u)].length } := lamP_start I L na e0 hr.hd rv un hns kp
  refine PySem.W.kla_codeExpr (wpAny_mono ((hbody s1 HZ (hr.deeper _)).run [] _ _ HZ Q J ht) (fun x s2 q => ?_) fun e s2 q => q)
  obtain ⟨w', H2, J2, r2, q⟩ := q
  exact ⟨w', H2, J2.os, J2.bare, J2.base, J2.hok, r2, q⟩
end

/-! ### sorted(xs, key=lambda ..): the keys are pairs of numbers -/
section
open LamX
variable {X : Cx} {pins : List (Addr × Obj)} {σ : L2.St} {H : Hp} {s : Shared}
/-- a place that the sort itself has made -/
structure Mine (X : Cx) (pins : List (Addr × Obj)) (b : Addr) : Prop where
  new : X.s_0.heap.objs.size ≤ b
  loc : b ≠ X.env.locals
  cell : ∀ x c, X.env.cells.lookup x = some c → c ≠ b
  pin : ∀ q ∈ X.pn ++ pins, q.1 ≠ b
  fr : b ∉ frs X.stack
theorem mine_of (I : Inv X pins σ H s) {b : Addr} (hb : s.heap.objs.size ≤ b) : Mine X pins b := by
  refine ⟨Nat.le_trans I.sz hb, Nat.ne_of_gt (Nat.lt_of_lt_of_le I.lt hb), fun x c e => ?_, fun q hq => ?_, fun z => ?_⟩
  · obtain ⟨v, o, ho, _⟩ := I.cell x c e
    exact Nat.ne_of_lt (Nat.lt_of_lt_of_le (Heap.lt_size ho) hb)
  · exact Nat.ne_of_lt (Nat.lt_of_lt_of_le (Heap.lt_size (I.pin q hq).1) hb)
  · rcases List.mem_cons.mp (I.stkSub _ z) with k | k
    · exact absurd k (Nat.ne_of_gt (Nat.lt_of_lt_of_le I.lt hb))
    · exact I.nofs hb k
def NoX : XK := fun _ _ _ => False
theorem noX_elim {out : List Env} {s1 s2 : Shared} {e : Value} (h : L2.CX X.prog X.w out H s1 NoX e s2) : False := by
  obtain ⟨_, _, _, _, _, _, _, _, _, _, _, _, _, _, _, _, z⟩ := h
/-- one of the sort's own objects is written -/
theorem inv_mine {b : Addr} {g : Heap} {tk : Nat} (I : Inv X pins σ H s) (M : Mine X pins b) (nb : H b = none) (k : ∀ c o, c ≠ b → s.heap.get? c = some o → g.get? c = some o) : Inv X pins σ H { s with heap := g, toks := tk } := by
  refine I.step (g' := s.gens) (d' := s.drawn) (ch := [b]) (fun c hc => ?_) (fun c o _ _ hc e _ => k c o (fun z => hc (List.mem_singleton.mpr z)) e) (fun c o _ _ hc e _ => ⟨o.slots, k c o (fun z => hc (List.mem_singleton.mpr z)) e⟩)
    (fun c o _ _ n => n) (fun c o hc e => ⟨o, k c o (fun z => hc (List.mem_singleton.mpr z)) e⟩) (fun c xs e => e) (fun c o u e => e) (fun c ps e => ⟨#[], by rw [e, Array.append_empty]⟩) (fun m hm => ?_) (fun c o e => ?_) I.bare
  · rw [List.mem_singleton.mp hc]
    exact ⟨.inr M.new, M.loc, M.cell, M.pin⟩
  · obtain ⟨o, es, ep, ho, r⟩ := hm
    exact ⟨o, es, ep, k _ o (Ne.symm M.loc) ho, r⟩
  · refine (I.hok c o e).stay (fun d u hd q => k d u (fun z => ?_) q) (fun d q => q) fun d xs q => q
    rcases hd with w | w
    · rw [← w, z, nb] at e
      cases e
    · rw [z, nb] at w
      cases w
def pairD (k : Int × Int) : PyData := .tuple [.int k.1, .int k.2]
/-- what a key is: a pair of numbers -/
def PairAt (H : Hp) (k : Int × Int) (y : V) : Prop := ∃ t : Addr, y = .ref t ∧ H t = some (.tup [.int k.1, .int k.2])
theorem PairAt.same {H H' : Hp} {k : Int × Int} {y : V} (h : PairAt H k y) (e : Same H H') : PairAt H' k y := by
  obtain ⟨t, h1, h2⟩ := h
  exact ⟨t, h1, e _ _ h2⟩
theorem PairAt.reads {H : Hp} {k : Int × Int} {y : V} {v : Value} {P : Program} {w : World} {h : Heap} (q : PairAt H k y) (hok : HOk P w H h) (r : L2.RelV y v) : Reads h v (pairD k) [] := by
  obtain ⟨t, rfl, h2⟩ := q
  obtain rfl : v = Value.ref t := r
  obtain ⟨_, its, rv, o, ho, hcl, n, hd⟩ := hok t _ h2
  obtain ⟨u1, u2, rfl, e1, e2⟩ := vals2 rv
  obtain ⟨t1, rfl⟩ : ∃ t1, u1 = Value.int k.1 t1 := e1
  obtain ⟨t2, rfl⟩ : ∃ t2, u2 = Value.int k.2 t2 := e2
  exact .tuple ho hcl hd (.cons (.int _ _) (.cons (.int _ _) .nil))
theorem each_ix {α β : Type} {R : α → β → Prop} : ∀ {as : List α} {bs : List β}, as.length = bs.length → (∀ (i : Nat) (a : α) (b : β), as[i]? = some a → bs[i]? = some b → R a b) → PySem.W.EachIs R as bs
  | [], [], _, _ => .nil
  | [], _ :: _, h, _ => by cases h
  | _ :: _, [], h, _ => by cases h
  | a :: as, b :: bs, h, e => .cons (e 0 a b rfl rfl) (each_ix (Nat.succ.inj h) fun i a' b' h1 h2 => e (i + 1) a' b' h1 h2)
theorem each_vals : ∀ {us : List Value} {xs : List V}, PySem.W.EachIs (fun v x => L2.RelV x v) us xs → Vals xs us
  | _, _, .nil => .nil
  | _, _, .cons h t => .cons h (each_vals t)
theorem vals_each : ∀ {xs : List V} {us : List Value}, Vals xs us → PySem.W.EachIs (fun v x => L2.RelV x v) us xs
  | _, _, .nil => .nil
  | _, _, .cons h t => .cons h (vals_each t)
theorem pair_alike {ks : List (Int × Int)} : PySem.W.AllAlike (ks.map pairD) := by
  intro d hd d' hd'
  obtain ⟨x, _, rfl⟩ := List.mem_map.mp hd
  obtain ⟨y, _, rfl⟩ := List.mem_map.mp hd'
  simp [pairD, PySem.W.alike, PySem.W.alikeAll]
theorem pair_sortable {ks : List (Int × Int)} : PySem.W.Sortable (ks.map pairD) := .inl fun d hd => by
  obtain ⟨x, _, rfl⟩ := List.mem_map.mp hd
  exact ⟨_, _, rfl⟩
/-- the sort's end: the keys' list is let go, the result stands -/
theorem inv_sorted {p kS : Addr} {g : Heap} {tk : Nat} {c : Nat} {out : List Value} {zs : List V} (I : L2.Inv X pins σ H s) (Mp : Mine X pins p) (MkS : Mine X pins kS) (np : H p = none) (nk : H kS = none) (hz : zs.length ≤ sizeLine) (rv : Vals zs out) (hp : g.get? p = some (seqObj "list" out.toArray c))
    (k : ∀ c o, c ≠ p → c ≠ kS → s.heap.get? c = some o → g.get? c = some o) : L2.Inv X pins σ (upd H p (.lst zs)) { s with heap := g, toks := tk } := by
  have ne : ∀ {b o}, H b = some o → b ≠ p ∧ b ≠ kS := fun {b o} e => ⟨fun z => (by rw [z, np] at e; cases e), fun z => (by rw [z, nk] at e; cases e)⟩
  refine I.step (g' := s.gens) (d' := s.drawn) (ch := [kS, p]) (fun c hc => ?_) (fun c o _ _ hc e _ => k c o (fun z => hc (by rw [z]; simp)) (fun z => hc (by rw [z]; simp)) e) (fun c o _ _ hc e _ => ⟨o.slots, k c o (fun z => hc (by rw [z]; simp)) (fun z => hc (by rw [z]; simp)) e⟩)
    (fun c o hc _ n => by rw [upd_ne fun z => hc (by rw [z]; simp)]; exact n) (fun c o hc e => ⟨o, k c o (fun z => hc (by rw [z]; simp)) (fun z => hc (by rw [z]; simp)) e⟩) (fun c xs e => by rw [upd_ne (ne e).1]; exact e) (fun c o u e => by rw [upd_ne (ne e).1]; exact e) (fun c ps e => ⟨#[], by rw [upd_ne (ne e).1, e, Array.append_empty]⟩) (fun m hm => ?_) (fun c o e => ?_) I.bare
  · rcases List.mem_cons.mp hc with z | z
    · rw [z]
      exact ⟨.inr MkS.new, MkS.loc, MkS.cell, MkS.pin⟩
    · rw [List.mem_singleton.mp z]
      exact ⟨.inr Mp.new, Mp.loc, Mp.cell, Mp.pin⟩
  · obtain ⟨o, es, ep, ho, r⟩ := hm
    exact ⟨o, es, ep, k _ o (Ne.symm Mp.loc) (Ne.symm MkS.loc) ho, r⟩
  · by_cases hcp : c = p
    · rw [hcp, upd_same] at e
      obtain rfl := Option.some.inj e
      rw [hcp]
      exact ⟨hz, out, _, rv, hp⟩
    · rw [upd_ne hcp] at e
      refine (I.hok c o e).stay (fun d u hd q => k d u (fun z => ?_) (fun z => ?_) q) (fun d q => by rw [upd_ne (ne q).1]; exact q) fun d xs q => by rw [upd_ne (ne q).1]; exact q
      · rcases hd with w | w
        · exact hcp (w.symm.trans z)
        · exact (ne w).1 z
      · rcases hd with w | w
        · exact (ne e).2 (w.symm.trans z)
        · exact (ne w).2 z
/-- the keys are made one after another -/
theorem keys_loop {A : Around} {f : Addr} {fo : Obj} {vs : List Value} {xs : List V} {k : V → Int × Int} {p kS : Addr} {e1 : Nat} {H2 : Hp} {s2 : Shared} {P : PySem.Fin → Shared → Prop} {E : Value → Shared → Prop}
    (I : Inv X pins σ H2 s2) (rv : Vals xs vs) (hz : vs.length ≤ sizeLine) (hu : A.units + 5 < cLine)
    (Mp : Mine X pins p) (MkS : Mine X pins kS) (np : H2 p = none) (nk : H2 kS = none) (hkp : kS ≠ p) (ep : s2.heap.get? p = some (seqObj "list" #[] e1)) (ek : s2.heap.get? kS = some (seqObj "list" #[] 0)) (ef : s2.heap.get? f = some fo) (nf : H2 f = none) (ff : f ∉ frs X.stack) (hfp : f ≠ p) (hfk : f ≠ kS)
    (turn : ∀ (x : V) (v : Value) (H3 : Hp) (s3 : Shared), x ∈ xs → L2.RelV x v → Inv X pins σ H3 s3 → Same H2 H3 → s3.heap.get? f = some fo → H3 f = none →
      codeAny (model X.prog X.w) A (.call (.ref f) ⟨[v], []⟩) (CR (L2.CX X.prog X.w) X.stack X.prog X.w H3 s3 (fun y H4 => Same H3 H4 ∧ PairAt H4 (k x) y) NoX) s3)
    (q : ∀ H4 s4, L2.Inv X pins σ (upd H4 p (.lst (xs.mergeSort (PySem.W.dataLe false fun x => pairD (k x))))) s4 → Same H2 H4 → H4 p = none → P (.done (.ret .none)) s4) :
    wpAny (model X.prog X.w) A (ksk_rest p (.ref f) false vs.toArray e1 (.ref kS)) P E s2 := by
  unfold ksk_rest
  refine wpAny_bind (wpAny_rule ?_)
  first
    | rw [List.forIn_toArray]
    | (rw [← Array.forIn_toList]; simp only [List.toList_toArray])
    | rw [← Array.forIn_toList]
  have hxl : xs.length = vs.length := rv.length
  refine wpAny_bind (ksk_fold (fun i s3 => ∃ (H3 : Hp) (kA : Array Value) (e : Nat) (ys : List V), Inv X pins σ H3 s3 ∧ Same H2 H3 ∧ H3 p = none ∧ H3 kS = none ∧ H3 f = none ∧ s3.heap.get? p = some (seqObj "list" #[] e1) ∧ s3.heap.get? kS = some (seqObj "list" kA e) ∧ s3.heap.get? f = some fo ∧ Vals ys kA.toList ∧ ys.length = i ∧ ∀ (j : Nat) (x y : V), xs[j]? = some x → ys[j]? = some y → PairAt H3 (k x) y) vs 0 s2
    ⟨H2, #[], 0, [], I, Same.refl _, np, nk, nf, ep, ek, ef, .nil, rfl, fun j x y _ h => by cases h⟩ ?step ?done)
  case step =>
    rintro j v s3 hv ⟨H3, kA, e, ys, I3, e3, np3, nk3, nf3, ep3, ek3, ef3, rk, hy, hP⟩
    rw [Nat.zero_add] at hy
    have hj : j < vs.length := (List.getElem?_eq_some_iff.mp hv).1
    obtain ⟨x, hx⟩ : ∃ x, xs[j]? = some x := ⟨_, List.getElem?_eq_getElem (by omega)⟩
    obtain ⟨v', hv', rx⟩ := rv.get hx
    rw [hv] at hv'
    obtain rfl := Option.some.inj hv'
    have hkl : ys.length = kA.size := rk.length.trans (Array.length_toList ..)
    refine wpAny_bind (wpAny_attempt (wpAny_call (codeAny_mono (turn x v H3 s3 (List.mem_of_getElem? hx) rx I3 e3 ef3 nf3) fun r s4 hq => ?_)))
    cases r with
    | error e => exact (noX_elim hq).elim
    | ok fl =>
      cases fl with
      | next => exact False.elim hq
      | brk => exact False.elim hq
      | cont => exact False.elim hq
      | ret u =>
        obtain ⟨y, H4, os, bare, un, hok, ry, e4, hy4⟩ := hq
        have I4 : L2.Inv X pins σ H4 s4 := I3.call' os un hok bare fun b z => absurd z (by simp)
        have ep4 := un.keep p _ ep3 np3 Mp.fr (by simp)
        have ek4 := un.keep kS _ ek3 nk3 MkS.fr (by simp)
        have ef4 := un.keep f _ ef3 nf3 ff (by simp)
        have np4 := un.free p _ ep3 np3 (by simp)
        have nk4 := un.free kS _ ek3 nk3 (by simp)
        have nf4 := un.free f _ ef3 nf3 (by simp)
        have sb := Heap.SameBut.update s4.heap kS (Obj.mapSeq (·.push u))
        obtain ⟨c2, hc2⟩ : ∃ c2, (s4.heap.update kS (Obj.mapSeq (·.push u))).get? kS = some (seqObj "list" (kA.push u) c2) := ⟨_, get?_update_seq ek4 (·.push u)⟩
        dsimp only
        refine wpAny_bind (listUpdate_at ek4 rfl ?_ (by omega) (by rw [Array.size_push]; omega))
        have I5 : L2.Inv X pins σ H4 { s4 with heap := s4.heap.update kS (Obj.mapSeq (·.push u)) } := inv_mine (tk := s4.toks) I4 MkS nk4 fun c o hc e => (sb.2 c hc).trans e
        refine wpAny_pure ⟨rfl, H4, kA.push u, c2, ys ++ [y], I5, e3.trans e4, np4, nk4, nf4, (sb.2 p hkp.symm).trans ep4, hc2, (sb.2 f hfk).trans ef4, by rw [Array.toList_push]; exact rk.append (.cons ry .nil), by rw [List.length_append]; show ys.length + 1 = 0 + j + 1; omega, fun i a b h1 h2 => ?_⟩
        by_cases hi : i < ys.length
        · rw [List.getElem?_append_left hi] at h2
          exact (hP i a b h1 h2).same e4
        · rw [List.getElem?_append_right (by omega)] at h2
          have hi2 := (List.getElem?_eq_some_iff.mp h2).1
          rw [List.length_cons, List.length_nil] at hi2
          rw [show i - ys.length = 0 by omega] at h2
          obtain rfl := Option.some.inj h2
          rw [show i = j by omega, hx] at h1
          obtain rfl := Option.some.inj h1
          exact hy4
  case done =>
    rintro s3 ⟨H3, kA, e, ys, I3, e3, np3, nk3, nf3, ep3, ek3, ef3, rk, hy, hP⟩
    have hkl : ys.length = kA.size := rk.length.trans (Array.length_toList ..)
    have hk : PySem.W.EachIs (fun v d => ∃ as, Reads s3.heap v d as) kA.toList (xs.map fun x => pairD (k x)) := by
      refine each_ix (by rw [List.length_map, Array.length_toList]; omega) fun i v d h1 h2 => ?_
      rw [List.getElem?_map] at h2
      cases hx : xs[i]? with
      | none => rw [hx] at h2; cases h2
      | some x =>
        rw [hx] at h2
        obtain rfl := Option.some.inj h2
        have hil := (List.getElem?_eq_some_iff.mp hx).1
        obtain ⟨y, hy2⟩ : ∃ y, ys[i]? = some y := ⟨_, List.getElem?_eq_getElem (by omega)⟩
        obtain ⟨v', hv', rx⟩ := rk.get hy2
        rw [h1] at hv'
        obtain rfl := Option.some.inj hv'
        exact ⟨[], (hP i x y hx hy2).reads I3.hok rx⟩
    have hkk : (xs.map fun x => pairD (k x)) = (xs.map k).map pairD := by rw [List.map_map]; rfl
    have hal : PySem.W.AllAlike (xs.map fun x => pairD (k x)) := by rw [hkk]; exact pair_alike
    have hso : PySem.W.Sortable (xs.map fun x => pairD (k x)) := by rw [hkk]; exact pair_sortable
    refine wpAny_bind (listItems_at ek3 rfl ?_)
    obtain ⟨G, g1, g2⟩ := restrict s3.heap fun b => decide (b ≠ kS)
    refine PySem.W.keyH_end (κ := PySem.W.dataKind s3.heap (xs.map fun x => pairD (k x))) (h₁ := G) (fun b o hb e => ?_) (g2 kS (by simp)) ek3 ep3 hkp (PySem.W.SortsAt.data hk hal hso fun d hd => ?_) (by omega) hz fun h' tk c kp hp => ?_
    · by_cases z : b = kS
      · rw [z, g2 kS (by simp)] at e
        cases e
      · rw [g1 b (by simp [z])] at e
        exact e
    · obtain ⟨x, _, rfl⟩ := List.mem_map.mp hd
      show A.units + (pairD (k x)).depth < cLine
      have : (pairD (k x)).depth ≤ 2 := by simp [pairD, PyData.depth, PyData.depthAll]
      omega
    · have ko := PySem.W.keyedOut_each (rev := false) (R := fun v x => L2.RelV x v) (fun x => pairD (k x)) ⟨s3.heap, kA.toList, hal, rfl, hk⟩ (vals_each rv)
      have rs := each_vals ko
      refine q H3 _ (inv_sorted I3 Mp MkS np3 nk3 ?_ rs hp fun b o b1 b2 e => kp b o b1 (by rw [g1 b (by simp [b2])]; exact e)) e3 np3
      rw [List.length_mergeSort, hxl]
      exact hz
end

/-! ### the rule for sorted(xs, key=lambda x: ..) -/
section
open LamX
variable {X : Cx} {pins : List (Addr × Obj)} {σ : L2.St} {H : Hp} {s : Shared}
def pairLe (k : V → Int × Int) : V → V → Bool := PySem.W.dataLe false fun x => pairD (k x)
/-- what is asked of the sort of l, and what it gives -/
def rSortLam (K : PySem.W.Frag) (tb : V → Hp → VK → Prop) (v : V) (H : Hp) (Q : VK) : Prop := ∃ (_ : Unit) (l : Addr) (xs : List V) (k : V → Int × Int), v = .ref l ∧ SqL K H l xs ∧
  (∀ x, x ∈ xs → ∀ H3, Same H H3 → tb x H3 fun y H4 => Same H3 H4 ∧ PairAt H4 (k x) y) ∧ ∀ (_ : Unit) (p : Addr) (H4 : Hp), Same H H4 → H p = none → H4 p = none → Q (.ref p) (upd H4 p (.lst (xs.mergeSort (pairLe k))))
theorem sortLam_run {sc : Scope} {a : Str} {f c' : Addr} {pm ctv : Value} {params : Arguments} {body : Expr} {j : Nat} {tb : TE} {v : V} {u : Value} {Q : VK}
    (I : L2.Inv X pins σ H s) (L : LamP X.env.scope sc a) (na : X.N.all (fun y => decide (y ≠ a)) = true) (hr : Room (j + 3) X.A)
    (hf : s.heap.get? f = some (PySem.W.kla_obj "<lambda>" (X.env.qual ++ "<lambda>") params body sc (cloFrom X.env.cells sc.names []) pm c' ctv)) (nf : H f = none) (ff : f ∉ frs X.stack) (hc : H c' = some (CodeO c' (X.env.qual ++ "<lambda>")))
    (hbind : ∀ u, bindArgs (PySem.W.kla_fn "<lambda>" (X.env.qual ++ "<lambda>") params body sc (cloFrom X.env.cells sc.names []) pm (.ref c') ctv) ⟨[u], []⟩ = pure [(a, u)])
    (hbody : ∀ (A : Around) (s : Shared) (H : Hp), Room j (A.deeper (lamEnv X sc s.heap.objs.size f c')) → PE (lamCxP X A X.stack s H NoX sc a f c') body tb)
    (rv : L2.RelV v u) (h : rSortLam X.K (fun x H3 Q3 => tb (σ ++ [some x]) H3 Q3) v H Q) : wpAny (model X.prog X.w) X.A (call (.builtin "sorted") [u] [(Str.ofString "key", .ref f)]) (EP X pins σ Q) X.xe s := by
  obtain ⟨_, l, xs, k, rfl, hs, ht, q⟩ := h
  obtain rfl : u = Value.ref l := rv
  obtain ⟨its, rx, hl, hz⟩ := I.list hs
  have hz' : its.length ≤ sizeLine := by rw [← rx.length]; exact hz
  refine PySem.W.sorted_of_sort hl.isList hz' (ksk_s1 _ _) (fun _ => ksk_l1 _ _) fun E' => ?_
  rw [ksk_t1]
  have ho := PySem.W.copyHeap_at s.heap its
  have kold : ∀ b o, s.heap.get? b = some o → (PySem.W.copyHeap s.heap its).get? b = some o := fun b o e => PySem.W.copyHeap_old e
  have hsz : s.heap.objs.size + 1 < (PySem.W.copyHeap s.heap its).objs.size := Heap.lt_size ho
  generalize PySem.W.copyHeap s.heap its = g0 at *
  obtain ⟨e1, ho1⟩ : ∃ e1, (g0.update (s.heap.objs.size + 1) (Obj.mapSeq fun _ => (#[] : Array Value))).get? (s.heap.objs.size + 1) = some (seqObj "list" #[] e1) := ⟨_, get?_update_seq ho fun _ => #[]⟩
  have sb := Heap.SameBut.update g0 (s.heap.objs.size + 1) (Obj.mapSeq fun _ => (#[] : Array Value))
  have hs1 : (g0.update (s.heap.objs.size + 1) (Obj.mapSeq fun _ => (#[] : Array Value))).objs.size = g0.objs.size := Heap.size_update ..
  unfold ksk_tree
  refine wpAny_bind (listItems_at ho rfl ?_)
  refine wpAny_bind (listUpdate_at ho rfl ?_ (by rw [List.size_toArray]; exact hz') (Nat.zero_le _))
  refine wpAny_bind (seqEpoch_at ho1 rfl ?_)
  refine wpAny_bind (wpAny_newTuple ?_ (by show its.length ≤ _; exact hz'))
  refine wpAny_bind (wpAny_newList ?_ (Nat.zero_le _))
  refine wpAny_holding ?_
  generalize g0.update (s.heap.objs.size + 1) (Obj.mapSeq fun _ => (#[] : Array Value)) = g1 at *
  have k1 : ∀ b o, b ≠ s.heap.objs.size + 1 → s.heap.get? b = some o → ((g1.push (seqObj "tuple" its.toArray 0)).push (seqObj "list" #[] 0)).get? b = some o := fun b o hb e =>
    Heap.get?_push_of_some _ (Heap.get?_push_of_some _ ((sb.2 b hb).trans (kold b o e)))
  have k2 : ∀ b o, s.heap.get? b = some o → ((g1.push (seqObj "tuple" its.toArray 0)).push (seqObj "list" #[] 0)).get? b = some o := fun b o e => k1 b o (Nat.ne_of_lt (Nat.lt_succ_of_lt (Heap.lt_size e))) e
  have hs2 : (g1.push (seqObj "tuple" its.toArray 0)).objs.size = g1.objs.size + 1 := by rw [size_push']
  have I2 : L2.Inv X pins σ H { s with heap := (g1.push (seqObj "tuple" its.toArray 0)).push (seqObj "list" #[] 0) } := I.kept (t' := s.toks) k2
  have hfl := Heap.lt_size hf
  have hkS : s.heap.objs.size + 1 < (g1.push (seqObj "tuple" its.toArray 0)).objs.size := by omega
  refine keys_loop (k := k) (H2 := H) (p := s.heap.objs.size + 1) (kS := (g1.push (seqObj "tuple" its.toArray 0)).objs.size) I2 rx hz' (by have := hr.units; show X.A.units + 1 + 1 + 5 < cLine; omega) (mine_of I (Nat.le_succ _)) (mine_of I (by omega)) (I.hok.fresh (Nat.le_succ _)) (I.hok.fresh (by omega)) (Nat.ne_of_gt hkS)
    (Heap.get?_push_of_some _ (Heap.get?_push_of_some _ ho1)) (Heap.get?_push_size _ rfl) (k2 f _ hf) nf ff (Nat.ne_of_lt (Nat.lt_succ_of_lt hfl)) (Nat.ne_of_lt (Nat.lt_trans (Nat.lt_succ_of_lt hfl) hkS)) (fun x v H3 s3 hx rx3 I3 e3 ef nf3 => ?_) fun H4 s4 I4 e4 np4 => ?_
  · exact lamP_run I3 L na I3.env0.in1.in1 (Un.kept fun _ _ e => e) rx3 (Room.in1 (Room.in1 hr)) ef (e3 _ _ hc) (hbind v) (fun s5 H5 r5 => hbody _ s5 H5 r5) I3.nolimit (ht x hx H3 e3)
  · exact ⟨rfl, .ref (s.heap.objs.size + 1), _, I4, rfl, q () _ H4 e4 (I.hok.fresh (Nat.le_succ _)) np4⟩
/-- the term: te the list, tb the lambda's body with its parameter as the last name -/
def tSortLam (K : PySem.W.Frag) (T : List (Addr × Str)) (te tb : TE) : TE := fun σ H Q => te σ H fun v H1 => Tabs T H1 ∧ ∀ H2, ExtN H1 H2 → Tabs T H2 → rSortLam K (fun x H3 Q3 => tb (σ ++ [some x]) H3 Q3) v H2 Q
theorem pe_sortLam {T : List (Addr × Str)} {c P : Addr} {j : Nat} {a : Str} {sc : Scope} {params : Arguments} {body e : Expr} {te tb : TE} {p lpos kpos pos : Pos} (he : PE X e te) (hg : Gl X "sorted") (hm : X.mg "sorted" = none)
    (TB : TabB X.base X.mg c P) (hcode : X.env.code = .ref c) (hmT : (P, X.env.qual ++ "<lambda>") ∈ T) (hu : ∀ p ∈ T, p.1 = P → p.2 = X.env.qual ++ "<lambda>") (hr : Room (j + 3) X.A) (L : LamP X.env.scope sc a) (na : X.N.all (fun y => decide (y ≠ a)) = true) (hdef : defaultsOf params X.env = ([], []))
    (hbind : ∀ (q : Str) (cl : List (Str × Addr)) (pm cv ctv u : Value), bindArgs (PySem.W.kla_fn "<lambda>" q params body sc cl pm cv ctv) ⟨[u], []⟩ = pure [(a, u)])
    (hbody : ∀ (A : Around) (s : Shared) (H : Hp) (f c' : Addr), Room j (A.deeper (lamEnv X sc s.heap.objs.size f c')) → PE (lamCxP X A X.stack s H NoX sc a f c') body tb)
    (star : starEach [e] X.env = (false, eval e X.env) :: starEach [] X.env := by rfl) (plain : backTo pos (starEach [e] X.env) = (false, eval e X.env) :: backTo pos (starEach [] X.env) := by rfl) (nostar : (backTo pos (starEach [e] X.env)).any (·.1) = false := by rfl) :
    PE X (.Call (.Name "sorted" p) [e] [⟨some "key", .Lambda params body sc lpos, kpos⟩] pos) (tSortLam X.K T te tb) := by
  refine ⟨fun pins s σ H Q I h => ?_⟩
  refine wpAny_Call_Name_kw (ld_blt I hg hm (by rfl) ?_ (by decide) (by decide))
  refine PyProof.Rows.callWith_kw (thn ((pa_cons he pa_nil (hs := star)).run pos pins s σ H (fun vs H1 => match vs with
    | [v] => Tabs T H1 ∧ ∀ H2, ExtN H1 H2 → Tabs T H2 → rSortLam X.K (fun x H3 Q3 => tb (σ ++ [some x]) H3 Q3) v H2 Q
    | _ => False) I h) fun us s1 ⟨vs, H1, I1, r1, h1⟩ => ?_) plain nostar rfl rfl
  match vs, r1, h1 with
  | [v], r1, h1 =>
    obtain ⟨u, rfl, ru⟩ := vals1 r1
    obtain ⟨hT, h1⟩ := h1
    show wpAny _ _ (evalAll [(do let v ← eval (.Lambda params body sc lpos) X.env; standAt pos; pure v)]) _ _ s1
    refine wpAny_evalAll_cons (wpAny_bind (lam_make2 I1 TB hcode hmT hu hT hdef (L.caps I.ok) fun f c' pm' ctv H2 s2 I2 eN T2 hf hfn hfr hco => wpAny_bind (wpAny_standAt (wpAny_pure ?_))))
    refine wpAny_evalAll_nil ?_
    exact sortLam_run I2 L na hr hf hfn hfr hco (fun u => hbind _ _ _ _ _ u) (fun A s H r => hbody A s H f c' r) ru (h1 H2 eN T2)
  | [], _, h1 => exact h1.elim
  | _ :: _ :: _, _, h1 => exact h1.elim
end

/-! ### defs that make lambdas: their code objects, the law's end -/
section
open LamX
variable {P : Program} {w : World} {K : PySem.W.Frag} {mg : Str → Option Value} {base : Heap}
/-- a def by its body, its code object known -/
theorem fun_okC {x qual : Str} {st : Stmt} {f c : Addr} {fd : FuncData} {N ps : List Str} {k : Nat} {sp : Sp} (F : Fun K x qual st f fd) (S : FnScope N ps (defScope st)) (hc : fd.code = .ref c) (len : ∀ vs H Q E, sp vs H Q E → vs.length = ps.length)
    (hb : ∀ (A : Around) (out : List Env) (s : Shared) (H : Hp) (vs : List V) (Q : VK) (E : XK), Room k (A.deeper (envOfC qual (defScope st) s.heap.objs.size f (.ref c))) → sp vs H Q E →
      ∃ t, PSs (cxOf CX0 P w K mg base N qual (defScope st) f (.ref c) A out s H E).nox (defBody st) t ∧ t { nx := fun _ H' => Q .non H', rt := Q } (start N vs) H) : FnOk P w K mg base CX0 (k + 1) f fd ps sp := by
  obtain ⟨oc, od, kV, doc, pm, an, cd, ct, sl, rfl, lk, hcd⟩ := F.ex
  obtain rfl : cd = Value.ref c := hc
  refine fn_of lk hcd S len fun A out s H vs Q E hr hsp => ?_
  obtain ⟨t, h, q⟩ := hb A out s H vs Q E hr hsp
  exact ⟨t, h.nox, q⟩
end

/-! ### set(xs), xs a list of numbers -/
section
open PySem
abbrev blankSet (w : World) : Obj := { cls := .type "set", dict := none, data := .set #[] 0 (.fresh 0 0 (!w.params.followText "set-order")) }
variable {P : Program} {w : World} {A : Around} {E : Value → Shared → Prop} {s : Shared}
set_option maxRecDepth 100000 in
set_option maxHeartbeats 3200000 in
theorem set_of_ints {z : Addr} {us : Array Value} (ks : List Int) {Q : Value → Shared → Prop} (free : A.handled = none) (lz : s.heap.IsList z us) (ik : IntsAre us.toList ks) (few : ks.length + 1 < scanBound)
    (q : ∀ (g : Heap) (tk c : Nat), SetR w g s.heap.objs.size (fun j => decide (j ∈ ks)) c → c ≤ ks.length → (∀ b o, s.heap.get? b = some o → g.get? b = some o) → Q (.ref s.heap.objs.size) { s with heap := g, toks := tk }) :
    wpAny (model P w) A (call (.type "set") [.ref z]) Q E s := by
  have nus : us.size = ks.length := by
    have e := IntsAre.length ik
    rw [Array.length_toList] at e
    exact e
  obtain ⟨cz, tz, mroz⟩ := F.called_set.mro
  have q1 := F.called_set.made
  have q2 := F.called_set.sub
  refine (wpAny_call (codeAny_of_tree ?_))
  change wpAny _ _ (callAny (.type "set") _) _ _ _
  refine wpAny_pure (And.intro (Code.quiet_builtin _ (by decide +kernel)) (codeAny_builtin F.entry_type_call ?_))
  rw [Around.under_plain (weight_type_call_type "set" [.ref z] []) rfl]
  have q3 := F.called_set.notType
  have q4 := F.called_set.canCreate
  have q5 := F.typeCall_set_1 (.ref z)
  repeat
    any_goals
      first
        | assumption
        | wp_step
  refine codeAny_mono (code_set_led1 (.ref z) (E := E) (Q₁ := fun a s2 => a = .ref s.heap.objs.size ∧ s2 = { s with heap := s.heap.push (blankSet w) }) ⟨rfl, rfl⟩) fun r s2 hr => ?_
  cases r with
  | error e => exact hr
  | ok fl =>
    cases fl with
    | ret a =>
      obtain ⟨rfl, rfl⟩ := hr
      have sS : (s.heap.push (blankSet w)).get? s.heap.objs.size = some (blankSet w) := Heap.get?_push_size _ rfl
      have sT : Shared.TypeIs { s with heap := s.heap.push (blankSet w) } (.ref s.heap.objs.size) "set" := ⟨_, sS, rfl⟩
      have q6 := F.called_set.init.lookup
      have q7 := F.called_set.init.bind (.ref s.heap.objs.size)
      repeat
        any_goals
          first
            | assumption
            | wp_step
      refine codeAny_mono (codeAny_call_builtin (R := wants (fun r s3 => r = .none ∧ ∃ g tk c, s3 = { s with heap := g, toks := tk } ∧ SetR w g s.heap.objs.size (fun j => decide (j ∈ ks)) c ∧ c ≤ ks.length ∧ ∀ b o, s.heap.get? b = some o → g.get? b = some o) E) F.called_set.init.plain F.entry_set_init (check_set_init_1 sT ?_)) fun r2 s2 hr2 => ?_
      · obtain ⟨ol, lo, lcl, nl, ldt⟩ := lz
        obtain ⟨ocls, odict, odata, oslots⟩ := ol
        simp only at lcl ldt
        subst lcl; subst ldt
        have lo2 : (s.heap.push (blankSet w)).get? z = some { cls := .type "list", dict := odict, data := .seq us nl, slots := oslots } := Heap.get?_push_of_some _ lo
        have q8 := F.sub_list_set
        have q9 := F.sub_list_frozenset
        have nd : (Value.type "list" == Value.type "dict") = false := by decide
        have lz1 : (s.heap.push (blankSet w)).IsList z us := ⟨_, lo2, rfl, nl, rfl⟩
        unfold Builtin.«set.__init__» noKeywords Builtin.Frozenset.updateFrom
        generalize hPI : pyIter = PI
        wp_walk
        subst hPI
        refine (wpAny_pyIter_list lz1 (wpAny_bind (wpAny_runValue ?_)))
        have zS : z < s.heap.objs.size := Heap.lt_size lo
        have free3 : A.in1.in1.in1.handled = none := by simp [free]
        have zI : z ≠ (s.heap.push (blankSet w)).objs.size := by
          rw [Heap.size_push]
          exact Nat.ne_of_lt (Nat.lt_succ_of_lt zS)
        have out : s.heap.objs.size ∉ [(s.heap.push (blankSet w)).objs.size, z] := by
          rw [Heap.size_push]
          simp only [List.mem_cons, List.mem_singleton, List.not_mem_nil, or_false, not_or]
          exact And.intro (Nat.ne_of_lt (Nat.lt_succ_self _)) (Nat.ne_of_gt zS)
        have each : ∀ (i : Nat) (v : Value), us[i]? = some v → ∃ k t, ks[i]? = some k ∧ v = .int k t := fun i v hv => by
          have hi : i < ks.length := by rw [← nus]; exact (Array.getElem?_eq_some_iff.mp hv).1
          obtain ⟨t, e⟩ := PyProof.Rows.IntsAre.int_at ik i v (by rw [Array.getElem?_toList]; exact hv)
          exact ⟨ks[i], t, List.getElem?_eq_getElem hi, by rw [e, List.getD_eq_getElem?_getD, List.getElem?_eq_getElem hi] <;> rfl⟩
        refine set_update_ints ((Walks.list free3 _ z zI us).toS) s.heap.objs.size out ks nus few each (us.size - 0) 0 _ (by omega) (Nat.zero_le _) ⟨⟨_, Heap.get?_push_size _ rfl, rfl, rfl⟩, (lz1.push _)⟩ ⟨0, Nat.le_refl 0, setR_new_at (Heap.get?_push_of_some _ sS)⟩ ?_
        intro s3 c' moved hc' hS'
        obtain ⟨g, g2, d', tk', os'⟩ := s3
        have eg : g2 = s.gens := moved.gens
        have ed : d' = s.drawn := moved.drawn
        have eo : os' = s.os := moved.os
        subst eg ed eo
        show wpAny _ _ _ _ _ _
        refine wpAny_pure ?_
        change wpAny _ _ (ret Value.none) _ _ _
        rw [nus] at hc'
        refine wpAny_pure ⟨rfl, g, tk', c', rfl, hS', hc', fun b o e => moved.heap b o ?_ (Heap.get?_push_of_some _ (Heap.get?_push_of_some _ e))⟩
        have b0 : b < s.heap.objs.size := Heap.lt_size e
        have b2 : b ≠ (s.heap.push (blankSet w)).objs.size := by
          rw [Heap.size_push]
          exact Nat.ne_of_lt (Nat.lt_succ_of_lt b0)
        simp only [List.mem_cons, List.mem_singleton, List.not_mem_nil, or_false, not_or]
        exact And.intro (Nat.ne_of_lt b0) b2
      · cases r2 with
        | error e => exact hr2
        | ok fl2 =>
          cases fl2 with
          | ret r =>
            obtain ⟨rfl, g, tk', c', rfl, k1, k2, k3⟩ := hr2
            repeat
              any_goals
                first
                  | assumption
                  | wp_step
            exact q _ _ _ k1 k2 k3
          | _ => exact hr2.elim
    | _ => exact hr.elim
end
section
variable {X : Cx}
/-- set(xs) of at most 1000 numbers -/
def rSetInts (K : PySem.W.Frag) (w : World) : List V → Hp → VK → Prop := fun vs H Q => ∃ (_ : Unit) (a : Addr) (ns : List Int), vs = [V.ref a] ∧ SqL K H a (ns.map V.int) ∧ ns.length ≤ 1000 ∧
  ∀ (p : Addr) (c : Nat), c ≤ ns.length → H p = none → Q (.ref p) (upd H p (SetO w p (fun j => decide (j ∈ ns)) c))
theorem cr_setInts (hc : X.calm = true) : CallR X (.type "set") (rSetInts X.K X.w) := by
  intro pins s σ H vs us Q I r h
  obtain ⟨_, a, ns, rfl, hs, few, q⟩ := h
  rw [Vals.ref1 r]
  obtain ⟨its, rv, pl, _⟩ := I.list hs
  refine set_of_ints ns (I.ok.hd hc) pl.isList (by simpa using rv.ints) (by unfold scanBound; omega) fun g tk c R hcn k => ?_
  exact ⟨.ref _, upd H s.heap.objs.size (SetO X.w s.heap.objs.size (fun j => decide (j ∈ ns)) c), I.laid (t' := tk) k (Nat.le_refl _) (setO_new R), rfl, q _ c hcn (I.hok.fresh (Nat.le_refl _))⟩
end

/-- how items of one kind are told as data; equal data are equal items -/
structure LayD {α : Type} [DecidableEq α] (L : α → PyData) (k : Nat) (G : α → Prop) : Prop where
  lay : ∀ x, G x → (L x).canLay0 = true
  dep : ∀ x, (L x).depth ≤ k
  eqv : ∀ x y, PyData.eqv (L x) (L y) = decide (x = y)
theorem LayD.shaped {α : Type} [DecidableEq α] {L : α → PyData} {k : Nat} {G : α → Prop} (h : LayD L k G) (hk : k ≤ 64) {x : α} (g : G x) : SeqAt.shaped (L x) = true := by
  have h1 := h.lay x g
  have h2 := h.dep x
  unfold SeqAt.shaped
  rw [h1, Bool.true_and]
  exact decide_eq_true (by omega)
theorem layD_int : LayD PyData.int 0 (fun _ => True) := ⟨fun _ _ => rfl, fun _ => Nat.le_refl _, fun x y => by simp only [PyData.eqv]; exact (Bool.beq_eq_decide_eq x y)⟩
theorem layD_str : LayD PyData.str 0 (fun x => PyData.strOk x = true) := ⟨fun _ h => by simp only [PyData.canLay0]; exact h, fun _ => Nat.le_refl _, fun x y => by simp only [PyData.eqv]; exact (Bool.beq_eq_decide_eq x y)⟩
theorem decide_and2 {p q r : Prop} [Decidable p] [Decidable q] [Decidable r] (h : r ↔ p ∧ q) : (decide p && decide q) = decide r := by
  by_cases hp : p <;> by_cases hq : q <;> simp [h, hp, hq]
theorem layD_all {α : Type} [DecidableEq α] {L : α → PyData} {k : Nat} {G : α → Prop} (h : LayD L k G) : (∀ xs : List α, (∀ x, x ∈ xs → G x) → PyData.canLayAll0 (xs.map L) = true) ∧ (∀ xs : List α, PyData.depthAll (xs.map L) ≤ k) ∧ ∀ xs ys : List α, PyData.eqvAll (xs.map L) (ys.map L) = decide (xs = ys) := by
  refine ⟨fun xs => ?_, fun xs => ?_, fun xs => ?_⟩
  · induction xs with
    | nil => exact fun _ => rfl
    | cons x xs ih =>
      intro g
      rw [List.map_cons]
      simp only [PyData.canLayAll0, ih fun y hy => g y (List.mem_cons_of_mem _ hy), h.lay x (g x List.mem_cons_self)]
      rfl
  · induction xs with
    | nil => exact Nat.zero_le _
    | cons x xs ih => rw [List.map_cons]; simp only [PyData.depthAll]; exact Nat.max_le.mpr ⟨h.dep x, ih⟩
  · induction xs with
    | nil =>
      intro ys
      cases ys with
      | nil => rfl
      | cons y ys => simp [PyData.eqvAll]
    | cons x xs ih =>
      intro ys
      cases ys with
      | nil => simp [PyData.eqvAll]
      | cons y ys =>
        rw [List.map_cons, List.map_cons]
        simp only [PyData.eqvAll]
        rw [ih ys, h.eqv x y]
        exact decide_and2 (by rw [List.cons.injEq])
theorem LayD.list {α : Type} [DecidableEq α] {L : α → PyData} {k : Nat} {G : α → Prop} (h : LayD L k G) : LayD (fun xs : List α => PyData.list (xs.map L)) (k + 1) (fun xs => ∀ x, x ∈ xs → G x) := by
  obtain ⟨h1, h2, h3⟩ := layD_all h
  refine ⟨fun xs g => ?_, fun xs => ?_, fun xs ys => ?_⟩
  · simp only [PyData.canLay0]; exact h1 xs g
  · simp only [PyData.depth]; exact Nat.succ_le_succ (h2 xs)
  · simp only [PyData.eqv]; exact h3 xs ys
theorem LayD.tup2 {α β : Type} [DecidableEq α] [DecidableEq β] {L : α → PyData} {M : β → PyData} {k : Nat} {G : α → Prop} {G2 : β → Prop} (h : LayD L k G) (g : LayD M k G2) : LayD (fun x : α × β => PyData.tuple [L x.1, M x.2]) (k + 1) (fun x => G x.1 ∧ G2 x.2) := by
  refine ⟨fun x a => ?_, fun x => ?_, fun x y => ?_⟩
  · simp only [PyData.canLay0, PyData.canLayAll0, h.lay _ a.1, g.lay _ a.2, Bool.and_true]
  · simp only [PyData.depth, PyData.depthAll]
    have := h.dep x.1
    have := g.dep x.2
    omega
  · simp only [PyData.eqv, PyData.eqvAll, h.eqv, g.eqv, Bool.and_true]
    exact decide_and2 (by rw [Prod.ext_iff])
theorem LayD.tup3 {α β γ : Type} [DecidableEq α] [DecidableEq β] [DecidableEq γ] {L : α → PyData} {M : β → PyData} {N : γ → PyData} {k : Nat} {G : α → Prop} {G2 : β → Prop} {G3 : γ → Prop} (h : LayD L k G) (g : LayD M k G2) (e : LayD N k G3) : LayD (fun x : α × β × γ => PyData.tuple [L x.1, M x.2.1, N x.2.2]) (k + 1) (fun x => G x.1 ∧ G2 x.2.1 ∧ G3 x.2.2) := by
  refine ⟨fun x a => ?_, fun x => ?_, fun x y => ?_⟩
  · simp only [PyData.canLay0, PyData.canLayAll0, h.lay _ a.1, g.lay _ a.2.1, e.lay _ a.2.2, Bool.and_true]
  · simp only [PyData.depth, PyData.depthAll]
    have := h.dep x.1
    have := g.dep x.2.1
    have := e.dep x.2.2
    omega
  · simp only [PyData.eqv, PyData.eqvAll, h.eqv, g.eqv, e.eqv, Bool.and_true]
    rw [decide_and2 (r := x.2 = y.2) (by rw [Prod.ext_iff])]
    exact decide_and2 (by rw [Prod.ext_iff])
theorem LayD.tup4 {α β γ δ : Type} [DecidableEq α] [DecidableEq β] [DecidableEq γ] [DecidableEq δ] {L : α → PyData} {M : β → PyData} {N : γ → PyData} {O : δ → PyData} {k : Nat} {G : α → Prop} {G2 : β → Prop} {G3 : γ → Prop} {G4 : δ → Prop} (h : LayD L k G) (g : LayD M k G2) (e : LayD N k G3) (d : LayD O k G4) : LayD (fun x : α × β × γ × δ => PyData.tuple [L x.1, M x.2.1, N x.2.2.1, O x.2.2.2]) (k + 1) (fun x => G x.1 ∧ G2 x.2.1 ∧ G3 x.2.2.1 ∧ G4 x.2.2.2) := by
  refine ⟨fun x a => ?_, fun x => ?_, fun x y => ?_⟩
  · simp only [PyData.canLay0, PyData.canLayAll0, h.lay _ a.1, g.lay _ a.2.1, e.lay _ a.2.2.1, d.lay _ a.2.2.2, Bool.and_true]
  · simp only [PyData.depth, PyData.depthAll]
    have := h.dep x.1
    have := g.dep x.2.1
    have := e.dep x.2.2.1
    have := d.dep x.2.2.2
    omega
  · simp only [PyData.eqv, PyData.eqvAll, h.eqv, g.eqv, e.eqv, d.eqv, Bool.and_true]
    rw [decide_and2 (r := x.2.2 = y.2.2) (by rw [Prod.ext_iff]), decide_and2 (r := x.2 = y.2) (by rw [Prod.ext_iff])]
    exact decide_and2 (by rw [Prod.ext_iff])
theorem eqL {α : Type} [DecidableEq α] {L : α → PyData} {k : Nat} {G : α → Prop} (h : LayD L k G) (hk : k ≤ 64) {K : PySem.W.Frag} {H : Hp} {x y : V} {a b : α} {Q : VK} (ga : G a) (gb : G b) (h1 : Dp K H x (L a)) (h2 : Dp K H y (L b)) (q : Q (.bl (decide (a = b))) H) : rEqD K x y H Q :=
  ⟨_, _, h1, h2, h.shaped hk ga, h.shaped hk gb, by rw [h.eqv]; exact q⟩
theorem neL {α : Type} [DecidableEq α] {L : α → PyData} {k : Nat} {G : α → Prop} (h : LayD L k G) (hk : k ≤ 64) {K : PySem.W.Frag} {H : Hp} {x y : V} {a b : α} {Q : VK} (ga : G a) (gb : G b) (h1 : Dp K H x (L a)) (h2 : Dp K H y (L b)) (q : Q (.bl (!decide (a = b))) H) : rNeD K x y H Q :=
  ⟨_, _, h1, h2, h.shaped hk ga, h.shaped hk gb, by rw [h.eqv]; exact q⟩
theorem dpAll_refs {α : Type} {L : α → PyData} {K : PySem.W.Frag} {H : Hp} : ∀ {ps : List Addr} {xs : List α}, ps.length = xs.length → (∀ (i : Nat) (p : Addr) (x : α), ps[i]? = some p → xs[i]? = some x → Dp K H (.ref p) (L x)) → DpAll K H (ps.map V.ref) (xs.map L)
  | [], [], _, _ => .nil
  | [], _ :: _, h, _ => by cases h
  | _ :: _, [], h, _ => by cases h
  | p :: ps, x :: xs, h, e => .cons (e 0 p x rfl rfl) (dpAll_refs (Nat.succ.inj h) fun i p' x' h1 h2 => e (i + 1) p' x' h1 h2)

/-! ### pairs and fours of numbers in their order -/
section
theorem item_inl {a b : Int} : itemLt (.inl a) (.inl b) = decide (a < b) := rfl
theorem lex_inl {a b : Int} {r t : List (Int ⊕ List Nat)} : PyProof.Rows.lexLt itemOrd (.inl a :: r) (.inl b :: t) = (decide (a < b) || (!decide (b < a) && PyProof.Rows.lexLt itemOrd r t)) := rfl
theorem pair_lt {x y : Int × Int} : PySem.W.dataLt (pairD x) (pairD y) = decide (x.1 < y.1 ∨ (x.1 = y.1 ∧ x.2 < y.2)) := by
  unfold PySem.W.dataLt pairD
  simp only [PySem.W.keyToks, PySem.W.keyToksAll, List.cons_append, List.nil_append, lex_inl]
  rw [Bool.eq_iff_iff]
  simp only [Bool.or_eq_true, Bool.and_eq_true, Bool.not_eq_true', decide_eq_true_eq, decide_eq_false_iff_not, PyProof.Rows.lexLt, item_inl, Bool.false_eq_true, or_false, and_false]
  omega
theorem pairLe_iff {k : V → Int × Int} {x y : V} : pairLe k x y = true ↔ (k x).1 < (k y).1 ∨ ((k x).1 = (k y).1 ∧ (k x).2 ≤ (k y).2) := by
  have e : pairLe k x y = !PySem.W.dataLt (pairD (k y)) (pairD (k x)) := rfl
  rw [e, pair_lt]
  by_cases h : (k y).1 < (k x).1 ∨ ((k y).1 = (k x).1 ∧ (k y).2 < (k x).2)
  · rw [decide_eq_true h]
    constructor
    · intro z
      cases z
    · intro z
      omega
  · rw [decide_eq_false h]
    exact ⟨fun _ => by omega, fun _ => rfl⟩
/-- four numbers -/
abbrev Four := Int × Int × Int × Int
def fourD (q : Four) : PyData := .tuple [.int q.1, .int q.2.1, .int q.2.2.1, .int q.2.2.2]
def FourLt (x y : Four) : Prop := x.1 < y.1 ∨ (x.1 = y.1 ∧ (x.2.1 < y.2.1 ∨ (x.2.1 = y.2.1 ∧ (x.2.2.1 < y.2.2.1 ∨ (x.2.2.1 = y.2.2.1 ∧ x.2.2.2 < y.2.2.2)))))
instance (x y : Four) : Decidable (FourLt x y) := by unfold FourLt; exact inferInstance
theorem four_lt {x y : Four} : PySem.W.dataLt (fourD x) (fourD y) = decide (FourLt x y) := by
  unfold PySem.W.dataLt fourD
  simp only [PySem.W.keyToks, PySem.W.keyToksAll, List.cons_append, List.nil_append, lex_inl]
  rw [Bool.eq_iff_iff, decide_eq_true_iff]
  simp only [Bool.or_eq_true, Bool.and_eq_true, Bool.not_eq_true', decide_eq_true_eq, decide_eq_false_iff_not, PyProof.Rows.lexLt, item_inl, Bool.false_eq_true, or_false, and_false]
  unfold FourLt
  omega
def minFour (x : Four) (xs : List Four) : Four := xs.foldl (fun a y => if FourLt y a then y else a) x
theorem minD_four (x : Four) : ∀ xs : List Four, PySem.W.minD (fourD x) (xs.map fourD) = fourD (minFour x xs) := by
  intro xs
  unfold PySem.W.minD minFour
  induction xs generalizing x with
  | nil => rfl
  | cons y r ih =>
    rw [List.map_cons, List.foldl_cons, List.foldl_cons, ← ih, four_lt]
    congr 1
    by_cases h : FourLt y x
    · rw [decide_eq_true h, if_pos rfl, if_pos h]
    · rw [decide_eq_false h, if_neg Bool.false_ne_true, if_neg h]
theorem minFour_least : ∀ (xs : List Four) (x y : Four), y ∈ x :: xs → ¬ FourLt y (minFour x xs) := by
  intro xs
  induction xs with
  | nil =>
    intro x y h
    rw [List.mem_singleton.mp h]
    show ¬ FourLt x x
    unfold FourLt
    omega
  | cons z r ih =>
    intro x y h
    have e : minFour x (z :: r) = minFour (if FourLt z x then z else x) r := rfl
    rw [e]
    have hm := ih (if FourLt z x then z else x)
    have h0 := hm _ (List.mem_cons_self ..)
    rcases List.mem_cons.mp h with rfl | h
    · by_cases c : FourLt z y
      · rw [if_pos c] at h0 ⊢
        unfold FourLt at c h0 ⊢
        omega
      · rw [if_neg c] at h0 ⊢
        exact h0
    · rcases List.mem_cons.mp h with rfl | h
      · by_cases c : FourLt y x
        · rw [if_pos c] at h0 ⊢
          exact h0
        · rw [if_neg c] at h0 ⊢
          unfold FourLt at c h0 ⊢
          omega
      · exact hm y (List.mem_cons_of_mem _ h)
variable {X : Cx}
def FourAt (H : Hp) (q : Four) (a : Addr) : Prop := H a = some (.tup [.int q.1, .int q.2.1, .int q.2.2.1, .int q.2.2.2])
/-- min(xs), xs a list of fours of numbers -/
def rMinFour (K : PySem.W.Frag) : List V → Hp → VK → Prop := fun vs H Q => ∃ (_ : Unit) (l : Addr) (as : List Addr) (x : Four) (xs : List Four), vs = [V.ref l] ∧ SqL K H l (as.map V.ref) ∧ as.length = xs.length + 1 ∧ (∀ (i : Nat) (a : Addr) (q : Four), as[i]? = some a → (x :: xs)[i]? = some q → FourAt H q a) ∧
  ∀ (_ : Unit) (a : Addr) (q : Four), q ∈ x :: xs → FourAt H q a → (∀ y, y ∈ x :: xs → ¬ FourLt y q) → Q (.ref a) H
theorem four_inj {x y : Four} (h : fourD x = fourD y) : x = y := by
  obtain ⟨a, b, c, d⟩ := x
  obtain ⟨a', b', c', d'⟩ := y
  unfold fourD at h
  simp only [PyData.tuple.injEq, List.cons.injEq, PyData.int.injEq, and_true] at h
  obtain ⟨h1, h2, h3, h4⟩ := h
  subst h1 h2 h3 h4
  rfl
theorem cr_minFour {k : Nat} (hr : Room k X.A) (hc : X.calm = true) : CallR X (.builtin "min") (rMinFour X.K) := by
  intro pins s σ H vs us Q I r h
  obtain ⟨_, l, as, x, xs, rfl, hs, hl, hf, q⟩ := h
  rw [Vals.ref1 r]
  obtain ⟨its, rv, pl, _⟩ := I.list hs
  have hd : DpAll X.K H (as.map V.ref) ((x :: xs).map fourD) := dpAll_refs (L := fourD) (by rw [hl]; rfl) fun i p q h1 h2 => .tup (SqT.of (hf i p q h1 h2)) (.cons (.int _) (.cons (.int _) (.cons (.int _) (.cons (.int _) .nil))))
  obtain ⟨ws, hrd⟩ := Dp.readsAll I _ _ _ hd rv
  have hal : PySem.W.AlikeAll (fourD x :: xs.map fourD) := by
    have all : ∀ d, d ∈ fourD x :: xs.map fourD → ∃ q, d = fourD q := fun d hd => by
      rcases List.mem_cons.mp hd with z | z
      · exact ⟨x, z⟩
      · obtain ⟨q, _, e⟩ := List.mem_map.mp z
        exact ⟨q, e.symm⟩
    refine ⟨fun d hd e he => ?_, fun d hd z => ?_⟩
    · obtain ⟨q1, rfl⟩ := all d hd
      obtain ⟨q2, rfl⟩ := all e he
      simp [fourD, PySem.W.alike, PySem.W.alikeAll]
    · obtain ⟨q1, rfl⟩ := all d hd
      cases z
  refine PySem.W.min_list_data (I.ok.hd hc) pl.isList (x := fourD x) (xs := xs.map fourD) (by simpa using hrd) hal ?_ fun i v g tk bs hv hrv hk => ?_
  · have hdep : PyData.depthAll (fourD x :: xs.map fourD) ≤ 2 := by
      have h2 : ∀ ys : List Four, PyData.depthAll (ys.map fourD) ≤ 2 := fun ys => by
        induction ys with
        | nil => exact Nat.zero_le _
        | cons y r ih =>
          rw [List.map_cons]
          simp only [PyData.depthAll]
          exact Nat.max_le.mpr ⟨by simp [fourD, PyData.depth, PyData.depthAll], ih⟩
      exact h2 (x :: xs)
    have := hr.units
    omega
  · rw [List.getElem?_toArray] at hv
    have hi := (List.getElem?_eq_some_iff.mp hv).1
    have hlen := rv.length
    rw [List.length_map] at hlen
    obtain ⟨a, ha⟩ : ∃ a, as[i]? = some a := ⟨_, List.getElem?_eq_getElem (by omega)⟩
    obtain ⟨y, hy⟩ : ∃ y, (x :: xs)[i]? = some y := ⟨_, List.getElem?_eq_getElem (by rw [List.length_cons]; omega)⟩
    obtain ⟨u, hu, ru⟩ := rv.get (i := i) (x := V.ref a) (by rw [List.getElem?_map, ha]; rfl)
    rw [hv] at hu
    obtain rfl := Option.some.inj hu
    obtain rfl : v = Value.ref a := ru
    have I2 : L2.Inv X pins σ H { s with heap := g, toks := tk } := I.kept hk
    have hfa := hf i a y ha hy
    obtain ⟨bs2, r2⟩ := Dp.reads I2 (fourD y) (.ref a) (.ref a) (.tup (SqT.of hfa) (.cons (.int _) (.cons (.int _) (.cons (.int _) (.cons (.int _) .nil))))) rfl
    rw [minD_four] at hrv
    have e : y = minFour x xs := four_inj (PySem.W.alike_unique _ _ _ _ _ (by simp [fourD, PySem.W.alike, PySem.W.alikeAll]) r2 hrv)
    exact ⟨.ref a, H, I2, rfl, q () a y (List.mem_of_getElem? hy) hfa fun z hz => by rw [e]; exact minFour_least xs x z hz⟩
end
section
variable {X : Cx}
/-- x < y of alike data -/
def rLtAlike (K : PySem.W.Frag) : R2 := fun x y H Q => ∃ (_ : Unit) (dx dy : PyData), Dp K H x dx ∧ Dp K H y dy ∧ PySem.W.alike dx dy = true ∧ dx ≠ .none ∧ dx.depth ≤ 60 ∧ Q (.bl (PySem.W.dataLt dx dy)) H
theorem op_ltAlike {k : Nat} (hr : Room k X.A) : OpR X (compareOp .Lt) (rLtAlike X.K) := by
  intro pins s σ H x y v u Q I rx ry h
  obtain ⟨_, dx, dy, h1, h2, h3, h4, h5, q⟩ := h
  obtain ⟨as, r1⟩ := Dp.reads I dx x v h1 rx
  obtain ⟨bs, r2⟩ := Dp.reads I dy y u h2 ry
  refine PySem.W.lt_data r1 r2 h3 h4 ?_ ⟨.bl (PySem.W.dataLt dx dy), H, I, rfl, q⟩
  have := hr.units
  omega
/-- four numbers in a list -/
theorem four_ltL {x y : Four} : PySem.W.dataLt (.list [.int x.1, .int x.2.1, .int x.2.2.1, .int x.2.2.2]) (.list [.int y.1, .int y.2.1, .int y.2.2.1, .int y.2.2.2]) = decide (FourLt x y) := by
  rw [← four_lt]
  rfl
end

/-! ### {**a, **b} -/
section
variable {prog : Program} {w : World} {A : Around} {E : Value → Shared → Prop} {s : Shared}
/-- a merge's store: as d[k] = v, with no mark -/
theorem put_star {d : Addr} {kvs : List (Key × Value)} {k : Key} {key v : Value} {Q : Unit → Shared → Prop} (kOk : (mixKind prog w).is k key = true) (cur : s.heap.DictOf (mixKind prog w) d kvs) (few : kvs.length ≤ sizeLine)
    (go : ∀ h', h'.DictOf (mixKind prog w) d (stored kvs k v) → Heap.SameBut d s.heap h' → Q () { s with heap := h' }) : wpAny (model prog w) A (dictPut d ((mixKind prog w).hash k) key v) Q E s := by
  obtain ⟨ob, en, ep, g1, g2, g3, g4, g5, g6⟩ := cur
  have few2 : en.size ≤ sizeLine := by
    have e1 := g5.length
    have e2 : en.toList.length = en.size := by simp
    omega
  unfold dictPut
  refine wpAny_bind (wpAny_dictFind_of kOk g1 g3 g4 ?_)
  have at1 : (en.findIdx? fun e => (mixKind prog w).is k e.key) = kvs.findIdx? fun q => decide (q.1 = k) := by
    rw [← g5.findIdx k]
    obtain ⟨l⟩ := en
    simp
  cases hi : en.findIdx? fun e => (mixKind prog w).is k e.key with
  | some i =>
    refine wpAny_updateDict g1 g3 (go _ ⟨_, _, ep, Heap.get?_update_self _ g1 (Obj.isFreed_of_dict (Obj.data_mapDict g3 _)), g2.mapDict _, Obj.data_mapDict g3 _, g4.modify _ _, ?_, ?_⟩ (Heap.SameBut.update ..))
    · rw [stored, if_pos (any_of_findIdx_some (at1 ▸ hi))]
      have hl : (en.toList.findIdx? fun e => (mixKind prog w).is k e.key) = some i := by
        rw [← hi]
        obtain ⟨l⟩ := en
        simp
      have := g5.modify g6 hl v
      obtain ⟨l⟩ := en
      simpa using this
    · rw [stored, if_pos (any_of_findIdx_some (at1 ▸ hi)), keys_map_store]
      exact g6
  | none =>
    have ni : k ∉ kvs.map (·.1) := not_mem_of_findIdx_none (at1 ▸ hi)
    have na : ¬ (kvs.any fun q => decide (q.1 = k)) = true := by
      rw [List.any_eq_true]
      rintro ⟨q, hq, he⟩
      exact ni (List.mem_map.mpr ⟨q, hq, of_decide_eq_true he⟩)
    refine wpAny_updateDictKeys (hz := few2) g1 g3 (go _ ⟨_, _, ep + 1, Heap.get?_update_self _ g1 (Obj.isFreed_of_dict (Obj.data_mapDictKeys g3 _)), g2.mapDictKeys _, Obj.data_mapDictKeys g3 _, g4.push kOk _, ?_, ?_⟩ (Heap.SameBut.update ..))
    · rw [stored, if_neg na]
      have := g5.append kOk ((mixKind prog w).hash k) v
      obtain ⟨l⟩ := en
      simpa using this
    · rw [stored, if_neg na, List.map_append, List.nodup_append]
      refine ⟨g6, by simp, ?_⟩
      intro a ha b hb
      simp only [List.map_cons, List.map_nil, List.mem_singleton] at hb
      subst hb
      exact fun e => ni (e ▸ ha)
theorem dict_sub_self : isSubtype (.type "dict") (.type "dict") = pure true := by rw [isSubtype_type]; kernel_rfl
/-- {.., **m, ..} in the model's words -/
theorem merge_star {d o : Addr} {kvs more : List (Key × Value)} {Q : Unit → Shared → Prop} (apart : d ≠ o) (nsys : (o == sysModules) = false) (hd : s.heap.DictOf (mixKind prog w) d kvs) (ho : s.heap.DictOf (mixKind prog w) o more) (few : kvs.length + more.length ≤ sizeLine)
    (go : ∀ h', h'.DictOf (mixKind prog w) d (merged kvs more) → Heap.SameBut d s.heap h' → Q () { s with heap := h' }) : wpAny (model prog w) A (mergeMapping d (.ref o) false) Q E s := by
  obtain ⟨od, esd, epd, hod, hcd, hdd, hkd, hpd, hnd⟩ := id hd
  obtain ⟨oo, eso, epo, hoo, hco, hdo', hko, hpo, hno⟩ := id ho
  have isd : s.TypeIs (.ref o) "dict" := ⟨oo, hoo, hco.1⟩
  have lenm : more.length = eso.size := by
    rw [← hpo.length]
    simp
  unfold mergeMapping
  refine wpAny_bind (wpAny_isInstance isd dict_sub_self ?_)
  show wpAny _ _ (specialOf (.ref o) (Str.ofString "__iter__") >>= _) _ _ _
  refine wpAny_bind (wpAny_specialOf isd F.slot_dict_iter.lookup ?_)
  refine wpAny_bind (wpAny_pure ?_)
  simp only [beq_self_eq_true, nsys, Bool.false_eq_true, if_false]
  have loop : wpAny (model prog w) A (do
      let size := (← dictEntries o).size
      let epoch ← dictEpoch o
      for i in List.range size do
        let some e := (← dictEntries o)[i]? | unsupported "dict.changed-during-merge"
        holding [e.key, e.val] do
          dictPut d e.hash e.key e.val
        if (← dictEpoch o) != epoch then unsupported "dict.changed-during-merge") Q E s := by
    refine wpAny_bind (wpAny_dictEntries hoo hdo' ?_)
    refine wpAny_bind (wpAny_dictEpoch hoo hdo' ?_)
    refine wpAny_bind ?_
    rw [List.range_eq_range']
    refine wpAny_forIn_list _
      (fun rest _ s' => ∃ h' i, s' = { s with heap := h' } ∧ rest = List.range' i (eso.size - i) ∧ i ≤ eso.size ∧ h'.DictOf (mixKind prog w) d (merged kvs (more.take i)) ∧ h'.get? o = some oo ∧ Heap.SameBut d s.heap h')
      _ ?_ ?_ _ _ ⟨s.heap, 0, rfl, by simp, Nat.zero_le _, by simpa [merged] using hd, hoo, Heap.SameBut.refl _ _⟩
    · rintro x rest b s' ⟨h', i, rfl, hr, hi, hd', hoo', hs'⟩
      have hlt : i < eso.size := by
        rcases Nat.lt_or_ge i eso.size with h | h
        · exact h
        · rw [Nat.sub_eq_zero_of_le h] at hr
          cases hr
      obtain ⟨rfl, hrest⟩ : x = i ∧ rest = List.range' (i + 1) (eso.size - (i + 1)) := by
        have e : eso.size - i = (eso.size - (i + 1)) + 1 := by omega
        rw [e, List.range'_succ] at hr
        injection hr with h1 h2
        exact ⟨h1, h2⟩
      refine wpAny_bind (wpAny_dictEntries hoo' hdo' ?_)
      rw [Array.getElem?_eq_getElem hlt]
      obtain ⟨kv, hkv⟩ : ∃ kv, more[x]? = some kv := ⟨more[x]'(by rw [lenm]; exact hlt), List.getElem?_eq_getElem _⟩
      obtain ⟨k, v⟩ := kv
      obtain ⟨hkey, hval⟩ := hpo.get? (e := eso[x]) (by simp [hlt]) hkv
      obtain ⟨k', hkey', hhash⟩ := hko eso[x] (Array.getElem_mem hlt)
      obtain rfl : k' = k := (mixKind prog w).inj _ _ _ hkey' hkey
      show wpAny _ _ (holding [eso[x].key, eso[x].val] (dictPut d eso[x].hash eso[x].key eso[x].val) >>= _) _ _ _
      rw [hhash, hval]
      have hmx : (merged kvs (more.take x)).length ≤ sizeLine := by
        have e1 := merged_length_le kvs (more.take x)
        have e2 : (more.take x).length ≤ more.length := by rw [List.length_take]; omega
        omega
      refine wpAny_bind (wpAny_holding (put_star hkey hd' hmx fun h'' hd'' hs'' => ?_))
      have hoo'' : h''.get? o = some oo := (hs''.2 o (Ne.symm apart)).trans hoo'
      refine wpAny_bind (wpAny_dictEpoch hoo'' hdo' ?_)
      rw [if_neg (by simp)]
      exact wpAny_pure ⟨h'', x + 1, rfl, hrest, hlt, by rw [merged_take_succ kvs more x (k', v) hkv]; exact hd'', hoo'', hs'.trans hs''⟩
    · rintro b s' ⟨h', i, rfl, hr, hi, hd', hoo', hs'⟩
      have hin : i = eso.size := by
        rcases Nat.lt_or_ge i eso.size with h | h
        · have e : eso.size - i = (eso.size - (i + 1)) + 1 := by omega
          rw [e, List.range'_succ] at hr
          exact nomatch hr
        · exact Nat.le_antisymm hi h
      refine wpAny_pure (go h' ?_ hs')
      rw [hin, ← lenm, List.take_length] at hd'
      exact hd'
  refine wpAny_bind (wpAny_dictEntries hod hdd ?_)
  split
  · refine wpAny_bind (wpAny_dictEntries hoo hdo' ?_)
    refine wpAny_bind ?_
    rw [← Array.forIn_toList]
    refine wpAny_forIn_list _ (fun rest _ s' => s' = s ∧ ∀ e ∈ rest, ∃ k, (mixKind prog w).is k e.key = true) _ ?_ ?_ _ _ ⟨rfl, fun e he => (hko e (Array.mem_toList_iff.mp he)).imp fun _ z => z.1⟩
    · rintro e rest b s' ⟨rfl, h⟩
      obtain ⟨k, hk⟩ := h e List.mem_cons_self
      have r := relV_key (show keyIs k e.key = true from hk)
      have next : ∀ y ∈ rest, ∃ k, (mixKind prog w).is k y.key = true := fun y hy => h y (List.mem_cons_of_mem _ hy)
      cases k with
      | inl i =>
        obtain ⟨t, et⟩ := (show ∃ t, e.key = .int i t from r)
        rw [et]
        exact wpAny_pure ⟨rfl, next⟩
      | inr i =>
        obtain ⟨t, et⟩ := (show ∃ t, e.key = .str i t from r)
        rw [et]
        exact wpAny_pure ⟨rfl, next⟩
    · rintro b s' ⟨rfl, _⟩
      exact loop
  · exact loop
end
/-- {**a, **b}, dicts with numbers and texts as keys; the new dict stands empty while a is read -/
def tStar2 (ta tb : TE) : TE := fun σ H Q => ∀ p, H p = none → ta σ (upd H p (.dK [])) fun x H1 => ∃ (_ : Unit) (a : Addr) (d1 : List (Key × V)), x = .ref a ∧ H1 p = some (.dK []) ∧ a ≠ p ∧ H1 a = some (.dK d1) ∧
  tb σ (upd H1 p (.dK (mergeK [] d1))) fun y H2 => ∃ (_ : Unit) (b : Addr) (d2 : List (Key × V)), y = .ref b ∧ H2 p = some (.dK (mergeK [] d1)) ∧ b ≠ p ∧ H2 b = some (.dK d2) ∧ d1.length + d2.length ≤ sizeLine ∧ Q (.ref p) (upd H2 p (.dK (mergeK (mergeK [] d1) d2)))
section
variable {X : Cx} {a b : Expr} {ta tb : TE} {pos : Pos}
theorem merge_inv {pins : List (Addr × Obj)} {σ : L2.St} {H : Hp} {s : Shared} {A : Around} {E : Value → Shared → Prop} {p o : Addr} {d1 d2 : List (Key × V)} {Q : Unit → Shared → Prop} (I : Inv X pins σ H s) (h1 : H p = some (.dK d1)) (h2 : H o = some (.dK d2)) (ne : o ≠ p) (few : d1.length + d2.length ≤ sizeLine)
    (go : ∀ s', Inv X pins σ (upd H p (.dK (mergeK d1 d2))) s' → Q () s') : wpAny (model X.prog X.w) A (mergeMapping p (.ref o) false) Q E s := by
  obtain ⟨z1, sp, v1, r1, dd1⟩ := dk_of I.hok h1
  obtain ⟨z2, so, v2, r2, dd2⟩ := dk_of I.hok h2
  refine merge_star (Ne.symm ne) so dd1 dd2 (by rw [← r1.length, ← r2.length]; exact few) fun h' dd' hs => go _ ?_
  have he : ∃ q, h'.get? p = some q := let ⟨q, _, _, hq, _⟩ := dd'; ⟨q, hq⟩
  exact d_write I (by rw [h1]; exact True.intro) hs he (dk_new (Nat.le_trans (length_mergeK d2 d1) few) sp (KV.merge r2 r1) dd')
theorem pe_star2 (ha : PE X a ta) (hb : PE X b tb) : PE X (.Dict [none, none] [a, b] pos) (tStar2 ta tb) := by
  refine ⟨fun pins s σ H Q I q => ?_⟩
  rw [arm_eval_Dict]
  show wpAny _ _ (standAt pos >>= fun _ => dictDisplay [(none, do let x ← eval a X.env; standAt pos; pure x), (none, do let x ← eval b X.env; standAt pos; pure x)]) _ _ _
  refine wpAny_bind (wpAny_standAt ?_)
  unfold dictDisplay
  dsimp only
  simp only [List.forIn_cons, List.forIn_nil, List.isEmpty_nil, if_true, pure_bind, bind_assoc]
  have hn := I.hok.fresh (Nat.le_refl s.heap.objs.size)
  have I1 := I.laid (a := s.heap.objs.size) (o := .dK []) (h' := s.heap.push { cls := .type "dict", data := .dict #[] }) (t' := s.toks) (fun _ _ q => Heap.get?_push_of_some _ q) (Nat.le_refl _) (dk_empty s.heap I.big)
  refine wpAny_bind (wpAny_alloc ?_)
  refine wpAny_bind (wpAny_holding (wpAny_bind (thn (ha.run pins _ σ _ _ I1 (q _ hn)) fun u s1 ⟨x, H1, I2, r1, _, a1, d1, ex, hp1, ne1, hd1, q1⟩ => wpAny_bind (wpAny_standAt (wpAny_pure ?_)))))
  subst ex
  obtain rfl : u = Value.ref a1 := r1
  refine wpAny_bind (wpAny_onRaise (wpAny_tryCatch (wpAny_onRaise (wpAny_holding (merge_inv I2 hp1 hd1 ne1 (by rw [List.length_nil, Nat.zero_add]; exact (dk_of I2.hok hd1).1) fun s2 I3 => ?_)))))
  refine wpAny_bind (wpAny_holding (wpAny_bind (thn (hb.run pins s2 σ _ _ I3 q1) fun u2 s3 ⟨y, H2, I4, r2, _, b2, d2, ey, hp2, ne2, hd2, few, q2⟩ => wpAny_bind (wpAny_standAt (wpAny_pure ?_)))))
  subst ey
  obtain rfl : u2 = Value.ref b2 := r2
  refine wpAny_bind (wpAny_onRaise (wpAny_tryCatch (wpAny_onRaise (wpAny_holding (merge_inv I4 hp2 hd2 ne2 (Nat.le_trans (Nat.add_le_add_right (by have := length_mergeK d1 []; rw [List.length_nil, Nat.zero_add] at this; exact this) _) few) fun s4 I5 => ?_)))))
  exact wpAny_pure ⟨.ref s.heap.objs.size, _, I5, rfl, q2⟩
end

/-! own short words -/
theorem iteD {p A B : Prop} [Decidable p] (h1 : p → A) (h2 : ¬ p → B) : if decide p = true then A else B := by
  by_cases h : p
  · rw [decide_eq_true h, if_pos rfl]; exact h1 h
  · rw [decide_eq_false h, if_neg Bool.false_ne_true]; exact h2 h
theorem iteDN {p A B : Prop} [Decidable p] (h1 : ¬ p → A) (h2 : p → B) : if (!decide p) = true then A else B := by
  by_cases h : p
  · rw [decide_eq_true h]; exact iteF (h2 h)
  · rw [decide_eq_false h]; exact iteT (h1 h)
theorem len_le {n : Nat} (h : Nat.ble n 1000 = true) : n ≤ sizeLine := Nat.le_trans (Nat.le_of_ble_eq_true h) (by decide)
theorem iteB {b : Bool} {A B : Prop} (h1 : b = true → A) (h2 : b = false → B) : if b = true then A else B := by
  cases b with
  | true => exact iteT (h1 rfl)
  | false => exact iteF (h2 rfl)
theorem cmul_l {i j : Int} (h : -(2 ^ 64) < i) (h' : i < 2 ^ 64) : CMul i j := .inl ⟨h, h'⟩
theorem cmul_r {i j : Int} (h : -(2 ^ 64) < j) (h' : j < 2 ^ 64) : CMul i j := .inr ⟨h, h'⟩
theorem dec_t {p : Prop} [Decidable p] (h : decide p = true) : p := of_decide_eq_true h
theorem dec_f {p : Prop} [Decidable p] (h : decide p = false) : ¬ p := of_decide_eq_false h
theorem ndec_t {p : Prop} [Decidable p] (h : (!decide p) = true) : ¬ p := fun q => by rw [decide_eq_true q] at h; cases h
theorem ndec_f {p : Prop} [Decidable p] (h : (!decide p) = false) : p := by
  by_cases q : p
  · exact q
  · rw [decide_eq_false q] at h; cases h
theorem fld_lt {n : Nat} (h : Nat.ble (n + 1) 1000 = true) : n < 1000 := Nat.le_of_ble_eq_true h
def rLen (K : PySem.W.Frag) : List V → Hp → VK → Prop := fun xs H Q => ∃ p ys, xs = [.ref p] ∧ (SqL K H p ys ∨ SqT K H p ys) ∧ Q (.int ys.length) H
def rListOf (K : PySem.W.Frag) : List V → Hp → VK → Prop := fun xs H Q => ∃ p ys, xs = [.ref p] ∧ (SqL K H p ys ∨ SqT K H p ys) ∧ ∀ l, H l = none → Q (.ref l) (upd H l (.lst ys))
def rTupleOf (K : PySem.W.Frag) : List V → Hp → VK → Prop := fun xs H Q => ∃ p ys, xs = [.ref p] ∧ ((SqL K H p ys ∧ ∀ l, H l = none → Q (.ref l) (upd H l (.tup ys))) ∨ (SqT K H p ys ∧ Q (.ref p) H))
theorem len0 : ([] : List V).length ≤ sizeLine := len_le rfl
theorem len1 {a : V} : [a].length ≤ sizeLine := len_le rfl
theorem len2 {a b : V} : [a, b].length ≤ sizeLine := len_le rfl
theorem len3 {a b c : V} : [a, b, c].length ≤ sizeLine := len_le rfl
theorem len4 {a b c d : V} : [a, b, c, d].length ≤ sizeLine := len_le rfl
theorem len5 {a b c d e : V} : [a, b, c, d, e].length ≤ sizeLine := len_le rfl
local macro_rules | `(tactic| walk_at "st") => `(tactic| repeat (first
  | (apply Exists.intro (α := V))
  | (apply Exists.intro (α := Int))
  | (apply Exists.intro (α := Bool))
  | (apply Exists.intro (α := Addr))
  | (apply Exists.intro (α := List V))
  | (apply Exists.intro (α := List Int))
  | (apply Exists.intro (α := List (Str × V)))
  | (apply Exists.intro (α := Str))
  | (apply And.intro; focus (first | omega | (dsimp only; omega) | (simp only [List.length_map, List.length_replicate]; omega) | exact rfl | assumption | exact SqL.of (by assumption) | exact Or.inl (by assumption) | exact Or.inr (by assumption) | exact Or.inr (SqT.of (by assumption)) | exact Or.inl (Or.inl upd_same) | exact Or.inl (Or.inl (Or.inl upd_same)) | (with_reducible exact len0) | (with_reducible exact len1) | (with_reducible exact len2) | (with_reducible exact len3) | (with_reducible exact len4) | (with_reducible exact len5) | exact upd_same | exact ⟨_, Or.inl (Or.inl upd_same)⟩ | exact ⟨_, SqL.of (by assumption)⟩ | exact ⟨_, by assumption⟩ | exact Or.inl ⟨rfl, _, SqL.of (by assumption)⟩ | exact Or.inl ⟨rfl, _, SqL.of upd_same⟩ | exact cmul_l (by omega) (by omega) | exact cmul_r (by omega) (by omega) | exact ⟨by omega, by omega⟩ | (simp only [List.length_map, List.length_replicate]; omega) | exact Or.inl (SqL.of (by assumption)) | exact SqT.of (by assumption) | exact fld_lt rfl | exact Or.inl ⟨_, by assumption, rfl⟩))))
/-- the script's cell at j, 0 where there is none -/
def cellOf (ns : List Int) (j : Nat) : Int := ns.getD j 0
theorem atI_ints {ns : List Int} {j : Nat} (h : j < ns.length) : atI (ns.map V.int) (j : Int) = some (.int (cellOf ns j)) := by
  refine at_of (j := j) rfl ?_
  rw [List.getElem?_map, List.getElem?_eq_getElem h]
  unfold cellOf
  rw [List.getD_eq_getElem?_getD, List.getElem?_eq_getElem h]
  rfl
theorem cellOf_out {ns : List Int} {j : Nat} (h : ¬ j < ns.length) : cellOf ns j = 0 := by
  unfold cellOf
  rw [List.getD_eq_getElem?_getD, List.getElem?_eq_none (by omega)]
  rfl
theorem same_upd {H : Hp} {p : Addr} {o : HO} (h : H p = none) : Same H (upd H p o) := fun b x e => by
  rw [upd_ne (ne_of_none e h)]
  exact e
/-- a slice of a list of ints -/
def cutI (ns : List Int) (lo hi : Option Int) : List Int := (ns.drop (HT.sIx ns.length 0 lo)).take (HT.sIx ns.length ns.length hi - HT.sIx ns.length 0 lo)
theorem cutV_ints (ns : List Int) (lo hi : Option Int) : cutV (ns.map V.int) lo hi = (cutI ns lo hi).map V.int := by
  unfold cutV cutI
  rw [List.length_map, List.map_take, List.map_drop]
theorem cutI_len (ns : List Int) (lo hi : Option Int) : (cutI ns lo hi).length ≤ ns.length := by
  unfold cutI
  rw [List.length_take, List.length_drop]
  omega
theorem ints_at {ns : List Int} {i : Nat} {x : V} (h : (ns.map V.int)[i]? = some x) : ∃ z, ns[i]? = some z ∧ x = V.int z := by
  rw [List.getElem?_map] at h
  cases e : ns[i]? with
  | none => rw [e] at h; cases h
  | some z => rw [e] at h; exact ⟨z, rfl, (Option.some.inj h).symm⟩
theorem take_succ {α : Type} {xs : List α} {i : Nat} {x : α} (h : xs[i]? = some x) : xs.take (i + 1) = xs.take i ++ [x] := by
  rw [List.take_add_one, h]
  rfl
theorem sum_le_mul : ∀ (ws : List Int) (b : Int), (∀ w, w ∈ ws → w ≤ b) → ws.sum ≤ (ws.length : Int) * b
  | [], b, _ => by show (0 : Int) ≤ ((0 : Nat) : Int) * b; omega
  | w :: ws, b, h => by
    rw [List.sum_cons, List.length_cons, Int.natCast_add, Int.add_mul]
    have h1 := h w List.mem_cons_self
    have h2 := sum_le_mul ws b fun x hx => h x (List.mem_cons_of_mem _ hx)
    omega
theorem ixN_nat {n j : Nat} (h : j < n) : ixN n (j : Int) = some j := by
  unfold ixN
  rw [if_pos (by omega), if_pos (by omega), Int.toNat_natCast]
theorem call_int_i {X : Cx} : CallR X (.type "int") (fun xs H Q => ∃ i : Int, xs = [.int i] ∧ Q (.int i) H) := by
  intro pins s σ H xs us Q I r h
  obtain ⟨i, e, q⟩ := h
  exact call_int1 pins s σ H xs us Q I r (.inl ⟨i, e, q⟩)
theorem dpAll_ints {K : PySem.W.Frag} {H : Hp} : ∀ xs : List Int, DpAll K H (xs.map V.int) (xs.map PyData.int)
  | [] => .nil
  | x :: xs => .cons (.int x) (dpAll_ints xs)
theorem eqvAll_ints : ∀ xs ys : List Int, PyData.eqvAll (xs.map PyData.int) (ys.map PyData.int) = decide (xs = ys)
  | [], [] => by simp [PyData.eqvAll]
  | [], _ :: _ => by simp [PyData.eqvAll]
  | _ :: _, [] => by simp [PyData.eqvAll]
  | x :: xs, y :: ys => by
    rw [List.map_cons, List.map_cons]
    simp only [PyData.eqvAll, PyData.eqv]
    rw [eqvAll_ints xs ys]
    by_cases h : x = y <;> by_cases h2 : xs = ys <;> simp [h, h2]
theorem lay_ints : ∀ xs : List Int, PyData.canLayAll0 (xs.map PyData.int) = true
  | [] => rfl
  | x :: xs => by
    rw [List.map_cons]
    simp only [PyData.canLayAll0, PyData.canLay0, Bool.true_and]
    exact lay_ints xs
theorem depth_ints : ∀ xs : List Int, PyData.depthAll (xs.map PyData.int) = 0
  | [] => rfl
  | x :: xs => by
    rw [List.map_cons]
    simp only [PyData.depthAll, PyData.depth, depth_ints xs]
    rfl
theorem shaped_ints (xs : List Int) : SeqAt.shaped (.list (xs.map PyData.int)) = true := by
  unfold SeqAt.shaped
  simp only [PyData.canLay0, PyData.depth, lay_ints, depth_ints]
  rfl
theorem eqD_ints {K : PySem.W.Frag} {H : Hp} {a b : Addr} {xs ys : List Int} {Q : VK} (h1 : SqL K H a (xs.map V.int)) (h2 : SqL K H b (ys.map V.int)) (q : Q (.bl (decide (xs = ys))) H) : rEqD K (.ref a) (.ref b) H Q :=
  ⟨_, _, .lst h1 (dpAll_ints xs), .lst h2 (dpAll_ints ys), shaped_ints xs, shaped_ints ys, by rw [show PyData.eqv (.list (xs.map PyData.int)) (.list (ys.map PyData.int)) = decide (xs = ys) by simp only [PyData.eqv, eqvAll_ints]]; exact q⟩
theorem neD_ints {K : PySem.W.Frag} {H : Hp} {a b : Addr} {xs ys : List Int} {Q : VK} (h1 : SqL K H a (xs.map V.int)) (h2 : SqL K H b (ys.map V.int)) (q : Q (.bl (!decide (xs = ys))) H) : rNeD K (.ref a) (.ref b) H Q :=
  ⟨_, _, .lst h1 (dpAll_ints xs), .lst h2 (dpAll_ints ys), shaped_ints xs, shaped_ints ys, by rw [show PyData.eqv (.list (xs.map PyData.int)) (.list (ys.map PyData.int)) = decide (xs = ys) by simp only [PyData.eqv, eqvAll_ints]]; exact q⟩

def at0 (ws : List Int) (i : Nat) : Int := ws.getD i 0
theorem at0_lt {ws : List Int} {i : Nat} (h : i < ws.length) : ws[i]? = some (at0 ws i) := by
  unfold at0
  rw [List.getD_eq_getElem?_getD, List.getElem?_eq_getElem h]
  rfl
theorem atI_n {ws : List Int} {j : Nat} (h : j < ws.length) : atI (ws.map V.int) (j : Int) = some (.int (at0 ws j)) := by
  refine at_of (j := j) rfl ?_
  rw [List.getElem?_map, at0_lt h]
  rfl
theorem at0_of {ws : List Int} {i : Nat} {x : Int} (h : ws[i]? = some x) : at0 ws i = x := by
  unfold at0
  rw [List.getD_eq_getElem?_getD, h]
  rfl
theorem at0_out {ws : List Int} {i : Nat} (h : ws.length ≤ i) : at0 ws i = 0 := by
  unfold at0
  rw [List.getD_eq_getElem?_getD, List.getElem?_eq_none h]
  rfl
theorem at0_ext {xs ys : List Int} (hl : xs.length = ys.length) (h : ∀ i, i < xs.length → at0 xs i = at0 ys i) : xs = ys := by
  refine List.ext_getElem? fun i => ?_
  by_cases hi : i < xs.length
  · rw [at0_lt hi, at0_lt (by omega), h i hi]
  · rw [List.getElem?_eq_none (by omega), List.getElem?_eq_none (by omega)]
theorem at0_set {ps : List Int} {k i : Nat} {x : Int} (hk : k < ps.length) : at0 (ps.set k x) i = if i = k then x else at0 ps i := by
  by_cases h : i = k
  · subst h
    rw [if_pos rfl]
    exact at0_of (List.getElem?_set_self hk)
  · rw [if_neg h]
    unfold at0
    rw [List.getD_eq_getElem?_getD, List.getD_eq_getElem?_getD, List.getElem?_set_ne (fun e => h e.symm)]
theorem at0_nonneg {ws : List Int} (h : ∀ w, w ∈ ws → 0 ≤ w) (i : Nat) : 0 ≤ at0 ws i := by
  by_cases hi : i < ws.length
  · exact h _ (List.mem_of_getElem? (at0_lt hi))
  · rw [at0_out (by omega)]; exact Int.le_refl 0

theorem pget_list {X : Cx} : PGet X (fun x y H Q => ∃ (p : Addr) (xs : List V) (j : Nat) (z : V), x = .ref p ∧ y = .int (j : Int) ∧ SqL X.K H p xs ∧ xs[j]? = some z ∧ Q z H) := by
  intro pins s σ H x y v u Q I rx ry h
  obtain ⟨p, xs, j, z, rfl, rfl, hq, he, q⟩ := h
  cases rx
  obtain ⟨t, rfl⟩ := ry
  obtain ⟨its, r, pl, hz⟩ := I.list hq
  obtain ⟨w, ew, rw'⟩ := r.get he
  have hl := r.length
  have hn := line63
  have hj := (List.getElem?_eq_some_iff.mp he).1
  exact wpAny_getItem_list pl.isList (by omega) (by omega) (by simpa using ew) ⟨z, H, I, rw', q⟩

/-! one try with any except clauses, with names or without (the library has one named clause, or several without names) -/
section
variable {X : Cx}
inductive Clause (X : Cx) : ExceptHandler → (WX → Ends → WX) → Prop
  | named {x n : Str} {c : Value} {i : Nat} {np pp : Pos} {ff : Stmt} {ss : List Stmt} {tt : Addr → Value → Option Addr → TS} (nm : Names X x c) (at_i : X.N[i]? = some n) (loc_n : X.env.kindOf n = some .local)
      (hsu : ∀ (a : Addr) (o : Obj) (cls : Value) (d : Option Addr) (pn : List (Addr × Obj)), Zc cls d o → (∃ vs, o.data = .fields vs) → PSs (X.suite a ((a, o) :: pn)) (ff :: ss) (tt a cls d)) :
      Clause X (.ExceptHandler (some (.Name x np)) (some n) (ff :: ss) pp) (fun Wn D => wAs X.K c i tt Wn D)
  | plain {x : Str} {c : Value} {np pp : Pos} {ff : Stmt} {ss : List Stmt} {tt : Addr → Value → Option Addr → TS} (nm : Names X x c)
      (hsu : ∀ (a : Addr) (o : Obj) (cls : Value) (d : Option Addr) (pn : List (Addr × Obj)), Zc cls d o → (∃ vs, o.data = .fields vs) → PSs (X.suite a ((a, o) :: pn)) (ff :: ss) (tt a cls d)) :
      Clause X (.ExceptHandler (some (.Name x np)) none (ff :: ss) pp) (fun Wn D cls d σ H => ∃ b, PySem.W.exmOne X.K cls c = some b ∧ (b = true → ∀ a, H a = none → tt a cls d D σ H) ∧ (b = false → Wn cls d σ H))
inductive Clauses (X : Cx) : List ExceptHandler → List (WX → Ends → WX) → Prop
  | nil : Clauses X [] []
  | cons {h : ExceptHandler} {w : WX → Ends → WX} {hs : List ExceptHandler} {ws : List (WX → Ends → WX)} : Clause X h w → Clauses X hs ws → Clauses X (h :: hs) (w :: ws)
def wishes (D : Ends) (Wout : WX) : List (WX → Ends → WX) → WX
  | [] => Wout
  | w :: ws => w (wishes D Wout ws) D
theorem ps_try_any {body : List Stmt} {h0 : ExceptHandler} {hds : List ExceptHandler} {ws : List (WX → Ends → WX)} {pos : Pos} {tb : WX → TS} {Wout : WX} (hst : X.stack = X.env :: X.outer) (hfr : X.env.frame = some X.env.locals) (nd : X.N.Nodup) (tk : Takes X Wout)
    (hbody : ∀ (W : WX) (pn : List (Addr × Obj)) (xe : Value → Shared → Prop), Takes (X.tr pn xe) W → PassesOwn (model X.prog X.w) X.A X.env xe → PSs (X.tr pn xe) body (tb W))
    (cl : Clauses X (h0 :: hds) ws) : PS X (.Try body (h0 :: hds) [] [] pos) (fun D σ H => tb (wishes D Wout ws) D σ H) := by
  refine ⟨fun pins sh st Hh D inv hyp => ?_⟩
  have okX := inv.ok
  have frs0 : X.A.frames = some (X.env :: X.outer) := okX.frames.trans (congrArg some hst)
  refine wpAny_Try_except ?_
  refine wpAny_mono ((hbody (wishes D Wout ws) (X.pn ++ pins) (fun ev q₁ => wpAny (model X.prog X.w) X.A (noteFrame ev X.env) (fun _ q₂ => wpAny (model X.prog X.w) X.A (setFlight ev none) (fun _ q₃ =>
    wpAny (model X.prog X.w) X.A (handleBy ev X.env (h0 :: hds)) (SP X pins D) X.xe q₃) X.xe q₂) X.xe q₁) (fun u z xx => ?_) PassesOwn.looking).run [] sh st Hh D (inv.toTry _) hyp) (fun fl z1 left => ?_) (fun _ _ same => same)
  · obtain ⟨a, B, zI, pins2, st2, Hh2, cls, d, rfl, JT, nb, up, sky, na, os, ag, wish⟩ := xx
    have J : Inv X pins st2 Hh2 zI := JT.ofTry okX
    have skyX : Sky B (X.env :: X.outer) a (Zc cls d) X.env.locals z.heap := hst ▸ sky
    show wpAny (model X.prog X.w) X.A (noteFrame (Value.ref a) X.env) _ _ _
    refine Sky.land Zc.steady frs0 hfr skyX fun hp flz upz => ?_
    have J3 : Inv X pins st2 Hh2 { z with heap := hp } := J.landed nb flz.1 (up.trans upz) os ag
    obtain ⟨oA, vsA, atA, zA, dA⟩ := flz.there
    have apart : a ∉ frs (X.env :: X.outer) := fun hm => by
      obtain ⟨_, o', e', hnf⟩ := flz.2.2.1.mem hm
      rw [atA] at e'
      cases e'
      exact hnf _ dA
    have n1 : a ≠ X.env.locals := fun w => apart (List.mem_filterMap.mpr ⟨X.env, List.mem_cons_self, hfr.trans (congrArg some w.symm)⟩)
    have n2 : a ∉ X.fs := fun hm => by
      obtain ⟨ee, he, q⟩ := List.mem_filterMap.mp hm
      exact apart (List.mem_filterMap.mpr ⟨ee, List.mem_cons_of_mem _ he, q⟩)
    have S3 := J3.suite atA dA na n1 n2
    have onward : ∀ {hs' : List ExceptHandler} {ws' : List (WX → Ends → WX)}, Clauses X hs' ws' → wishes D Wout ws' cls d st2 Hh2 → wpAny (model X.prog X.w) X.A (handleBy (.ref a) X.env hs') (SP X pins D) X.xe { z with heap := hp } := by
      intro hs' ws' all
      induction all with
      | nil =>
        intro out
        refine wpAny_handleBy_nil ?_
        obtain ⟨j1, j2, j3, oC, vC, T, oT, tC, atC, zC, dC, fC, rC⟩ := id flz
        unfold PySem.passOn
        refine wpAny_bind (wpAny_field atC dC fC ?_)
        rw [if_neg (show ¬ ((Value.ref T == Value.none) = true) by simp)]
        have fin : wpAny (model X.prog X.w) X.A (setFlight (.ref a) X.env.frame) (fun _ q4 => wpAny (model X.prog X.w) X.A (throw (.ref a) : Sem Flow) (SP X pins D) X.xe q4) X.xe { z with heap := hp } := by
          rw [hfr]
          refine HandSPX.setFlight_upZ flz fun hq fq uq => wpAny_throw (tk _ _ ?_)
          exact ⟨a, B, zI, pins, st2, Hh2, cls, d, rfl, J, nb, (up.trans upz).trans uq, .inr (.inr (hst.symm ▸ fq)), na, os, ag, out⟩
        first | (exact wpAny_bind (wpAny_pure (wpAny_bind fin))) | (exact wpAny_bind fin)
      | @cons h w more ws2 c1 _ ih =>
        intro wish2
        have looks : PySem.W.Looks (model X.prog X.w) hp (typeOf (.ref a)) cls := fun A Q E s k q => wpAny_typeOf_ref (k _ _ atA) (by rw [zA.1]; exact q)
        have test : ∀ {x' : Str} {c' : Value} {np : Pos} {Q E : Value → Shared → Prop}, Names X x' c' → Q c' { z with heap := hp } → wpAny (model X.prog X.w) (X.A.mark (some (.ref a))) (eval (.Name x' np) X.env) Q E { z with heap := hp } := fun {x' c' np Q E} nm q => by
          rcases nm with ⟨gl, nodb, known | ⟨unk, boot, nn⟩⟩
          · exact ld_glob (X := X.suite a ((a, oA) :: (X.pn ++ pins))) S3 gl known q nodb
          · exact ld_blt (X := X.suite a ((a, oA) :: (X.pn ++ pins))) S3 gl unk boot q nn nodb
        cases c1 with
        | @plain x' c' np pp ff ss tt nm hsu =>
          obtain ⟨b, isb, yes, no⟩ := wish2
          refine wpAny_handleBy_cons (codeAny_handlers_test ?_) (fun q => by cases q)
          refine test nm ((PySem.W.exm_one (M := model X.prog X.w) J3.kIn looks isb).here ?_)
          cases b with
          | false => exact ih (no rfl)
          | true =>
            refine (codeAny_handlers_suite ?_)
            refine HandSPX.lands_againZ flz fun hq flq upq => ?_
            have J4 : Inv X pins st2 Hh2 { z with heap := hq } := J.landed nb flq.1 ((up.trans upz).trans upq) os ag
            obtain ⟨oB, vsB, atB, zB, dB⟩ := flq.there
            have S4 := J4.suite atB dB na n1 n2
            refine wpAny_mono ((hsu a oB cls d (X.pn ++ pins) zB ⟨_, dB⟩).run [] _ _ Hh2 _ S4 (yes rfl a na)) (fun fl r6 got => ?_) (fun _ _ w => False.elim w)
            cases fl with
            | next =>
              obtain ⟨σ6, H6, S6, w⟩ := got
              exact ⟨_, _, S6.unsuite okX, w⟩
            | brk =>
              obtain ⟨σ6, H6, S6, w⟩ := got
              exact ⟨_, _, S6.unsuite okX, w⟩
            | cont =>
              obtain ⟨σ6, H6, S6, w⟩ := got
              exact ⟨_, _, S6.unsuite okX, w⟩
            | ret u =>
              obtain ⟨v6, σ6, H6, S6, r6', w⟩ := got
              exact ⟨_, _, _, S6.unsuite okX, r6', w⟩
        | @named x' n c' i np pp ff ss tt nm at_i loc_n hsu =>
          obtain ⟨b, isb, yes, no⟩ := wish2
          refine wpAny_handleBy_cons (codeAny_handlers_test ?_) (fun q => by cases q)
          refine test nm ((PySem.W.exm_one (M := model X.prog X.w) J3.kIn looks isb).here ?_)
          cases b with
          | false => exact ih (no rfl)
          | true =>
            refine (codeAny_handlers_suite_as ?_)
            refine HandSPX.lands_againZ flz fun hq flq upq => ?_
            have J4 : Inv X pins st2 Hh2 { z with heap := hq } := J.landed nb flq.1 ((up.trans upz).trans upq) os ag
            obtain ⟨oB, vsB, atB, zB, dB⟩ := flq.there
            have S4 := J4.suite atB dB na n1 n2
            refine store_ok (X := X.suite a ((a, oB) :: (X.pn ++ pins))) (v := .ref a) S4 nd at_i (.inl loc_n) rfl (fun r5 S5 => ?_) (.inr loc_n)
            refine wpAny_mono ((hsu a oB cls d (X.pn ++ pins) zB ⟨_, dB⟩).run [] r5 _ Hh2 _ S5 (yes rfl a na)) (fun fl r6 got => ?_) (fun _ _ w => False.elim w)
            have close : ∀ {σ6 : L2.St} {H6 : Hp} {Q : Shared → Prop}, Inv (X.suite a ((a, oB) :: (X.pn ++ pins))) [] σ6 H6 r6 → (∀ r7, Inv X pins (σ6.set i none) H6 r7 → Q r7) →
                wpAny (model X.prog X.w) X.A (do bindName X.env n .none; unbindBehindTheSuite X.env n pp) (fun _ r7 => Q r7) X.xe r6 := fun {σ6 H6 Q} S6 hq => gone_ok (S6.unsuite okX) nd at_i loc_n hq
            cases fl with
            | next =>
              obtain ⟨σ6, H6, S6, w⟩ := got
              exact close S6 fun r7 J7 => ⟨_, _, J7, w⟩
            | brk =>
              obtain ⟨σ6, H6, S6, w⟩ := got
              exact close S6 fun r7 J7 => ⟨_, _, J7, w⟩
            | cont =>
              obtain ⟨σ6, H6, S6, w⟩ := got
              exact close S6 fun r7 J7 => ⟨_, _, J7, w⟩
            | ret u =>
              obtain ⟨v6, σ6, H6, S6, r6', w⟩ := got
              exact close S6 fun r7 J7 => ⟨_, _, _, J7, r6', w⟩
    exact onward cl wish
  · cases fl with
    | next =>
      obtain ⟨σ', H', J', q⟩ := left
      exact wpAny_execs_nil ⟨σ', H', J'.ofTry okX, q⟩
    | brk =>
      obtain ⟨σ', H', J', q⟩ := left
      exact ⟨σ', H', J'.ofTry okX, q⟩
    | cont =>
      obtain ⟨σ', H', J', q⟩ := left
      exact ⟨σ', H', J'.ofTry okX, q⟩
    | ret u =>
      obtain ⟨v, σ', H', J', r, q⟩ := left
      exact ⟨v, σ', H', J'.ofTry okX, r, q⟩
end

/-! two named except clauses behind one try (the library has one named clause, or several without names) -/
section
variable {X : Cx} {x y n : Str} {c e : Value} {i : Nat} {body su1 su2 : List Stmt} {f1 f2 : Stmt} {p1 p2 p3 p4 pos : Pos} {tb : WX → TS} {t1 t2 : Addr → Value → Option Addr → TS} {Wout : WX}
theorem ps_try_as2 (hst : X.stack = X.env :: X.outer) (hfr : X.env.frame = some X.env.locals) (nd : X.N.Nodup) (at_i : X.N[i]? = some n) (loc_n : X.env.kindOf n = some .local) (nm1 : Names X x c) (nm2 : Names X y e) (tk : Takes X Wout)
    (hbody : ∀ (W : WX) (pn : List (Addr × Obj)) (xe : Value → Shared → Prop), Takes (X.tr pn xe) W → PassesOwn (model X.prog X.w) X.A X.env xe → PSs (X.tr pn xe) body (tb W))
    (hs1 : ∀ (a : Addr) (o : Obj) (cls : Value) (d : Option Addr) (pn : List (Addr × Obj)), Zc cls d o → (∃ vs, o.data = .fields vs) → PSs (X.suite a ((a, o) :: pn)) (f1 :: su1) (t1 a cls d))
    (hs2 : ∀ (a : Addr) (o : Obj) (cls : Value) (d : Option Addr) (pn : List (Addr × Obj)), Zc cls d o → (∃ vs, o.data = .fields vs) → PSs (X.suite a ((a, o) :: pn)) (f2 :: su2) (t2 a cls d)) :
    PS X (.Try body [.ExceptHandler (some (.Name x p1)) (some n) (f1 :: su1) p2, .ExceptHandler (some (.Name y p3)) (some n) (f2 :: su2) p4] [] [] pos) (fun D σ H => tb (wAs X.K c i t1 (wAs X.K e i t2 Wout D) D) D σ H) := by
  refine ⟨fun pins sh st Hh D inv hyp => ?_⟩
  have okX := inv.ok
  have frs0 : X.A.frames = some (X.env :: X.outer) := okX.frames.trans (congrArg some hst)
  refine wpAny_Try_except ?_
  refine wpAny_mono ((hbody (wAs X.K c i t1 (wAs X.K e i t2 Wout D) D) (X.pn ++ pins) (fun ev q₁ => wpAny (model X.prog X.w) X.A (noteFrame ev X.env) (fun _ q₂ => wpAny (model X.prog X.w) X.A (setFlight ev none) (fun _ q₃ =>
    wpAny (model X.prog X.w) X.A (handleBy ev X.env [.ExceptHandler (some (.Name x p1)) (some n) (f1 :: su1) p2, .ExceptHandler (some (.Name y p3)) (some n) (f2 :: su2) p4]) (SP X pins D) X.xe q₃) X.xe q₂) X.xe q₁) (fun u z xx => ?_) PassesOwn.looking).run [] sh st Hh D (inv.toTry _) hyp) (fun fl z1 left => ?_) (fun _ _ same => same)
  · obtain ⟨a, B, zI, pins2, st2, Hh2, cls, d, rfl, JT, nb, up, sky, na, os, ag, wish⟩ := xx
    have J : Inv X pins st2 Hh2 zI := JT.ofTry okX
    have skyX : Sky B (X.env :: X.outer) a (Zc cls d) X.env.locals z.heap := hst ▸ sky
    show wpAny (model X.prog X.w) X.A (noteFrame (Value.ref a) X.env) _ _ _
    refine Sky.land Zc.steady frs0 hfr skyX fun hp flz upz => ?_
    have J3 : Inv X pins st2 Hh2 { z with heap := hp } := J.landed nb flz.1 (up.trans upz) os ag
    obtain ⟨oA, vsA, atA, zA, dA⟩ := flz.there
    have apart : a ∉ frs (X.env :: X.outer) := fun hm => by
      obtain ⟨_, o', e', hnf⟩ := flz.2.2.1.mem hm
      rw [atA] at e'
      cases e'
      exact hnf _ dA
    have n1 : a ≠ X.env.locals := fun w => apart (List.mem_filterMap.mpr ⟨X.env, List.mem_cons_self, hfr.trans (congrArg some w.symm)⟩)
    have n2 : a ∉ X.fs := fun hm => by
      obtain ⟨ee, he, q⟩ := List.mem_filterMap.mp hm
      exact apart (List.mem_filterMap.mpr ⟨ee, List.mem_cons_of_mem _ he, q⟩)
    have S3 := J3.suite atA dA na n1 n2
    -- one clause
    have one : ∀ {x' : Str} {c' : Value} {np pp : Pos} {ff : Stmt} {ss : List Stmt} {tt : Addr → Value → Option Addr → TS} {Wn : WX} {more : List ExceptHandler}, Names X x' c' →
        (∀ (a : Addr) (o : Obj) (cls : Value) (d : Option Addr) (pn : List (Addr × Obj)), Zc cls d o → (∃ vs, o.data = .fields vs) → PSs (X.suite a ((a, o) :: pn)) (ff :: ss) (tt a cls d)) →
        wAs X.K c' i tt Wn D cls d st2 Hh2 → (Wn cls d st2 Hh2 → wpAny (model X.prog X.w) X.A (handleBy (.ref a) X.env more) (SP X pins D) X.xe { z with heap := hp }) →
        wpAny (model X.prog X.w) X.A (handleBy (.ref a) X.env (.ExceptHandler (some (.Name x' np)) (some n) (ff :: ss) pp :: more)) (SP X pins D) X.xe { z with heap := hp } := by
      intro x' c' np pp ff ss tt Wn more nm hsu ⟨b, isb, yes, no⟩ next
      refine wpAny_handleBy_cons (codeAny_handlers_test ?_) (fun q => by cases q)
      have looks : PySem.W.Looks (model X.prog X.w) hp (typeOf (.ref a)) cls := fun A Q E s k q => wpAny_typeOf_ref (k _ _ atA) (by rw [zA.1]; exact q)
      have test : ∀ {Q E : Value → Shared → Prop}, Q c' { z with heap := hp } → wpAny (model X.prog X.w) (X.A.mark (some (.ref a))) (eval (.Name x' np) X.env) Q E { z with heap := hp } := fun {Q E} q => by
        rcases nm with ⟨gl, nodb, known | ⟨unk, boot, nn⟩⟩
        · exact ld_glob (X := X.suite a ((a, oA) :: (X.pn ++ pins))) S3 gl known q nodb
        · exact ld_blt (X := X.suite a ((a, oA) :: (X.pn ++ pins))) S3 gl unk boot q nn nodb
      refine test ((PySem.W.exm_one (M := model X.prog X.w) J3.kIn looks isb).here ?_)
      cases b with
      | false => exact next (no rfl)
      | true =>
        refine (codeAny_handlers_suite_as ?_)
        refine HandSPX.lands_againZ flz fun hq flq upq => ?_
        have J4 : Inv X pins st2 Hh2 { z with heap := hq } := J.landed nb flq.1 ((up.trans upz).trans upq) os ag
        obtain ⟨oB, vsB, atB, zB, dB⟩ := flq.there
        have S4 := J4.suite atB dB na n1 n2
        refine store_ok (X := X.suite a ((a, oB) :: (X.pn ++ pins))) (v := .ref a) S4 nd at_i (.inl loc_n) rfl (fun r5 S5 => ?_) (.inr loc_n)
        refine wpAny_mono ((hsu a oB cls d (X.pn ++ pins) zB ⟨_, dB⟩).run [] r5 _ Hh2 _ S5 (yes rfl a na)) (fun fl r6 got => ?_) (fun _ _ w => False.elim w)
        have close : ∀ {σ6 : L2.St} {H6 : Hp} {Q : Shared → Prop}, Inv (X.suite a ((a, oB) :: (X.pn ++ pins))) [] σ6 H6 r6 → (∀ r7, Inv X pins (σ6.set i none) H6 r7 → Q r7) →
            wpAny (model X.prog X.w) X.A (do bindName X.env n .none; unbindBehindTheSuite X.env n pp) (fun _ r7 => Q r7) X.xe r6 := fun {σ6 H6 Q} S6 hq => gone_ok (S6.unsuite okX) nd at_i loc_n hq
        cases fl with
        | next =>
          obtain ⟨σ6, H6, S6, w⟩ := got
          exact close S6 fun r7 J7 => ⟨_, _, J7, w⟩
        | brk =>
          obtain ⟨σ6, H6, S6, w⟩ := got
          exact close S6 fun r7 J7 => ⟨_, _, J7, w⟩
        | cont =>
          obtain ⟨σ6, H6, S6, w⟩ := got
          exact close S6 fun r7 J7 => ⟨_, _, J7, w⟩
        | ret u =>
          obtain ⟨v6, σ6, H6, S6, r6', w⟩ := got
          exact close S6 fun r7 J7 => ⟨_, _, _, J7, r6', w⟩
    refine one nm1 hs1 wish fun wish2 => one nm2 hs2 wish2 fun out => ?_
    refine wpAny_handleBy_nil ?_
    obtain ⟨j1, j2, j3, oC, vC, T, oT, tC, atC, zC, dC, fC, rC⟩ := id flz
    unfold PySem.passOn
    refine wpAny_bind (wpAny_field atC dC fC ?_)
    rw [if_neg (show ¬ ((Value.ref T == Value.none) = true) by simp)]
    have fin : wpAny (model X.prog X.w) X.A (setFlight (.ref a) X.env.frame) (fun _ q4 => wpAny (model X.prog X.w) X.A (throw (.ref a) : Sem Flow) (SP X pins D) X.xe q4) X.xe { z with heap := hp } := by
      rw [hfr]
      refine HandSPX.setFlight_upZ flz fun hq fq uq => wpAny_throw (tk _ _ ?_)
      exact ⟨a, B, zI, pins, st2, Hh2, cls, d, rfl, J, nb, (up.trans upz).trans uq, .inr (.inr (hst.symm ▸ fq)), na, os, ag, out⟩
    first | (exact wpAny_bind (wpAny_pure (wpAny_bind fin))) | (exact wpAny_bind fin)
  · cases fl with
    | next =>
      obtain ⟨σ', H', J', q⟩ := left
      exact wpAny_execs_nil ⟨σ', H', J'.ofTry okX, q⟩
    | brk =>
      obtain ⟨σ', H', J', q⟩ := left
      exact ⟨σ', H', J'.ofTry okX, q⟩
    | cont =>
      obtain ⟨σ', H', J', q⟩ := left
      exact ⟨σ', H', J'.ofTry okX, q⟩
    | ret u =>
      obtain ⟨v, σ', H', J', r, q⟩ := left
      exact ⟨v, σ', H', J'.ofTry okX, r, q⟩
end

section
variable {X : Cx}
/-- isinstance(e, C), e the error that the suite holds, of the class D -/
def rIsE' (K : PySem.W.Frag) (D a : Addr) (cls : Value) (d : Option Addr) : List V → Hp → VK → Prop := fun xs H Q => cls = .ref D ∧ d = none ∧ rIsE K D a xs H Q
theorem call_isE' {a D : Addr} {cls : Value} {d : Option Addr} {oe : Obj} {pn : List (Addr × Obj)} (C : ExcC X.K D) (hz : Zc cls d oe) (hf : ∃ vs, oe.data = .fields vs) : CallR (X.suite a ((a, oe) :: pn)) (.builtin "isinstance") (rIsE' X.K D a cls d) := by
  intro pins s σ H xs us Q I r h
  obtain ⟨rfl, rfl, h⟩ := h
  exact call_isE C hz hf pins s σ H xs us Q I r h
end

theorem in1_lt {k : Nat} {A : Around} (hr : Room k A) : A.in1.units < cLine := by
  have := hr.un
  simp only [Around.in1_units]
  omega
/-- a comprehension over enumerate(xs) -/
theorem lc_enum {K : PySem.W.Frag} {a : Addr} {xs : List V} {g : TG} {tt : TT} {te : TE} {vs : List Nat} {σ : L2.St} {H1 : Hp} {D : Addr} {Qd : Hp → Prop} (Pv : Nat → Hp → Prop) (h0 : Pv 0 (upd H1 D (.lst []))) (hl : ∀ i H, i ≤ xs.length → Pv i H → SqL K H a xs)
    (hs : ∀ (i : Nat) (x : V) (H : Hp) (T : Addr), xs[i]? = some x → Pv i H → H T = none → g (.ref T) (wipe σ vs) (upd H T (.tup [.int (i : Int), x])) fun σ2 H2 => wipe σ2 vs = wipe σ vs ∧ tt σ2 H2 fun b H3 =>
      if b = true then te σ2 H3 fun y H4 => ∃ acc, H4 D = some (.lst acc) ∧ acc.length < sizeLine ∧ Pv (i + 1) (upd H4 D (.lst (acc ++ [y]))) else Pv (i + 1) H3) (hd : ∀ H, Pv xs.length H → Qd H) :
    ∃ W : Nat → Nat → Hp → Prop, (∃ m, W 0 m (upd H1 D (.lst []))) ∧ ∀ i m H, W i m H →
      ((Ite K a).stop i H ∧ Qd H) ∨ ((Ite K a).go i H ∧ ∃ Nx : Hp → Prop, (∀ H', Nx H' → ∃ m', m' < m ∧ W (i + 1) m' H') ∧ ∀ x H', (Ite K a).yld i H x H' → g x (wipe σ vs) H' fun σ2 H2 => wipe σ2 vs = wipe σ vs ∧ tt σ2 H2 fun b H3 =>
        if b = true then te σ2 H3 fun y H4 => ∃ acc, H4 D = some (.lst acc) ∧ acc.length < sizeLine ∧ Nx (upd H4 D (.lst (acc ++ [y]))) else Nx H3) := by
  refine ⟨fun i m H => m + i = xs.length ∧ Pv i H, ⟨xs.length, rfl, h0⟩, ?_⟩
  rintro i m H ⟨em, p⟩
  have q := hl i H (by omega) p
  by_cases hlt : i < xs.length
  · refine .inr ⟨⟨xs, xs[i], q, List.getElem?_eq_getElem hlt⟩, Pv (i + 1), fun H' p' => ⟨m - 1, by omega, by omega, p'⟩, fun x H' y => ?_⟩
    obtain ⟨T, z, rfl, nT, rfl, hz⟩ := y
    exact hs i z H T (hz xs q) p nT
  · have e : i = xs.length := by omega
    subst e
    exact .inl ⟨⟨xs, q, Nat.le_refl _⟩, hd H p⟩

/-- for i, x in enumerate(xs): each turn a new pair -/
theorem for_enum {K : PySem.W.Frag} {a : Addr} {xs : List V} {g : TG} {tb : TS} {D : Ends} {σ : L2.St} {H : Hp} (Pv : Nat → L2.St → Hp → Prop) (h0 : Pv 0 σ H) (hl : ∀ i σ H, i ≤ xs.length → Pv i σ H → SqL K H a xs)
    (hs : ∀ (i : Nat) (x : V) (σ : L2.St) (H : Hp) (T : Addr), xs[i]? = some x → Pv i σ H → H T = none → g (.ref T) σ (upd H T (.tup [.int (i : Int), x])) fun σ2 H2 => tb { D with nx := Pv (i + 1), ct := Pv (i + 1), bk := D.nx } σ2 H2) (hd : ∀ σ H, Pv xs.length σ H → D.nx σ H) :
    ∃ W : Nat → Nat → L2.St → Hp → Prop, (∃ m, W 0 m σ H) ∧ ∀ i m σ H, W i m σ H →
      ((Ite K a).stop i H ∧ D.nx σ H) ∨ ((Ite K a).go i H ∧ ∃ N : L2.St → Hp → Prop, (∀ σ' H', N σ' H' → ∃ m', m' < m ∧ W (i + 1) m' σ' H') ∧ ∀ x H', (Ite K a).yld i H x H' → g x σ H' fun σ2 H2 => tb { D with nx := N, ct := N, bk := D.nx } σ2 H2) := by
  refine ⟨fun i m σ H => m + i = xs.length ∧ Pv i σ H, ⟨xs.length, rfl, h0⟩, ?_⟩
  rintro i m σ H ⟨em, p⟩
  have q := hl i σ H (by omega) p
  by_cases hlt : i < xs.length
  · refine .inr ⟨⟨xs, xs[i], q, List.getElem?_eq_getElem hlt⟩, Pv (i + 1), fun σ' H' p' => ⟨m - 1, by omega, by omega, p'⟩, fun x H' y => ?_⟩
    obtain ⟨T, z, rfl, nT, rfl, hz⟩ := y
    exact hs i z σ H T (hz xs q) p nT
  · have e : i = xs.length := by omega
    subst e
    exact .inl ⟨⟨xs, q, Nat.le_refl _⟩, hd σ H p⟩
theorem call_int_b {X : Cx} : CallR X (.type "int") (fun xs H Q => ∃ b : Bool, xs = [.bl b] ∧ Q (.int (if b = true then 1 else 0)) H) := by
  intro pins s σ H xs us Q I r h
  obtain ⟨i, e, q⟩ := h
  exact call_int1 pins s σ H xs us Q I r (.inr ⟨i, e, q⟩)

/-! a range that is kept under a name -/
theorem mk_rng {X : Cx} : CallR X (.type "range") (fun xs H Q => ∃ top, xs = [V.int top] ∧ ∀ a, H a = none → Q (.ref a) (upd H a (.rng 0 top))) := by
  intro pn sh st Hh xs us Q inv rel hyp
  obtain ⟨top, rfl, go⟩ := hyp
  obtain ⟨w1, rfl, tk1, rfl⟩ := vals1 rel
  refine call_range_1 ⟨.ref sh.heap.objs.size, upd Hh sh.heap.objs.size (.rng 0 top), ?_, rfl, go _ (inv.hok.fresh (Nat.le_refl _))⟩
  refine inv.laid (t' := sh.toks + 2) (fun b o e => Heap.get?_push_of_some _ e) (Nat.le_refl _) ?_
  exact ⟨sh.toks, tk1, sh.toks + 1, Heap.get?_push_size _ rfl⟩
/-- walking it: lo, the bounds, the turns -/
def iRngV (tv : TE) : TI := fun σ H R => tv σ H fun x H1 => ∃ (a : Addr) (n : Nat), x = .ref a ∧ H1 a = some (.rng 0 (n : Int)) ∧ (n : Int) < 2 ^ 62 ∧ R (Itr 0 n) H1
theorem pi_rng {X : Cx} {tg l : Expr} {tv : TE} (hl : PE X l tv) : PI X tg l (iRngV tv) := by
  refine ⟨fun pn sh st Hh R inv hyp => ?_⟩
  refine thn (hl.run pn sh st Hh _ inv hyp) fun vv s2 ⟨y, H2, inv2, rel2, more⟩ => ?_
  obtain ⟨a, n, ea, ha, hb, go⟩ := more
  subst ea
  cases rel2
  obtain ⟨k1, k2, k3, hobj⟩ := inv2.hok a _ ha
  have small : Builtin.Range.small 0 (n : Int) 1 = true := small_one (by omega) (by omega) (by omega) (by omega)
  refine wpAny_pyIter_range (a := 0) (b := (n : Int)) (c := 1) hobj small ?_
  have inv3 : Inv X pn st H2 { s2 with heap := s2.heap.push { cls := Value.type "range_iterator", data := Data.fields #[rawInt 0, rawInt (Builtin.Range.rangeSize 0 (n : Int) 1), rawInt 1] } } := inv2.kept (t' := s2.toks) fun _ _ was => Heap.get?_push_of_some _ was
  have size : (n : Int) - ((0 : Nat) : Int) = Builtin.Range.rangeSize 0 (n : Int) 1 := by
    rw [rangeSize_one]
    split <;> omega
  refine ⟨s2.heap.objs.size, [s2.heap.objs.size], _, _, H2, rfl, inv3, turn_range _ 0 n, ?_, fun c hc => ?_, go⟩
  · rw [show IsRangeIter _ _ _ _ _ = _ from rfl, size]
    exact (Heap.get?_push_size _ rfl)
  · obtain rfl : c = s2.heap.objs.size := List.mem_singleton.mp hc
    exact inv2.fpOk (Nat.le_refl _) (inv2.hok.fresh (Nat.le_refl _))

/-- the first n values of g -/
def rowI (n : Nat) (g : Nat → Int) : List Int := (List.range n).map g
theorem rowI_len (n : Nat) (g : Nat → Int) : (rowI n g).length = n := by
  unfold rowI
  rw [List.length_map, List.length_range]
theorem rowI_at {n : Nat} {g : Nat → Int} {i : Nat} (h : i < n) : (rowI n g)[i]? = some (g i) := by
  unfold rowI
  rw [List.getElem?_map, List.getElem?_range h]
  rfl
theorem atI_row {n : Nat} {g : Nat → Int} {i : Nat} (h : i < n) : atI ((rowI n g).map V.int) (i : Int) = some (.int (g i)) := by
  refine at_of (j := i) rfl ?_
  rw [List.getElem?_map, rowI_at h]
  rfl
theorem rowI_succ (n : Nat) (g : Nat → Int) : rowI (n + 1) g = rowI n g ++ [g n] := by
  unfold rowI
  rw [List.range_succ, List.map_append]
  rfl
theorem rowI_eq {n : Nat} {f g : Nat → Int} : rowI n f = rowI n g ↔ ∀ i, i < n → f i = g i := by
  unfold rowI
  rw [List.map_inj_left]
  exact ⟨fun h i hi => h i (List.mem_range.mpr hi), fun h i hi => h i (List.mem_range.mp hi)⟩
theorem rowI_of (ws : List Int) : rowI ws.length (at0 ws) = ws := by
  refine List.ext_getElem? fun i => ?_
  by_cases h : i < ws.length
  · rw [rowI_at h, at0_lt h]
  · rw [List.getElem?_eq_none (by rw [rowI_len]; omega), List.getElem?_eq_none (by omega)]
theorem rowI_mem {n : Nat} {g : Nat → Int} {x : Int} : x ∈ rowI n g ↔ ∃ i, i < n ∧ g i = x := by
  unfold rowI
  rw [List.mem_map]
  exact ⟨fun ⟨i, h, e⟩ => ⟨i, List.mem_range.mp h, e⟩, fun ⟨i, h, e⟩ => ⟨i, List.mem_range.mpr h, e⟩⟩
/-- the sum of the first n values of g -/
def sumI (n : Nat) (g : Nat → Int) : Int := (rowI n g).sum
theorem sumI_succ (n : Nat) (g : Nat → Int) : sumI (n + 1) g = sumI n g + g n := by
  unfold sumI
  rw [rowI_succ, List.sum_append, List.sum_cons, List.sum_nil]
  omega
theorem sumI_congr {n : Nat} {f g : Nat → Int} (h : ∀ i, i < n → f i = g i) : sumI n f = sumI n g := by
  unfold sumI
  rw [rowI_eq.mpr h]
theorem sumI_sub : ∀ (n : Nat) (f g : Nat → Int), sumI n (fun i => f i - g i) = sumI n f - sumI n g
  | 0, _, _ => rfl
  | n + 1, f, g => by rw [sumI_succ, sumI_succ, sumI_succ, sumI_sub n f g]; omega
theorem sumI_bound {n : Nat} {g : Nat → Int} {m : Int} (h : ∀ i, i < n → 0 ≤ g i ∧ g i ≤ m) : 0 ≤ sumI n g ∧ sumI n g ≤ n * m := by
  induction n with
  | zero => exact ⟨Int.le_refl 0, by show (0 : Int) ≤ ((0 : Nat) : Int) * m; omega⟩
  | succ n ih =>
    have h1 := ih fun i hi => h i (by omega)
    have h2 := h n (by omega)
    rw [sumI_succ]
    have e : ((n + 1 : Nat) : Int) * m = n * m + m := by rw [Int.natCast_add, Int.add_mul]; omega
    omega
/-- a square table of numbers, its rows at ps -/
structure Tab (H : Hp) (t : Addr) (ps : List Addr) (n : Nat) (f : Nat → Nat → Int) : Prop where
  lst : H t = some (.lst (ps.map V.ref))
  len : ps.length = n
  row : ∀ i p, ps[i]? = some p → H p = some (.lst ((rowI n (f i)).map V.int))
  nod : ps.Nodup
  out : t ∉ ps
theorem Tab.same {H H' : Hp} {t : Addr} {ps : List Addr} {n : Nat} {f : Nat → Nat → Int} (h : Tab H t ps n f) (e : Same H H') : Tab H' t ps n f :=
  ⟨e _ _ h.lst, h.len, fun i p hp => e _ _ (h.row i p hp), h.nod, h.out⟩
def tabL (n : Nat) (f : Nat → Nat → Int) : List (List Int) := (List.range n).map fun i => rowI n (f i)
theorem tabL_at {n : Nat} {f : Nat → Nat → Int} {i : Nat} (h : i < n) : (tabL n f)[i]? = some (rowI n (f i)) := by
  unfold tabL
  rw [List.getElem?_map, List.getElem?_range h]
  rfl
theorem tabL_eq {n : Nat} {f g : Nat → Nat → Int} : tabL n f = tabL n g ↔ ∀ i, i < n → ∀ j, j < n → f i j = g i j := by
  unfold tabL
  rw [List.map_inj_left]
  exact ⟨fun h i hi => rowI_eq.mp (h i (List.mem_range.mpr hi)), fun h i hi => rowI_eq.mpr (h i (List.mem_range.mp hi))⟩
theorem layD_tab : LayD (fun xs : List (List Int) => PyData.list (xs.map fun ys => PyData.list (ys.map PyData.int))) 2 (fun xs => ∀ x, x ∈ xs → ∀ y, y ∈ x → True) := layD_int.list.list
theorem Tab.dp {K : PySem.W.Frag} {H : Hp} {t : Addr} {ps : List Addr} {n : Nat} {f : Nat → Nat → Int} (h : Tab H t ps n f) : Dp K H (.ref t) (PyData.list ((tabL n f).map fun ys => PyData.list (ys.map PyData.int))) := by
  refine .lst (SqL.of h.lst) (dpAll_refs ?_ fun i p x h1 h2 => ?_)
  · rw [h.len]
    unfold tabL
    rw [List.length_map, List.length_range]
  · have hi := (List.getElem?_eq_some_iff.mp h1).1
    rw [h.len] at hi
    rw [tabL_at hi] at h2
    cases h2
    exact .lst (SqL.of (h.row i p h1)) (dpAll_ints _)
theorem refs_at {ps : List Addr} {i : Nat} {x : V} (h : (ps.map V.ref)[i]? = some x) : ∃ p, ps[i]? = some p ∧ x = V.ref p := by
  rw [List.getElem?_map] at h
  cases e : ps[i]? with
  | none => rw [e] at h; cases h
  | some z => rw [e] at h; exact ⟨z, rfl, (Option.some.inj h).symm⟩
theorem Tab.at {H : Hp} {t : Addr} {ps : List Addr} {n : Nat} {f : Nat → Nat → Int} (h : Tab H t ps n f) {i : Nat} (hi : i < n) : ∃ p, ps[i]? = some p ∧ atI (ps.map V.ref) (i : Int) = some (.ref p) ∧ H p = some (.lst ((rowI n (f i)).map V.int)) := by
  have hl : i < ps.length := by rw [h.len]; exact hi
  refine ⟨ps[i], List.getElem?_eq_getElem hl, at_of (j := i) rfl ?_, h.row i _ (List.getElem?_eq_getElem hl)⟩
  rw [List.getElem?_map, List.getElem?_eq_getElem hl]
  rfl

/-- a table that grows: m rows of n numbers -/
structure TabR (H : Hp) (t : Addr) (ps : List Addr) (m n : Nat) (f : Nat → Nat → Int) : Prop where
  lst : H t = some (.lst (ps.map V.ref))
  len : ps.length = m
  row : ∀ i p, ps[i]? = some p → H p = some (.lst ((rowI n (f i)).map V.int))
  nod : ps.Nodup
  out : t ∉ ps
theorem TabR.nil {H : Hp} {t : Addr} (n : Nat) (f : Nat → Nat → Int) (h : H t = some (.lst [])) : TabR H t [] 0 n f :=
  ⟨h, rfl, fun _ _ e => (by rw [List.getElem?_nil] at e; cases e), List.nodup_nil, fun h => (by cases h)⟩
theorem TabR.congr {H : Hp} {t : Addr} {ps : List Addr} {m n : Nat} {f g : Nat → Nat → Int} (h : TabR H t ps m n f) (e : ∀ i, i < m → ∀ j, j < n → f i j = g i j) : TabR H t ps m n g :=
  ⟨h.lst, h.len, fun i p hp => by
    have hi := (List.getElem?_eq_some_iff.mp hp).1
    rw [h.row i p hp, rowI_eq.mpr (e i (by rw [← h.len]; exact hi))], h.nod, h.out⟩
theorem TabR.push {H H' : Hp} {t p : Addr} {ps : List Addr} {m n : Nat} {f : Nat → Nat → Int} (h : TabR H t ps m n f) (e : Same H H') (np : H p = none) (hp : H' p = some (.lst ((rowI n (f m)).map V.int))) : TabR (upd H' t (.lst (ps.map V.ref ++ [V.ref p]))) t (ps ++ [p]) (m + 1) n f := by
  have hmem : ∀ q, q ∈ ps → ∃ o, H q = some o := fun q hq => by
    obtain ⟨i, hi⟩ := List.mem_iff_getElem?.mp hq
    exact ⟨_, h.row i q hi⟩
  have hpt : p ≠ t := fun z => by rw [z, h.lst] at np; cases np
  have hnp : p ∉ ps := fun z => by
    obtain ⟨o, ho⟩ := hmem p z
    rw [np] at ho
    cases ho
  refine ⟨?_, ?_, fun i q hq => ?_, ?_, ?_⟩
  · rw [upd_same, List.map_append]
    rfl
  · rw [List.length_append, h.len]
    rfl
  · by_cases hi : i < ps.length
    · rw [List.getElem?_append_left hi] at hq
      have hm := List.mem_of_getElem? hq
      rw [upd_ne (fun z => h.out (by rw [← z]; exact hm))]
      exact e _ _ (h.row i q hq)
    · rw [List.getElem?_append_right (by omega)] at hq
      have hi2 := (List.getElem?_eq_some_iff.mp hq).1
      have : i - ps.length = 0 := by
        rw [List.length_cons, List.length_nil] at hi2
        omega
      rw [this] at hq
      have hqp : p = q := Option.some.inj hq
      subst hqp
      rw [upd_ne hpt, hp]
      have : i = m := by have := h.len; omega
      rw [this]
  · rw [List.nodup_append]
    refine ⟨h.nod, List.nodup_cons.mpr ⟨fun z => (by cases z), List.nodup_nil⟩, fun a ha b hb z => ?_⟩
    rw [List.mem_singleton] at hb
    rw [hb] at z
    rw [z] at ha
    exact hnp ha
  · intro z
    rcases List.mem_append.mp z with z | z
    · exact h.out z
    · rw [List.mem_singleton] at z
      exact hpt z.symm
theorem TabR.tab {H : Hp} {t : Addr} {ps : List Addr} {n : Nat} {f : Nat → Nat → Int} (h : TabR H t ps n n f) : Tab H t ps n f := ⟨h.lst, h.len, h.row, h.nod, h.out⟩
theorem TabR.keep {H H0 : Hp} {t : Addr} {xs : List V} (s : Same H0 H) (nt : H0 t = none) : Same H0 (upd H t (.lst xs)) := fun b o e => by
  rw [upd_ne (ne_of_none e nt)]
  exact s b o e
/-- debts: one to thirteen houses, nobody owes itself -/
structure Debts (n : Nat) (f : Nat → Nat → Int) (m : Int) : Prop where
  n0 : 1 ≤ n
  n1 : n ≤ 13
  b : ∀ i, i < n → ∀ j, j < n → 0 ≤ f i j ∧ f i j ≤ m
  d : ∀ i, i < n → f i i = 0
theorem Debts.mono {n : Nat} {f : Nat → Nat → Int} {m k : Int} (h : Debts n f m) (e : m ≤ k) : Debts n f k := ⟨h.n0, h.n1, fun i hi j hj => ⟨(h.b i hi j hj).1, Int.le_trans (h.b i hi j hj).2 e⟩, h.d⟩

/-- a list of tuples: the tuple of each item -/
structure Tups {α : Type} (enc : α → List V) (H : Hp) (l : Addr) (ps : List Addr) (xs : List α) : Prop where
  lst : H l = some (.lst (ps.map V.ref))
  len : ps.length = xs.length
  row : ∀ (i : Nat) (p : Addr) (x : α), ps[i]? = some p → xs[i]? = some x → H p = some (.tup (enc x))
theorem Tups.nil {α : Type} {enc : α → List V} {H : Hp} {l : Addr} (h : H l = some (.lst [])) : Tups enc H l [] ([] : List α) :=
  ⟨h, rfl, fun _ _ _ e => (by rw [List.getElem?_nil] at e; cases e)⟩
theorem Tups.same {α : Type} {enc : α → List V} {H H' : Hp} {l : Addr} {ps : List Addr} {xs : List α} (h : Tups enc H l ps xs) (e : Same H H') : Tups enc H' l ps xs :=
  ⟨e _ _ h.lst, h.len, fun i p x a b => e _ _ (h.row i p x a b)⟩
theorem Tups.at {α : Type} {enc : α → List V} {H : Hp} {l : Addr} {ps : List Addr} {xs : List α} (h : Tups enc H l ps xs) {i : Nat} {x : α} (e : xs[i]? = some x) : ∃ p, ps[i]? = some p ∧ atI (ps.map V.ref) (i : Int) = some (.ref p) ∧ H p = some (.tup (enc x)) := by
  have hi := (List.getElem?_eq_some_iff.mp e).1
  have hl : i < ps.length := by rw [h.len]; exact hi
  refine ⟨ps[i], List.getElem?_eq_getElem hl, at_of (j := i) rfl ?_, h.row i _ x (List.getElem?_eq_getElem hl) e⟩
  rw [List.getElem?_map, List.getElem?_eq_getElem hl]
  rfl
theorem Tups.item {α : Type} {enc : α → List V} {H : Hp} {l : Addr} {ps : List Addr} {xs : List α} (h : Tups enc H l ps xs) {i : Nat} {v : V} (e : (ps.map V.ref)[i]? = some v) : ∃ p x, ps[i]? = some p ∧ xs[i]? = some x ∧ v = .ref p ∧ H p = some (.tup (enc x)) := by
  obtain ⟨p, hp, rfl⟩ := refs_at e
  have hi := (List.getElem?_eq_some_iff.mp hp).1
  rw [h.len] at hi
  exact ⟨p, xs[i], hp, List.getElem?_eq_getElem hi, rfl, h.row i p _ hp (List.getElem?_eq_getElem hi)⟩
theorem Tups.push {α : Type} {enc : α → List V} {H H' : Hp} {l p : Addr} {ps : List Addr} {xs : List α} {x : α} (h : Tups enc H l ps xs) (e : Same H H') (np : H p = none) (hp : H' p = some (.tup (enc x))) : Tups enc (upd H' l (.lst (ps.map V.ref ++ [V.ref p]))) l (ps ++ [p]) (xs ++ [x]) := by
  have hpl : p ≠ l := fun z => by rw [z, h.lst] at np; cases np
  refine ⟨?_, ?_, fun i q y hq hy => ?_⟩
  · rw [upd_same, List.map_append]
    rfl
  · rw [List.length_append, List.length_append, h.len]
    rfl
  · by_cases hi : i < ps.length
    · rw [List.getElem?_append_left hi] at hq
      rw [List.getElem?_append_left (by rw [← h.len]; exact hi)] at hy
      have hq2 := h.row i q y hq hy
      rw [upd_ne (fun z => by rw [z, h.lst] at hq2; cases hq2)]
      exact e _ _ hq2
    · rw [List.getElem?_append_right (by omega)] at hq
      rw [List.getElem?_append_right (by have := h.len; omega)] at hy
      have h1 := (List.getElem?_eq_some_iff.mp hq).1
      rw [List.length_cons, List.length_nil] at h1
      have e0 : i - ps.length = 0 := by omega
      have e1 : i - xs.length = 0 := by have := h.len; omega
      rw [e0] at hq
      rw [e1] at hy
      have z1 : p = q := Option.some.inj hq
      have z2 : x = y := Option.some.inj hy
      rw [← z1, ← z2, upd_ne hpl]
      exact hp
theorem Tups.dp {α : Type} {enc : α → List V} {L : α → PyData} {K : PySem.W.Frag} {H : Hp} {l : Addr} {ps : List Addr} {xs : List α} (h : Tups enc H l ps xs) (he : ∀ x (p : Addr), H p = some (.tup (enc x)) → Dp K H (.ref p) (L x)) : Dp K H (.ref l) (PyData.list (xs.map L)) :=
  .lst (SqL.of h.lst) (dpAll_refs h.len fun i p x h1 h2 => he x p (h.row i p x h1 h2))
def enc2 (x : Int × Int) : List V := [.int x.1, .int x.2]
def enc3 (x : Int × Int × Int) : List V := [.int x.1, .int x.2.1, .int x.2.2]
def lay3 (x : Int × Int × Int) : PyData := .tuple [.int x.1, .int x.2.1, .int x.2.2]
theorem layD_3 : LayD lay3 1 (fun x => True ∧ True ∧ True) := layD_int.tup3 layD_int layD_int
theorem dp3 {K : PySem.W.Frag} {H : Hp} (x : Int × Int × Int) (p : Addr) (h : H p = some (.tup (enc3 x))) : Dp K H (.ref p) (lay3 x) :=
  .tup (SqT.of h) (.cons (.int _) (.cons (.int _) (.cons (.int _) .nil)))
theorem Tups.push2 {α : Type} {enc : α → List V} {H : Hp} {l p : Addr} {ps : List Addr} {xs : List α} {x : α} (h : Tups enc H l ps xs) (hp : H p = some (.tup (enc x))) : Tups enc (upd H l (.lst (ps.map V.ref ++ [V.ref p]))) l (ps ++ [p]) (xs ++ [x]) := by
  have hpl : p ≠ l := fun z => by rw [z, h.lst] at hp; cases hp
  refine ⟨?_, ?_, fun i q y hq hy => ?_⟩
  · rw [upd_same, List.map_append]
    rfl
  · rw [List.length_append, List.length_append, h.len]
    rfl
  · by_cases hi : i < ps.length
    · rw [List.getElem?_append_left hi] at hq
      rw [List.getElem?_append_left (by rw [← h.len]; exact hi)] at hy
      have hq2 := h.row i q y hq hy
      rw [upd_ne (fun z => by rw [z, h.lst] at hq2; cases hq2)]
      exact hq2
    · rw [List.getElem?_append_right (by omega)] at hq
      rw [List.getElem?_append_right (by have := h.len; omega)] at hy
      have h1 := (List.getElem?_eq_some_iff.mp hq).1
      rw [List.length_cons, List.length_nil] at h1
      have e0 : i - ps.length = 0 := by omega
      have e1 : i - xs.length = 0 := by have := h.len; omega
      rw [e0] at hq
      rw [e1] at hy
      have z1 : p = q := Option.some.inj hq
      have z2 : x = y := Option.some.inj hy
      rw [← z1, ← z2, upd_ne hpl]
      exact hp
theorem Tups.copy {α : Type} {enc : α → List V} {H H' : Hp} {l l2 : Addr} {ps : List Addr} {xs : List α} (h : Tups enc H l ps xs) (e : Same H H') (h2 : H' l2 = some (.lst (ps.map V.ref))) : Tups enc H' l2 ps xs :=
  ⟨h2, h.len, fun i p x a b => e _ _ (h.row i p x a b)⟩
theorem Tups.other {α : Type} {enc : α → List V} {H : Hp} {l A : Addr} {ps : List Addr} {xs : List α} {ys zs : List V} (h : Tups enc H l ps xs) (hA : H A = some (.lst ys)) (ne : l ≠ A) : Tups enc (upd H A (.lst zs)) l ps xs :=
  ⟨by rw [upd_ne ne]; exact h.lst, h.len, fun i p x a b => by
    have hp := h.row i p x a b
    rw [upd_ne (fun z => by rw [z, hA] at hp; cases hp)]
    exact hp⟩

/-! a dict from texts to whole numbers -/
def encD (d : List (Int × Int)) : List (Key × V) := d.map fun x => (Sum.inl x.1, V.int x.2)
def getS (d : List (Int × Int)) (s : Int) : Option Int := (d.find? fun x => decide (x.1 = s)).map (·.2)
def keysS (d : List (Int × Int)) : List Int := d.map (·.1)
def putS (d : List (Int × Int)) (s : Int) (v : Int) : List (Int × Int) := if s ∈ keysS d then d.map (fun x => if x.1 = s then (x.1, v) else x) else d ++ [(s, v)]
def gD (d : List (Int × Int)) (s : Int) : Int := (getS d s).getD 0
theorem inl_eq {a b : Int} : ((Sum.inl a : Key) = Sum.inl b) ↔ a = b := ⟨fun h => Sum.inl.inj h, fun h => by rw [h]⟩
theorem valV_enc (s : Int) : ∀ d : List (Int × Int), valV (encD d) (Sum.inl s) = (getS d s).map V.int
  | [] => rfl
  | x :: d => by
    unfold encD getS
    rw [List.map_cons, List.find?_cons]
    by_cases h : x.1 = s
    · rw [valV_pos (by rw [h]), decide_eq_true h]; rfl
    · rw [valV_neg (fun z => h (Sum.inl.inj z)), decide_eq_false h]
      exact valV_enc s d
theorem any_enc (s : Int) : ∀ d : List (Int × Int), ((encD d).any fun kv => decide (kv.1 = Sum.inl s)) = decide (s ∈ keysS d)
  | [] => rfl
  | x :: d => by
    have ih := any_enc s d
    unfold encD at ih ⊢
    rw [List.map_cons, List.any_cons, ih]
    unfold keysS
    rw [List.map_cons]
    by_cases h : x.1 = s
    · have hm : s ∈ x.1 :: List.map (fun x => x.1) d := by rw [← h]; exact List.mem_cons_self
      rw [decide_eq_true (show ((Sum.inl x.1 : Key) = Sum.inl s) by rw [h]), decide_eq_true hm]; rfl
    · rw [decide_eq_false (fun z => h (Sum.inl.inj z)), Bool.false_or]
      exact decide_eq_decide.mpr ⟨fun z => List.mem_cons_of_mem _ z, fun z => (List.mem_cons.mp z).resolve_left fun e => h e.symm⟩
theorem putK_enc (d : List (Int × Int)) (s : Int) (v : Int) : putK (encD d) (Sum.inl s) (V.int v) = encD (putS d s v) := by
  unfold putK putS
  rw [any_enc]
  by_cases h : s ∈ keysS d
  · rw [if_pos (decide_eq_true h), if_pos h]
    unfold encD
    rw [List.map_map, List.map_map]
    refine List.map_congr_left fun x _ => ?_
    show (if (Sum.inl x.1 : Key) = Sum.inl s then ((Sum.inl x.1 : Key), V.int v) else (Sum.inl x.1, V.int x.2)) = _
    by_cases z : x.1 = s
    · rw [if_pos (by rw [z])]
      show _ = ((Sum.inl (if x.1 = s then (x.1, v) else x).1 : Key), V.int (if x.1 = s then (x.1, v) else x).2)
      rw [if_pos z]
    · rw [if_neg (fun e => z (Sum.inl.inj e))]
      show _ = ((Sum.inl (if x.1 = s then (x.1, v) else x).1 : Key), V.int (if x.1 = s then (x.1, v) else x).2)
      rw [if_neg z]
  · rw [if_neg (by rw [decide_eq_false h]; exact Bool.false_ne_true), if_neg h]
    unfold encD
    rw [List.map_append]
    rfl
def addK (ks : List Int) (s : Int) : List Int := if s ∈ ks then ks else ks ++ [s]
theorem keys_put (d : List (Int × Int)) (s : Int) (v : Int) : keysS (putS d s v) = addK (keysS d) s := by
  unfold putS addK
  by_cases h : s ∈ keysS d
  · rw [if_pos h, if_pos h]
    unfold keysS
    rw [List.map_map]
    refine List.map_congr_left fun x _ => ?_
    show (if x.1 = s then (x.1, v) else x).1 = x.1
    split <;> rfl
  · rw [if_neg h, if_neg h]
    unfold keysS
    rw [List.map_append]
    rfl
theorem get_mem (s : Int) : ∀ d : List (Int × Int), (getS d s).isSome = decide (s ∈ keysS d)
  | [] => rfl
  | x :: d => by
    have ih := get_mem s d
    unfold getS keysS at ih ⊢
    rw [List.find?_cons, List.map_cons]
    by_cases h : x.1 = s
    · rw [decide_eq_true h, decide_eq_true (by rw [h]; exact List.mem_cons_self)]; rfl
    · rw [decide_eq_false h]
      refine ih.trans (decide_eq_decide.mpr ⟨fun z => List.mem_cons_of_mem _ z, fun z => (List.mem_cons.mp z).resolve_left fun e => h e.symm⟩)
theorem get_some {d : List (Int × Int)} {s : Int} (h : s ∈ keysS d) : getS d s = some (gD d s) := by
  have e := get_mem s d
  rw [decide_eq_true h] at e
  unfold gD
  cases w : getS d s with
  | none => rw [w] at e; cases e
  | some x => rfl
theorem get_map (s t : Int) (v : Int) : ∀ d : List (Int × Int), getS (d.map fun x => if x.1 = s then (x.1, v) else x) t = (getS d t).map fun w => if t = s then v else w
  | [] => rfl
  | x :: d => by
    have ih := get_map s t v d
    unfold getS at ih ⊢
    rw [List.map_cons, List.find?_cons, List.find?_cons]
    have e1 : (if x.1 = s then (x.1, v) else x).1 = x.1 := by split <;> rfl
    rw [e1]
    by_cases h : x.1 = t
    · rw [decide_eq_true h]
      show some (if x.1 = s then (x.1, v) else x).2 = some (if t = s then v else x.2)
      by_cases z : x.1 = s
      · rw [if_pos z, if_pos (h.symm.trans z)]
      · rw [if_neg z, if_neg fun e => z (h.trans e)]
    · rw [decide_eq_false h]
      exact ih
theorem gD_put (d : List (Int × Int)) (s t : Int) (v : Int) : gD (putS d s v) t = if t = s then v else gD d t := by
  unfold gD putS
  by_cases h : s ∈ keysS d
  · rw [if_pos h, get_map]
    by_cases z : t = s
    · have := get_some h
      rw [z, this, if_pos rfl]
      show (if s = s then v else gD d s) = v
      rw [if_pos rfl]
    · rw [if_neg z]
      cases getS d t with
      | none => rfl
      | some w => show (if t = s then v else w) = w; rw [if_neg z]
  · rw [if_neg h]
    unfold getS
    rw [List.find?_append]
    by_cases z : t = s
    · have e := get_mem s d
      rw [decide_eq_false h] at e
      unfold getS at e
      rw [z, if_pos rfl]
      cases w : d.find? fun x => decide (x.1 = s) with
      | none => rw [Option.none_or, List.find?_cons, decide_eq_true rfl]; rfl
      | some x => rw [w] at e; cases e
    · rw [if_neg z]
      have : List.find? (fun x : Int × Int => decide (x.1 = t)) [(s, v)] = none := by
        rw [List.find?_cons, decide_eq_false fun e : s = t => z e.symm]
        rfl
      rw [this, Option.or_none]
theorem dget_go {H : Hp} {a : Addr} {s : Int} {d : List (Int × Int)} {R : Option V → Prop} (h : H a = some (.dK (encD d))) (q : R ((getS d s).map V.int)) : ∃ o, DGet H a (.int s) o ∧ R o := by
  refine ⟨_, ?_, q⟩
  have := DGet.k (k := Sum.inl s) h
  rw [valV_enc] at this
  exact this
theorem dget_at {H : Hp} {a : Addr} {s : Int} {d : List (Int × Int)} (h : H a = some (.dK (encD d))) (k : s ∈ keysS d) : DGet H a (.int s) (some (.int (gD d s))) := by
  have := DGet.k (k := Sum.inl s) h
  rw [valV_enc, get_some k] at this
  exact this
theorem dput_go {H : Hp} {a : Addr} {s : Int} {v : Int} {d : List (Int × Int)} {R : Hp → Prop} (h : H a = some (.dK (encD d))) (hl : d.length ≤ 1000) (q : R (upd H a (.dK (encD (putS d s v))))) : ∃ H', V.ref a = V.ref a ∧ DPut H a (.int s) (.int v) H' ∧ R H' := by
  refine ⟨_, rfl, ?_, q⟩
  rw [← putK_enc]
  refine DPut.k (k := Sum.inl s) h ?_
  unfold encD
  rw [List.length_map]
  exact small1000 (by omega)
theorem getD_int (d : List (Int × Int)) (s : Int) : ((getS d s).map V.int).getD (.int 0) = .int (gD d s) := by
  unfold gD
  cases getS d s <;> rfl
theorem isD_enc {H : Hp} {a : Addr} {d : List (Int × Int)} (h : H a = some (.dK (encD d))) : IsD H a := .inl ⟨_, .inl h⟩
theorem addK_mem {ks : List Int} {s t : Int} : t ∈ addK ks s ↔ t ∈ ks ∨ t = s := by
  unfold addK
  split
  · exact ⟨.inl, fun h => h.elim id fun e => by rw [e]; assumption⟩
  · rw [List.mem_append, List.mem_singleton]
theorem addK_nodup {ks : List Int} {s : Int} (h : ks.Nodup) : (addK ks s).Nodup := by
  unfold addK
  split
  · exact h
  · rename_i n
    rw [List.nodup_append]
    exact ⟨h, List.nodup_cons.mpr ⟨fun z => (by cases z), List.nodup_nil⟩, fun a ha b hb e => n (by rw [List.mem_singleton] at hb; rw [← hb, ← e]; exact ha)⟩
theorem addK_len (ks : List Int) (s : Int) : (addK ks s).length ≤ ks.length + 1 := by
  unfold addK
  split
  · omega
  · rw [List.length_append]; exact Nat.le_refl _
theorem keys_enc (d : List (Int × Int)) : (encD d).map (·.1) = (keysS d).map Sum.inl := by
  unfold encD keysS
  rw [List.map_map, List.map_map]
  rfl

/-! ### xs != ys, two lists of the very same objects -/
def rNeSame (K : PySem.W.Frag) : R2 := fun x y H Q => ∃ (a b : Addr) (as : List Addr), x = .ref a ∧ y = .ref b ∧ SqL K H a (as.map V.ref) ∧ SqL K H b (as.map V.ref) ∧ Q (.bl false) H
theorem vals_same : ∀ {as : List Addr} {its : List Value}, Vals (as.map V.ref) its → its = as.map Value.ref
  | [], _, .nil => rfl
  | _ :: _, _, .cons h t => by
    cases h
    rw [vals_same t]
    rfl
theorem op_neSame {X : Cx} (hu : X.A.units + 64 < cLine) : OpR X (compareOp .NotEq) (rNeSame X.K) := by
  intro pins s σ H x y v u Q I rx ry h
  obtain ⟨a, b, as, rfl, rfl, h1, h2, q⟩ := h
  cases rx
  cases ry
  obtain ⟨us1, r1, p1, _⟩ := I.list h1
  obtain ⟨us2, r2, p2, _⟩ := I.list h2
  obtain rfl := vals_same r1
  obtain rfl := vals_same r2
  have key := PySem.SeqAt.RcNeAt.lists (A := X.A) (e := fun _ => true) p1.isList p2.isList rfl (by omega) fun j j1 j2 => PySem.SeqAt.EqAt.same _
  rw [show (!(List.range (as.map Value.ref).toArray.size).all fun _ => true) = false by simp] at key
  exact key X.prog X.w X.xe _ ⟨.bl false, H, I, rfl, q⟩

section
variable {P : Program} {w : World} {K : PySem.W.Frag} {mg : Str → Option Value} {base : Heap}
def optV : Option Int → V
  | none => .non
  | some i => .int i
def buyS (s : Str) : Bool := decide (V.str s = V.str "buy")
/-- whether the limit takes the price -/
def takes (side : Str) (limit : Option Int) (p : Int) : Bool := match limit with
  | none => true
  | some l => if buyS side then decide (p ≤ l) else decide (l ≤ p)
def sp_accepts (K : PySem.W.Frag) : Sp := fun vs H Q _ => ∃ (s : Str) (l : Option Int) (p : Int), vs = [.str s, optV l, .int p] ∧ Q (.bl (takes s l p)) H
set_option maxHeartbeats 0 in
theorem ok_accepts (T : Txt K mg) [TB : TabsOk T base] : FnOk P w K mg base CX0 1 T.f_accepts T.d_accepts ["side", "limit", "price"] (sp_accepts K) := by
  refine T.F_accepts.ok sc_accepts (fun vs H Q E h => ?_) (fun cdv A outer s H vs Q E hr h => ?_)
  · obtain ⟨s, l, p, rfl, _⟩ := h
    rfl
  · obtain ⟨s, l, p, rfl, q⟩ := h
    refine ⟨_, (pss_cons (ps_if (pt_cmpR op_isN (pv 1) pe_non (nomark _))
      (pss_one (ps_ret pe_bl))
      pss_nil)
    (pss_one (ps_ret (pe_ifExp (pt_cmpR op_eq (pv 0) pe_str (nomark _)) (pe_cmpR op_le (pv 2) (pv 1) (nomark _)) (pe_cmpR op_ge (pv 2) (pv 1) (nomark _)))))), ?_⟩
    cases l with
    | none =>
      walk_at "st"
      exact q
    | some l =>
      walk_at "st"
      refine iteB (fun h => ?_) (fun h => ?_)
      · walk_at "st"
        have e : takes s (some l) p = decide (p ≤ l) := by
          show (if buyS s = true then _ else _) = _
          rw [show buyS s = true from h, if_pos rfl]
        rw [e] at q
        exact q
      · walk_at "st"
        have e : takes s (some l) p = decide (l ≤ p) := by
          show (if buyS s = true then _ else _) = _
          rw [show buyS s = false from h, if_neg Bool.false_ne_true]
        rw [e] at q
        exact q

def sp_is_integral (K : PySem.W.Frag) : Sp := fun vs H Q _ => ∃ x : Int, vs = [.int x] ∧ Q (.bl true) H
set_option maxHeartbeats 0 in
theorem ok_is_integral (T : Txt K mg) [TB : TabsOk T base] : FnOk P w K mg base CX0 1 T.f_is_integral T.d_is_integral ["value"] (sp_is_integral K) := by
  refine T.F_is_integral.ok sc_is_integral (fun vs H Q E h => ?_) (fun cdv A outer s H vs Q E hr h => ?_)
  · obtain ⟨x, rfl, _⟩ := h
    rfl
  · obtain ⟨x, rfl, q⟩ := h
    refine ⟨_, (pss_one (ps_ret (pe_and (pe_callB call_isi (by rfl) T.z_isinstance (by decide +kernel) (pa_cons (pv 0) (pa_cons (pe_bltn (v := .ty "int") (u := .type "int") (by rfl) T.z_int (by decide +kernel) rfl) pa_nil))) (pe_one (pe_not (pe_callB call_isi (by rfl) T.z_isinstance (by decide +kernel) (pa_cons (pv 0) (pa_cons (pe_bltn (v := .ty "bool") (u := .type "bool") (by rfl) T.z_bool (by decide +kernel) rfl) pa_nil)))))))), ?_⟩
    refine ⟨_, rfl, ?_⟩
    refine ⟨_, _, _, _, true, rfl, .ty _, .base (.int _), kit_ty (by decide +kernel), ?_⟩
    refine ⟨true, rfl, iteT ?_⟩
    refine ⟨_, rfl, ?_⟩
    refine ⟨_, _, _, _, false, rfl, .ty _, .base (.int _), kit_ty (by decide +kernel), ?_⟩
    refine ⟨false, rfl, ?_⟩
    exact q
def sp_is_within (K : PySem.W.Frag) : Sp := fun vs H Q _ => ∃ a b x : Int, vs = [.int a, .int b, .int x] ∧ Q (.bl (decide (a ≤ x ∧ x ≤ b))) H
set_option maxHeartbeats 0 in
theorem ok_is_within (T : Txt K mg) [TB : TabsOk T base] : FnOk P w K mg base CX0 2 T.f_is_within T.d_is_within ["least", "most", "value"] (sp_is_within K) := by
  refine T.F_is_within.ok sc_is_within (fun vs H Q E h => ?_) (fun cdv A outer s H vs Q E hr h => ?_)
  · obtain ⟨a, b, x, rfl, _⟩ := h
    rfl
  · obtain ⟨a, b, x, rfl, q⟩ := h
    have G_is_integral : FnOk P w K mg base CX0 1 T.f_is_integral T.d_is_integral ["value"] (sp_is_integral K) := ok_is_integral T
    refine ⟨_, (pss_one (ps_ret (pe_and (pe_call G_is_integral hr (by rfl) T.m_is_integral T.F_is_integral.kp T.b_is_integral .nil pass0 (pa_cons (pv 2) pa_nil)) (pe_one (pe_chain op_le op_le (pv 0) (pv 2) (pv 1)))))), ?_⟩
    walk_at "st"
    refine iteB (fun h => ?_) (fun h => ?_)
    · walk_at "st"
      rw [show (decide (a ≤ x ∧ x ≤ b)) = decide (x ≤ b) from decide_eq_decide.mpr ⟨fun z => z.2, fun z => ⟨dec_t h, z⟩⟩] at q
      exact q
    · rw [decide_eq_false (fun z => dec_f h z.1)] at q
      exact q

def sp_check_side (K : PySem.W.Frag) (C : Addr) : Sp := fun vs H Q E => ∃ s : Str, vs = [.str s] ∧ ((V.str s = V.str "buy" ∨ V.str s = V.str "sell") → Q .non H) ∧ (¬ (V.str s = V.str "buy" ∨ V.str s = V.str "sell") → E (.ref C) none H)
set_option maxHeartbeats 0 in
theorem ok_check_side (T : Txt K mg) [TB : TabsOk T base] : FnOk P w K mg base (L2.CX P w) 1 T.f_check_side T.d_check_side ["side"] (sp_check_side K T.c_InvalidOrder) := by
  refine T.F_check_side.okX sc_check_side (fun vs H Q E h => ?_) (fun cdv A outer s H vs Q E hr h => ?_)
  · obtain ⟨s, rfl, _⟩ := h
    rfl
  · obtain ⟨s, rfl, q, qe⟩ := h
    
    refine ⟨_, (pss_one (ps_if (pt_cmpR op_notIn_seq (pv 0) (pe_glob (v := .ref T.c_SIDES) rfl T.m_SIDES rfl) rfl)
      (pss_one (ps_raise rfl (takes_of rfl rfl rfl rfl) (pmk_own PySem.F.excBase_ValueError T.x_InvalidOrder T.m_InvalidOrder T.k_InvalidOrder (raises_own T.b_InvalidOrder T.t_InvalidOrder) (by rfl))))
      pss_nil)), ?_⟩
    have hq := T.q_SIDES H
    have hin : inV (V.str s) [.str "buy", .str "sell"] = true ↔ (V.str s = V.str "buy" ∨ V.str s = V.str "sell") := by
      unfold inV
      rw [List.any_cons, List.any_cons, List.any_nil, Bool.or_false, Bool.or_eq_true]
      have e : ∀ a b : Str, eqV (.str a) (.str b) = true ↔ V.str b = V.str a := fun a b => by
        show (a == b) = true ↔ _
        rw [beq_iff_eq]
        exact ⟨fun h => by rw [h], fun h => (V.str.inj h).symm⟩
      rw [e, e]
    walk_at "st"
    rw [if_pos (show true = true from rfl)]
    by_cases h : V.str s = V.str "buy" ∨ V.str s = V.str "sell"
    · rw [hin.mpr h]
      exact q h
    · rw [show inV (V.str s) [.str "buy", .str "sell"] = false from Bool.eq_false_iff.mpr fun e => h (hin.mp e)]
      exact qe h
def sp_check_number (K : PySem.W.Frag) (C : Addr) : Sp := fun vs H Q E => ∃ n a b : Int, vs = [.int n, .int a, .int b] ∧ (a ≤ n ∧ n ≤ b → Q .non H) ∧ (¬ (a ≤ n ∧ n ≤ b) → E (.ref C) none H)
set_option maxHeartbeats 0 in
theorem ok_check_number (T : Txt K mg) [TB : TabsOk T base] : FnOk P w K mg base (L2.CX P w) 3 T.f_check_number T.d_check_number ["number", "least", "most"] (sp_check_number K T.c_InvalidOrder) := by
  refine T.F_check_number.okX sc_check_number (fun vs H Q E h => ?_) (fun cdv A outer s H vs Q E hr h => ?_)
  · obtain ⟨n, a, b, rfl, _⟩ := h
    rfl
  · obtain ⟨n, a, b, rfl, q, qe⟩ := h
    have G_is_within : FnOk P w K mg base CX0 2 T.f_is_within T.d_is_within ["least", "most", "value"] (sp_is_within K) := ok_is_within T
    refine ⟨_, (pss_one (ps_if (pt_not (pt_val (pe_call G_is_within hr (by rfl) T.m_is_within T.F_is_within.kp T.b_is_within .nil pass0 (pa_cons (pv 1) (pa_cons (pv 2) (pa_cons (pv 0) pa_nil))))))
      (pss_one (ps_raise rfl (takes_of rfl rfl rfl rfl) (pmk_own PySem.F.excBase_ValueError T.x_InvalidOrder T.m_InvalidOrder T.k_InvalidOrder (raises_own T.b_InvalidOrder T.t_InvalidOrder) (by rfl))))
      pss_nil)), ?_⟩
    walk_at "st"
    by_cases h : a ≤ n ∧ n ≤ b
    · rw [decide_eq_true h]
      exact q h
    · rw [decide_eq_false h]
      exact qe h
def sp_check_price (K : PySem.W.Frag) (C : Addr) : Sp := fun vs H Q E => ∃ n : Int, vs = [.int n] ∧ (1 ≤ n ∧ n ≤ 1000000 → Q .non H) ∧ (¬ (1 ≤ n ∧ n ≤ 1000000) → E (.ref C) none H)
set_option maxHeartbeats 0 in
theorem ok_check_price (T : Txt K mg) [TB : TabsOk T base] : FnOk P w K mg base (L2.CX P w) 4 T.f_check_price T.d_check_price ["price"] (sp_check_price K T.c_InvalidOrder) := by
  refine T.F_check_price.okX sc_check_price (fun vs H Q E h => ?_) (fun cdv A outer s H vs Q E hr h => ?_)
  · obtain ⟨n, rfl, _⟩ := h
    rfl
  · obtain ⟨n, rfl, q, qe⟩ := h
    have G_check_number : FnOk P w K mg base (L2.CX P w) 3 T.f_check_number T.d_check_number ["number", "least", "most"] (sp_check_number K T.c_InvalidOrder) := ok_check_number T
    refine ⟨_, (pss_one (ps_expr (pe_callS G_check_number hr (by rfl) T.m_check_number T.F_check_number.kp T.b_check_number (fun σ => passAt (takes_of rfl rfl rfl rfl) σ) (pa_cons (pv 0) (pa_cons pe_int (pa_cons (pe_glob (v := .int 1000000) rfl T.m_MOST ⟨_, rfl⟩) pa_nil)))))), ?_⟩
    walk_at "st"
    exact fun h => qe h
def sp_check_quantity (K : PySem.W.Frag) (C : Addr) : Sp := fun vs H Q E => ∃ n : Int, vs = [.int n] ∧ (1 ≤ n ∧ n ≤ 1000000 → Q .non H) ∧ (¬ (1 ≤ n ∧ n ≤ 1000000) → E (.ref C) none H)
set_option maxHeartbeats 0 in
theorem ok_check_quantity (T : Txt K mg) [TB : TabsOk T base] : FnOk P w K mg base (L2.CX P w) 4 T.f_check_quantity T.d_check_quantity ["quantity"] (sp_check_quantity K T.c_InvalidOrder) := by
  refine T.F_check_quantity.okX sc_check_quantity (fun vs H Q E h => ?_) (fun cdv A outer s H vs Q E hr h => ?_)
  · obtain ⟨n, rfl, _⟩ := h
    rfl
  · obtain ⟨n, rfl, q, qe⟩ := h
    have G_check_number : FnOk P w K mg base (L2.CX P w) 3 T.f_check_number T.d_check_number ["number", "least", "most"] (sp_check_number K T.c_InvalidOrder) := ok_check_number T
    refine ⟨_, (pss_one (ps_expr (pe_callS G_check_number hr (by rfl) T.m_check_number T.F_check_number.kp T.b_check_number (fun σ => passAt (takes_of rfl rfl rfl rfl) σ) (pa_cons (pv 0) (pa_cons pe_int (pa_cons (pe_glob (v := .int 1000000) rfl T.m_MOST ⟨_, rfl⟩) pa_nil)))))), ?_⟩
    walk_at "st"
    exact fun h => qe h

/-! ### a call: the orders as rows -/
structure Ord30 where
  n : Int
  h : Str
  s : Str
  p : Option Int
  q : Int
def rowO (o : Ord30) : List V := [.int o.n, .str o.h, .str o.s, optV o.p, .int o.q]
def rowR (o : Ord30) : List V := [.int o.n, optV o.p, .int o.q]
/-- what an order is sorted by -/
def rankK (s : Str) : Option Int → Int × Int
  | none => (0, 0)
  | some z => (1, if buyS s then -z else z)
def sp_rank (K : PySem.W.Frag) : Sp := fun vs H Q _ => ∃ (s : Str) (p : Option Int), vs = [.str s, optV p] ∧ ∀ t, H t = none → Q (.ref t) (upd H t (.tup [.int (rankK s p).1, .int (rankK s p).2]))
set_option maxHeartbeats 0 in
theorem ok_rank (T : Txt K mg) [TB : TabsOk T base] : FnOk P w K mg base CX0 1 T.f_rank T.d_rank ["side", "price"] (sp_rank K) := by
  refine T.F_rank.ok sc_rank (fun vs H Q E h => ?_) (fun cdv A outer s H vs Q E hr h => ?_)
  · obtain ⟨s, p, rfl, _⟩ := h
    rfl
  · obtain ⟨s, p, rfl, q⟩ := h
    refine ⟨_, (pss_cons (ps_if (pt_cmpR op_isN (pv 1) pe_non (nomark _))
      (pss_one (ps_ret (pe_tup (pa_cons pe_int (pa_cons pe_int pa_nil)))))
      pss_nil)
    (pss_one (ps_ret (pe_ifExp (pt_cmpR op_eq (pv 0) pe_str (nomark _)) (pe_tup (pa_cons pe_int (pa_cons (pe_un un_neg (pv 1)) pa_nil))) (pe_tup (pa_cons pe_int (pa_cons (pv 1) pa_nil))))))), ?_⟩
    cases p with
    | none =>
      walk_at "st"
      intro t nt
      exact q t nt
    | some z =>
      walk_at "st"
      refine iteB (fun h => ?_) (fun h => ?_)
      · have e : rankK s (some z) = (1, -z) := by
          show ((1 : Int), if buyS s = true then -z else z) = _
          rw [show buyS s = true from h, if_pos rfl]
        rw [e] at q
        walk_at "st"
        intro t nt
        exact q t nt
      · have e : rankK s (some z) = (1, z) := by
          show ((1 : Int), if buyS s = true then -z else z) = _
          rw [show buyS s = false from h, if_neg Bool.false_ne_true]
        rw [e] at q
        walk_at "st"
        intro t nt
        exact q t nt
/-- the orders of one side, the best first, of equals the earlier -/
def rankLe (s : Str) (a b : Ord30) : Bool := decide ((rankK s a.p).1 < (rankK s b.p).1 ∨ ((rankK s a.p).1 = (rankK s b.p).1 ∧ (rankK s a.p).2 ≤ (rankK s b.p).2))
def rankedL (s : Str) (os : List Ord30) : List Ord30 := (os.filter fun o => decide (V.str o.s = V.str s)).mergeSort (rankLe s)
/-- the key of a row as the heap has it -/
def rowKey (H : Hp) (s : Str) : V → Int × Int
  | .ref a => match H a with
    | some (.tup [_, .int z, _]) => rankK s (some z)
    | _ => rankK s none
  | _ => (0, 0)
theorem rowKey_at {H : Hp} {s : Str} {a : Addr} {o : Ord30} (h : H a = some (.tup (rowR o))) : rowKey H s (.ref a) = rankK s o.p := by
  unfold rowKey
  dsimp only
  rw [h]
  unfold rowR
  cases o.p <;> rfl
theorem extN_same {H H' : Hp} (e : Same H H') : LamX.ExtN H H' := .of e
theorem ext_new {H H' : Hp} {p : Addr} {o : HO} (e : LamX.ExtN H H') (np : H' p = none) : LamX.ExtN H (upd H' p o) := fun b u h n => by
  by_cases hb : b = p
  · rw [hb] at h
    have := e p u h n
    rw [np] at this
    cases this
  · rw [upd_ne hb]
    exact e b u h n
/-- a sorted list of rows -/
theorem Tups.sorted {α : Type} {enc : α → List V} {H H' : Hp} {l p : Addr} {bs : List Addr} {os : List α} {k : V → Int × Int} {le : α → α → Bool} (h : Tups enc H l bs os) (hk : ∀ a b x y, H a = some (.tup (enc x)) → H b = some (.tup (enc y)) → pairLe k (.ref a) (.ref b) = le x y)
    (e : ∀ a x, H a = some (.tup (enc x)) → H' a = some (.tup (enc x))) (hp : H' p = some (.lst ((bs.map V.ref).mergeSort (pairLe k)))) : ∃ rs, Tups enc H' p rs (os.mergeSort le) := by
  have hat : ∀ z, z ∈ bs.zip os → H z.1 = some (.tup (enc z.2)) := fun z hz => by
    obtain ⟨i, hi⟩ := List.mem_iff_getElem?.mp hz
    have h1 := List.getElem?_zip_eq_some.mp hi
    exact h.row i z.1 z.2 h1.1 h1.2
  have e1 : bs.map V.ref = (bs.zip os).map fun z => V.ref z.1 := by
    conv => lhs; rw [← List.map_fst_zip (l₁ := bs) (l₂ := os) (Nat.le_of_eq h.len), List.map_map]
    rfl
  have e2 : os = (bs.zip os).map fun z => z.2 := (List.map_snd_zip (l₁ := bs) (l₂ := os) (Nat.le_of_eq h.len.symm)).symm
  have m1 : ((bs.zip os).mergeSort fun a b => le a.2 b.2).map (fun z => V.ref z.1) = (bs.map V.ref).mergeSort (pairLe k) := by
    rw [e1]
    exact List.map_mergeSort fun a ha b hb => (hk _ _ _ _ (hat a ha) (hat b hb)).symm
  have m2 : ((bs.zip os).mergeSort fun a b => le a.2 b.2).map (fun z => z.2) = os.mergeSort le := by
    conv => rhs; rw [e2]
    exact List.map_mergeSort fun a _ b _ => rfl
  refine ⟨((bs.zip os).mergeSort fun a b => le a.2 b.2).map (·.1), ?_, by rw [← m2, List.length_map, List.length_map], fun i a x h1 h2 => ?_⟩
  · rw [hp, ← m1, List.map_map]
    rfl
  · rw [← m2] at h2
    rw [List.getElem?_map] at h1 h2
    cases hz : ((bs.zip os).mergeSort fun a b => le a.2 b.2)[i]? with
    | none => rw [hz] at h1; cases h1
    | some z =>
      rw [hz] at h1 h2
      obtain rfl := Option.some.inj h1
      obtain rfl := Option.some.inj h2
      exact e _ _ (hat z (List.mem_mergeSort.mp (List.mem_of_getElem? hz)))
open LamX in
def sp_ranked (K : PySem.W.Frag) (TL : List (Addr × Str)) : Sp := fun vs H Q _ => ∃ (_ : Unit) (l : Addr) (as : List Addr) (os : List Ord30) (s : Str), vs = [.ref l, .str s] ∧ Tups rowO H l as os ∧ os.length ≤ 31 ∧ Tabs TL H ∧
  ∀ (_ : Unit) r rs H', ExtN H H' → Tabs TL H' → Tups rowR H' r rs (rankedL s os) → Q (.ref r) H'
set_option maxHeartbeats 0 in
theorem ok_ranked (T : Txt K mg) [TB : TabsOk T base] : FnOk P w K mg base CX0 5 T.f_ranked T.d_ranked ["orders", "side"] (sp_ranked K (tabsL T)) := by
  refine fun_okC T.F_ranked sc_ranked T.eq_ranked (fun vs H Q E h => ?_) (fun A outer s H vs Q E hr h => ?_)
  · obtain ⟨_, l, as, os, s, rfl, _⟩ := h
    rfl
  · obtain ⟨_, l, as, os, s, rfl, hT, hl, hTb, q⟩ := h
    have G_rank : FnOk P w K mg base CX0 1 T.f_rank T.d_rank ["side", "price"] (sp_rank K) := ok_rank T
    have hs := SqL.of (K := K) hT.lst
    refine ⟨_, (pss_cons (ps_setLc (i := 2) (own := [("number", 3), ("_", 4), ("of_side", 5), ("price", 6), ("quantity", 7)]) rfl sc_ranked.nd rfl rfl (sw_true rfl rfl rfl (by decide +kernel)) (pi_list (pv 0)) (blkOk_by (own := [("number", 3), ("_", 4), ("of_side", 5), ("price", 6), ("quantity", 7)]) (N := N_ranked) (sc := defScope s_ranked) (by decide +kernel)) (fun _ _ _ _ _ => (show PG _ _ (gTup K 5 (gCons (gName 3) (gCons (gName 4) (gCons (gName 5) (gCons (gName 6) (gCons (gName 7) gNil)))))) from (pg_tup rfl (pgs_cons (pg_name (i := 3) sc_ranked.nd rfl (Or.inl rfl)) (pgs_cons (pg_name (i := 4) sc_ranked.nd rfl (Or.inl rfl)) (pgs_cons (pg_name (i := 5) sc_ranked.nd rfl (Or.inl rfl)) (pgs_cons (pg_name (i := 6) sc_ranked.nd rfl (Or.inl rfl)) (pgs_cons (pg_name (i := 7) sc_ranked.nd rfl (Or.inl rfl)) pgs_nil)))))))) (fun _ _ _ _ _ => pts_one (pt_cmpR op_eq (pv 5) (pv 1) (nomark _))) (fun _ _ _ _ _ => (pe_tup (pa_cons (pv 3) (pa_cons (pv 6) (pa_cons (pv 7) pa_nil))))))
    (pss_one (ps_ret (pe_sortLam (T := tabsL T) (j := 1) (a := "row") (pv 2) (by rfl) T.z_sorted TB.tb_ranked rfl (.head _) (tabsU_ranked T) hr (lamP_by (by show lamPB (defScope s_ranked) _ _ = true; decide +kernel)) (by show (N_ranked.all fun y => decide (y ≠ "row")) = true; decide +kernel) rfl (fun _ _ _ _ _ _ => rfl) (fun _ _ _ _ _ hr => (pe_call G_rank hr (by rfl) T.m_rank T.F_rank.kp T.b_rank .nil pass0 (pa_cons (pv 1) (pa_cons (pe_ix (show IxR _ (rIxT K) from ix_tup) (pv 8) pe_int (fun _ _ => rfl)) pa_nil)))))))), ?_⟩
    walk_at "st"
    intro D nD
    refine lc_list (K := K) (a := l) (xs := as.map V.ref) (fun i H' => ∃ (_ : Unit) (bs : List Addr), Tups rowR H' D bs ((os.take i).filter fun o => decide (V.str o.s = V.str s)) ∧ Same H H') ⟨(), [], .nil upd_same, same_upd nD⟩ (fun i H' _ ⟨_, _, _, e⟩ => e.seq hs) ?_ ?_
    · rintro i v H2 hvv ⟨_, bs, hB, e2⟩
      obtain ⟨p, o, hp, ho, rfl, hat⟩ := (hT.same e2).item hvv
      have htup : SqT K H2 p (rowO o) := SqT.of hat
      walk_at "st"
      refine iteB (fun h => ?_) (fun h => ?_)
      · walk_at "st"
        intro E nE
        have sE := same_upd (o := .tup (rowR o)) nE
        have hpush := hB.push (x := o) sE nE upd_same
        have hbl : bs.length ≤ 31 := by
          have := hB.len
          have h2 := List.length_filter_le (fun o : Ord30 => decide (V.str o.s = V.str s)) (os.take i)
          rw [List.length_take] at h2
          omega
        refine ⟨_, sE _ _ hB.lst, small1000 (by rw [List.length_map]; omega), (), bs ++ [E], ?_, TabR.keep (e2.trans sE) nD⟩
        rw [take_succ ho, List.filter_append, List.filter_cons_of_pos (p := fun o : Ord30 => decide (V.str o.s = V.str s)) h]
        exact hpush
      · refine ⟨(), bs, ?_, e2⟩
        rw [take_succ ho, List.filter_append, List.filter_cons_of_neg (p := fun o : Ord30 => decide (V.str o.s = V.str s)) (by rw [h]; exact Bool.false_ne_true), List.filter_nil, List.append_nil]
        exact hB
    · rintro H2 ⟨_, bs, hB, e2⟩
      rw [show os.take (as.map V.ref).length = os by rw [List.length_map, hT.len, List.take_length]] at hB
      walk_at "st"
      refine ⟨hTb.ext e2, fun H3 e3 t3 => ?_⟩
      have hB3 : ∀ a o, H2 a = some (.tup (rowR o)) → H3 a = some (.tup (rowR o)) := fun a o z => e3 _ _ z fun _ y => by cases y
      have hl3 : H3 D = some (.lst (bs.map V.ref)) := e3 _ _ hB.lst fun _ y => by cases y
      refine ⟨(), D, bs.map V.ref, rowKey H2 s, rfl, SqL.of hl3, fun x hx H4 e4 => ?_, fun _ p H4 e4 np np4 => ?_⟩
      · obtain ⟨i, hi⟩ := List.mem_iff_getElem?.mp hx
        obtain ⟨a, o, ha, ho, rfl, hat⟩ := hB.item hi
        have h4 := e4 _ _ (hB3 a o hat)
        have htup : SqT K H4 a (rowR o) := SqT.of h4
        have hix : atI (rowR o) 1 = some (optV o.p) := rfl
        rw [rowKey_at hat]
        walk_at "st"
        exact ⟨o.p, rfl, fun t nt => ⟨same_upd nt, t, rfl, upd_same⟩⟩
      · have hk : ∀ a b x y, H2 a = some (.tup (rowR x)) → H2 b = some (.tup (rowR y)) → pairLe (rowKey H2 s) (.ref a) (.ref b) = rankLe s x y := fun a b x y ha hb => by
          rw [Bool.eq_iff_iff, pairLe_iff, rowKey_at ha, rowKey_at hb]
          unfold rankLe
          rw [decide_eq_true_iff]
        obtain ⟨rs, hR⟩ := hB.sorted (H' := upd H4 p (.lst ((bs.map V.ref).mergeSort (pairLe (rowKey H2 s))))) hk (fun a x z => same_upd np4 _ _ (e4 _ _ (hB3 a x z))) upd_same
        exact q () p rs _ (ext_new (((extN_same e2).trans e3).trans (extN_same e4)) np4) ((t3.ext e4).ext (same_upd np4)) hR

/-- an order that a call takes -/
structure Good30 (o : Ord30) : Prop where
  s : V.str o.s = V.str "buy" ∨ V.str o.s = V.str "sell"
  p : ∀ z, o.p = some z → 1 ≤ z ∧ z ≤ 1000000
  q : 1 ≤ o.q ∧ o.q ≤ 1000000

/-- what a call takes -/
def GoodC (os : List Ord30) (r : Int) : Prop := (∀ o, o ∈ os → Good30 o) ∧ 1 ≤ r ∧ r ≤ 1000000
def sp_check_call (K : PySem.W.Frag) (C : Addr) : Sp := fun vs H Q E => ∃ (_ : Unit) (l : Addr) (as : List Addr) (os : List Ord30) (r : Int), vs = [.ref l, .int r] ∧ Tups rowO H l as os ∧ (GoodC os r → Q .non H) ∧ (¬ GoodC os r → E (.ref C) none H)
set_option maxHeartbeats 0 in
theorem ok_check_call (T : Txt K mg) [TB : TabsOk T base] : FnOk P w K mg base (L2.CX P w) 5 T.f_check_call T.d_check_call ["orders", "reference"] (sp_check_call K T.c_InvalidOrder) := by
  refine T.F_check_call.okX sc_check_call (fun vs H Q E h => ?_) (fun cdv A outer s H vs Q E hr h => ?_)
  · obtain ⟨_, l, as, os, r, rfl, _⟩ := h
    rfl
  · obtain ⟨_, l, as, os, r, rfl, hT, q, qe⟩ := h
    have G_check_price : FnOk P w K mg base (L2.CX P w) 4 T.f_check_price T.d_check_price ["price"] (sp_check_price K T.c_InvalidOrder) := ok_check_price T
    have G_check_side : FnOk P w K mg base (L2.CX P w) 1 T.f_check_side T.d_check_side ["side"] (sp_check_side K T.c_InvalidOrder) := ok_check_side T
    have G_check_quantity : FnOk P w K mg base (L2.CX P w) 4 T.f_check_quantity T.d_check_quantity ["quantity"] (sp_check_quantity K T.c_InvalidOrder) := ok_check_quantity T
    have hs := SqL.of (K := K) hT.lst
    refine ⟨_, (pss_cons (ps_for (passes_of rfl) rfl (pi_list (pv 0)) (pg_tup rfl (pgs_cons (pg_name (i := 2) sc_check_call.nd rfl (Or.inl rfl)) (pgs_cons (pg_name (i := 2) sc_check_call.nd rfl (Or.inl rfl)) (pgs_cons (pg_name (i := 3) sc_check_call.nd rfl (Or.inl rfl)) (pgs_cons (pg_name (i := 4) sc_check_call.nd rfl (Or.inl rfl)) (pgs_cons (pg_name (i := 5) sc_check_call.nd rfl (Or.inl rfl)) pgs_nil))))))
      (pss_cons (ps_expr (pe_callS G_check_side (hr.mono (by decide)) (by rfl) T.m_check_side T.F_check_side.kp T.b_check_side (fun σ => passAt (takes_of rfl rfl rfl rfl) σ) (pa_cons (pv 3) pa_nil)))
      (pss_cons (ps_if (pt_cmpR op_notN (pv 4) pe_non (nomark _))
        (pss_one (ps_expr (pe_callS G_check_price hr (by rfl) T.m_check_price T.F_check_price.kp T.b_check_price (fun σ => passAt (takes_of rfl rfl rfl rfl) σ) (pa_cons (pv 4) pa_nil))))
        pss_nil)
      (pss_one (ps_expr (pe_callS G_check_quantity hr (by rfl) T.m_check_quantity T.F_check_quantity.kp T.b_check_quantity (fun σ => passAt (takes_of rfl rfl rfl rfl) σ) (pa_cons (pv 5) pa_nil)))))))
    (pss_one (ps_expr (pe_callS G_check_price hr (by rfl) T.m_check_price T.F_check_price.kp T.b_check_price (fun σ => passAt (takes_of rfl rfl rfl rfl) σ) (pa_cons (pv 1) pa_nil))))), ?_⟩
    walk_at "st"
    refine for_list (K := K) (a := l) (xs := as.map V.ref) (fun i σ H' => (∃ v2 v3 v4 v5 : Option V, σ = [some (.ref l), some (.int r), v2, v3, v4, v5]) ∧ H' = H ∧ ∀ o, o ∈ os.take i → Good30 o) ⟨⟨none, none, none, none, rfl⟩, rfl, fun o ho => by cases ho⟩ (fun i σ H' _ ⟨_, e, _⟩ => by rw [e]; exact hs) ?_ ?_
    · rintro i v σ H2 hvv ⟨⟨v2, v3, v4, v5, rfl⟩, rfl, hb⟩
      obtain ⟨p, o, hp, ho, rfl, hat⟩ := hT.item hvv
      have htup : SqT K H2 p (rowO o) := SqT.of hat
      have hm := List.mem_of_getElem? ho
      have hnew : Good30 o → ∀ x, x ∈ os.take (i + 1) → Good30 x := fun h x hx => by
        rw [take_succ ho] at hx
        rcases List.mem_append.mp hx with h1 | h1
        · exact hb x h1
        · rw [List.mem_singleton.mp h1]
          exact h
      walk_at "st"
      refine ⟨fun h1 => ?_, fun h1 => qe fun g => h1 (g.1 o hm).s⟩
      cases hop : o.p with
      | none =>
        have hix : optV o.p = .non := by rw [hop]; rfl
        walk_at "st"
        refine ⟨fun h2 => ?_, fun h2 => qe fun g => h2 (g.1 o hm).q⟩
        exact ⟨⟨_, _, _, _, rfl⟩, rfl, hnew ⟨h1, (fun z e => by rw [hop] at e; cases e), h2⟩⟩
      | some z =>
        walk_at "st"
        refine ⟨fun h3 => ?_, fun h3 => qe fun g => h3 ((g.1 o hm).p z hop)⟩
        walk_at "st"
        refine ⟨fun h2 => ?_, fun h2 => qe fun g => h2 (g.1 o hm).q⟩
        exact ⟨⟨_, _, _, _, rfl⟩, rfl, hnew ⟨h1, (fun w e => by rw [hop] at e; rw [← Option.some.inj e]; exact h3), h2⟩⟩
    · rintro σ H2 ⟨⟨v2, v3, v4, v5, rfl⟩, rfl, hb⟩
      rw [List.length_map, hT.len, List.take_length] at hb
      walk_at "st"
      refine ⟨fun h => ?_, fun h => qe fun g => h g.2⟩
      exact q ⟨hb, h⟩

/-- the prices at which a call may be held -/
def limits30 (os : List Ord30) : List Int := os.filterMap (·.p)
def beyond30 (os : List Ord30) : List Int := os.filterMap fun o => o.p.map fun z => if buyS o.s then z + 1 else z - 1
def rowL (x : Str × Int) : List V := [.str x.1, .int x.2]
def sp_candidates (K : PySem.W.Frag) : Sp := fun vs H Q _ => ∃ (_ : Unit) (l : Addr) (as : List Addr) (os : List Ord30) (r : Int), vs = [.ref l, .int r] ∧ Tups rowO H l as os ∧ os.length ≤ 31 ∧
  ∀ (_ : Unit) (p : Addr) (ps : List Int) (H' : Hp), Same H H' → H' p = some (.lst (ps.map V.int)) → (∀ z, z ∈ ps ↔ (z = r ∨ z ∈ limits30 os ∨ z ∈ beyond30 os) ∧ (∃ a, (a = r ∨ a ∈ limits30 os) ∧ a ≤ z) ∧ ∃ b, (b = r ∨ b ∈ limits30 os) ∧ z ≤ b) → ps.length ≤ 63 → ps.Pairwise (· < ·) → Q (.ref p) H'
set_option maxHeartbeats 0 in
theorem ok_candidates (T : Txt K mg) [TB : TabsOk T base] : FnOk P w K mg base CX0 1 T.f_candidates T.d_candidates ["orders", "reference"] (sp_candidates K) := by
  refine T.F_candidates.ok sc_candidates (fun vs H Q E h => ?_) (fun cdv A outer s H vs Q E hr h => ?_)
  · obtain ⟨_, l, as, os, r, rfl, _⟩ := h
    rfl
  · obtain ⟨_, l, as, os, r, rfl, hT, hl, q⟩ := h
    have hs := SqL.of (K := K) hT.lst
    refine ⟨_, (pss_cons (ps_setLc (i := 2) (own := [("_", 3), ("_", 3), ("side", 4), ("price", 5), ("_", 3)]) rfl sc_candidates.nd rfl rfl (sw_true rfl rfl rfl (by decide +kernel)) (pi_list (pv 0)) (blkOk_by (own := [("_", 3), ("_", 3), ("side", 4), ("price", 5), ("_", 3)]) (N := N_candidates) (sc := defScope s_candidates) (by decide +kernel)) (fun _ _ _ _ _ => (show PG _ _ (gTup K 5 (gCons (gName 3) (gCons (gName 3) (gCons (gName 4) (gCons (gName 5) (gCons (gName 3) gNil)))))) from (pg_tup rfl (pgs_cons (pg_name (i := 3) sc_candidates.nd rfl (Or.inl rfl)) (pgs_cons (pg_name (i := 3) sc_candidates.nd rfl (Or.inl rfl)) (pgs_cons (pg_name (i := 4) sc_candidates.nd rfl (Or.inl rfl)) (pgs_cons (pg_name (i := 5) sc_candidates.nd rfl (Or.inl rfl)) (pgs_cons (pg_name (i := 3) sc_candidates.nd rfl (Or.inl rfl)) pgs_nil)))))))) (fun _ _ _ _ _ => pts_one (pt_cmpR op_notN (pv 5) pe_non (nomark _))) (fun _ _ _ _ _ => (pe_tup (pa_cons (pv 4) (pa_cons (pv 5) pa_nil)))))
    (pss_cons (ps_set (i := 6) sc_candidates.nd rfl (Or.inl rfl) (pe_op op_cat (pe_lst (pa_cons (pv 1) pa_nil)) (pe_lc (own := [("_", 3), ("price", 5)]) (tt := tYes) rfl sc_candidates.nd (pi_list (pv 2)) (blkOk_by (own := [("_", 3), ("price", 5)]) (N := N_candidates) (sc := defScope s_candidates) (by decide +kernel)) (fun _ _ _ _ _ => (show PG _ _ (gTup K 2 (gCons (gName 3) (gCons (gName 5) gNil))) from (pg_tup rfl (pgs_cons (pg_name (i := 3) sc_candidates.nd rfl (Or.inl rfl)) (pgs_cons (pg_name (i := 5) sc_candidates.nd rfl (Or.inl rfl)) pgs_nil))))) (fun _ _ _ _ _ => pts_nil) (fun _ _ _ _ _ => (pv 5)))))
    (pss_cons (ps_setLc (i := 7) (own := [("side", 4), ("price", 5)]) (tt := tYes) rfl sc_candidates.nd rfl rfl (sw_true rfl rfl rfl (by decide +kernel)) (pi_list (pv 2)) (blkOk_by (own := [("side", 4), ("price", 5)]) (N := N_candidates) (sc := defScope s_candidates) (by decide +kernel)) (fun _ _ _ _ _ => (show PG _ _ (gTup K 2 (gCons (gName 4) (gCons (gName 5) gNil))) from (pg_tup rfl (pgs_cons (pg_name (i := 4) sc_candidates.nd rfl (Or.inl rfl)) (pgs_cons (pg_name (i := 5) sc_candidates.nd rfl (Or.inl rfl)) pgs_nil))))) (fun _ _ _ _ _ => pts_nil) (fun _ _ _ _ _ => (pe_ifExp (pt_cmpR op_eq (pv 4) pe_str (nomark _)) (pe_op op_add (pv 5) pe_int) (pe_op op_sub (pv 5) pe_int))))
    (pss_cons (ps_set (i := 8) sc_candidates.nd rfl (Or.inr rfl) (pe_callB (cr_min rfl) (by rfl) T.z_min (by decide +kernel) (pa_cons (pv 6) pa_nil)))
    (pss_cons (ps_set (i := 9) sc_candidates.nd rfl (Or.inr rfl) (pe_callB (cr_max rfl) (by rfl) T.z_max (by decide +kernel) (pa_cons (pv 6) pa_nil)))
    (pss_one (ps_ret (pe_lc (own := [("price", 5)]) (g := gName 5) rfl sc_candidates.nd (pi_list (pe_callB (cr_sortedSet rfl) (by rfl) T.z_sorted (by decide +kernel) (pa_cons (pe_callTy (cr_setInts rfl) (by rfl) T.z_set (by decide +kernel) (pa_cons (pe_op op_cat (pv 6) (pv 7)) pa_nil)) pa_nil))) (blkOk_by (own := [("price", 5)]) (N := N_candidates) (sc := defScope s_candidates) (by decide +kernel)) (fun _ _ _ _ _ => (pg_name (i := 5) sc_candidates.nd rfl (Or.inl rfl))) (fun _ _ _ _ _ => pts_one (pt_chain op_le op_le (pv 8) (pv 5) (pv 9))) (fun _ _ _ _ _ => (pv 5)))))))))), ?_⟩
    walk_at "st"
    intro D nD
    refine lc_list (K := K) (a := l) (xs := as.map V.ref) (fun i H' => ∃ (_ : Unit) (bs : List Addr), Tups rowL H' D bs (((os.take i).filterMap fun o => o.p.map fun z => (o.s, z))) ∧ Same H H') ⟨(), [], .nil upd_same, same_upd nD⟩ (fun i H' _ ⟨_, _, _, e⟩ => e.seq hs) ?_ ?_
    · rintro i v H2 hvv ⟨_, bs, hB, e2⟩
      obtain ⟨p, o, hp, ho, rfl, hat⟩ := (hT.same e2).item hvv
      have htup : SqT K H2 p (rowO o) := SqT.of hat
      have hbl : bs.length ≤ 31 := by
        have h1 := hB.len
        have h2 := List.length_filterMap_le (fun o : Ord30 => o.p.map fun z => (o.s, z)) (os.take i)
        rw [List.length_take] at h2
        omega
      rw [take_succ ho, List.filterMap_append]
      obtain ⟨on, oh, os', op, oq⟩ := o
      cases op with
      | none =>
        walk_at "st"
        refine iteB (fun h => by simp [optV] at h) (fun _ => ⟨(), bs, ?_, e2⟩)
        rw [show List.filterMap (fun o : Ord30 => o.p.map fun z => (o.s, z)) [⟨on, oh, os', none, oq⟩] = [] from rfl, List.append_nil]
        exact hB
      | some z =>
        walk_at "st"
        intro E nE
        have sE := same_upd (o := .tup (rowL (os', z))) nE
        exact ⟨_, sE _ _ hB.lst, small1000 (by rw [List.length_map]; omega), (), bs ++ [E], hB.push (x := (os', z)) sE nE upd_same, TabR.keep (e2.trans sE) nD⟩
    · rintro H2 ⟨_, bs, hB, e2⟩
      rw [show os.take (as.map V.ref).length = os by rw [List.length_map, hT.len, List.take_length]] at hB
      have hBs := SqL.of (K := K) hB.lst
      have hlim : (os.filterMap fun o => o.p.map fun z => (o.s, z)).map (·.2) = limits30 os := by
        unfold limits30
        rw [List.map_filterMap]
        congr 1
        funext o
        cases o.p <;> rfl
      have hll : (os.filterMap fun o => o.p.map fun z => (o.s, z)).length ≤ 31 := Nat.le_trans (List.length_filterMap_le _ _) hl
      generalize hls : (os.filterMap fun o => o.p.map fun z => (o.s, z)) = ls at *
      walk_at "st"
      intro L nL
      have sL := same_upd (o := .lst [.int r]) nL
      have hL := upd_same (H := H2) (a := L) (o := .lst [.int r])
      generalize upd H2 L (.lst [.int r]) = H3 at *
      have hB3 := hB.same sL
      have hBs3 := SqL.of (K := K) hB3.lst
      walk_at "st"
      intro C nC
      refine lc_list (K := K) (a := D) (xs := bs.map V.ref) (fun i H' => H' C = some (.lst (((ls.take i).map (·.2)).map V.int)) ∧ Same H3 H') ⟨upd_same, same_upd nC⟩ (fun i H' _ ⟨_, e⟩ => e.seq hBs3) ?_ ?_
      · rintro i v H4 hvv ⟨hC, e4⟩
        obtain ⟨p, x, hp, hx, rfl, hat⟩ := (hB3.same e4).item hvv
        have htup : SqT K H4 p (rowL x) := SqT.of hat
        have hil := (List.getElem?_eq_some_iff.mp hx).1
        walk_at "st"
        refine ⟨small1000 (by rw [List.length_map, List.length_map, List.length_take]; omega), ?_, TabR.keep e4 nC⟩
        rw [upd_same, take_succ hx, List.map_append, List.map_append]
        rfl
      · rintro H4 ⟨hC, e4⟩
        rw [show ls.take (bs.map V.ref).length = ls by rw [List.length_map, hB.len, List.take_length], hlim] at hC
        have hL4 := e4 _ _ hL
        have hlen : (limits30 os).length ≤ 31 := by rw [← hlim, List.length_map]; exact hll
        have hz : [V.int r].length + ((limits30 os).map V.int).length ≤ sizeLine := len_le (Nat.ble_eq_true_of_le (by rw [List.length_map]; show 1 + (limits30 os).length ≤ 1000; omega))
        walk_at "st"
        intro R nR
        have sR := same_upd (o := .lst ([.int r] ++ (limits30 os).map V.int)) nR
        have hR : upd H4 R (.lst ([.int r] ++ (limits30 os).map V.int)) R = some (.lst ((r :: limits30 os).map V.int)) := upd_same
        generalize upd H4 R (.lst ([.int r] ++ (limits30 os).map V.int)) = H5 at *
        have hB5 := (hB3.same e4).same sR
        have hBs5 := SqL.of (K := K) hB5.lst
        have hbey : ls.map (fun x => if buyS x.1 then x.2 + 1 else x.2 - 1) = beyond30 os := by
          rw [← hls]
          unfold beyond30
          rw [List.map_filterMap]
          congr 1
          funext o
          cases o.p <;> rfl
        walk_at "st"
        intro F nF
        refine lc_list (K := K) (a := D) (xs := bs.map V.ref) (fun i H' => H' F = some (.lst (((ls.take i).map fun x => if buyS x.1 then x.2 + 1 else x.2 - 1).map V.int)) ∧ Same H5 H') ⟨upd_same, same_upd nF⟩ (fun i H' _ ⟨_, e⟩ => e.seq hBs5) ?_ ?_
        · rintro i v H6 hvv ⟨hF, e6⟩
          obtain ⟨p, x, hp, hx, rfl, hat⟩ := (hB5.same e6).item hvv
          have htup : SqT K H6 p (rowL x) := SqT.of hat
          have hil := (List.getElem?_eq_some_iff.mp hx).1
          walk_at "st"
          refine iteB (fun h => ?_) (fun h => ?_)
          · walk_at "st"
            refine ⟨small1000 (by rw [List.length_map, List.length_map, List.length_take]; omega), ?_, TabR.keep e6 nF⟩
            rw [upd_same, take_succ hx, List.map_append, List.map_append, List.map_cons, List.map_nil, show (if buyS x.1 then x.2 + 1 else x.2 - 1) = x.2 + 1 from if_pos h]
            rfl
          · walk_at "st"
            refine ⟨small1000 (by rw [List.length_map, List.length_map, List.length_take]; omega), ?_, TabR.keep e6 nF⟩
            rw [upd_same, take_succ hx, List.map_append, List.map_append, List.map_cons, List.map_nil, show (if buyS x.1 then x.2 + 1 else x.2 - 1) = x.2 - 1 from if_neg (by rw [show buyS x.1 = false from h]; exact Bool.false_ne_true)]
            rfl
        · rintro H6 ⟨hF, e6⟩
          rw [show ls.take (bs.map V.ref).length = ls by rw [List.length_map, hB.len, List.take_length], hbey] at hF
          have hR6 := e6 _ _ hR
          have hRs6 := SqL.of (K := K) hR6
          walk_at "st"
          refine ⟨Nat.succ_pos _, fun lo hlo hlo2 => ?_⟩
          walk_at "st"
          refine ⟨Nat.succ_pos _, fun hi hhi hhi2 => ?_⟩
          have hbl : (beyond30 os).length ≤ 31 := Nat.le_trans (List.length_filterMap_le _ _) hl
          have hz6 : ((r :: limits30 os).map V.int).length + ((beyond30 os).map V.int).length ≤ sizeLine := len_le (Nat.ble_eq_true_of_le (by rw [List.length_map, List.length_map, List.length_cons]; omega))
          walk_at "st"
          intro S nS
          have sS := same_upd (o := .lst ((r :: limits30 os).map V.int ++ (beyond30 os).map V.int)) nS
          have hS : upd H6 S (.lst ((r :: limits30 os).map V.int ++ (beyond30 os).map V.int)) S = some (.lst ((r :: limits30 os ++ beyond30 os).map V.int)) := upd_same.trans (by rw [List.map_append])
          generalize upd H6 S (.lst ((r :: limits30 os).map V.int ++ (beyond30 os).map V.int)) = H7 at *
          have hSs := SqL.of (K := K) hS
          have hbs : (r :: limits30 os ++ beyond30 os).length ≤ 63 := by rw [List.length_append, List.length_cons]; omega
          walk_at "st"
          refine ⟨(), S, _, rfl, hSs, by omega, fun U c hc nU => ?_⟩
          walk_at "st"
          refine ⟨_, _, rfl, upd_same, by omega, fun ns N hp hm hln nN => ?_⟩
          generalize hH8 : upd (upd H7 U _) N _ = H8
          have s0N : Same H6 H8 := sS.trans (hH8 ▸ (same_upd nU).trans (same_upd nN))
          have hN : H8 N = some (.lst (ns.map V.int)) := (congrFun hH8 N).symm.trans upd_same
          have hNs := SqL.of (K := K) hN
          refine ⟨N, rfl, ⟨_, hNs⟩, ?_⟩
          intro G nG
          refine lc_list (K := K) (a := N) (xs := ns.map V.int) (fun i H' => H' G = some (.lst (((ns.take i).filter fun z => decide (lo ≤ z) && decide (z ≤ hi)).map V.int)) ∧ Same H8 H') ⟨upd_same, same_upd nG⟩ (fun i H' _ ⟨_, e⟩ => e.seq hNs) ?_ ?_
          · rintro i v H9 hvv ⟨hG, e9⟩
            obtain ⟨z, hz, rfl⟩ := ints_at hvv
            have hfl : (((ns.take i).filter fun z => decide (lo ≤ z) && decide (z ≤ hi)).map V.int).length ≤ 63 := by
              rw [List.length_map]
              refine Nat.le_trans (List.length_filter_le _ _) ?_
              rw [List.length_take]
              omega
            have hno : (decide (lo ≤ z) && decide (z ≤ hi)) = false → H9 G = some (.lst (((ns.take (i + 1)).filter fun z => decide (lo ≤ z) && decide (z ≤ hi)).map V.int)) ∧ Same H8 H9 := fun e => by
              rw [take_succ hz, List.filter_append, List.filter_cons_of_neg (by rw [e]; exact Bool.false_ne_true), List.filter_nil, List.append_nil]
              exact ⟨hG, e9⟩
            walk_at "st"
            refine iteB (fun h1 => ?_) (fun h1 => ?_)
            · walk_at "st"
              refine iteB (fun h2 => ?_) (fun h2 => ?_)
              · walk_at "st"
                refine ⟨small1000 (by omega), ?_, TabR.keep e9 nG⟩
                rw [upd_same, take_succ hz, List.filter_append, List.filter_cons_of_pos (by rw [h1, h2]; rfl), List.map_append]
                rfl
              · exact hno (by rw [h1, h2]; rfl)
            · refine ⟨_, rfl, iteF ?_⟩
              exact hno (by rw [h1]; rfl)
          · rintro H9 ⟨hG, e9⟩
            rw [show ns.take (ns.map V.int).length = ns by rw [List.length_map, List.take_length]] at hG
            refine q () G _ H9 ((((((e2.trans sL).trans e4).trans sR).trans e6).trans s0N).trans e9) hG (fun z => ?_) (by have := List.length_filter_le (fun z => decide (lo ≤ z) && decide (z ≤ hi)) ns; omega) (hp.sublist List.filter_sublist)
            rw [List.mem_filter, hm z, decide_eq_true_iff, Bool.and_eq_true, decide_eq_true_iff, decide_eq_true_iff, List.mem_append, List.mem_cons]
            have bo : ∀ y, (y = r ∨ y ∈ limits30 os) → lo ≤ y ∧ y ≤ hi := fun y hy => ⟨hlo2 y (List.mem_cons.mpr hy), hhi2 y (List.mem_cons.mpr hy)⟩
            constructor
            · rintro ⟨h1, h2, h3⟩
              exact ⟨or_assoc.mp h1, ⟨lo, List.mem_cons.mp hlo, h2⟩, hi, List.mem_cons.mp hhi, h3⟩
            · rintro ⟨h1, ⟨a, ha, haz⟩, b, hb, hbz⟩
              have q1 := (bo a ha).1
              have q2 := (bo b hb).2
              exact ⟨or_assoc.mpr h1, by omega, by omega⟩

/-! ### interests -/
/-- the interest of a side at a price -/
def intr (os : List Ord30) (s : Str) (z : Int) : Int := ((os.filter fun o => takes s o.p z && decide (V.str o.s = V.str s)).map (·.q)).sum
def kLe (a b : Int × Int) : Prop := a.1 < b.1 ∨ (a.1 = b.1 ∧ a.2 ≤ b.2)
instance (a b : Int × Int) : Decidable (kLe a b) := by unfold kLe; exact inferInstance
theorem kLe_trans {a b c : Int × Int} (h1 : kLe a b) (h2 : kLe b c) : kLe a c := by
  unfold kLe at *
  omega
theorem kLe_total (a b : Int × Int) : kLe a b ∨ kLe b a := by
  unfold kLe
  omega
theorem takes_iff (s : Str) (p : Option Int) (z : Int) : takes s p z = true ↔ kLe (rankK s p) (rankK s (some z)) := by
  cases p with
  | none => exact ⟨fun _ => .inl (show (0 : Int) < 1 by decide), fun _ => rfl⟩
  | some l =>
    show (if buyS s then decide (z ≤ l) else decide (l ≤ z)) = true ↔ kLe (1, if buyS s then -l else l) (1, if buyS s then -z else z)
    unfold kLe
    cases buyS s with
    | true =>
      rw [if_pos rfl, if_pos rfl, if_pos rfl, decide_eq_true_iff]
      exact ⟨fun h => .inr ⟨rfl, by show -l ≤ -z; omega⟩, fun h => h.elim (fun h => absurd h (Int.lt_irrefl _)) fun h => by have := h.2; dsimp only at this; omega⟩
    | false =>
      rw [if_neg Bool.false_ne_true, if_neg Bool.false_ne_true, if_neg Bool.false_ne_true, decide_eq_true_iff]
      exact ⟨fun h => .inr ⟨rfl, h⟩, fun h => h.elim (fun h => absurd h (Int.lt_irrefl _)) fun h => h.2⟩
theorem takes_none (s : Str) (z : Int) : takes s none z = true := rfl
theorem takes_later {s : Str} {p : Option Int} {y z : Int} (h : takes s p y = true) (k : kLe (rankK s (some y)) (rankK s (some z))) : takes s p z = true := (takes_iff s p z).mpr (kLe_trans ((takes_iff s p y).mp h) k)
theorem ranked_sorted (s : Str) (os : List Ord30) : (rankedL s os).Pairwise fun x y => kLe (rankK s x.p) (rankK s y.p) := by
  unfold rankedL
  have := List.pairwise_mergeSort (le := rankLe s) (fun a b c h1 h2 => decide_eq_true (kLe_trans (of_decide_eq_true h1) (of_decide_eq_true h2))) (fun a b => by
    rcases kLe_total (rankK s a.p) (rankK s b.p) with h | h
    · rw [show rankLe s a b = true from decide_eq_true h]
      rfl
    · rw [show rankLe s b a = true from decide_eq_true h, Bool.or_true]) (os.filter fun o => decide (V.str o.s = V.str s))
  exact this.imp fun h => of_decide_eq_true h
theorem ranked_mem {s : Str} {os : List Ord30} {o : Ord30} : o ∈ rankedL s os ↔ o ∈ os ∧ V.str o.s = V.str s := by
  unfold rankedL
  rw [List.mem_mergeSort, List.mem_filter, decide_eq_true_iff]
theorem ranked_len (s : Str) (os : List Ord30) : (rankedL s os).length ≤ os.length := by
  unfold rankedL
  rw [List.length_mergeSort]
  exact List.length_filter_le _ _
/-- what accepts a price is a beginning of the order of the service -/
theorem pre_takes {s : Str} {rk : List Ord30} {a : Nat} {z : Int} (hs : rk.Pairwise fun x y => kLe (rankK s x.p) (rankK s y.p)) (h1 : ∀ o, o ∈ rk.take a → takes s o.p z = true) (h2 : ∀ o, rk[a]? = some o → takes s o.p z = false) : rk.filter (fun o => takes s o.p z) = rk.take a := by
  have hp := hs.sublist (List.drop_sublist a rk)
  have hd0 : (rk.drop a).filter (fun o => takes s o.p z) = [] := by
    rw [List.filter_eq_nil_iff]
    intro o ho ht
    cases hd : rk.drop a with
    | nil => rw [hd] at ho; cases ho
    | cons x t =>
      have hx : rk[a]? = some x := by rw [← List.head?_drop, hd]; rfl
      rw [hd] at ho hp
      have nx := h2 x hx
      rcases List.mem_cons.mp ho with rfl | ho
      · rw [nx] at ht
        cases ht
      · have := (List.pairwise_cons.mp hp).1 o ho
        have t2 := (takes_iff s x.p z).mpr (kLe_trans this ((takes_iff s o.p z).mp ht))
        rw [nx] at t2
        cases t2
  conv => lhs; rw [← List.take_append_drop a rk]
  rw [List.filter_append, List.filter_eq_self.mpr h1, hd0, List.append_nil]
theorem sum_permI {a b : List Int} (h : a.Perm b) : a.sum = b.sum := by
  induction h with
  | nil => rfl
  | cons x _ ih => rw [List.sum_cons, List.sum_cons, ih]
  | swap x y l => rw [List.sum_cons, List.sum_cons, List.sum_cons, List.sum_cons]; omega
  | trans _ _ h1 h2 => exact h1.trans h2
theorem ranked_sum (s : Str) (os : List Ord30) (z : Int) : (((rankedL s os).filter fun o => takes s o.p z).map (·.q)).sum = intr os s z := by
  unfold intr
  rw [← List.filter_filter]
  exact sum_permI (((List.mergeSort_perm _ _).filter _).map _)
theorem pre_intr {s : Str} {os : List Ord30} {a : Nat} {z : Int} (h1 : ∀ o, o ∈ (rankedL s os).take a → takes s o.p z = true) (h2 : ∀ o, (rankedL s os)[a]? = some o → takes s o.p z = false) : (((rankedL s os).take a).map (·.q)).sum = intr os s z := by
  rw [← pre_takes (ranked_sorted s os) h1 h2, ranked_sum]
/-- prices in the order of a side -/
def priceL (s : Str) (ps : List Int) : List Int := ps.mergeSort fun a b => decide (kLe (rankK s (some a)) (rankK s (some b)))
theorem price_sorted (s : Str) (ps : List Int) : (priceL s ps).Pairwise fun x y => kLe (rankK s (some x)) (rankK s (some y)) := by
  have := List.pairwise_mergeSort (le := fun a b => decide (kLe (rankK s (some a)) (rankK s (some b)))) (fun a b c h1 h2 => decide_eq_true (kLe_trans (of_decide_eq_true h1) (of_decide_eq_true h2))) (fun a b => by
    rcases kLe_total (rankK s (some a)) (rankK s (some b)) with h | h
    · rw [decide_eq_true h]
      rfl
    · rw [decide_eq_true h, Bool.or_true]) ps
  exact this.imp fun h => of_decide_eq_true h
theorem price_mem {s : Str} {ps : List Int} {z : Int} : z ∈ priceL s ps ↔ z ∈ ps := List.mem_mergeSort
theorem price_len (s : Str) (ps : List Int) : (priceL s ps).length = ps.length := List.length_mergeSort _
theorem price_nodup {s : Str} {ps : List Int} (h : ps.Nodup) : (priceL s ps).Nodup := (List.mergeSort_perm _ _).nodup_iff.mpr h
/-- the key of a price -/
def priceKey (s : Str) : V → Int × Int
  | .int z => rankK s (some z)
  | _ => (0, 0)
theorem price_vals (s : Str) (ps : List Int) : (ps.map V.int).mergeSort (pairLe (priceKey s)) = (priceL s ps).map V.int := by
  unfold priceL
  refine (List.map_mergeSort fun a _ b _ => ?_).symm
  rw [Bool.eq_iff_iff, decide_eq_true_iff, pairLe_iff]
  exact Iff.rfl
theorem put_new {d : List (Int × Int)} {s v : Int} (h : s ∉ keysS d) : putS d s v = d ++ [(s, v)] := by
  unfold putS
  rw [if_neg h]
theorem gD_of {qs : List Int} (f : Int → Int) {z : Int} (h : z ∈ qs) : z ∈ keysS (qs.map fun y => (y, f y)) ∧ gD (qs.map fun y => (y, f y)) z = f z := by
  have hk : keysS (qs.map fun y => (y, f y)) = qs := by
    unfold keysS
    rw [List.map_map]
    exact List.map_id _
  refine ⟨by rw [hk]; exact h, ?_⟩
  have e := get_some (d := qs.map fun y => (y, f y)) (s := z) (by rw [hk]; exact h)
  have hf : ∀ x, (qs.map fun y => (y, f y)).find? (fun x => decide (x.1 = z)) = some x → x.2 = f z := fun x hx => by
    have h1 := List.mem_of_find?_eq_some hx
    have h2 := List.find?_some hx
    obtain ⟨y, _, rfl⟩ := List.mem_map.mp h1
    rw [← of_decide_eq_true h2]
  unfold getS at e
  cases w : (qs.map fun y => (y, f y)).find? (fun x => decide (x.1 = z)) with
  | none => rw [w] at e; cases e
  | some x =>
    rw [w] at e
    have : gD (qs.map fun y => (y, f y)) z = x.2 := (Option.some.inj e).symm
    rw [this, hf x w]
/-! ### the best price -/
def rank4 (os : List Ord30) (r z : Int) : Four := (-(min (intr os "buy" z) (intr os "sell" z)), (if intr os "buy" z - intr os "sell" z < 0 then -(intr os "buy" z - intr os "sell" z) else intr os "buy" z - intr os "sell" z), (if z - r < 0 then -(z - r) else z - r), z)
/-- between the least and the greatest price told -/
def InR (os : List Ord30) (r z : Int) : Prop := (∃ a, (a = r ∨ a ∈ limits30 os) ∧ a ≤ z) ∧ ∃ b, (b = r ∨ b ∈ limits30 os) ∧ z ≤ b
theorem intr_same {os : List Ord30} {s : Str} {y z : Int} (h : ∀ o, o ∈ os → V.str o.s = V.str s → takes s o.p y = takes s o.p z) : intr os s y = intr os s z := by
  unfold intr
  rw [List.filter_congr fun o ho => ?_]
  by_cases e : V.str o.s = V.str s
  · rw [h o ho e]
  · rw [decide_eq_false e, Bool.and_false, Bool.and_false]
theorem lim_mem {os : List Ord30} {o : Ord30} {l : Int} (h : o ∈ os) (e : o.p = some l) : l ∈ limits30 os := List.mem_filterMap.mpr ⟨o, h, e⟩
theorem bey_mem {os : List Ord30} {o : Ord30} {l : Int} (h : o ∈ os) (e : o.p = some l) : (if buyS o.s then l + 1 else l - 1) ∈ beyond30 os := List.mem_filterMap.mpr ⟨o, h, by rw [e]; rfl⟩
theorem buy_takes (l z : Int) : takes "buy" (some l) z = decide (z ≤ l) := rfl
theorem sell_takes (l z : Int) : takes "sell" (some l) z = decide (l ≤ z) := rfl
/-- a price at which nothing begins or ends is as good as its neighbour toward the reference -/
theorem step_down {os : List Ord30} {z : Int} (h : z ∉ limits30 os ∧ z ∉ beyond30 os) : intr os "buy" (z - 1) = intr os "buy" z ∧ intr os "sell" (z - 1) = intr os "sell" z := by
  refine ⟨intr_same fun o ho e => ?_, intr_same fun o ho e => ?_⟩
  · cases hp : o.p with
    | none => rfl
    | some l =>
      have hb := bey_mem ho hp
      rw [show buyS o.s = true from decide_eq_true e, if_pos rfl] at hb
      have : z ≠ l + 1 := fun q => h.2 (by rw [q]; exact hb)
      rw [buy_takes, buy_takes]
      exact decide_eq_decide.mpr (by omega)
  · cases hp : o.p with
    | none => rfl
    | some l =>
      have hb := lim_mem ho hp
      have : z ≠ l := fun q => h.1 (by rw [q]; exact hb)
      rw [sell_takes, sell_takes]
      exact decide_eq_decide.mpr (by omega)
theorem step_up {os : List Ord30} {z : Int} (h : z ∉ limits30 os ∧ z ∉ beyond30 os) : intr os "buy" (z + 1) = intr os "buy" z ∧ intr os "sell" (z + 1) = intr os "sell" z := by
  refine ⟨intr_same fun o ho e => ?_, intr_same fun o ho e => ?_⟩
  · cases hp : o.p with
    | none => rfl
    | some l =>
      have hb := lim_mem ho hp
      have : z ≠ l := fun q => h.1 (by rw [q]; exact hb)
      rw [buy_takes, buy_takes]
      exact decide_eq_decide.mpr (by omega)
  · cases hp : o.p with
    | none => rfl
    | some l =>
      have hb := bey_mem ho hp
      have hs : ¬ V.str o.s = V.str "buy" := fun q => by rw [e] at q; exact absurd (V.str.inj q) (by decide)
      rw [show buyS o.s = false from decide_eq_false hs, if_neg Bool.false_ne_true] at hb
      have : z ≠ l - 1 := fun q => h.2 (by rw [q]; exact hb)
      rw [sell_takes, sell_takes]
      exact decide_eq_decide.mpr (by omega)
theorem rank4_near {os : List Ord30} {r y z : Int} (h1 : intr os "buy" y = intr os "buy" z) (h2 : intr os "sell" y = intr os "sell" z) (hd : (if y - r < 0 then -(y - r) else y - r) < (if z - r < 0 then -(z - r) else z - r)) {c : Four} (n : ¬ FourLt (rank4 os r y) c) : ¬ FourLt (rank4 os r z) c := by
  unfold rank4 at *
  rw [h1, h2] at n
  unfold FourLt at *
  dsimp only at *
  omega
/-- the best of the candidates is the best of all -/
theorem cand_best {os : List Ord30} {r : Int} {c : Four} (h : ∀ y, (y = r ∨ y ∈ limits30 os ∨ y ∈ beyond30 os) → InR os r y → ¬ FourLt (rank4 os r y) c) : ∀ (n : Nat) (z : Int), (z - r).natAbs ≤ n → InR os r z → ¬ FourLt (rank4 os r z) c := by
  intro n
  induction n with
  | zero => exact fun z hz hi => h z (.inl (by omega)) hi
  | succ n ih =>
    intro z hz hi
    by_cases hc : z = r ∨ z ∈ limits30 os ∨ z ∈ beyond30 os
    · exact h z hc hi
    · have nc : z ∉ limits30 os ∧ z ∉ beyond30 os := ⟨fun q => hc (.inr (.inl q)), fun q => hc (.inr (.inr q))⟩
      have nr : z ≠ r := fun q => hc (.inl q)
      obtain ⟨⟨a, ha, haz⟩, b, hb, hbz⟩ := hi
      by_cases hlt : r < z
      · have s := step_down nc
        refine rank4_near s.1 s.2 (by split <;> split <;> omega) (ih (z - 1) (by omega) ⟨⟨r, .inl rfl, by omega⟩, b, hb, by omega⟩)
      · have s := step_up nc
        refine rank4_near s.1 s.2 (by split <;> split <;> omega) (ih (z + 1) (by omega) ⟨⟨a, ha, by omega⟩, r, .inl rfl, by omega⟩)
/-- a best call price -/
def Best30 (os : List Ord30) (r z : Int) : Prop := InR os r z ∧ ∀ y, InR os r y → ¬ FourLt (rank4 os r y) (rank4 os r z)

theorem Tups.extN {α : Type} {enc : α → List V} {H H' : Hp} {l : Addr} {ps : List Addr} {xs : List α} (h : Tups enc H l ps xs) (e : LamX.ExtN H H') : Tups enc H' l ps xs :=
  ⟨e _ _ h.lst (fun _ y => by cases y), h.len, fun i p x a b => e _ _ (h.row i p x a b) fun _ y => by cases y⟩
/-- all but the dicts stay -/
def KeepD (H H' : Hp) : Prop := ∀ b o, H b = some o → (∀ d, o ≠ .dK d) → H' b = some o
theorem KeepD.tups {α : Type} {enc : α → List V} {H H' : Hp} {l : Addr} {ps : List Addr} {xs : List α} (k : KeepD H H') (h : Tups enc H l ps xs) : Tups enc H' l ps xs :=
  ⟨k _ _ h.lst (fun d e => by cases e), h.len, fun i p x a b => k _ _ (h.row i p x a b) fun d e => by cases e⟩
theorem keepD_of {H H' : Hp} {D : Addr} {d : List (Key × V)} (hD : H D = some (.dK d)) (e : ∀ b, b ≠ D → H' b = H b) : KeepD H H' := fun b o h n => by
  by_cases hb : b = D
  · rw [hb, hD] at h
    exact absurd (Option.some.inj h).symm (n d)
  · rw [e b hb]
    exact h
theorem tabs_keepD {TL : List (Addr × Str)} {H H' : Hp} (k : KeepD H H') (t : LamX.Tabs TL H) : LamX.Tabs TL H' := fun p hp => by
  obtain ⟨ps, h1, h2, h3⟩ := t p hp
  refine ⟨ps, k _ _ h1 (fun d e => by cases e), h2, fun pos cv h => ?_⟩
  obtain ⟨c, rfl, h4⟩ := h3 pos cv h
  exact ⟨c, rfl, k _ _ h4 fun d e => by unfold LamX.CodeO at e; cases e⟩
open LamX in
def sp_interests (K : PySem.W.Frag) (TL : List (Addr × Str)) : Sp := fun vs H Q _ => ∃ (_ : Unit) (l PA : Addr) (as : List Addr) (os : List Ord30) (s : Str) (ps : List Int), vs = [.ref l, .str s, .ref PA] ∧ Tups rowO H l as os ∧ os.length ≤ 31 ∧ H PA = some (.lst (ps.map V.int)) ∧ ps.length ≤ 63 ∧ ps.Nodup ∧ Tabs TL H ∧
  ∀ (_ : Unit) D d H', ExtN H H' → Tabs TL H' → H' D = some (.dK (encD d)) → (∀ z, z ∈ ps → z ∈ keysS d ∧ gD d z = intr os s z) → Q (.ref D) H'
set_option maxHeartbeats 0 in
theorem ok_interests (T : Txt K mg) [TB : TabsOk T base] : FnOk P w K mg base CX0 6 T.f_interests T.d_interests ["orders", "side", "prices"] (sp_interests K (tabsL T)) := by
  refine fun_okC T.F_interests sc_interests T.eq_interests (fun vs H Q E h => ?_) (fun A outer s H vs Q E hr h => ?_)
  · obtain ⟨_, l, PA, as, os, s, ps, rfl, _⟩ := h
    rfl
  · obtain ⟨_, l, PA, as, os, s, ps, rfl, hT, hl, hP, hpl, hnd, hTb, q⟩ := h
    have G_ranked : FnOk P w K mg base CX0 5 T.f_ranked T.d_ranked ["orders", "side"] (sp_ranked K (tabsL T)) := ok_ranked T
    have G_accepts : FnOk P w K mg base CX0 1 T.f_accepts T.d_accepts ["side", "limit", "price"] (sp_accepts K) := ok_accepts T
    have G_rank : FnOk P w K mg base CX0 1 T.f_rank T.d_rank ["side", "price"] (sp_rank K) := ok_rank T
    have hs := SqL.of (K := K) hP
    refine ⟨_, (pss_cons (ps_set (i := 3) sc_interests.nd rfl (Or.inl rfl) (pe_call G_ranked hr (by rfl) T.m_ranked T.F_ranked.kp T.b_ranked .nil pass0 (pa_cons (pv 0) (pa_cons (pv 1) pa_nil))))
    (pss_cons (ps_set (i := 4) sc_interests.nd rfl (Or.inl rfl) pe_dnewK)
    (pss_cons (ps_set (i := 5) sc_interests.nd rfl (Or.inl rfl) pe_int)
    (pss_cons (ps_set (i := 6) sc_interests.nd rfl (Or.inl rfl) pe_int)
    (pss_cons (ps_for PassesOwn.never rfl (pi_list (pe_sortLam (T := tabsL T) (j := 1) (a := "limit") (pv 2) (by rfl) T.z_sorted TB.tb_interests rfl (.tail _ (.head _)) (tabsU_interests T) (hr.mono (by decide)) (lamP_by (by show lamPB (defScope s_interests) _ _ = true; decide +kernel)) (by show (N_interests.all fun y => decide (y ≠ "limit")) = true; decide +kernel) rfl (fun _ _ _ _ _ _ => rfl) (fun _ _ _ _ _ hr => (pe_call G_rank hr (by rfl) T.m_rank T.F_rank.kp T.b_rank .nil pass0 (pa_cons (pv 1) (pa_cons (pv 8) pa_nil)))))) (pg_name (i := 7) sc_interests.nd rfl (Or.inl rfl))
      (pss_cons (ps_while PassesOwn.never (PW.pt (pw_and (pt_cmpR op_lt (pv 6) (pe_callB call_len_seq (by rfl) T.z_len PySem.boot_len (pa_cons (pv 3) pa_nil)) (nomark _)) (pw_and1 (pt_val (pe_call G_accepts (hr.mono (by decide)) (by rfl) T.m_accepts T.F_accepts.kp T.b_accepts .nil pass0 (pa_cons (pv 1) (pa_cons (pe_ix ix_tup (pe_ix ix_list (pv 3) (pv 6) (fun _ _ => rfl)) pe_int (fun _ _ => rfl)) (pa_cons (pv 7) pa_nil))))))))
        (pss_cons (ps_aug (i := 5) sc_interests.nd rfl (Or.inl rfl) (pe_ix ix_tup (pe_ix ix_list (pv 3) (pv 6) (fun _ _ => rfl)) pe_int (fun _ _ => rfl)) ip_add)
        (pss_one (ps_aug (i := 6) sc_interests.nd rfl (Or.inl rfl) pe_int ip_add))))
      (pss_one (ps_dput (hu_of hr) (pv 4) (pv 7) (pv 5) rfl))))
    (pss_one (ps_ret (pv 4)))))))), ?_⟩
    walk_at "st"
    refine ⟨(), l, as, os, s, rfl, hT, hl, hTb, fun _ R rs H1 e1 t1 hR => ?_⟩
    have hP1 := e1 _ _ hP fun _ y => by cases y
    walk_at "st"
    intro D nD
    generalize hH2 : upd H1 D _ = H2
    have s2 : Same H1 H2 := hH2 ▸ same_upd nD
    have hD : H2 D = some (.dK (encD [])) := (congrFun hH2 D).symm.trans upd_same
    have hR2 := hR.same s2
    have hP2 := s2 _ _ hP1
    have t2 := t1.ext s2
    walk_at "st"
    intro H3 e3 t3
    have hP3 := e3 _ _ hP2 fun _ y => by cases y
    have hD3 := e3 _ _ hD fun _ y => by cases y
    refine ⟨(), PA, ps.map V.int, priceKey s, rfl, SqL.of hP3, fun x hx H4 e4 => ?_, fun _ p H4 e4 np np4 => ?_⟩
    · obtain ⟨z, _, rfl⟩ := List.mem_map.mp hx
      walk_at "st"
      exact ⟨some z, rfl, fun t nt => ⟨same_upd nt, t, rfl, upd_same⟩⟩
    · rw [price_vals]
      have hp4 := upd_same (H := H4) (a := p) (o := .lst ((priceL s ps).map V.int))
      have s4 := same_upd (o := .lst ((priceL s ps).map V.int)) np4
      have hD4 := s4 _ _ (e4 _ _ hD3)
      have hR4 := ((hR2.extN e3).same e4).same s4
      have t4 := (t3.ext e4).ext s4
      have e04 : LamX.ExtN H1 (upd H4 p (.lst ((priceL s ps).map V.int))) := (((extN_same s2).trans e3).trans (extN_same e4)).trans (extN_same s4)
      generalize upd H4 p (.lst ((priceL s ps).map V.int)) = H5 at *
      refine ⟨p, rfl, ⟨_, SqL.of hp4⟩, ?_⟩
      have hrl := ranked_len s os
      have hql := price_len s ps
      have hqn := price_nodup (s := s) hnd
      have hqs := price_sorted s ps
      have hqm : ∀ z, z ∈ priceL s ps ↔ z ∈ ps := fun z => price_mem
      generalize priceL s ps = qs at *
      have hin : ∀ {a : Nat} {z : Int}, (∀ o, o ∈ (rankedL s os).take a → takes s o.p z = true) → (∀ o, (rankedL s os)[a]? = some o → takes s o.p z = false) → (((rankedL s os).take a).map (·.q)).sum = intr os s z := fun h1 h2 => pre_intr h1 h2
      generalize rankedL s os = rk at *
      refine for_list (K := K) (a := p) (xs := qs.map V.int) (fun i σ H' => ∃ (v7 : Option V) (a : Nat), σ = [some (.ref l), some (.str s), some (.ref PA), some (.ref R), some (.ref D), some (.int (((rk.take a).map (·.q)).sum)), some (.int (a : Int)), v7] ∧ a ≤ rk.length ∧
        (∀ o, o ∈ rk.take a → ∀ z, z ∈ qs.drop i → takes s o.p z = true) ∧ H' D = some (.dK (encD ((qs.take i).map fun z => (z, intr os s z)))) ∧ (∀ b, b ≠ D → H' b = H5 b))
        ⟨none, 0, rfl, Nat.zero_le _, (fun o ho => by cases ho), hD4, fun _ _ => rfl⟩ (fun i σ H' _ ⟨_, _, _, _, _, hd, hk⟩ => SqL.of (keepD_of hD4 hk _ _ hp4 fun d e => by cases e)) ?_ ?_
      · rintro i v σ H6 hvv ⟨v7, a, rfl, ha, hac, hd, hk⟩
        obtain ⟨z, hz, rfl⟩ := ints_at hvv
        have kD := keepD_of hD4 hk
        have hR6 := kD.tups hR4
        have hRs := SqL.of (K := K) hR6.lst
        have hzd : z ∈ qs.drop i := List.mem_iff_getElem?.mpr ⟨0, by rw [List.getElem?_drop]; exact hz⟩
        have hil := (List.getElem?_eq_some_iff.mp hz).1
        have hlate : ∀ y, y ∈ qs.drop (i + 1) → kLe (rankK s (some z)) (rankK s (some y)) := by
          have h1 := hqs.sublist (List.drop_sublist i qs)
          rw [List.drop_eq_getElem_cons hil, (List.getElem?_eq_some_iff.mp hz).2] at h1
          exact (List.pairwise_cons.mp h1).1
        have hnew : z ∉ keysS ((qs.take i).map fun z => (z, intr os s z)) := fun hm => by
          have h1 : z ∈ qs.take i := by
            unfold keysS at hm
            rw [List.map_map] at hm
            obtain ⟨y, hy, rfl⟩ := List.mem_map.mp hm
            exact hy
          have h2 := hqn.sublist (List.take_sublist (i + 1) qs)
          rw [take_succ hz, List.nodup_append] at h2
          exact h2.2.2 z h1 z (List.mem_singleton_self _) rfl
        refine while_by (fun σ H' => H' = H6 ∧ ∃ b : Nat, σ = [some (.ref l), some (.str s), some (.ref PA), some (.ref R), some (.ref D), some (.int (((rk.take b).map (·.q)).sum)), some (.int (b : Int)), some (.int z)] ∧ b ≤ rk.length ∧ ∀ o, o ∈ rk.take b → takes s o.p z = true)
          (fun σ _ => match σ with | [_, _, _, _, _, _, some (.int n), _] => rk.length - n.toNat | _ => 0)
          ⟨rfl, a, rfl, ha, fun o ho => hac o ho z hzd⟩ ?_ ?_
        · rintro σ H7 ⟨rfl, b, rfl, hb, hba⟩
          walk_at "st"
          refine iteD (fun hlt => ?_) (fun hlt => ?_)
          · obtain ⟨x, hx⟩ : ∃ x, rk[b]? = some x := ⟨_, List.getElem?_eq_getElem (by rw [List.length_map, hR6.len] at hlt; omega)⟩
            obtain ⟨pe, hpe, hat, hrow⟩ := hR6.at hx
            have htup : SqT K H7 pe (rowR x) := SqT.of hrow
            have hix1 : atI (rowR x) 1 = some (optV x.p) := rfl
            have hix2 : atI (rowR x) 2 = some (.int x.q) := rfl
            have hsum : ((rk.take (b + 1)).map (·.q)).sum = ((rk.take b).map (·.q)).sum + x.q := by
              rw [take_succ hx, List.map_append, List.sum_append]
              show _ + (x.q + 0) = _
              rw [Int.add_zero]
            walk_at "st"
            refine ⟨x.p, z, rfl, ?_⟩
            walk_at "st"
            refine iteB (fun ht => ?_) (fun ht => ?_)
            · have hnext : ∀ o, o ∈ rk.take (b + 1) → takes s o.p z = true := fun o ho => by
                rw [take_succ hx] at ho
                rcases List.mem_append.mp ho with h1 | h1
                · exact hba o h1
                · rw [List.mem_singleton.mp h1]
                  exact ht
              have hbl : b < rk.length := (List.getElem?_eq_some_iff.mp hx).1
              walk_at "st"
              refine ⟨⟨rfl, b + 1, by rw [hsum]; rfl, hbl, hnext⟩, ?_⟩
              show rk.length - ((b : Int) + 1).toNat < rk.length - ((b : Int)).toNat
              omega
            · have hfin := hin hba (fun o ho => by rw [hx] at ho; rw [← Option.some.inj ho]; exact ht)
              rw [hfin]
              walk_at "st"
              refine dput_go (s := z) hd (by rw [List.length_map, List.length_take]; omega) ?_
              rw [put_new hnew]
              refine ⟨_, b, by rw [hfin], hb, fun o ho y hy => takes_later (hba o ho) (hlate y hy), ?_, fun c hc => (upd_ne hc).trans (hk c hc)⟩
              rw [upd_same, take_succ hz, List.map_append]
              rfl
          · have hfin := hin hba (fun o ho => by have h2 := (List.getElem?_eq_some_iff.mp ho).1; rw [List.length_map, hR6.len] at hlt; omega)
            rw [hfin]
            walk_at "st"
            refine dput_go (s := z) hd (by rw [List.length_map, List.length_take]; omega) ?_
            rw [put_new hnew]
            refine ⟨_, b, by rw [hfin], hb, fun o ho y hy => takes_later (hba o ho) (hlate y hy), ?_, fun c hc => (upd_ne hc).trans (hk c hc)⟩
            rw [upd_same, take_succ hz, List.map_append]
            rfl
        · rintro σ H Q Q' h ⟨v1, e1, v2, e2, p, ys, r0, hq, i, j, r1, r2, k, r3, q⟩
          refine ⟨v1, e1, v2, e2, p, ys, r0, hq, i, j, r1, r2, k, r3, ?_⟩
          cases k with
          | false => exact h _ _ q
          | true =>
            rw [if_pos rfl] at q ⊢
            obtain ⟨w1, f1, w3, f3, w6, f6, p1, x1, i1, y1, a1, a2, a3, a4, p2, x2, i2, y2, b1, b2, b3, b4, w7, f7, s', l', p', c1, k', c2, q⟩ := q
            exact ⟨w1, f1, w3, f3, w6, f6, p1, x1, i1, y1, a1, a2, a3, a4, p2, x2, i2, y2, b1, b2, b3, b4, w7, f7, s', l', p', c1, k', c2, h _ _ q⟩
      · rintro σ H6 ⟨v7, a, rfl, ha, hac, hd, hk⟩
        rw [show qs.take (qs.map V.int).length = qs by rw [List.length_map, List.take_length]] at hd
        have kD := keepD_of hD4 hk
        walk_at "st"
        refine q () D _ H6 (fun b u hb nt => ?_) (tabs_keepD kD t4) hd fun z hz => gD_of (intr os s) ((hqm z).mpr hz)
        have h5 := e1.trans e04 b u hb nt
        have h1 := e1 b u hb nt
        rw [hk b fun e => by rw [e, nD] at h1; cases h1]
        exact h5

theorem min_py (a b : Int) : (if b < a then b else a) = min a b := by
  rw [Int.min_def]
  split <;> split <;> omega
open LamX in
def sp_call_price (K : PySem.W.Frag) (C : Addr) (TL : List (Addr × Str)) : Sp := fun vs H Q E => ∃ (_ : Unit) (l : Addr) (as : List Addr) (os : List Ord30) (r : Int), vs = [.ref l, .int r] ∧ Tups rowO H l as os ∧ os.length ≤ 31 ∧ Tabs TL H ∧
  (GoodC os r → ∀ (_ : Unit) (t : Addr) (z : Int) (H' : Hp), ExtN H H' → Tabs TL H' → Best30 os r z → H' t = some (.tup [.int z, .int (min (intr os "buy" z) (intr os "sell" z))]) → Q (.ref t) H') ∧ (¬ GoodC os r → E (.ref C) none H)
def rowF (q : Four) : List V := [.int q.1, .int q.2.1, .int q.2.2.1, .int q.2.2.2]
set_option maxHeartbeats 0 in
theorem ok_call_price (T : Txt K mg) [TB : TabsOk T base] : FnOk P w K mg base (L2.CX P w) 7 T.f_call_price T.d_call_price ["orders", "reference"] (sp_call_price K T.c_InvalidOrder (tabsL T)) := by
  refine T.F_call_price.okX sc_call_price (fun vs H Q E h => ?_) (fun cdv A outer s H vs Q E hr h => ?_)
  · obtain ⟨_, l, as, os, r, rfl, _⟩ := h
    rfl
  · obtain ⟨_, l, as, os, r, rfl, hT, hl, hTb, q, qe⟩ := h
    have G_check_call : FnOk P w K mg base (L2.CX P w) 5 T.f_check_call T.d_check_call ["orders", "reference"] (sp_check_call K T.c_InvalidOrder) := ok_check_call T
    have G_candidates : FnOk P w K mg base CX0 1 T.f_candidates T.d_candidates ["orders", "reference"] (sp_candidates K) := ok_candidates T
    have G_interests : FnOk P w K mg base CX0 6 T.f_interests T.d_interests ["orders", "side", "prices"] (sp_interests K (tabsL T)) := ok_interests T
    refine ⟨_, (pss_cons (ps_expr (pe_callS G_check_call (hr.mono (by decide)) (by rfl) T.m_check_call T.F_check_call.kp T.b_check_call (fun σ => passAt (takes_of rfl rfl rfl rfl) σ) (pa_cons (pv 0) (pa_cons (pv 1) pa_nil))))
    (pss_cons (ps_set (i := 2) sc_call_price.nd rfl (Or.inl rfl) (pe_call G_candidates (hr.mono (by decide)) (by rfl) T.m_candidates T.F_candidates.kp T.b_candidates .nil pass0 (pa_cons (pv 0) (pa_cons (pv 1) pa_nil))))
    (pss_cons (ps_set (i := 3) sc_call_price.nd rfl (Or.inr rfl) (pe_call G_interests hr (by rfl) T.m_interests T.F_interests.kp T.b_interests .nil pass0 (pa_cons (pv 0) (pa_cons pe_str (pa_cons (pv 2) pa_nil)))))
    (pss_cons (ps_set (i := 4) sc_call_price.nd rfl (Or.inr rfl) (pe_call G_interests hr (by rfl) T.m_interests T.F_interests.kp T.b_interests .nil pass0 (pa_cons (pv 0) (pa_cons pe_str (pa_cons (pv 2) pa_nil)))))
    (pss_cons (ps_setLc (i := 5) (own := [("price", 6)]) (g := gName 6) (tt := tYes) rfl sc_call_price.nd rfl rfl (sw_true rfl rfl rfl (by decide +kernel)) (pi_list (pv 2)) (blkOk_by (own := [("price", 6)]) (N := N_call_price) (sc := defScope s_call_price) (by decide +kernel)) (fun _ _ _ _ _ => (pg_name (i := 6) sc_call_price.nd rfl (Or.inl rfl))) (fun _ _ _ _ _ => pts_nil) (fun _ _ _ _ _ => (pe_tup (pa_cons (pe_un un_neg (pe_callB (call_min2 rfl) (by rfl) T.z_min (by decide +kernel) (pa_cons (pe_dget (hu_of hr) (pv 3) (pv 6) (fun _ _ => rfl)) (pa_cons (pe_dget (hu_of hr) (pv 4) (pv 6) (fun _ _ => rfl)) pa_nil)))) (pa_cons (pe_callB call_abs (by rfl) T.z_abs (by decide +kernel) (pa_cons (pe_op op_sub (pe_dget (hu_of hr) (pv 3) (pv 6) (fun _ _ => rfl)) (pe_dget (hu_of hr) (pv 4) (pv 6) (fun _ _ => rfl))) pa_nil)) (pa_cons (pe_callB call_abs (by rfl) T.z_abs (by decide +kernel) (pa_cons (pe_op op_sub (pv 6) (pv 1)) pa_nil)) (pa_cons (pv 6) pa_nil)))))))
    (pss_cons (ps_set (i := 7) sc_call_price.nd rfl (Or.inl rfl) (pe_callB (cr_minFour hr rfl) (by rfl) T.z_min (by decide +kernel) (pa_cons (pv 5) pa_nil)))
    (pss_one (ps_ret (pe_tup (pa_cons (pe_ix ix_tup (pv 7) pe_int (fun _ _ => rfl)) (pa_cons (pe_un un_neg (pe_ix ix_tup (pv 7) pe_int (fun _ _ => rfl))) pa_nil))))))))))), ?_⟩
    walk_at "st"
    refine ⟨(), l, as, os, r, rfl, hT, fun hgc => ?_, fun hgc => qe hgc⟩
    obtain ⟨hg, hr0, hr1⟩ := hgc
    walk_at "st"
    refine ⟨(), l, as, os, r, rfl, hT, hl, fun _ PA ps H1 s1 hP hps hpl hpw => ?_⟩
    have hnd : ps.Nodup := hpw.imp fun h => Int.ne_of_lt h
    have hT1 := hT.same s1
    have t1 := hTb.ext s1
    walk_at "st"
    refine ⟨(), l, PA, as, os, "buy", ps, rfl, hT1, hl, hP, hpl, hnd, t1, fun _ D d H2 e2 t2 hD hd => ?_⟩
    have hT2 := hT1.extN e2
    have hP2 := e2 _ _ hP fun _ y => by cases y
    walk_at "st"
    refine ⟨(), l, PA, as, os, "sell", ps, rfl, hT2, hl, hP2, hpl, hnd, t2, fun _ F f H3 e3 t3 hF hf => ?_⟩
    have hP3 := e3 _ _ hP2 fun _ y => by cases y
    have hD3 := e3 _ _ hD fun _ y => by cases y
    have hs := SqL.of (K := K) hP3
    walk_at "st"
    intro C nC
    refine lc_list (K := K) (a := PA) (xs := ps.map V.int) (fun i H' => ∃ (_ : Unit) (bs : List Addr), Tups rowF H' C bs ((ps.take i).map (rank4 os r)) ∧ Same H3 H') ⟨(), [], .nil upd_same, same_upd nC⟩ (fun i H' _ ⟨_, _, _, e⟩ => e.seq hs) ?_ ?_
    · rintro i v H4 hvv ⟨_, bs, hB, e4⟩
      obtain ⟨z, hz, rfl⟩ := ints_at hvv
      have hzm := List.mem_of_getElem? hz
      have hD4 := e4 _ _ hD3
      have hF4 := e4 _ _ hF
      have kd := hd z hzm
      have kf := hf z hzm
      have hil := (List.getElem?_eq_some_iff.mp hz).1
      have g1 := dget_at hD4 kd.1
      have g2 := dget_at hF4 kf.1
      rw [kd.2] at g1
      rw [kf.2] at g2
      walk_at "st"
      intro E nE
      have ev : (HO.tup [V.int (-(if intr os "sell" z < intr os "buy" z then intr os "sell" z else intr os "buy" z)), V.int (if intr os "buy" z - intr os "sell" z < 0 then -(intr os "buy" z - intr os "sell" z) else intr os "buy" z - intr os "sell" z), V.int (if z - r < 0 then -(z - r) else z - r), V.int z]) = HO.tup (rowF (rank4 os r z)) := by
        unfold rowF rank4
        rw [min_py]
      have sE := same_upd (o := .tup (rowF (rank4 os r z))) nE
      show ∃ _, _
      refine ⟨_, by rw [ev]; exact sE _ _ hB.lst, small1000 (by rw [List.length_map, hB.len, List.length_map, List.length_take]; omega), (), bs ++ [E], ?_, ?_⟩
      · rw [take_succ hz, List.map_append, ev]
        exact hB.push (x := rank4 os r z) sE nE upd_same
      · rw [ev]
        exact TabR.keep (e4.trans sE) nC
    · rintro H4 ⟨_, bs, hB, e4⟩
      rw [show ps.take (ps.map V.int).length = ps by rw [List.length_map, List.take_length]] at hB
      have hBs := SqL.of (K := K) hB.lst
      have hne : ps ≠ [] := fun e => by
        have := (hps r).mpr ⟨.inl rfl, ⟨r, .inl rfl, Int.le_refl _⟩, r, .inl rfl, Int.le_refl _⟩
        rw [e] at this
        cases this
      obtain ⟨z0, zs, hzs⟩ := List.exists_cons_of_ne_nil hne
      have hmap : ps.map (rank4 os r) = rank4 os r z0 :: zs.map (rank4 os r) := by rw [hzs]; rfl
      rw [hmap] at hB
      walk_at "st"
      refine ⟨(), C, bs, rank4 os r z0, zs.map (rank4 os r), rfl, hBs, hB.len, fun i a q h1 h2 => hB.row i a q h1 h2, fun _ t q4 hq4 ht hleast => ?_⟩
      rw [← hmap] at hq4 hleast
      obtain ⟨z, hz, rfl⟩ := List.mem_map.mp hq4
      have htup : SqT K H4 t (rowF (rank4 os r z)) := SqT.of ht
      walk_at "st"
      intro u nu
      have e3' := extN_same (e4.trans (same_upd (o := .tup [.int (rank4 os r z).2.2.2, .int (-(rank4 os r z).1)]) nu))
      refine q ⟨hg, hr0, hr1⟩ () u z _ ((((extN_same s1).trans e2).trans e3).trans e3') (t3.ext (e4.trans (same_upd nu))) ⟨((hps z).mp hz).2, fun y hy => ?_⟩ ?_
      · exact cand_best (fun y hy hin => hleast _ (List.mem_map.mpr ⟨y, (hps y).mpr ⟨hy, hin⟩, rfl⟩)) _ y (Nat.le_refl _) hy
      · refine upd_same.trans ?_
        show some (HO.tup [V.int z, V.int (- -(min (intr os "buy" z) (intr os "sell" z)))]) = _
        rw [Int.neg_neg]

/-- pairing off two lists of (name, amount), first with first -/
inductive PO : List (Int × Int) → List (Int × Int) → List (Int × Int × Int) → Prop
  | nil : PO [] [] []
  | lt {g a t b : Int} {gs ts : List (Int × Int)} {R : List (Int × Int × Int)} : a < b → PO gs ((t, b - a) :: ts) R → PO ((g, a) :: gs) ((t, b) :: ts) ((g, t, a) :: R)
  | eq {g a t : Int} {gs ts : List (Int × Int)} {R : List (Int × Int × Int)} : PO gs ts R → PO ((g, a) :: gs) ((t, a) :: ts) ((g, t, a) :: R)
  | gt {g a t b : Int} {gs ts : List (Int × Int)} {R : List (Int × Int × Int)} : b < a → PO ((g, a - b) :: gs) ts R → PO ((g, a) :: gs) ((t, b) :: ts) ((g, t, b) :: R)
def amts (xs : List (Int × Int)) : Int := (xs.map (·.2)).sum
theorem amts_cons (x : Int × Int) (xs : List (Int × Int)) : amts (x :: xs) = x.2 + amts xs := by
  unfold amts
  rw [List.map_cons, List.sum_cons]
def Pos2 (xs : List (Int × Int)) : Prop := ∀ x, x ∈ xs → 1 ≤ x.2
theorem Pos2.amts0 : ∀ {xs : List (Int × Int)}, Pos2 xs → 0 ≤ amts xs ∧ (amts xs = 0 → xs = [])
  | [], _ => ⟨Int.le_refl 0, fun _ => rfl⟩
  | x :: xs, h => by
    have h1 := Pos2.amts0 (xs := xs) fun y hy => h y (List.mem_cons_of_mem _ hy)
    have h2 := h x List.mem_cons_self
    rw [amts_cons]
    exact ⟨by omega, fun z => by omega⟩
/-- what the takers still want, from the place at on -/
def wantL (ts : List (Int × Int)) (ws : List Int) (at' : Nat) : List (Int × Int) := ((ts.map (·.1)).zip ws).drop at'
theorem wantL_at {ts : List (Int × Int)} {ws : List Int} {k : Nat} {t : Int × Int} (hl : ws.length = ts.length) (h : ts[k]? = some t) : wantL ts ws k = (t.1, at0 ws k) :: wantL ts ws (k + 1) := by
  have hk := (List.getElem?_eq_some_iff.mp h).1
  unfold wantL
  have hz : k < ((ts.map (·.1)).zip ws).length := by rw [List.length_zip, List.length_map]; omega
  rw [List.drop_eq_getElem_cons hz]
  congr 1
  have e := List.getElem?_eq_getElem hz
  rw [List.getElem?_zip_eq_some (z := (t.1, at0 ws k)).mpr ⟨by rw [List.getElem?_map, h]; rfl, at0_lt (ws := ws) (i := k) (by omega)⟩] at e
  exact (Option.some.inj e).symm
theorem wantL_end {ts : List (Int × Int)} {ws : List Int} {k : Nat} (hl : ws.length = ts.length) (h : ts.length ≤ k) : wantL ts ws k = [] := by
  unfold wantL
  refine List.drop_eq_nil_of_le ?_
  rw [List.length_zip, List.length_map]
  omega
theorem wantL_set {ts : List (Int × Int)} {ws : List Int} {k j : Nat} {x : Int} (h : k < j) : wantL ts (ws.set k x) j = wantL ts ws j := by
  unfold wantL
  show (List.zipWith Prod.mk _ _).drop j = (List.zipWith Prod.mk _ _).drop j
  rw [List.drop_zipWith, List.drop_zipWith, List.drop_set_of_lt h]
theorem wantL_0 (ts : List (Int × Int)) : wantL ts (ts.map (·.2)) 0 = ts := by
  unfold wantL
  rw [List.drop_zero, List.zip_map']
  exact List.map_id' ts
def sp_pair_off (K : PySem.W.Frag) : Sp := fun vs H Q _ => ∃ (l m : Addr) (ps qs : List Addr) (gs ts : List (Int × Int)), vs = [.ref l, .ref m] ∧ Tups enc2 H l ps gs ∧ Tups enc2 H m qs ts ∧ Pos2 gs ∧ Pos2 ts ∧ amts gs = amts ts ∧ gs.length + ts.length ≤ 1000 ∧
  ∀ p H' rs R, Same H H' → H p = none → Tups enc3 H' p rs R → PO gs ts R → Q (.ref p) H'
set_option maxHeartbeats 0 in
theorem ok_pair_off (T : Txt K mg) [TB : TabsOk T base] : FnOk P w K mg base CX0 1 T.f_pair_off T.d_pair_off ["givers", "takers"] (sp_pair_off K) := by
  refine T.F_pair_off.ok sc_pair_off (fun vs H Q E h => ?_) (fun cdv A outer s H vs Q E hr h => ?_)
  · obtain ⟨l, m, ps, qs, gs, ts, rfl, _⟩ := h
    rfl
  · obtain ⟨l, m, ps, qs, gs, ts, rfl, hg, ht, pg, pt, hsum, hlen, q⟩ := h
    refine ⟨_, (pss_cons (ps_set (i := 2) sc_pair_off.nd rfl (Or.inl rfl) (pe_lst pa_nil))
    (pss_cons (ps_setLc (i := 3) (own := [("_", 4), ("amount", 5)]) (tt := tYes) rfl sc_pair_off.nd rfl rfl (sw_true rfl rfl rfl (by decide +kernel)) (pi_list (pv 1)) (blkOk_by (own := [("_", 4), ("amount", 5)]) (N := N_pair_off) (sc := defScope s_pair_off) (by decide +kernel)) (fun _ _ _ _ _ => (show PG _ _ (gTup K 2 (gCons (gName 4) (gCons (gName 5) gNil))) from (pg_tup rfl (pgs_cons (pg_name (i := 4) sc_pair_off.nd rfl (Or.inl rfl)) (pgs_cons (pg_name (i := 5) sc_pair_off.nd rfl (Or.inl rfl)) pgs_nil))))) (fun _ _ _ _ _ => pts_nil) (fun _ _ _ _ _ => (pv 5)))
    (pss_cons (ps_set (i := 6) sc_pair_off.nd rfl (Or.inl rfl) pe_int)
    (pss_cons (ps_for PassesOwn.never rfl (pi_list (pv 0)) (pg_tup rfl (pgs_cons (pg_name (i := 7) sc_pair_off.nd rfl (Or.inl rfl)) (pgs_cons (pg_name (i := 5) sc_pair_off.nd rfl (Or.inl rfl)) pgs_nil)))
      (pss_cons (ps_set (i := 8) sc_pair_off.nd rfl (Or.inl rfl) (pv 5))
      (pss_one (ps_while PassesOwn.never (pt_cmpR op_gt (pv 8) pe_int (nomark _))
        (pss_cons (ps_set (i := 9) sc_pair_off.nd rfl (Or.inl rfl) (pe_callB (call_min2 rfl) (by rfl) T.z_min (by decide +kernel) (pa_cons (pv 8) (pa_cons (pe_ix ix_list (pv 3) (pv 6) (fun _ _ => rfl)) pa_nil))))
        (pss_cons (ps_expr (pe_bm PySem.F.plainAttrs_list PySem.F.slot_list_append PySem.F.type_list_append mt_append (pv 2) (pa_cons (pe_tup (pa_cons (pv 7) (pa_cons (pe_ix ix_tup (pe_ix ix_list (pv 1) (pv 6) (fun _ _ => rfl)) pe_int (fun _ _ => rfl)) (pa_cons (pv 9) pa_nil)))) pa_nil)))
        (pss_cons (ps_aug (i := 8) sc_pair_off.nd rfl (Or.inl rfl) (pv 9) ip_sub)
        (pss_cons (ps_augS (pv 3) (pv 6) pget_list (pv 9) ip_sub set_list)
        (pss_one (ps_if (pt_cmpR op_eq (pe_ix ix_list (pv 3) (pv 6) (fun _ _ => rfl)) pe_int (nomark _))
          (pss_one (ps_aug (i := 6) sc_pair_off.nd rfl (Or.inl rfl) pe_int ip_add))
          pss_nil))))))))))
    (pss_one (ps_ret (pv 2))))))), ?_⟩
    have sg : SqL K H l (ps.map V.ref) := SqL.of hg.lst
    have st : SqL K H m (qs.map V.ref) := SqL.of ht.lst
    walk_at "st"
    intro D nD
    have eD : (upd H D (.lst [])) D = some (.lst []) := upd_same
    have s1 : Same H (upd H D (.lst [])) := same_upd nD
    generalize upd H D (.lst []) = H1 at eD s1
    have hg1 := hg.same s1
    have ht1 := ht.same s1
    have st1 := s1.seq st
    have sg1 := s1.seq sg
    walk_at "st"
    intro W nW
    refine lc_list (K := K) (a := m) (xs := qs.map V.ref) (fun i H' => H' = upd H1 W (.lst (((ts.take i).map (·.2)).map V.int))) rfl (fun i H' _ e => by rw [e]; exact (same_upd nW).seq st1) ?_ ?_
    · rintro i x H' hx rfl
      have hi := (List.getElem?_eq_some_iff.mp hx).1
      obtain ⟨p, y, hp, hy, rfl, hr⟩ := ht1.item hx
      have hr2 : SqT K (upd H1 W (.lst (((ts.take i).map (·.2)).map V.int))) p (enc2 y) := SqT.of ((same_upd nW) _ _ hr)
      unfold enc2 at hr2
      walk_at "st"
      refine ⟨small1000 (by rw [List.length_map, List.length_map, List.length_take]; omega), ?_⟩
      rw [upd_upd, take_succ hy, List.map_append, List.map_append]
      rfl
    · rintro H' rfl
      rw [List.length_map, ht1.len, List.take_length]
      have eW : (upd H1 W (.lst ((ts.map (·.2)).map V.int))) W = some (.lst ((ts.map (·.2)).map V.int)) := upd_same
      have s2 : Same H1 (upd H1 W (.lst ((ts.map (·.2)).map V.int))) := same_upd nW
      have hDW : D ≠ W := fun z => by rw [z, nW] at eD; cases eD
      have eD2 := s2 _ _ eD
      generalize upd H1 W (.lst ((ts.map (·.2)).map V.int)) = H2 at eW s2 eD2
      have s02 := s1.trans s2
      have nW0 : H W = none := s1.free nW
      have sg2 := s02.seq sg
      walk_at "st"
      refine for_list (K := K) (a := l) (xs := ps.map V.ref) (fun i σ H' => ∃ (v5 v7 v8 v9 : Option V) (k : Nat) (ws : List Int) (rs : List Addr) (R : List (Int × Int × Int)), σ = [some (.ref l), some (.ref m), some (.ref D), some (.ref W), none, v5, some (.int (k : Int)), v7, v8, v9] ∧ Same H H' ∧ Tups enc3 H' D rs R ∧ H' W = some (.lst (ws.map V.int)) ∧ ws.length = ts.length ∧ k ≤ ts.length ∧ Pos2 (wantL ts ws k) ∧ amts (gs.drop i) = amts (wantL ts ws k) ∧ R.length ≤ i + k ∧ ∀ L, PO (gs.drop i) (wantL ts ws k) L → PO gs ts (R ++ L))
        ⟨none, none, none, none, 0, ts.map (·.2), [], [], rfl, s02, .nil eD2, eW, by rw [List.length_map], Nat.zero_le _, by rw [wantL_0]; exact pt, by rw [wantL_0]; exact hsum, Nat.zero_le _, fun L h => by rw [wantL_0] at h; exact h⟩ (fun i σ H' _ ⟨_, _, _, _, _, _, _, _, _, e, _⟩ => e.seq sg) ?_ ?_
      · rintro i x σ H' hx ⟨v5, v7, v8, v9, k, ws, rs, R, rfl, e, hR, hW, hwl, hk, hpos, hsm, hRl, hPO⟩
        obtain ⟨p, g, hp, hgi, rfl, hr⟩ := (hg.same e).item hx
        have hi := (List.getElem?_eq_some_iff.mp hgi).1
        have hdrop : gs.drop i = g :: gs.drop (i + 1) := by
          rw [List.drop_eq_getElem_cons hi]
          congr 1
          exact Option.some.inj ((List.getElem?_eq_getElem hi).symm.trans hgi)
        have hgp := pg g (List.mem_of_getElem? hgi)
        have hr2 : SqT K H' p (enc2 g) := SqT.of hr
        unfold enc2 at hr2
        walk_at "st"
        refine while_by (fun σ H' => ∃ (v9 : Option V) (r : Int) (k : Nat) (ws : List Int) (rs : List Addr) (R : List (Int × Int × Int)), σ = [some (.ref l), some (.ref m), some (.ref D), some (.ref W), none, some (.int g.2), some (.int (k : Int)), some (.int g.1), some (.int r), v9] ∧ Same H H' ∧ Tups enc3 H' D rs R ∧ H' W = some (.lst (ws.map V.int)) ∧ ws.length = ts.length ∧ k ≤ ts.length ∧ Pos2 (wantL ts ws k) ∧ 0 ≤ r ∧ r + amts (gs.drop (i + 1)) = amts (wantL ts ws k) ∧ R.length ≤ i + k + (if 0 < r then 0 else 1) ∧ ∀ L, PO (if 0 < r then (g.1, r) :: gs.drop (i + 1) else gs.drop (i + 1)) (wantL ts ws k) L → PO gs ts (R ++ L))
          (fun σ _ => match σ with | [_, _, _, _, _, _, _, _, some (.int r), _] => r.toNat | _ => 0)
          ⟨v9, g.2, k, ws, rs, R, rfl, e, hR, hW, hwl, hk, hpos, by omega, by rw [← hsm, hdrop, amts_cons], by rw [if_pos (by omega)]; omega, fun L h => by rw [if_pos (by omega)] at h; rw [hdrop] at hPO; exact hPO L h⟩ ?_ ?_
        · rintro σ H3 ⟨v9, r, k, ws, rs, R, rfl, e3, hR, hW, hwl, hk, hpos, hr0, hsm, hRl, hPO⟩
          walk_at "st"
          refine iteD (fun h => ?_) (fun h => ?_)
          · rw [if_pos h] at hPO hRl
            have hrest := Pos2.amts0 (xs := gs.drop (i + 1)) fun y hy => pg y (List.mem_of_mem_drop hy)
            have hk2 : k < ts.length := by
              rcases Nat.lt_or_ge k ts.length with z | z
              · exact z
              · rw [wantL_end hwl z] at hsm
                have : amts [] = 0 := rfl
                omega
            have htk := List.getElem?_eq_getElem hk2
            generalize ts[k] = t at htk
            have hw := wantL_at hwl htk
            rw [hw] at hpos hsm hPO
            have hw1 : 1 ≤ at0 ws k := hpos _ List.mem_cons_self
            have hpos' : Pos2 (wantL ts ws (k + 1)) := fun y hy => hpos y (List.mem_cons_of_mem _ hy)
            rw [amts_cons] at hsm
            obtain ⟨pt', hpt1, hpt2, hpt3⟩ := (ht.same e3).at htk
            have hpt4 : SqT K H3 pt' (enc2 t) := SqT.of hpt3
            unfold enc2 at hpt4
            have hm3 : SqL K H3 m (qs.map V.ref) := e3.seq st
            have hW3 : SqL K H3 W (ws.map V.int) := SqL.of hW
            have aW := atI_n (ws := ws) (j := k) (by omega)
            have hRD := hR.lst
            generalize hpart : (if at0 ws k < r then at0 ws k else r) = part
            walk_at "st"
            rw [hpart]
            intro T nT
            have s4 := same_upd (o := .tup [.int g.1, .int t.1, .int part]) nT
            have hT4 : upd H3 T (.tup [.int g.1, .int t.1, .int part]) T = some (.tup (enc3 (g.1, t.1, part))) := upd_same
            have hRD4 := s4 _ _ hRD
            have hR5 := hR.push s4 nT hT4
            have nTW : H T = none := e3.free nT
            have e5 : Same H (upd (upd H3 T (.tup [.int g.1, .int t.1, .int part])) D (.lst (rs.map V.ref ++ [.ref T]))) := TabR.keep (e3.trans s4) nD
            have hW5 : upd (upd H3 T (.tup [.int g.1, .int t.1, .int part])) D (.lst (rs.map V.ref ++ [.ref T])) W = some (.lst (ws.map V.int)) := by
              rw [upd_ne hDW.symm]
              exact s4 _ _ hW
            have hRs : (rs.map V.ref).length < sizeLine := small1000 (by rw [List.length_map, hR.len]; omega)
            have hWk : (ws.map V.int)[k]? = some (.int (at0 ws k)) := by rw [List.getElem?_map, at0_lt (by omega)]; rfl
            have hWx : ixN (ws.map V.int).length ((k : Nat) : Int) = some k := ixN_nat (by rw [List.length_map]; omega)
            have hWs : atI ((ws.map V.int).set k (.int (at0 ws k - part))) ((k : Nat) : Int) = some (.int (at0 ws k - part)) := by
              rw [← List.map_set, atI_n (by rw [List.length_set]; omega), at0_set (by omega), if_pos rfl]
            walk_at "st"
            have hDW5 : Tups enc3 (upd (upd (upd H3 T (.tup [.int g.1, .int t.1, .int part])) D (.lst (rs.map V.ref ++ [.ref T]))) W (.lst ((ws.map V.int).set k (.int (at0 ws k - part))))) D (rs ++ [T]) (R ++ [(g.1, t.1, part)]) := by
              refine ⟨?_, hR5.len, fun j p x h1 h2 => ?_⟩
              · rw [upd_ne hDW]
                exact hR5.lst
              · have z := hR5.row j p x h1 h2
                rw [upd_ne (fun y => by rw [y, hW5] at z; cases z)]
                exact z
            have e6 : Same H (upd (upd (upd H3 T (.tup [.int g.1, .int t.1, .int part])) D (.lst (rs.map V.ref ++ [.ref T]))) W (.lst ((ws.map V.int).set k (.int (at0 ws k - part))))) := TabR.keep e5 nW0
            have hW6 : (upd (upd (upd H3 T (.tup [.int g.1, .int t.1, .int part])) D (.lst (rs.map V.ref ++ [.ref T]))) W (.lst ((ws.map V.int).set k (.int (at0 ws k - part))))) W = some (.lst ((ws.set k (at0 ws k - part)).map V.int)) := by rw [upd_same, List.map_set]
            have hset : wantL ts (ws.set k (at0 ws k - part)) (k + 1) = wantL ts ws (k + 1) := wantL_set (by omega)
            have hset0 : wantL ts (ws.set k (at0 ws k - part)) k = (t.1, at0 ws k - part) :: wantL ts ws (k + 1) := by
              rw [wantL_at (by rw [List.length_set]; exact hwl) htk, hset, at0_set (by omega), if_pos rfl]
            have hRlen : (R ++ [(g.1, t.1, part)]).length = R.length + 1 := by rw [List.length_append]; rfl
            refine iteB (fun h0 => ?_) (fun h0 => ?_)
            · have h0 : at0 ws k - part = 0 := V.int.inj (dec_t h0)
              walk_at "st"
              refine ⟨⟨some (.int part), r - part, k + 1, ws.set k (at0 ws k - part), rs ++ [T], R ++ [(g.1, t.1, part)], rfl, e6, hDW5, hW6, by rw [List.length_set]; exact hwl, by omega, by rw [hset]; exact hpos', ?_, ?_, ?_, fun L hL => ?_⟩, ?_⟩
              · split at hpart <;> omega
              · rw [hset]
                omega
              · rw [hRlen]
                split <;> omega
              · rw [hset] at hL
                rw [List.append_assoc]
                refine hPO _ ?_
                by_cases hlt : at0 ws k < r
                · rw [if_pos hlt] at hpart
                  rw [if_pos (by omega)] at hL
                  rw [← hpart] at hL ⊢
                  exact .gt hlt hL
                · rw [if_neg hlt] at hpart
                  rw [if_neg (by omega)] at hL
                  rw [← hpart, show at0 ws k = r by omega]
                  exact .eq hL
              · show (r - part).toNat < r.toNat
                split at hpart <;> omega
            · have h0 : at0 ws k - part ≠ 0 := fun z => dec_f h0 (congrArg V.int z)
              have hlt : ¬ at0 ws k < r := fun z => by rw [if_pos z] at hpart; omega
              rw [if_neg hlt] at hpart
              subst hpart
              refine ⟨⟨some (.int r), r - r, k, ws.set k (at0 ws k - r), rs ++ [T], R ++ [(g.1, t.1, r)], rfl, e6, hDW5, hW6, by rw [List.length_set]; exact hwl, hk, ?_, by omega, ?_, ?_, fun L hL => ?_⟩, ?_⟩
              · rw [hset0]
                intro y hy
                rcases List.mem_cons.mp hy with hy | hy
                · rw [hy]
                  show 1 ≤ at0 ws k - r
                  omega
                · exact hpos' y hy
              · rw [hset0, amts_cons]
                dsimp only
                omega
              · rw [hRlen]
                split <;> omega
              · rw [hset0, if_neg (by omega)] at hL
                rw [List.append_assoc]
                exact hPO _ (.lt (by omega) hL)
              · show (r - r).toNat < r.toNat
                omega
          · have hr : r = 0 := by omega
            subst hr
            refine ⟨_, _, _, _, k, ws, rs, R, rfl, e3, hR, hW, hwl, hk, hpos, by omega, ?_, fun L hL => ?_⟩
            · rw [if_neg (by omega)] at hRl
              omega
            · rw [if_neg (by omega)] at hPO
              exact hPO L hL
        · rintro σ H Q Q' h ⟨v1, e1, i, j, r1, r2, k, r3, q⟩
          exact ⟨v1, e1, i, j, r1, r2, k, r3, h _ _ q⟩
      · rintro σ H' ⟨v5, v7, v8, v9, k, ws, rs, R, rfl, e, hR, hW, hwl, hk, hpos, hsm, hRl, hPO⟩
        rw [List.length_map, hg.len, List.drop_eq_nil_of_le (Nat.le_refl _)] at hsm hPO
        have hnil := hpos.amts0.2 hsm.symm
        rw [hnil] at hPO
        have hfin := hPO [] .nil
        rw [List.append_nil] at hfin
        walk_at "st"
        exact q D H' rs R e nD hR hfin

/-! ### who is served with what -/
def serve : List Ord30 → Int → List (Int × Int)
  | [], _ => []
  | o :: r, v => if 0 < v then (o.n, min o.q v) :: serve r (v - min o.q v) else serve r v
theorem serve_none : ∀ (rk : List Ord30) {v : Int}, v ≤ 0 → serve rk v = []
  | [], _, _ => rfl
  | o :: r, v, h => by
    show (if 0 < v then _ else serve r v) = []
    rw [if_neg (by omega)]
    exact serve_none r h
theorem serve_append : ∀ (a b : List Ord30) (v : Int), serve (a ++ b) v = serve a v ++ serve b (v - amts (serve a v))
  | [], b, v => by
    show serve b v = serve b (v - 0)
    rw [Int.sub_zero]
  | o :: a, b, v => by
    show (if 0 < v then (o.n, min o.q v) :: serve (a ++ b) (v - min o.q v) else serve (a ++ b) v) = (if 0 < v then (o.n, min o.q v) :: serve a (v - min o.q v) else serve a v) ++ serve b (v - amts (if 0 < v then (o.n, min o.q v) :: serve a (v - min o.q v) else serve a v))
    by_cases h : 0 < v
    · rw [if_pos h, if_pos h, serve_append a b, amts_cons, List.cons_append]
      rw [show v - (min o.q v + amts (serve a (v - min o.q v))) = v - min o.q v - amts (serve a (v - min o.q v)) by omega]
    · rw [if_neg h, if_neg h, serve_append a b]
theorem serve_snoc {rk : List Ord30} {i : Nat} {o : Ord30} (h : rk[i]? = some o) (v : Int) : serve (rk.take (i + 1)) v = serve (rk.take i) v ++ (if 0 < v - amts (serve (rk.take i) v) then [(o.n, min o.q (v - amts (serve (rk.take i) v)))] else []) := by
  rw [take_succ h, serve_append]
  congr 1
theorem amts_append (a b : List (Int × Int)) : amts (a ++ b) = amts a + amts b := by
  unfold amts
  rw [List.map_append, List.sum_append]
/-- all that is wanted is served -/
theorem serve_all : ∀ {rk : List Ord30} {v : Int}, (∀ o, o ∈ rk → 1 ≤ o.q) → 0 ≤ v → v ≤ (rk.map (·.q)).sum → amts (serve rk v) = v
  | [], v, _, h0, h1 => by
    have : v ≤ 0 := h1
    show (0 : Int) = v
    omega
  | o :: r, v, hq, h0, h1 => by
    have q1 := hq o List.mem_cons_self
    rw [List.map_cons, List.sum_cons] at h1
    show amts (if 0 < v then (o.n, min o.q v) :: serve r (v - min o.q v) else serve r v) = v
    by_cases h : 0 < v
    · rw [if_pos h, amts_cons, serve_all (fun x hx => hq x (List.mem_cons_of_mem _ hx)) (by omega) (by
        by_cases h2 : o.q ≤ v
        · rw [Int.min_eq_left h2]; omega
        · rw [Int.min_eq_right (by omega)]
          have : 0 ≤ (r.map (·.q)).sum := by
            have hn : ∀ xs : List Ord30, (∀ x, x ∈ xs → 1 ≤ x.q) → 0 ≤ (xs.map (·.q)).sum := by
              intro xs
              induction xs with
              | nil => exact fun _ => Int.le_refl 0
              | cons x xs ih =>
                intro hx
                rw [List.map_cons, List.sum_cons]
                have := hx x List.mem_cons_self
                have := ih fun y hy => hx y (List.mem_cons_of_mem _ hy)
                omega
            exact hn r fun x hx => hq x (List.mem_cons_of_mem _ hx)
          omega)]
      show min o.q v + (v - min o.q v) = v
      omega
    · rw [if_neg h, serve_none r (by omega)]
      show (0 : Int) = v
      omega
theorem serve_pos : ∀ {rk : List Ord30} {v : Int}, (∀ o, o ∈ rk → 1 ≤ o.q) → Pos2 (serve rk v)
  | [], _, _ => fun x hx => (by cases hx)
  | o :: r, v, hq => by
    have ih : ∀ v, Pos2 (serve r v) := fun v => serve_pos fun x hx => hq x (List.mem_cons_of_mem _ hx)
    have q1 := hq o List.mem_cons_self
    show Pos2 (if 0 < v then (o.n, min o.q v) :: serve r (v - min o.q v) else serve r v)
    split
    · intro x hx
      rcases List.mem_cons.mp hx with rfl | hx
      · show 1 ≤ min o.q v
        omega
      · exact ih _ x hx
    · exact ih _
theorem serve_key : ∀ {rk : List Ord30} {v k : Int}, k ∈ keysS (serve rk v) → k ∈ rk.map (·.n)
  | [], _, _, h => (by cases h)
  | o :: r, v, k, h => by
    rw [List.map_cons, List.mem_cons]
    have h : k ∈ keysS (if 0 < v then (o.n, min o.q v) :: serve r (v - min o.q v) else serve r v) := h
    split at h
    · rcases List.mem_cons.mp (show k ∈ o.n :: keysS (serve r (v - min o.q v)) from h) with z | z
      · exact .inl z
      · exact .inr (serve_key z)
    · exact .inr (serve_key h)
theorem serve_len : ∀ (rk : List Ord30) (v : Int), (serve rk v).length ≤ rk.length
  | [], _ => Nat.le_refl _
  | o :: r, v => by
    show (if 0 < v then (o.n, min o.q v) :: serve r (v - min o.q v) else serve r v).length ≤ r.length + 1
    split
    · exact Nat.succ_le_succ (serve_len r _)
    · exact Nat.le_succ_of_le (serve_len r _)
theorem serve_nodup : ∀ {rk : List Ord30} {v : Int}, (rk.map (·.n)).Nodup → (keysS (serve rk v)).Nodup
  | [], _, _ => List.nodup_nil
  | o :: r, v, h => by
    rw [List.map_cons, List.nodup_cons] at h
    show (keysS (if 0 < v then (o.n, min o.q v) :: serve r (v - min o.q v) else serve r v)).Nodup
    split
    · exact List.nodup_cons.mpr ⟨fun z => h.1 (serve_key z), serve_nodup h.2⟩
    · exact serve_nodup h.2
/-- the numbers of a side's orders, none twice -/
theorem ranked_nums {s : Str} {os : List Ord30} (h : (os.map (·.n)).Nodup) : ((rankedL s os).map (·.n)).Nodup := by
  unfold rankedL
  refine (((List.mergeSort_perm _ _).map fun o : Ord30 => o.n).nodup_iff).mpr ?_
  exact h.sublist (List.filter_sublist.map _)
theorem nums_inj : ∀ {os : List Ord30} {a b : Ord30}, (os.map (·.n)).Nodup → a ∈ os → b ∈ os → a.n = b.n → a = b
  | [], _, _, _, h, _, _ => (by cases h)
  | o :: r, a, b, hn, ha, hb, e => by
    rw [List.map_cons, List.nodup_cons] at hn
    rcases List.mem_cons.mp ha with z1 | z1
    · rcases List.mem_cons.mp hb with z2 | z2
      · rw [z1, z2]
      · exact absurd (List.mem_map.mpr ⟨b, z2, by rw [← e, z1]⟩) hn.1
    · rcases List.mem_cons.mp hb with z2 | z2
      · exact absurd (List.mem_map.mpr ⟨a, z1, by rw [e, z2]⟩) hn.1
      · exact nums_inj hn.2 z1 z2 e
theorem merge_new : ∀ (b a : List (Int × Int)), (keysS (a ++ b)).Nodup → mergeK (encD a) (encD b) = encD (a ++ b)
  | [], a, _ => by
    rw [List.append_nil]
    rfl
  | x :: b, a, h => by
    have e : putK (encD a) (Sum.inl x.1) (V.int x.2) = encD (a ++ [x]) := by
      rw [putK_enc, put_new]
      unfold keysS at h ⊢
      rw [List.map_append, List.map_cons, List.nodup_append] at h
      exact fun z => h.2.2 _ z _ List.mem_cons_self rfl
    show mergeK (putK (encD a) (Sum.inl x.1) (V.int x.2)) (encD b) = _
    rw [e, merge_new b (a ++ [x]) (by rw [List.append_assoc]; exact h), List.append_assoc]
    rfl
/-- what is left of the orders with a price -/
def leftO (d : List (Int × Int)) (o : Ord30) : Option Ord30 := if o.p.isSome && decide (0 < o.q - gD d o.n) then some { o with q := o.q - gD d o.n } else none
def leftL (os : List Ord30) (d : List (Int × Int)) : List Ord30 := os.filterMap (leftO d)
theorem intr_le {os : List Ord30} {s : Str} {z : Int} (hq : ∀ o, o ∈ os → 1 ≤ o.q) : 0 ≤ intr os s z ∧ intr os s z ≤ ((rankedL s os).map (·.q)).sum := by
  rw [← ranked_sum]
  have hr : ∀ o, o ∈ rankedL s os → 1 ≤ o.q := fun o ho => hq o (ranked_mem.mp ho).1
  generalize rankedL s os = rk at hr
  induction rk with
  | nil => exact ⟨Int.le_refl 0, Int.le_refl 0⟩
  | cons o r ih =>
    have h1 := hr o List.mem_cons_self
    have h2 := ih fun x hx => hr x (List.mem_cons_of_mem _ hx)
    have e : ((o :: r).map (·.q)).sum = o.q + (r.map (·.q)).sum := by rw [List.map_cons, List.sum_cons]
    rw [List.filter_cons, e]
    split
    · rw [List.map_cons, List.sum_cons]
      omega
    · omega
/-- the volume of a price -/
def vol30 (os : List Ord30) (z : Int) : Int := min (intr os "buy" z) (intr os "sell" z)
theorem vol_served {os : List Ord30} {s : Str} {z : Int} (hq : ∀ o, o ∈ os → 1 ≤ o.q) (hs : s = "buy" ∨ s = "sell") : amts (serve (rankedL s os) (vol30 os z)) = vol30 os z := by
  have hb := intr_le (s := "buy") (z := z) hq
  have hl := intr_le (s := "sell") (z := z) hq
  refine serve_all (fun o ho => hq o (ranked_mem.mp ho).1) ?_ ?_
  · unfold vol30
    omega
  · unfold vol30
    rcases hs with rfl | rfl <;> omega

open LamX in
def sp_served (K : PySem.W.Frag) (TL : List (Addr × Str)) : Sp := fun vs H Q _ => ∃ (_ : Unit) (l : Addr) (as : List Addr) (os : List Ord30) (s : Str) (v : Int), vs = [.ref l, .str s, .int v] ∧ Tups rowO H l as os ∧ os.length ≤ 31 ∧ (os.map (·.n)).Nodup ∧ Tabs TL H ∧
  ∀ (_ : Unit) D H', ExtN H H' → Tabs TL H' → H' D = some (.dK (encD (serve (rankedL s os) v))) → Q (.ref D) H'
set_option maxHeartbeats 0 in
theorem ok_served (T : Txt K mg) [TB : TabsOk T base] : FnOk P w K mg base CX0 6 T.f_served T.d_served ["orders", "side", "volume"] (sp_served K (tabsL T)) := by
  refine T.F_served.ok sc_served (fun vs H Q E h => ?_) (fun cdv A outer s H vs Q E hr h => ?_)
  · obtain ⟨_, l, as, os, s, v, rfl, _⟩ := h
    rfl
  · obtain ⟨_, l, as, os, s, v, rfl, hT, hl, hnd, hTb, q⟩ := h
    have G_ranked : FnOk P w K mg base CX0 5 T.f_ranked T.d_ranked ["orders", "side"] (sp_ranked K (tabsL T)) := ok_ranked T
    refine ⟨_, (pss_cons (ps_set (i := 3) sc_served.nd rfl (Or.inl rfl) pe_dnewK)
    (pss_cons (ps_set (i := 4) sc_served.nd rfl (Or.inl rfl) (pv 2))
    (pss_cons (ps_for PassesOwn.never rfl (pi_list (pe_call G_ranked hr (by rfl) T.m_ranked T.F_ranked.kp T.b_ranked .nil pass0 (pa_cons (pv 0) (pa_cons (pv 1) pa_nil)))) (pg_tup rfl (pgs_cons (pg_name (i := 5) sc_served.nd rfl (Or.inl rfl)) (pgs_cons (pg_name (i := 6) sc_served.nd rfl (Or.inl rfl)) (pgs_cons (pg_name (i := 7) sc_served.nd rfl (Or.inl rfl)) pgs_nil))))
      (pss_one (ps_if (pt_cmpR op_gt (pv 4) pe_int (nomark _))
        (pss_cons (ps_dput (hu_of hr) (pv 3) (pv 5) (pe_callB (call_min2 rfl) (by rfl) T.z_min (by decide +kernel) (pa_cons (pv 7) (pa_cons (pv 4) pa_nil))) rfl)
        (pss_one (ps_aug (i := 4) sc_served.nd rfl (Or.inl rfl) (pe_dget (hu_of hr) (pv 3) (pv 5) (fun _ _ => rfl)) ip_sub)))
        pss_nil)))
    (pss_one (ps_ret (pv 3)))))), ?_⟩
    walk_at "st"
    intro D nD
    generalize hH1 : upd H D _ = H1
    have s1 : Same H H1 := hH1 ▸ same_upd nD
    have hD : H1 D = some (.dK (encD [])) := (congrFun hH1 D).symm.trans upd_same
    walk_at "st"
    refine ⟨(), l, as, os, s, rfl, hT.same s1, hl, hTb.ext s1, fun _ R rs H2 e2 t2 hR => ?_⟩
    have hD2 := e2 _ _ hD fun _ y => by cases y
    have hRs := SqL.of (K := K) hR.lst
    have hrn := ranked_nums (s := s) hnd
    have hrl := ranked_len s os
    generalize rankedL s os = rk at *
    refine ⟨R, rfl, ⟨_, hRs⟩, ?_⟩
    refine for_list (K := K) (a := R) (xs := rs.map V.ref) (fun i σ H' => ∃ (v5 v6 v7 : Option V), σ = [some (.ref l), some (.str s), some (.int v), some (.ref D), some (.int (v - amts (serve (rk.take i) v))), v5, v6, v7] ∧ H' D = some (.dK (encD (serve (rk.take i) v))) ∧ ∀ b, b ≠ D → H' b = H2 b)
      ⟨none, none, none, by rw [show v - amts (serve (rk.take 0) v) = v from Int.sub_zero v]; rfl, hD2, fun _ _ => rfl⟩ (fun i σ H' _ ⟨_, _, _, _, _, k⟩ => SqL.of (keepD_of hD2 k _ _ hR.lst fun d e => by cases e)) ?_ ?_
    · rintro i y σ H' hy ⟨v5, v6, v7, rfl, hD', hk⟩
      have kD := keepD_of hD2 hk
      obtain ⟨p, o, hp, ho, rfl, hat⟩ := (kD.tups hR).item hy
      have htup : SqT K H' p (rowR o) := SqT.of hat
      have hil := (List.getElem?_eq_some_iff.mp ho).1
      have hsn := serve_snoc ho v
      have hln := serve_len (rk.take i) v
      rw [List.length_take] at hln
      have hnew : o.n ∉ keysS (serve (rk.take i) v) := fun hm => by
        have h1 := serve_key hm
        have h2 := hrn.sublist ((List.take_sublist (i + 1) rk).map _)
        rw [take_succ ho, List.map_append, List.nodup_append] at h2
        exact h2.2.2 _ h1 _ (List.mem_singleton_self _) rfl
      have hsl : (serve (rk.take i) v).length ≤ 1000 := by omega
      generalize hsv : serve (rk.take i) v = sv at *
      walk_at "st"
      refine iteD (fun h => ?_) (fun h => ?_)
      · rw [if_pos h] at hsn
        walk_at "st"
        rw [min_py]
        refine dput_go (s := o.n) hD' hsl ?_
        have g1 := dget_at (H := upd H' D (.dK (encD (putS sv o.n (min o.q (v - amts sv)))))) (d := putS sv o.n (min o.q (v - amts sv))) (s := o.n) upd_same (by rw [keys_put]; exact addK_mem.mpr (.inr rfl))
        rw [gD_put, if_pos rfl] at g1
        walk_at "st"
        refine ⟨some (.int o.n), some (optV o.p), some (.int o.q), ?_, ?_, fun b hb => (upd_ne hb).trans (hk b hb)⟩
        · have e9 : v - amts (serve (rk.take (i + 1)) v) = v - amts sv - min o.q (v - amts sv) := by
            rw [hsn, amts_append, amts_cons]
            show v - (amts sv + (min o.q (v - amts sv) + 0)) = _
            omega
          rw [e9]
          rfl
        · rw [upd_same, put_new hnew, hsn]
      · rw [if_neg h, List.append_nil] at hsn
        rw [hsn]
        exact ⟨_, _, _, rfl, hD', hk⟩
    · rintro σ H' ⟨v5, v6, v7, rfl, hD', hk⟩
      rw [show rk.take (rs.map V.ref).length = rk by rw [List.length_map, hR.len, List.take_length]] at hD'
      have kD := keepD_of hD2 hk
      walk_at "st"
      refine q () D H' (fun b u hb nt => ?_) (tabs_keepD kD t2) hD'
      have h1 := s1 _ _ hb
      rw [hk b fun e => by rw [e, nD] at hb; cases hb]
      exact e2 _ _ h1 nt
def sp_left (K : PySem.W.Frag) : Sp := fun vs H Q _ => ∃ (_ : Unit) (l t : Addr) (as : List Addr) (os : List Ord30) (d : List (Int × Int)), vs = [.ref l, .ref t] ∧ Tups rowO H l as os ∧ os.length ≤ 31 ∧ H t = some (.dK (encD d)) ∧
  ∀ (_ : Unit) p bs H', Same H H' → H p = none → Tups rowO H' p bs (leftL os d) → Q (.ref p) H'
set_option maxHeartbeats 0 in
theorem ok_left (T : Txt K mg) [TB : TabsOk T base] : FnOk P w K mg base CX0 1 T.f_left T.d_left ["orders", "traded"] (sp_left K) := by
  refine T.F_left.ok sc_left (fun vs H Q E h => ?_) (fun cdv A outer s H vs Q E hr h => ?_)
  · obtain ⟨_, l, t, as, os, d, rfl, _⟩ := h
    rfl
  · obtain ⟨_, l, t, as, os, d, rfl, hT, hl, hd, q⟩ := h
    have hs := SqL.of (K := K) hT.lst
    refine ⟨_, (pss_cons (ps_set (i := 2) sc_left.nd rfl (Or.inl rfl) (pe_lst pa_nil))
    (pss_cons (ps_for PassesOwn.never rfl (pi_list (pv 0)) (pg_tup rfl (pgs_cons (pg_name (i := 3) sc_left.nd rfl (Or.inl rfl)) (pgs_cons (pg_name (i := 4) sc_left.nd rfl (Or.inl rfl)) (pgs_cons (pg_name (i := 5) sc_left.nd rfl (Or.inl rfl)) (pgs_cons (pg_name (i := 6) sc_left.nd rfl (Or.inl rfl)) (pgs_cons (pg_name (i := 7) sc_left.nd rfl (Or.inl rfl)) pgs_nil))))))
      (pss_cons (ps_set (i := 8) sc_left.nd rfl (Or.inl rfl) (pe_op op_sub (pv 7) (pe_dget2 (hu_of hr) (pv 1) (pv 3) pe_int ⟨rfl, rfl, rfl, rfl⟩)))
      (pss_one (ps_if (PW.pt (pw_and (pt_cmpR op_notN (pv 6) pe_non (nomark _)) (pw_and1 (pt_cmpR op_gt (pv 8) pe_int (nomark _)))))
        (pss_one (ps_expr (pe_bm PySem.F.plainAttrs_list PySem.F.slot_list_append PySem.F.type_list_append mt_append (pv 2) (pa_cons (pe_tup (pa_cons (pv 3) (pa_cons (pv 4) (pa_cons (pv 5) (pa_cons (pv 6) (pa_cons (pv 8) pa_nil)))))) pa_nil))))
        pss_nil))))
    (pss_one (ps_ret (pv 2))))), ?_⟩
    walk_at "st"
    intro D nD
    generalize hH1 : upd H D _ = H1
    have s1 : Same H H1 := hH1 ▸ same_upd nD
    have hD : H1 D = some (.lst []) := (congrFun hH1 D).symm.trans upd_same
    have hs1 := s1.seq hs
    walk_at "st"
    refine for_list (K := K) (a := l) (xs := as.map V.ref) (fun i σ H' => ∃ (v3 v4 v5 v6 v7 v8 : Option V) (bs : List Addr), σ = [some (.ref l), some (.ref t), some (.ref D), v3, v4, v5, v6, v7, v8] ∧ Tups rowO H' D bs (leftL (os.take i) d) ∧ Same H H') ⟨none, none, none, none, none, none, [], rfl, .nil hD, s1⟩ (fun i σ H' _ ⟨_, _, _, _, _, _, _, _, _, e⟩ => e.seq hs) ?_ ?_
    · rintro i y σ H' hy ⟨v3, v4, v5, v6, v7, v8, bs, rfl, hB, e⟩
      obtain ⟨p, o, hp, ho, rfl, hat⟩ := (hT.same e).item hy
      have htup : SqT K H' p (rowO o) := SqT.of hat
      have hd' := e _ _ hd
      have e1 : leftL (os.take (i + 1)) d = leftL (os.take i) d ++ leftL [o] d := by
        unfold leftL
        rw [take_succ ho, List.filterMap_append]
      walk_at "st"
      refine ⟨isD_enc hd', ?_⟩
      walk_at "st"
      refine dget_go hd' ?_
      rw [getD_int]
      have hbl : bs.length ≤ 31 := by
        rw [hB.len]
        refine Nat.le_trans (List.length_filterMap_le _ _) ?_
        rw [List.length_take]
        omega
      have hBl := hB.lst
      rw [e1]
      have hnil : (o.p.isSome && decide (0 < o.q - gD d o.n)) = false → leftL [o] d = [] := fun h => by
        show ([o].filterMap (leftO d)) = []
        rw [List.filterMap_cons, show leftO d o = none by unfold leftO; rw [h]; rfl, List.filterMap_nil]
      have hone : (o.p.isSome && decide (0 < o.q - gD d o.n)) = true → leftL [o] d = [{ o with q := o.q - gD d o.n }] := fun h => by
        show ([o].filterMap (leftO d)) = _
        rw [List.filterMap_cons, show leftO d o = some { o with q := o.q - gD d o.n } by unfold leftO; rw [h]; rfl, List.filterMap_nil]
      have hfin : (o.p.isSome && decide (0 < o.q - gD d o.n)) = false → ∃ (w3 w4 w5 w6 w7 w8 : Option V) (bs' : List Addr), [some (.ref l), some (.ref t), some (.ref D), some (.int o.n), some (.str o.h), some (.str o.s), some (optV o.p), some (.int o.q), some (.int (o.q - gD d o.n))] = [some (.ref l), some (.ref t), some (.ref D), w3, w4, w5, w6, w7, w8] ∧ Tups rowO H' D bs' (leftL (os.take i) d ++ leftL [o] d) ∧ Same H H' := fun h => by
        rw [hnil h, List.append_nil]
        exact ⟨_, _, _, _, _, _, bs, rfl, hB, e⟩
      cases hop : o.p with
      | none =>
        rw [hop] at hfin
        walk_at "st"
        refine iteB (fun h => by simp [optV] at h) (fun _ => ?_)
        refine iteF ?_
        exact hfin rfl
      | some z =>
        rw [hop] at hfin
        walk_at "st"
        refine iteD (fun h => ?_) (fun h => ?_)
        · walk_at "st"
          intro E nE
          have ev : (HO.tup [V.int o.n, V.str o.h, V.str o.s, optV (some z), V.int (o.q - gD d o.n)]) = HO.tup (rowO { o with q := o.q - gD d o.n }) := by
            unfold rowO
            rw [hop]
          have sE := same_upd (o := .tup (rowO { o with q := o.q - gD d o.n })) nE
          have hpush := hB.push (x := { o with q := o.q - gD d o.n }) sE nE upd_same
          have hBE := sE _ _ hBl
          have hsm : (bs.map V.ref).length < sizeLine := small1000 (by rw [List.length_map]; omega)
          rw [← ev] at hBE hpush
          walk_at "st"
          refine ⟨_, _, _, _, _, _, bs ++ [E], rfl, ?_, ?_⟩
          · rw [hone (by rw [hop, Option.isSome_some, Bool.true_and]; exact decide_eq_true h)]
            exact hpush
          · exact TabR.keep (e.trans (ev ▸ sE)) nD
        · exact hfin (by rw [Option.isSome_some, Bool.true_and]; exact decide_eq_false h)
    · rintro σ H' ⟨v3, v4, v5, v6, v7, v8, bs, rfl, hB, e⟩
      rw [show os.take (as.map V.ref).length = os by rw [List.length_map, hT.len, List.take_length]] at hB
      walk_at "st"
      exact q () D bs H' e nD hB
theorem items_tups {H : Hp} {p : Addr} {ts : List Addr} {d : List (Int × Int)} (h : H p = some (.lst (ts.map V.ref))) (hp : Paired (fun (t : Addr) (q : Key × V) => H t = some (.tup [kV q.1, q.2])) ts (encD d)) : Tups enc2 H p ts d := by
  refine ⟨h, ?_, fun i a x h1 h2 => ?_⟩
  · have := Paired.length hp
    rw [this]
    exact List.length_map _
  · obtain ⟨y, h3, h4⟩ := LiI.paired_get hp h1
    unfold encD at h3
    rw [List.getElem?_map, h2] at h3
    obtain rfl := Option.some.inj h3
    exact h4

/-! ### what the pairs of two lists add up to -/
/-- what a number has in a list -/
def amtK (d : List (Int × Int)) (k : Int) : Int := ((d.filter fun x => decide (x.1 = k)).map (·.2)).sum
def gaveK (R : List (Int × Int × Int)) (k : Int) : Int := ((R.filter fun x => decide (x.1 = k)).map (·.2.2)).sum
def tookK (R : List (Int × Int × Int)) (k : Int) : Int := ((R.filter fun x => decide (x.2.1 = k)).map (·.2.2)).sum
theorem amtK_cons (x : Int × Int) (d : List (Int × Int)) (k : Int) : amtK (x :: d) k = (if x.1 = k then x.2 else 0) + amtK d k := by
  unfold amtK
  rw [List.filter_cons]
  by_cases h : x.1 = k
  · rw [if_pos (decide_eq_true h), if_pos h, List.map_cons, List.sum_cons]
  · rw [if_neg (by rw [decide_eq_false h]; exact Bool.false_ne_true), if_neg h, Int.zero_add]
theorem gaveK_cons (x : Int × Int × Int) (R : List (Int × Int × Int)) (k : Int) : gaveK (x :: R) k = (if x.1 = k then x.2.2 else 0) + gaveK R k := by
  unfold gaveK
  rw [List.filter_cons]
  by_cases h : x.1 = k
  · rw [if_pos (decide_eq_true h), if_pos h, List.map_cons, List.sum_cons]
  · rw [if_neg (by rw [decide_eq_false h]; exact Bool.false_ne_true), if_neg h, Int.zero_add]
theorem tookK_cons (x : Int × Int × Int) (R : List (Int × Int × Int)) (k : Int) : tookK (x :: R) k = (if x.2.1 = k then x.2.2 else 0) + tookK R k := by
  unfold tookK
  rw [List.filter_cons]
  by_cases h : x.2.1 = k
  · rw [if_pos (decide_eq_true h), if_pos h, List.map_cons, List.sum_cons]
  · rw [if_neg (by rw [decide_eq_false h]; exact Bool.false_ne_true), if_neg h, Int.zero_add]
theorem PO.gave {gs ts : List (Int × Int)} {R : List (Int × Int × Int)} (h : PO gs ts R) (k : Int) : gaveK R k = amtK gs k ∧ tookK R k = amtK ts k := by
  induction h with
  | nil => exact ⟨rfl, rfl⟩
  | lt hlt _ ih =>
    rw [gaveK_cons, tookK_cons, amtK_cons, amtK_cons]
    rw [amtK_cons] at ih
    dsimp only at *
    split <;> split <;> simp_all <;> omega
  | eq _ ih =>
    rw [gaveK_cons, tookK_cons, amtK_cons, amtK_cons, ih.1, ih.2]
    exact ⟨rfl, rfl⟩
  | gt hlt _ ih =>
    rw [gaveK_cons, tookK_cons, amtK_cons, amtK_cons]
    rw [amtK_cons] at ih
    dsimp only at *
    split <;> split <;> simp_all <;> omega
theorem PO.total {gs ts : List (Int × Int)} {R : List (Int × Int × Int)} (h : PO gs ts R) : (R.map (·.2.2)).sum = amts gs := by
  induction h with
  | nil => rfl
  | lt _ _ ih =>
    rw [List.map_cons, List.sum_cons, amts_cons, ih]
  | eq _ ih =>
    rw [List.map_cons, List.sum_cons, amts_cons, ih]
  | gt _ _ ih =>
    rw [List.map_cons, List.sum_cons, amts_cons, ih, amts_cons]
    dsimp only
    omega
theorem PO.mem {gs ts : List (Int × Int)} {R : List (Int × Int × Int)} (h : PO gs ts R) : Pos2 gs → Pos2 ts → ∀ f, f ∈ R → f.1 ∈ keysS gs ∧ f.2.1 ∈ keysS ts ∧ 1 ≤ f.2.2 := by
  induction h with
  | nil => exact fun _ _ f hf => (by cases hf)
  | @lt g a t b gs ts R hlt _ ih =>
    intro pg pt f hf
    rcases List.mem_cons.mp hf with rfl | hf
    · exact ⟨List.mem_cons_self, List.mem_cons_self, pg (g, a) List.mem_cons_self⟩
    · have h1 := ih (fun x hx => pg x (List.mem_cons_of_mem _ hx)) (fun x hx => by
        rcases List.mem_cons.mp hx with rfl | hx
        · show 1 ≤ b - a
          omega
        · exact pt x (List.mem_cons_of_mem _ hx)) f hf
      exact ⟨List.mem_cons_of_mem _ h1.1, h1.2.1, h1.2.2⟩
  | @eq g a t gs ts R _ ih =>
    intro pg pt f hf
    rcases List.mem_cons.mp hf with rfl | hf
    · exact ⟨List.mem_cons_self, List.mem_cons_self, pg (g, a) List.mem_cons_self⟩
    · have h1 := ih (fun x hx => pg x (List.mem_cons_of_mem _ hx)) (fun x hx => pt x (List.mem_cons_of_mem _ hx)) f hf
      exact ⟨List.mem_cons_of_mem _ h1.1, List.mem_cons_of_mem _ h1.2.1, h1.2.2⟩
  | @gt g a t b gs ts R hlt _ ih =>
    intro pg pt f hf
    rcases List.mem_cons.mp hf with rfl | hf
    · exact ⟨List.mem_cons_self, List.mem_cons_self, pt (t, b) List.mem_cons_self⟩
    · have h1 := ih (fun x hx => by
        rcases List.mem_cons.mp hx with rfl | hx
        · show 1 ≤ a - b
          omega
        · exact pg x (List.mem_cons_of_mem _ hx)) (fun x hx => pt x (List.mem_cons_of_mem _ hx)) f hf
      exact ⟨h1.1, List.mem_cons_of_mem _ h1.2.1, h1.2.2⟩
theorem PO.len {gs ts : List (Int × Int)} {R : List (Int × Int × Int)} (h : PO gs ts R) : R.length ≤ gs.length + ts.length := by
  induction h with
  | nil => exact Nat.le_refl _
  | lt _ _ ih =>
    rw [List.length_cons] at *
    rw [List.length_cons, List.length_cons]
    omega
  | eq _ ih =>
    rw [List.length_cons, List.length_cons, List.length_cons]
    omega
  | gt _ _ ih =>
    rw [List.length_cons] at *
    rw [List.length_cons, List.length_cons]
    omega
theorem amtK_append (a b : List (Int × Int)) (k : Int) : amtK (a ++ b) k = amtK a k + amtK b k := by
  unfold amtK
  rw [List.filter_append, List.map_append, List.sum_append]
theorem amtK_none : ∀ {d : List (Int × Int)} {k : Int}, k ∉ keysS d → amtK d k = 0
  | [], _, _ => rfl
  | x :: d, k, h => by
    rw [amtK_cons, if_neg fun e => h (by rw [← e]; exact List.mem_cons_self), amtK_none fun z => h (List.mem_cons_of_mem _ z)]
    rfl
/-- none twice: what a number has is what the dict tells -/
theorem amtK_gD : ∀ {d : List (Int × Int)} {k : Int}, (keysS d).Nodup → amtK d k = gD d k
  | [], _, _ => rfl
  | x :: d, k, h => by
    have h : (x.1 :: keysS d).Nodup := h
    rw [List.nodup_cons] at h
    rw [amtK_cons]
    unfold gD getS
    rw [List.find?_cons]
    by_cases e : x.1 = k
    · rw [if_pos e, decide_eq_true e, amtK_none (by rw [← e]; exact h.1)]
      show x.2 + 0 = x.2
      omega
    · rw [if_neg e, decide_eq_false e, amtK_gD h.2, Int.zero_add]
      rfl
theorem amtK_serve : ∀ {rk : List Ord30} {v : Int} {o : Ord30}, (rk.map (·.n)).Nodup → (∀ x, x ∈ rk → 1 ≤ x.q) → o ∈ rk → 0 ≤ amtK (serve rk v) o.n ∧ amtK (serve rk v) o.n ≤ o.q
  | [], _, _, _, _, h => (by cases h)
  | x :: r, v, o, hn, hq, ho => by
    rw [List.map_cons, List.nodup_cons] at hn
    have q1 := hq x List.mem_cons_self
    have hq' : ∀ y, y ∈ r → 1 ≤ y.q := fun y hy => hq y (List.mem_cons_of_mem _ hy)
    have key : ∀ w, x.n ∉ keysS (serve r w) := fun w z => hn.1 (serve_key z)
    show 0 ≤ amtK (if 0 < v then (x.n, min x.q v) :: serve r (v - min x.q v) else serve r v) o.n ∧ amtK (if 0 < v then (x.n, min x.q v) :: serve r (v - min x.q v) else serve r v) o.n ≤ o.q
    rcases List.mem_cons.mp ho with rfl | ho
    · split
      · rw [amtK_cons, if_pos rfl, amtK_none (key _)]
        dsimp only
        omega
      · rw [amtK_none (key _)]
        omega
    · have ne : x.n ≠ o.n := fun e => hn.1 (List.mem_map.mpr ⟨o, ho, e.symm⟩)
      split
      · rw [amtK_cons, if_neg ne, Int.zero_add]
        exact amtK_serve hn.2 hq' ho
      · exact amtK_serve hn.2 hq' ho
/-- those who accept stand first -/
theorem takes_first {s : Str} {z : Int} : ∀ {rk : List Ord30}, (rk.Pairwise fun x y => kLe (rankK s x.p) (rankK s y.p)) → rk = (rk.filter fun o => takes s o.p z) ++ rk.filter fun o => !takes s o.p z
  | [], _ => rfl
  | o :: r, h => by
    rw [List.pairwise_cons] at h
    cases ht : takes s o.p z with
    | true =>
      rw [List.filter_cons_of_pos (by rw [ht]), List.filter_cons_of_neg (by rw [ht]; exact Bool.false_ne_true), List.cons_append, ← takes_first h.2]
    | false =>
      have hf : (r.filter fun o => takes s o.p z) = [] := List.filter_eq_nil_iff.mpr fun y hy hty => by
        have := (takes_iff s o.p z).mpr (kLe_trans (h.1 y hy) ((takes_iff s y.p z).mp hty))
        rw [ht] at this
        cases this
      have e := takes_first (z := z) h.2
      rw [hf, List.nil_append] at e
      rw [List.filter_cons_of_neg (by rw [ht]; exact Bool.false_ne_true), List.filter_cons_of_pos (by rw [ht]; rfl), hf, List.nil_append, ← e]
/-- only those who accept are served -/
theorem serve_takes {s : Str} {z v : Int} {rk : List Ord30} (hs : rk.Pairwise fun x y => kLe (rankK s x.p) (rankK s y.p)) (hq : ∀ o, o ∈ rk → 1 ≤ o.q) (h0 : 0 ≤ v) (hv : v ≤ ((rk.filter fun o => takes s o.p z).map (·.q)).sum) :
    serve rk v = serve (rk.filter fun o => takes s o.p z) v := by
  conv => lhs; rw [takes_first (z := z) hs]
  rw [serve_append, serve_all (fun o ho => hq o (List.mem_filter.mp ho).1) h0 hv, Int.sub_self, serve_none _ (Int.le_refl 0), List.append_nil]
theorem vol_bounds {os : List Ord30} {z : Int} (hq : ∀ o, o ∈ os → 1 ≤ o.q) {s : Str} (hs : s = "buy" ∨ s = "sell") : 0 ≤ vol30 os z ∧ vol30 os z ≤ intr os s z := by
  have hb := intr_le (s := "buy") (z := z) hq
  have hl := intr_le (s := "sell") (z := z) hq
  unfold vol30
  rcases hs with rfl | rfl <;> omega
theorem served_takes {os : List Ord30} {s : Str} {z k : Int} (hq : ∀ o, o ∈ os → 1 ≤ o.q) (hs : s = "buy" ∨ s = "sell") (hk : k ∈ keysS (serve (rankedL s os) (vol30 os z))) : ∃ o, o ∈ os ∧ V.str o.s = V.str s ∧ o.n = k ∧ takes s o.p z = true := by
  have hb := vol_bounds (z := z) hq hs
  rw [serve_takes (z := z) (ranked_sorted s os) (fun o ho => hq o (ranked_mem.mp ho).1) hb.1 (by rw [ranked_sum]; exact hb.2)] at hk
  obtain ⟨o, ho, e⟩ := List.mem_map.mp (serve_key hk)
  obtain ⟨h1, h2⟩ := List.mem_filter.mp ho
  exact ⟨o, (ranked_mem.mp h1).1, (ranked_mem.mp h1).2, e, h2⟩
theorem four_total {a b : Four} (h1 : ¬ FourLt a b) (h2 : ¬ FourLt b a) : a.2.2.2 = b.2.2.2 := by
  unfold FourLt at *
  omega
/-- there is one best price -/
theorem best_one {os : List Ord30} {r y z : Int} (h1 : Best30 os r y) (h2 : Best30 os r z) : y = z := four_total (a := rank4 os r y) (b := rank4 os r z) (h2.2 y h1.1) (h1.2 z h2.1)
theorem served_nodup {os : List Ord30} {z : Int} (hnd : (os.map (·.n)).Nodup) : (keysS (serve (rankedL "buy" os) (vol30 os z) ++ serve (rankedL "sell" os) (vol30 os z))).Nodup := by
  unfold keysS
  rw [List.map_append, List.nodup_append]
  refine ⟨serve_nodup (ranked_nums hnd), serve_nodup (ranked_nums hnd), fun a ha b hb e => ?_⟩
  subst e
  obtain ⟨o1, h1, e1'⟩ := List.mem_map.mp (serve_key ha)
  obtain ⟨o2, h2, e2'⟩ := List.mem_map.mp (serve_key hb)
  have h1 := ranked_mem.mp h1
  have h2 := ranked_mem.mp h2
  have e := nums_inj hnd h1.1 h2.1 (e1'.trans e2'.symm)
  rw [e, h2.2] at h1
  exact absurd (V.str.inj h1.2) (by decide)
theorem not_served {os : List Ord30} {s : Str} {v : Int} {o : Ord30} (hnd : (os.map (·.n)).Nodup) (ho : o ∈ os) (hs : ¬ V.str o.s = V.str s) : o.n ∉ keysS (serve (rankedL s os) v) := fun h => by
  obtain ⟨o1, h1, e1⟩ := List.mem_map.mp (serve_key h)
  have h1 := ranked_mem.mp h1
  have e := nums_inj hnd h1.1 ho e1
  exact hs (by rw [← e]; exact h1.2)
/-- what an order has been served with, by the pairs -/
theorem traded_of {os : List Ord30} {z : Int} {R : List (Int × Int × Int)} {o : Ord30} (hnd : (os.map (·.n)).Nodup) (hq : ∀ o, o ∈ os → 1 ≤ o.q) (hPO : PO (serve (rankedL "buy" os) (vol30 os z)) (serve (rankedL "sell" os) (vol30 os z)) R) (ho : o ∈ os) :
    (V.str o.s = V.str "buy" → gaveK R o.n = gD (serve (rankedL "buy" os) (vol30 os z) ++ serve (rankedL "sell" os) (vol30 os z)) o.n) ∧ (V.str o.s = V.str "sell" → tookK R o.n = gD (serve (rankedL "buy" os) (vol30 os z) ++ serve (rankedL "sell" os) (vol30 os z)) o.n) := by
  rw [← amtK_gD (served_nodup hnd), amtK_append]
  have h := hPO.gave o.n
  refine ⟨fun e => ?_, fun e => ?_⟩
  · rw [h.1, amtK_none (not_served (s := "sell") hnd ho (by rw [e]; exact fun e => absurd (V.str.inj e) (by decide))), Int.add_zero]
  · rw [h.2, amtK_none (not_served (s := "buy") hnd ho (by rw [e]; exact fun e => absurd (V.str.inj e) (by decide))), Int.zero_add]
theorem traded_le {os : List Ord30} {z : Int} {o : Ord30} (hnd : (os.map (·.n)).Nodup) (hq : ∀ o, o ∈ os → 1 ≤ o.q) (ho : o ∈ os) (hs : V.str o.s = V.str "buy" ∨ V.str o.s = V.str "sell") :
    0 ≤ gD (serve (rankedL "buy" os) (vol30 os z) ++ serve (rankedL "sell" os) (vol30 os z)) o.n ∧ gD (serve (rankedL "buy" os) (vol30 os z) ++ serve (rankedL "sell" os) (vol30 os z)) o.n ≤ o.q := by
  rw [← amtK_gD (served_nodup hnd), amtK_append]
  rcases hs with e | e
  · rw [amtK_none (not_served (s := "sell") hnd ho (by rw [e]; exact fun e => absurd (V.str.inj e) (by decide))), Int.add_zero]
    exact amtK_serve (ranked_nums hnd) (fun x hx => hq x (ranked_mem.mp hx).1) (ranked_mem.mpr ⟨ho, e⟩)
  · rw [amtK_none (not_served (s := "buy") hnd ho (by rw [e]; exact fun e => absurd (V.str.inj e) (by decide))), Int.zero_add]
    exact amtK_serve (ranked_nums hnd) (fun x hx => hq x (ranked_mem.mp hx).1) (ranked_mem.mpr ⟨ho, e⟩)

open LamX in
def sp_uncross (K : PySem.W.Frag) (C : Addr) (TL : List (Addr × Str)) : Sp := fun vs H Q E => ∃ (_ : Unit) (l : Addr) (as : List Addr) (os : List Ord30) (r : Int), vs = [.ref l, .int r] ∧ Tups rowO H l as os ∧ os.length ≤ 31 ∧ (os.map (·.n)).Nodup ∧ Tabs TL H ∧
  (GoodC os r → ∀ (_ : Unit) (t : Addr) (H' : Hp), ExtN H H' → Tabs TL H' → Q (.ref t) H') ∧ (¬ GoodC os r → E (.ref C) none H)
set_option maxHeartbeats 0 in
theorem ok_uncross (T : Txt K mg) [TB : TabsOk T base] : FnOk P w K mg base (L2.CX P w) 8 T.f_uncross T.d_uncross ["orders", "reference"] (sp_uncross K T.c_InvalidOrder (tabsL T)) := by
  refine T.F_uncross.okX sc_uncross (fun vs H Q E h => ?_) (fun cdv A outer s H vs Q E hr h => ?_)
  · obtain ⟨_, l, as, os, r, rfl, _⟩ := h
    rfl
  · obtain ⟨_, l, as, os, r, rfl, hT, hl, hnd, hTb, q, qe⟩ := h
    have G_call_price : FnOk P w K mg base (L2.CX P w) 7 T.f_call_price T.d_call_price ["orders", "reference"] (sp_call_price K T.c_InvalidOrder (tabsL T)) := ok_call_price T
    have G_served : FnOk P w K mg base CX0 6 T.f_served T.d_served ["orders", "side", "volume"] (sp_served K (tabsL T)) := ok_served T
    have G_pair_off : FnOk P w K mg base CX0 1 T.f_pair_off T.d_pair_off ["givers", "takers"] (sp_pair_off K) := ok_pair_off T
    have G_left : FnOk P w K mg base CX0 1 T.f_left T.d_left ["orders", "traded"] (sp_left K) := ok_left T
    refine ⟨_, (pss_cons (ps_asg (pe_callS G_call_price hr (by rfl) T.m_call_price T.F_call_price.kp T.b_call_price (fun σ => passAt (takes_of rfl rfl rfl rfl) σ) (pa_cons (pv 0) (pa_cons (pv 1) pa_nil))) (pg_tup rfl (pgs_cons (pg_name (i := 2) sc_uncross.nd rfl (Or.inl rfl)) (pgs_cons (pg_name (i := 3) sc_uncross.nd rfl (Or.inl rfl)) pgs_nil))))
    (pss_cons (ps_set (i := 4) sc_uncross.nd rfl (Or.inl rfl) (pe_call G_served (hr.mono (by decide)) (by rfl) T.m_served T.F_served.kp T.b_served .nil pass0 (pa_cons (pv 0) (pa_cons pe_str (pa_cons (pv 3) pa_nil)))))
    (pss_cons (ps_set (i := 5) sc_uncross.nd rfl (Or.inl rfl) (pe_call G_served (hr.mono (by decide)) (by rfl) T.m_served T.F_served.kp T.b_served .nil pass0 (pa_cons (pv 0) (pa_cons pe_str (pa_cons (pv 3) pa_nil)))))
    (pss_cons (ps_set (i := 6) sc_uncross.nd rfl (Or.inl rfl) (pe_call G_pair_off (hr.mono (by decide)) (by rfl) T.m_pair_off T.F_pair_off.kp T.b_pair_off .nil pass0 (pa_cons (LiI.pe_listItems rfl (pv 4) (by rfl) T.z_list PyProof.Rows.boot_list) (pa_cons (LiI.pe_listItems rfl (pv 5) (by rfl) T.z_list PyProof.Rows.boot_list) pa_nil))))
    (pss_one (ps_ret (pe_tup (pa_cons (pv 2) (pa_cons (pv 6) (pa_cons (pe_call G_left (hr.mono (by decide)) (by rfl) T.m_left T.F_left.kp T.b_left .nil pass0 (pa_cons (pv 0) (pa_cons (pe_star2 (pv 4) (pv 5)) pa_nil))) pa_nil)))))))))), ?_⟩
    walk_at "st"
    refine ⟨(), l, as, os, r, rfl, hT, hl, hTb, fun hgc _ t0 z H1 e1 t1 hB ht0 => ?_, fun hgc => qe hgc⟩
    obtain ⟨hg, hr0, hr1⟩ := hgc
    have hT1 := hT.extN e1
    have htup : SqT K H1 t0 [.int z, .int (min (intr os "buy" z) (intr os "sell" z))] := SqT.of ht0
    walk_at "st"
    refine ⟨(), l, as, os, "buy", vol30 os z, rfl, hT1, hl, hnd, t1, fun _ D H2 e2 t2 hD => ?_⟩
    have hT2 := hT1.extN e2
    walk_at "st"
    refine ⟨(), l, as, os, "sell", vol30 os z, rfl, hT2, hl, hnd, t2, fun _ F H3 e3 t3 hF => ?_⟩
    have hT3 := hT2.extN e3
    have hD3 := e3 _ _ hD fun _ y => by cases y
    walk_at "st"
    refine ⟨_, rfl, hD3, fun H4 P1 ts1 s4 n1 nt1 _ hP1 hpr1 => ?_⟩
    have hF4 := s4 _ _ hF
    walk_at "st"
    refine ⟨_, rfl, hF4, fun H5 P2 ts2 s5 n2 nt2 _ hP2 hpr2 => ?_⟩
    have hq1 : ∀ o, o ∈ os → 1 ≤ o.q := fun o ho => (hg o ho).q.1
    have hr1' : ∀ s, ∀ o, o ∈ rankedL s os → 1 ≤ o.q := fun s o ho => hq1 o (ranked_mem.mp ho).1
    have hl1 := Nat.le_trans (serve_len (rankedL "buy" os) (vol30 os z)) (ranked_len _ _)
    have hl2 := Nat.le_trans (serve_len (rankedL "sell" os) (vol30 os z)) (ranked_len _ _)
    walk_at "st"
    refine ⟨ts1, ts2, _, _, rfl, (items_tups hP1 hpr1).same s5, items_tups hP2 hpr2, serve_pos (hr1' _), serve_pos (hr1' _), by rw [vol_served hq1 (.inl rfl), vol_served hq1 (.inr rfl)], by omega, fun p H6 rs R s6 n6 hR hPO => ?_⟩
    walk_at "st"
    intro N nN
    have hnk : (keysS (serve (rankedL "buy" os) (vol30 os z) ++ serve (rankedL "sell" os) (vol30 os z))).Nodup := by
      unfold keysS
      rw [List.map_append, List.nodup_append]
      refine ⟨serve_nodup (ranked_nums hnd), serve_nodup (ranked_nums hnd), fun a ha b hb e => ?_⟩
      subst e
      obtain ⟨o1, h1, e1'⟩ := List.mem_map.mp (serve_key ha)
      obtain ⟨o2, h2, e2'⟩ := List.mem_map.mp (serve_key hb)
      have h1 := ranked_mem.mp h1
      have h2 := ranked_mem.mp h2
      have e := nums_inj hnd h1.1 h2.1 (e1'.trans e2'.symm)
      rw [e, h2.2] at h1
      exact absurd (V.str.inj h1.2) (by decide)
    have hm1 : mergeK [] (encD (serve (rankedL "buy" os) (vol30 os z))) = encD (serve (rankedL "buy" os) (vol30 os z)) := merge_new _ [] (serve_nodup (ranked_nums hnd))
    have hm2 := merge_new _ _ hnk
    have hD6 := s6 _ _ (s5 _ _ (s4 _ _ hD3))
    have hF6 := s6 _ _ (s5 _ _ hF4)
    have dN : D ≠ N := fun e => by rw [e, nN] at hD6; cases hD6
    have fN : F ≠ N := fun e => by rw [e, nN] at hF6; cases hF6
    have s36 : Same H3 H6 := fun b o e => s6 _ _ (s5 _ _ (s4 _ _ e))
    generalize hsb : serve (rankedL "buy" os) (vol30 os z) = sb at *
    generalize hss : serve (rankedL "sell" os) (vol30 os z) = ss at *
    walk_at "st"
    refine ⟨(), D, _, rfl, upd_same, dN, (upd_ne dN).trans hD6, ?_⟩
    rw [hm1]
    walk_at "st"
    refine ⟨(), F, _, rfl, upd_same, fN, (upd_ne fN).trans ((upd_ne fN).trans hF6), len_le (Nat.ble_eq_true_of_le (by unfold encD; rw [List.length_map, List.length_map]; omega)), ?_⟩
    rw [hm2, upd_upd, upd_upd]
    have sN := same_upd (o := .dK (encD (sb ++ ss))) nN
    have hT6 := (hT3.same s36).same sN
    walk_at "st"
    refine ⟨(), l, N, as, os, _, rfl, hT6, hl, upd_same, fun _ q' ls H8 s8 nq hL => ?_⟩
    walk_at "st"
    intro t nt
    have s68 := (sN.trans s8).trans (same_upd (o := .tup [.int z, .ref p, .ref q']) nt)
    exact q ⟨hg, hr0, hr1⟩ () t _ (((e1.trans e2).trans e3).trans (extN_same (s36.trans s68))) (t3.ext (s36.trans s68))

theorem Tups.cat {α : Type} {enc : α → List V} {H : Hp} {a b c : Addr} {ps qs : List Addr} {xs ys : List α} (h : Tups enc H a ps xs) (g : Tups enc H b qs ys) (hc : H c = some (.lst (ps.map V.ref ++ qs.map V.ref))) : Tups enc H c (ps ++ qs) (xs ++ ys) := by
  refine ⟨by rw [hc, List.map_append], by rw [List.length_append, List.length_append, h.len, g.len], fun i p x h1 h2 => ?_⟩
  by_cases hi : i < ps.length
  · rw [List.getElem?_append_left hi] at h1
    rw [List.getElem?_append_left (by rw [← h.len]; exact hi)] at h2
    exact h.row i p x h1 h2
  · rw [List.getElem?_append_right (by omega)] at h1
    rw [List.getElem?_append_right (by have := h.len; omega)] at h2
    exact g.row (i - ps.length) p x h1 (by rw [h.len]; exact h2)
theorem Tups.takeL {α : Type} {enc : α → List V} {H : Hp} {a l : Addr} {ps : List Addr} {xs : List α} (h : Tups enc H l ps xs) (i : Nat) (ha : H a = some (.lst ((ps.map V.ref).take i))) : Tups enc H a (ps.take i) (xs.take i) := by
  refine ⟨by rw [ha, List.map_take], by rw [List.length_take, List.length_take, h.len], fun j p x h1 h2 => ?_⟩
  have hj : j < i := by
    have := (List.getElem?_eq_some_iff.mp h1).1
    rw [List.length_take] at this
    omega
  rw [List.getElem?_take_of_lt hj] at h1 h2
  exact h.row j p x h1 h2
theorem Tups.dropL {α : Type} {enc : α → List V} {H : Hp} {a l : Addr} {ps : List Addr} {xs : List α} (h : Tups enc H l ps xs) (i : Nat) (ha : H a = some (.lst ((ps.map V.ref).drop i))) : Tups enc H a (ps.drop i) (xs.drop i) := by
  refine ⟨by rw [ha, List.map_drop], by rw [List.length_drop, List.length_drop, h.len], fun j p x h1 h2 => ?_⟩
  rw [List.getElem?_drop] at h1 h2
  exact h.row (i + j) p x h1 h2

theorem cutV_take {xs : List V} {k : Int} (h0 : 0 ≤ k) (h : k ≤ (xs.length : Int)) : cutV xs none (some k) = xs.take k.toNat := by
  obtain ⟨n, rfl⟩ := Int.eq_ofNat_of_zero_le h0
  have hn : n ≤ xs.length := by omega
  have e : HT.sIx xs.length xs.length (some (n : Int)) = n := by
    rw [HT.sIx_nat]
    omega
  unfold cutV
  show (xs.drop _).take (HT.sIx xs.length xs.length (some (n : Int)) - _) = _
  rw [e, HT.sIx_none, List.drop_zero, Int.toNat_natCast]
  rfl
theorem cutV_drop {xs : List V} {k : Int} (h0 : 0 ≤ k) (h : k ≤ (xs.length : Int)) : cutV xs (some k) none = xs.drop k.toNat := by
  obtain ⟨n, rfl⟩ := Int.eq_ofNat_of_zero_le h0
  have hn : n ≤ xs.length := by omega
  have e : HT.sIx xs.length 0 (some (n : Int)) = n := by
    rw [HT.sIx_nat]
    omega
  unfold cutV
  show (xs.drop (HT.sIx xs.length 0 (some (n : Int)))).take _ = _
  rw [e, HT.sIx_none, List.take_of_length_le (by rw [List.length_drop]; exact Nat.le_refl _), Int.toNat_natCast]

theorem side30_at (c : Int) : ∃ s, atI ([V.str "buy", V.str "sell"]) (c % 2) = some (.str s) ∧ (s = "buy" ∨ s = "sell") := by
  have h0 := Int.emod_nonneg c (by decide : (2 : Int) ≠ 0)
  have h1 := Int.emod_lt_of_pos c (by decide : (0 : Int) < 2)
  rcases (by omega : c % 2 = 0 ∨ c % 2 = 1) with e | e
  · exact ⟨"buy", by rw [e]; rfl, .inl rfl⟩
  · exact ⟨"sell", by rw [e]; rfl, .inr rfl⟩

open LamX in
def sp_law_raises (K : PySem.W.Frag) (TL : List (Addr × Str)) : Sp := fun vs H Q _ => ∃ (_ : Unit) (l : Addr) (as : List Addr) (os : List Ord30) (r : Int), vs = [.ref l, .int r] ∧ Tups rowO H l as os ∧ os.length ≤ 31 ∧ (os.map (·.n)).Nodup ∧ Tabs TL H ∧
  ∀ (_ : Unit) (H' : Hp) (c : Int), ExtN H H' → Tabs TL H' → (GoodC os r → c = 0) → (¬ GoodC os r → c = 2) → Q (.int c) H'
set_option maxHeartbeats 0 in
theorem ok_law_raises (T : Txt K mg) [TB : TabsOk T base] : FnOk P w K mg base CX0 9 T.f_law_raises T.d_law_raises ["orders", "reference"] (sp_law_raises K (tabsL T)) := by
  refine T.F_law_raises.ok sc_law_raises (fun vs H Q E h => ?_) (fun cdv A outer s H vs Q E hr h => ?_)
  · obtain ⟨_, l, as, os, r, rfl, _⟩ := h
    rfl
  · obtain ⟨_, l, as, os, r, rfl, hT, hl, hnd, hTb, q⟩ := h
    have G_call_price : FnOk P w K mg base (L2.CX P w) 7 T.f_call_price T.d_call_price ["orders", "reference"] (sp_call_price K T.c_InvalidOrder (tabsL T)) := ok_call_price T
    have G_uncross : FnOk P w K mg base (L2.CX P w) 8 T.f_uncross T.d_uncross ["orders", "reference"] (sp_uncross K T.c_InvalidOrder (tabsL T)) := ok_uncross T
    have teA := PySem.W.exm_ref T.b_InvalidOrder T.d_InvalidOrder T.t_InvalidOrder T.s_InvalidOrder
    have hs := SqL.of (K := K) hT.lst
    refine ⟨_, (pss_cons (ps_set (i := 2) sc_law_raises.nd rfl (Or.inl rfl) pe_int)
    (pss_cons (ps_try_as (i := 3) rfl rfl sc_law_raises.nd rfl rfl ⟨rfl, by decide, Or.inl T.m_InvalidOrder⟩ takes0
      (fun W pn xe tk _ => (pss_one (ps_expr (pe_callS G_call_price (hr.mono (by decide)) (by rfl) T.m_call_price T.F_call_price.kp T.b_call_price (fun σ => passAt tk σ) (pa_cons (pe_callTy (show CallR _ (.type "list") (rListOf K) from call_list_of) (by rfl) T.z_list (by decide +kernel) (pa_cons (pv 0) pa_nil)) (pa_cons (pv 1) pa_nil))))))
      (fun a oe cls d pn hz hf => (pss_one (ps_if (pt_val (pe_callB (call_isE' T.e_InvalidOrder hz hf) (by rfl) T.z_isinstance (by decide +kernel) (pa_cons (pv 3) (pa_cons (pe_glob (v := .ref T.c_BourseError) rfl T.m_BourseError rfl) pa_nil))))
        (pss_one (ps_set (i := 2) sc_law_raises.nd rfl (Or.inl rfl) (pe_op op_add (pv 2) pe_int)))
        pss_nil))))
    (pss_cons (ps_try_any rfl rfl sc_law_raises.nd takes0
      (fun W pn xe tk _ => (pss_one (ps_expr (pe_callS G_uncross hr (by rfl) T.m_uncross T.F_uncross.kp T.b_uncross (fun σ => passAt tk σ) (pa_cons (pe_callTy (show CallR _ (.type "list") (rListOf K) from call_list_of) (by rfl) T.z_list (by decide +kernel) (pa_cons (pv 0) pa_nil)) (pa_cons (pv 1) pa_nil))))))
      (.cons (.plain ⟨rfl, by decide, Or.inl T.m_InvalidOrder⟩ (fun a oe cls d pn hz hf => (pss_one (ps_set (i := 2) sc_law_raises.nd rfl (Or.inl rfl) (pe_op op_add (pv 2) pe_int)))))
      .nil))
    (pss_one (ps_ret (pv 2)))))), ?_⟩
    walk_at "st"
    intro h1 nh1
    generalize hH1 : upd H h1 _ = H1
    have s1 : Same H H1 := hH1 ▸ same_upd nh1
    have hT1 := hT.same s1
    have hh1 : Tups rowO H1 h1 as os := ⟨(congrFun hH1 h1).symm.trans upd_same, hT.len, hT1.row⟩
    have t1 := hTb.ext s1
    have hs1 := s1.seq hs
    walk_at "st"
    refine ⟨(), h1, as, os, r, rfl, hh1, hl, t1, fun hg _ t0 z H2 e2 t2 hB ht0 => ?_, fun hg => ?_⟩
    · have hT2 := hT1.extN e2
      have hs2 := SqL.of (K := K) hT2.lst
      walk_at "st"
      intro h2 nh2
      generalize hH3 : upd H2 h2 _ = H3
      have s3 : Same H2 H3 := hH3 ▸ same_upd nh2
      have hT3 := hT2.same s3
      have hh3 : Tups rowO H3 h2 as os := ⟨(congrFun hH3 h2).symm.trans upd_same, hT.len, hT3.row⟩
      have e03 : LamX.ExtN H H3 := ((extN_same s1).trans e2).trans (extN_same s3)
      walk_at "st"
      refine ⟨(), h2, as, os, r, rfl, hh3, hl, hnd, t2.ext s3, fun _ _ t H4 e4 t4 => ?_, fun hn => absurd hg hn⟩
      walk_at "st"
      exact q () H4 0 (e03.trans e4) t4 (fun _ => rfl) fun hn => absurd hg hn
    · refine ⟨true, teA, fun _ a0 _ => ?_, fun q => Bool.noConfusion q⟩
      walk_at "st"
      refine ⟨_, true, rfl, fun u hu => hu, T.kt_InvalidOrder_BourseError, ?_⟩
      walk_at "st"
      intro h2 nh2
      generalize hH3 : upd H1 h2 _ = H3
      have s3 : Same H1 H3 := hH3 ▸ same_upd nh2
      have hT3 := hT1.same s3
      have hh3 : Tups rowO H3 h2 as os := ⟨(congrFun hH3 h2).symm.trans upd_same, hT.len, hT3.row⟩
      walk_at "st"
      refine ⟨(), h2, as, os, r, rfl, hh3, hl, hnd, t1.ext s3, fun hg' => absurd hg' hg, fun _ => ?_⟩
      refine ⟨true, teA, fun _ a0 _ => ?_, fun q => Bool.noConfusion q⟩
      walk_at "st"
      exact q () H3 2 (extN_same (s1.trans s3)) (t1.ext s3) (fun h => absurd h hg) fun _ => rfl
def sp_law_spoil (K : PySem.W.Frag) : Sp := fun vs H Q _ => ∃ (_ : Unit) (p : Addr) (o : Ord30) (c : Int), vs = [.ref p, .int c] ∧ H p = some (.tup (rowO o)) ∧ ∀ (_ : Unit) (t : Addr) (o' : Ord30), H t = none → o'.n = o.n → ¬ Good30 o' → Q (.ref t) (upd H t (.tup (rowO o')))
set_option maxHeartbeats 0 in
theorem ok_law_spoil (T : Txt K mg) [TB : TabsOk T base] : FnOk P w K mg base CX0 1 T.f_law_spoil T.d_law_spoil ["order", "cell"] (sp_law_spoil K) := by
  refine T.F_law_spoil.ok sc_law_spoil (fun vs H Q E h => ?_) (fun cdv A outer s H vs Q E hr h => ?_)
  · obtain ⟨_, p, o, c, rfl, _⟩ := h
    rfl
  · obtain ⟨_, p, o, c, rfl, hp, q⟩ := h
    have htup : SqT K H p (rowO o) := SqT.of hp
    refine ⟨_, (pss_cons (ps_asg (pv 0) (pg_tup rfl (pgs_cons (pg_name (i := 2) sc_law_spoil.nd rfl (Or.inl rfl)) (pgs_cons (pg_name (i := 3) sc_law_spoil.nd rfl (Or.inl rfl)) (pgs_cons (pg_name (i := 4) sc_law_spoil.nd rfl (Or.inl rfl)) (pgs_cons (pg_name (i := 5) sc_law_spoil.nd rfl (Or.inl rfl)) (pgs_cons (pg_name (i := 6) sc_law_spoil.nd rfl (Or.inl rfl)) pgs_nil)))))))
    (pss_cons (ps_set (i := 7) sc_law_spoil.nd rfl (Or.inl rfl) (pe_op op_mod (pe_callTy call_int_i (by rfl) T.z_int (by decide +kernel) (pa_cons (pv 1) pa_nil)) pe_int))
    (pss_cons (ps_if (pt_cmpR op_eq (pv 7) pe_int (nomark _))
      (pss_one (ps_set (i := 4) sc_law_spoil.nd rfl (Or.inl rfl) pe_str))
      (pss_one (ps_if (pt_cmpR op_eq (pv 7) pe_int (nomark _))
        (pss_one (ps_set (i := 5) sc_law_spoil.nd rfl (Or.inl rfl) (pe_op op_sub pe_int (pe_op op_mod (pe_op op_fdiv (pe_callTy call_int_i (by rfl) T.z_int (by decide +kernel) (pa_cons (pv 1) pa_nil)) pe_int) pe_int))))
        (pss_one (ps_if (pt_cmpR op_eq (pv 7) pe_int (nomark _))
          (pss_one (ps_set (i := 5) sc_law_spoil.nd rfl (Or.inl rfl) (pe_op op_add pe_int (pe_op op_mod (pe_op op_fdiv (pe_callTy call_int_i (by rfl) T.z_int (by decide +kernel) (pa_cons (pv 1) pa_nil)) pe_int) pe_int))))
          (pss_one (ps_if (pt_cmpR op_eq (pv 7) pe_int (nomark _))
            (pss_one (ps_set (i := 6) sc_law_spoil.nd rfl (Or.inl rfl) (pe_op op_sub pe_int (pe_op op_mod (pe_op op_fdiv (pe_callTy call_int_i (by rfl) T.z_int (by decide +kernel) (pa_cons (pv 1) pa_nil)) pe_int) pe_int))))
            (pss_one (ps_set (i := 6) sc_law_spoil.nd rfl (Or.inl rfl) (pe_op op_add pe_int (pe_op op_mod (pe_op op_fdiv (pe_callTy call_int_i (by rfl) T.z_int (by decide +kernel) (pa_cons (pv 1) pa_nil)) pe_int) pe_int)))))))))))
    (pss_one (ps_ret (pe_tup (pa_cons (pv 2) (pa_cons (pv 3) (pa_cons (pv 4) (pa_cons (pv 5) (pa_cons (pv 6) pa_nil))))))))))), ?_⟩
    have m5 := Int.emod_nonneg c (by decide : (5 : Int) ≠ 0)
    have m6 := Int.emod_lt_of_pos c (by decide : (0 : Int) < 5)
    walk_at "st"
    refine iteD (fun h0 => ?_) (fun h0 => ?_)
    · walk_at "st"
      intro t nt
      exact q () t ⟨o.n, o.h, "none", o.p, o.q⟩ nt rfl fun g => by rcases g.s with e | e <;> exact absurd (show ("none" : Str) = _ from V.str.inj e) (by decide)
    walk_at "st"
    refine iteD (fun h1 => ?_) (fun h1 => ?_)
    · walk_at "st"
      intro t nt
      exact q () t ⟨o.n, o.h, o.s, some (0 - c / 5 % 3), o.q⟩ nt rfl fun g => by have := g.p _ rfl; omega
    walk_at "st"
    refine iteD (fun h2 => ?_) (fun h2 => ?_)
    · walk_at "st"
      intro t nt
      exact q () t ⟨o.n, o.h, o.s, some (1000001 + c / 5 % 3), o.q⟩ nt rfl fun g => by have := g.p _ rfl; omega
    walk_at "st"
    refine iteD (fun h3 => ?_) (fun h3 => ?_)
    · walk_at "st"
      intro t nt
      exact q () t ⟨o.n, o.h, o.s, o.p, 0 - c / 5 % 3⟩ nt rfl fun g => by have := g.q; dsimp only at this; omega
    walk_at "st"
    intro t nt
    exact q () t ⟨o.n, o.h, o.s, o.p, 1000001 + c / 5 % 3⟩ nt rfl fun g => by have := g.q; dsimp only at this; omega
open LamX in
def sp_law (K : PySem.W.Frag) (TL : List (Addr × Str)) : Sp := fun vs H Q _ => ∃ (a : Addr) (ns : List Int), vs = [.ref a] ∧ SqL K H a (ns.map V.int) ∧ ns.length ≤ 63 ∧ Tabs TL H ∧ ∀ H', Q (.bl true) H'
theorem nums_of {os : List Ord30} (h : ∀ (j : Nat) (o : Ord30), os[j]? = some o → o.n = (j : Int) + 1) : (os.map (·.n)).Nodup := by
  refine List.pairwise_iff_getElem.mpr fun i j hi hj hij e => ?_
  rw [List.length_map] at hi hj
  rw [List.getElem_map, List.getElem_map, h i _ (List.getElem?_eq_getElem hi), h j _ (List.getElem?_eq_getElem hj)] at e
  omega
set_option maxHeartbeats 0 in
theorem ok_law {f : Addr} {fd : FuncData} (T : Txt K mg) [TB : TabsOk T base] (F : Fun K "law" "law" s_law f fd) : FnOk P w K mg base CX0 10 f fd ["script"] (sp_law K (tabsL T)) := by
  refine F.ok sc_law (fun vs H Q E h => ?_) (fun cdv A outer s H vs Q E hr h => ?_)
  · obtain ⟨a, ns, rfl, _⟩ := h
    rfl
  · obtain ⟨a, ns, rfl, hs, hl, hTb, q⟩ := h
    have G_law_raises : FnOk P w K mg base CX0 9 T.f_law_raises T.d_law_raises ["orders", "reference"] (sp_law_raises K (tabsL T)) := ok_law_raises T
    have G_law_spoil : FnOk P w K mg base CX0 1 T.f_law_spoil T.d_law_spoil ["order", "cell"] (sp_law_spoil K) := ok_law_spoil T
    refine ⟨_, (pss_cons (ps_set (i := 1) sc_law.nd rfl (Or.inl rfl) (pe_lst (pa_cons (pe_tup (pa_cons pe_int (pa_cons pe_str (pa_cons pe_str (pa_cons pe_non (pa_cons pe_int pa_nil)))))) (pa_cons (pe_tup (pa_cons pe_int (pa_cons pe_str (pa_cons pe_str (pa_cons pe_int (pa_cons pe_int pa_nil)))))) pa_nil))))
    (pss_cons (ps_for PassesOwn.never rfl (pi_enum (by rfl) T.z_enumerate (pa_cons (pe_slice sl_list (pv 0) (po_some pe_int) (po_some pe_int)) pa_nil)) (pg_tup rfl (pgs_cons (pg_name (i := 2) sc_law.nd rfl (Or.inl rfl)) (pgs_cons (pg_name (i := 3) sc_law.nd rfl (Or.inl rfl)) pgs_nil)))
      (pss_cons (ps_set (i := 4) sc_law.nd rfl (Or.inl rfl) (pe_ix ix_list (pe_lst (pa_cons pe_str (pa_cons pe_str pa_nil))) (pe_op op_mod (pe_callTy call_int_i (by rfl) T.z_int (by decide +kernel) (pa_cons (pv 3) pa_nil)) pe_int) (fun _ _ => rfl)))
      (pss_one (ps_expr (pe_bm PySem.F.plainAttrs_list PySem.F.slot_list_append PySem.F.type_list_append mt_append (pv 1) (pa_cons (pe_tup (pa_cons (pe_op op_add (pv 2) pe_int) (pa_cons pe_str (pa_cons (pv 4) (pa_cons (pe_op op_add pe_int (pe_op op_mod (pe_op op_fdiv (pe_callTy call_int_i (by rfl) T.z_int (by decide +kernel) (pa_cons (pv 3) pa_nil)) pe_int) pe_int)) (pa_cons (pe_op op_add pe_int (pe_op op_mod (pe_op op_fdiv (pe_callTy call_int_i (by rfl) T.z_int (by decide +kernel) (pa_cons (pv 3) pa_nil)) pe_int) pe_int)) pa_nil)))))) pa_nil))))))
    (pss_cons (ps_set (i := 3) sc_law.nd rfl (Or.inl rfl) pe_int)
    (C8.pss_cut (ps_if (pt_truth (pv 0) (by intro _; rfl))
      (pss_one (ps_set (i := 3) sc_law.nd rfl (Or.inl rfl) (pe_callTy call_int_i (by rfl) T.z_int (by decide +kernel) (pa_cons (pe_ix ix_list (pv 0) pe_int (fun _ _ => rfl)) pa_nil))))
      pss_nil)
    (pss_cons (ps_if (pt_cmpR op_ne (pe_call G_law_raises hr (by rfl) T.m_law_raises T.F_law_raises.kp T.b_law_raises .nil pass0 (pa_cons (pv 1) (pa_cons (pe_op op_add pe_int (pe_op op_mod (pv 3) pe_int)) pa_nil))) pe_int (nomark _))
      (pss_one (ps_ret pe_bl))
      pss_nil)
    (pss_cons (ps_if (PW.pt (pw_or (pt_cmpR op_ne (pe_call G_law_raises hr (by rfl) T.m_law_raises T.F_law_raises.kp T.b_law_raises .nil pass0 (pa_cons (pv 1) (pa_cons (pe_op op_sub pe_int (pe_op op_mod (pv 3) pe_int)) pa_nil))) pe_int (nomark _)) (pw_or1 (pt_cmpR op_ne (pe_call G_law_raises hr (by rfl) T.m_law_raises T.F_law_raises.kp T.b_law_raises .nil pass0 (pa_cons (pv 1) (pa_cons (pe_op op_add pe_int (pe_op op_mod (pv 3) pe_int)) pa_nil))) pe_int (nomark _)))))
      (pss_one (ps_ret pe_bl))
      pss_nil)
    (pss_cons (ps_set (i := 5) sc_law.nd rfl (Or.inl rfl) (pe_op op_mod (pe_op op_fdiv (pv 3) pe_int) (pe_callB call_len_seq (by rfl) T.z_len PySem.boot_len (pa_cons (pv 1) pa_nil))))
    (pss_cons (ps_set (i := 6) sc_law.nd rfl (Or.inl rfl) (pe_op op_cat (pe_op op_cat (pe_slice sl_list (pv 1) po_none (po_some (pv 5))) (pe_lst (pa_cons (pe_call G_law_spoil (hr.mono (by decide)) (by rfl) T.m_law_spoil T.F_law_spoil.kp T.b_law_spoil .nil pass0 (pa_cons (pe_ix ix_list (pv 1) (pv 5) (fun _ _ => rfl)) (pa_cons (pv 3) pa_nil))) pa_nil))) (pe_slice sl_list (pv 1) (po_some (pe_op op_add (pv 5) pe_int)) po_none)))
    (pss_one (ps_ret (pe_cmpR op_eq (pe_call G_law_raises hr (by rfl) T.m_law_raises T.F_law_raises.kp T.b_law_raises .nil pass0 (pa_cons (pv 6) (pa_cons pe_int pa_nil))) pe_int (nomark _)))))))))))), ?_⟩
    walk_at "st"
    intro A nA
    have sA := same_upd (o := .tup [.int 1, .str "ash", .str "buy", .non, .int 1000000]) nA
    have hA := upd_same (H := H) (a := A) (o := .tup [.int 1, .str "ash", .str "buy", .non, .int 1000000])
    generalize upd H A (.tup [.int 1, .str "ash", .str "buy", .non, .int 1000000]) = H1 at *
    walk_at "st"
    intro B nB
    have sB := same_upd (o := .tup [.int 2, .str "bay", .str "sell", .int 1000000, .int 1]) nB
    have hB := upd_same (H := H1) (a := B) (o := .tup [.int 2, .str "bay", .str "sell", .int 1000000, .int 1])
    have hA2 := sB _ _ hA
    generalize upd H1 B (.tup [.int 2, .str "bay", .str "sell", .int 1000000, .int 1]) = H2 at *
    walk_at "st"
    intro L nL
    generalize hH3 : upd H2 L _ = H3
    have s3 : Same H2 H3 := hH3 ▸ same_upd nL
    have hL : H3 L = some (.lst [.ref A, .ref B]) := (congrFun hH3 L).symm.trans upd_same
    have s03 := (sA.trans sB).trans s3
    have nL0 : H L = none := (sA.trans sB).free nL
    have hT0 : Tups rowO H3 L [A, B] [⟨1, "ash", "buy", none, 1000000⟩, ⟨2, "bay", "sell", some 1000000, 1⟩] := by
      refine ⟨hL, rfl, fun i p x h1 h2 => ?_⟩
      match i, h1, h2 with
      | 0, h1, h2 =>
        rw [← Option.some.inj h1, ← Option.some.inj h2]
        exact s3 _ _ hA2
      | 1, h1, h2 =>
        rw [← Option.some.inj h1, ← Option.some.inj h2]
        exact s3 _ _ hB
      | n + 2, h1, _ => cases h1
    have hs3 := s03.seq hs
    walk_at "st"
    intro C nC
    generalize hH4 : upd H3 C _ = H4
    have s4 : Same H3 H4 := hH4 ▸ same_upd nC
    have hC := (congrFun hH4 C).symm.trans upd_same
    rw [cutV_ints] at hC
    have hcl : (cutI ns (some 1) (some 9)).length ≤ 8 := by
      unfold cutI
      rw [show (9 : Int) = ((9 : Nat) : Int) from rfl, show (1 : Int) = ((1 : Nat) : Int) from rfl, HT.sIx_nat, HT.sIx_nat, List.length_take, List.length_drop]
      omega
    generalize cutI ns (some 1) (some 9) = cs at hC hcl
    have hCL : C ≠ L := fun e => by rw [e, hL] at nC; cases nC
    have hCs := SqL.of (K := K) hC
    walk_at "st"
    refine for_enum (a := C) (xs := cs.map V.int) (fun i σ H' => ∃ (v2 v3 v4 : Option V) (as : List Addr) (os : List Ord30), σ = [some (.ref a), some (.ref L), v2, v3, v4, none, none] ∧ Tups rowO H' L as os ∧ os.length = i + 2 ∧ (∀ o, o ∈ os → Good30 o) ∧ (∀ (j : Nat) (o : Ord30), os[j]? = some o → o.n = (j : Int) + 1) ∧ ∀ b o, b ≠ L → H4 b = some o → H' b = some o)
      ⟨none, none, none, _, _, rfl, hT0.same s4, rfl, ?_, ?_, fun b o _ h => h⟩ (fun i σ H' _ ⟨_, _, _, _, _, _, _, _, _, _, k⟩ => SqL.of (k _ _ hCL hC)) ?_ ?_
    · intro o ho
      rcases List.mem_cons.mp ho with rfl | ho
      · exact ⟨.inl rfl, (fun z e => by cases e), by decide⟩
      · rw [List.mem_singleton.mp ho]
        exact ⟨.inr rfl, (fun z e => by obtain rfl := Option.some.inj e; decide), by decide⟩
    · intro j o e
      match j, e with
      | 0, e => rw [← Option.some.inj e]; rfl
      | 1, e => rw [← Option.some.inj e]; rfl
      | n + 2, e => cases e
    · rintro i y σ H' U hy ⟨v2, v3, v4, as, os, rfl, hB', hlen, hg, hn, keep⟩ nU
      obtain ⟨c, hc, rfl⟩ := ints_at hy
      have hi := (List.getElem?_eq_some_iff.mp hc).1
      generalize hH5 : upd H' U _ = H5
      have s5 : Same H' H5 := hH5 ▸ same_upd nU
      have hU5 := (congrFun hH5 U).symm.trans upd_same
      have k5 : ∀ b o, b ≠ L → H4 b = some o → H5 b = some o := fun b o h1 h2 => s5 _ _ (keep b o h1 h2)
      obtain ⟨ss, hat2, hsm⟩ := side30_at c
      walk_at "st"
      intro M nM
      have hM : SqL K (upd H5 M (.lst [V.str "buy", V.str "sell"])) M [V.str "buy", V.str "sell"] := SqL.of upd_same
      have sM := same_upd (o := .lst [V.str "buy", V.str "sell"]) nM
      have hD7 := (hB'.same (s5.trans sM)).lst
      have hB6 := hB'.same (s5.trans sM)
      have hbl : as.length ≤ 31 := by
        rw [hB'.len]
        omega
      generalize upd H5 M (.lst [V.str "buy", V.str "sell"]) = H6 at *
      walk_at "st"
      intro E nE
      have sE := same_upd (o := .tup (rowO ⟨(i : Int) + 3, "elm", ss, some (1 + c / 2 % 1000000), 1 + c / 7 % 1000000⟩)) nE
      have hpush := hB6.push (x := ⟨(i : Int) + 3, "elm", ss, some (1 + c / 2 % 1000000), 1 + c / 7 % 1000000⟩) sE nE upd_same
      have hDE := sE _ _ hD7
      have hsm' : (as.map V.ref).length < sizeLine := small1000 (by rw [List.length_map]; omega)
      walk_at "st"
      refine ⟨_, _, _, as ++ [E], os ++ [(⟨(i : Int) + 3, "elm", ss, some (1 + c / 2 % 1000000), 1 + c / 7 % 1000000⟩ : Ord30)], rfl, hpush, by rw [List.length_append, hlen]; rfl, fun o ho => ?_, fun j o e => ?_, fun b o h1 h2 => (upd_ne h1).trans (sE _ _ (sM _ _ (k5 b o h1 h2)))⟩
      · rcases List.mem_append.mp ho with h1 | h1
        · exact hg o h1
        · rw [List.mem_singleton.mp h1]
          refine ⟨hsm.imp (fun e => by rw [e]) (fun e => by rw [e]), (fun z e => by obtain rfl := Option.some.inj e; omega), ?_⟩
          dsimp only
          omega
      · by_cases hj : j < os.length
        · rw [List.getElem?_append_left hj] at e
          exact hn j o e
        · rw [List.getElem?_append_right (by omega)] at e
          have h1 := (List.getElem?_eq_some_iff.mp e).1
          rw [List.length_cons, List.length_nil] at h1
          rw [show j - os.length = 0 by omega] at e
          rw [← Option.some.inj e]
          show (i : Int) + 3 = _
          omega
    · rintro σ H5 ⟨v2, v3, v4, as, os, rfl, hB', hlen, hg, hn, keep⟩
      have s05 : Same H H5 := fun b o h => keep b o (fun e => by rw [e, nL0] at h; cases h) (s4 _ _ (s03 _ _ h))
      have hs5 := s05.seq hs
      rw [List.length_map] at hlen
      walk_at "st"
      refine ⟨fun σ' H' => H' = H5 ∧ ∃ (_ : Unit) (c : Int), σ' = [some (.ref a), some (.ref L), v2, some (.int c), v4, none, none], ?_, ?_⟩
      · walk_at "st"
        cases ns with
        | nil =>
          refine iteF ?_
          exact ⟨rfl, (), 0, rfl⟩
        | cons c0 ns =>
          have hat0 : atI ((c0 :: ns).map V.int) 0 = some (.int c0) := atI_ints (ns := c0 :: ns) (j := 0) (Nat.succ_pos _)
          refine iteT ?_
          walk_at "st"
          exact ⟨(), c0, rfl⟩
      · rintro σ' H' ⟨rfl, _, c, rfl⟩
        have hnd := nums_of hn
        have hol : os.length ≤ 31 := by omega
        walk_at "st"
        refine ⟨(), L, as, os, 1 + c % 1000000, rfl, hB', hol, hnd, hTb.ext s05, fun _ H6 c1 e6 t6 h0 _ => ?_⟩
        have z1 := h0 ⟨hg, by omega, by omega⟩
        have hB6 := hB'.extN e6
        walk_at "st"
        refine iteDN (fun hx => absurd (by rw [z1]) hx) (fun _ => ?_)
        walk_at "st"
        refine ⟨(), L, as, os, 0 - c % 4, rfl, hB6, hol, hnd, t6, fun _ H7 c2 e7 t7 _ h2 => ?_⟩
        have z2 := h2 fun g => by have := g.2.1; omega
        have hB7 := hB6.extN e7
        walk_at "st"
        refine iteDN (fun hx => absurd (by rw [z2]) hx) (fun _ => ?_)
        walk_at "st"
        refine ⟨(), L, as, os, 1000001 + c % 4, rfl, hB7, hol, hnd, t7, fun _ H8 c3 e8 t8 _ h3 => ?_⟩
        have z3 := h3 fun g => by have := g.2.2; omega
        walk_at "st"
        refine iteDN (fun hx => absurd (by rw [z3]) hx) (fun _ => ?_)
        have hB8 := hB7.extN e8
        have hBs := SqL.of (K := K) hB8.lst
        have hal := hB8.len
        have hpos : (0 : Int) < ((as.map V.ref).length : Nat) := by rw [List.length_map]; omega
        have hol2 : ((as.map V.ref).length : Int) = os.length := by rw [List.length_map, hal]
        obtain ⟨i, hi, hil⟩ : ∃ i : Nat, c / 20 % ((as.map V.ref).length : Nat) = (i : Int) ∧ i < os.length := by
          have m1 := Int.emod_nonneg (c / 20) (show (((as.map V.ref).length : Nat) : Int) ≠ 0 by omega)
          have m2 := Int.emod_lt_of_pos (c / 20) hpos
          exact ⟨(c / 20 % ((as.map V.ref).length : Nat)).toNat, by omega, by omega⟩
        obtain ⟨p, hp, hat, hrow⟩ := hB8.at (List.getElem?_eq_getElem hil)
        generalize hoi : os[i] = o at *
        walk_at "st"
        intro D1 n1
        generalize hH9 : upd H8 D1 _ = H9
        have s9 : Same H8 H9 := hH9 ▸ same_upd n1
        have hD1 := (congrFun hH9 D1).symm.trans upd_same
        have hB9 := hB8.same s9
        have hBs9 := SqL.of (K := K) hB9.lst
        have hat' : atI (as.map V.ref) (c / 20 % ((as.map V.ref).length : Nat)) = some (.ref p) := by rw [hi]; exact hat
        rw [hi] at hD1
        rw [cutV_take (by omega) (by omega), Int.toNat_natCast] at hD1
        walk_at "st"
        refine ⟨(), p, o, c, rfl, s9 _ _ hrow, fun _ t o' nt hn' hbad => ?_⟩
        have s10 := same_upd (o := .tup (rowO o')) nt
        have ht := upd_same (H := H9) (a := t) (o := .tup (rowO o'))
        generalize upd H9 t (.tup (rowO o')) = H10 at *
        have hD1b := s10 _ _ hD1
        have hB10 := hB9.same s10
        walk_at "st"
        intro D2 n2
        generalize hH11 : upd H10 D2 _ = H11
        have s11 : Same H10 H11 := hH11 ▸ same_upd n2
        have hD2 := (congrFun hH11 D2).symm.trans upd_same
        have hD1c := s11 _ _ hD1b
        have hB11 := hB10.same s11
        have htk := hB11.takeL i hD1c
        have hone : Tups rowO H11 D2 [t] [o'] := ⟨hD2, rfl, fun j q x h1 h2 => by
          match j, h1, h2 with
          | 0, h1, h2 =>
            rw [← Option.some.inj h1, ← Option.some.inj h2]
            exact s11 _ _ ht
          | n + 1, h1, _ => cases h1⟩
        have hal' : as.length ≤ 31 := by omega
        have hz1 : ((as.map V.ref).take i).length + [V.ref t].length ≤ sizeLine := len_le (Nat.ble_eq_true_of_le (by rw [List.length_take, List.length_map]; show _ + 1 ≤ 1000; omega))
        walk_at "st"
        intro D3 n3
        generalize hH12 : upd H11 D3 _ = H12
        have s12 : Same H11 H12 := hH12 ▸ same_upd n3
        have hD3 : H12 D3 = some (.lst ((as.take i).map V.ref ++ [t].map V.ref)) := (congrFun hH12 D3).symm.trans (upd_same.trans (by rw [List.map_take]; rfl))
        have hcat := (htk.same s12).cat (hone.same s12) hD3
        have hB12 := hB11.same s12
        have hBs12 := SqL.of (K := K) hB12.lst
        walk_at "st"
        intro D4 n4
        generalize hH13 : upd H12 D4 _ = H13
        have s13 : Same H12 H13 := hH13 ▸ same_upd n4
        have hD4 := (congrFun hH13 D4).symm.trans upd_same
        rw [hi] at hD4
        rw [cutV_drop (by omega) (by omega), show ((i : Int) + 1).toNat = i + 1 by omega] at hD4
        have hdr := (hB12.same s13).dropL (i + 1) hD4
        have hcat13 := hcat.same s13
        have hD3b := s13 _ _ hD3
        have hz2 : ((as.take i).map V.ref ++ [t].map V.ref).length + ((as.map V.ref).drop (i + 1)).length ≤ sizeLine := len_le (Nat.ble_eq_true_of_le (by rw [List.length_append, List.length_map, List.length_take, List.length_drop, List.length_map]; show _ + 1 + _ ≤ 1000; omega))
        walk_at "st"
        intro D5 n5
        generalize hH14 : upd H13 D5 _ = H14
        have s14 : Same H13 H14 := hH14 ▸ same_upd n5
        have hD5 : H14 D5 = some (.lst ((as.take i ++ [t]).map V.ref ++ (as.drop (i + 1)).map V.ref)) := (congrFun hH14 D5).symm.trans (upd_same.trans (by rw [List.map_append, List.map_drop]))
        have hbadT := (hcat13.same s14).cat (hdr.same s14) hD5
        have s814 := ((((s9.trans s10).trans s11).trans s12).trans s13).trans s14
        have hset : os.take i ++ [o'] ++ os.drop (i + 1) = os.set i o' := by
          rw [List.set_eq_take_append_cons_drop, if_pos hil, List.append_assoc]
          rfl
        rw [hset] at hbadT
        have hnb : ∀ (j : Nat) (x : Ord30), (os.set i o')[j]? = some x → x.n = (j : Int) + 1 := fun j x hx => by
          rw [List.getElem?_set] at hx
          split at hx
          · rename_i hij
            subst hij
            rw [← Option.some.inj hx, hn']
            exact hn i o (by rw [List.getElem?_eq_getElem hil, hoi])
          · exact hn j x hx
        walk_at "st"
        refine ⟨(), D5, _, os.set i o', 100, rfl, hbadT, by rw [List.length_set]; exact hol, nums_of hnb, t8.ext s814, fun _ H15 c4 e15 t15 _ h4 => ?_⟩
        have z4 := h4 fun g => hbad (g.1 o' (List.mem_set hil o'))
        walk_at "st"
        rw [z4, decide_eq_true rfl]
        exact q _

end
set_option maxHeartbeats 0 in
theorem all_mk {l : PySem.W.OpenLaw} {w : World} {K : PySem.W.Frag} {h : Heap} {mg : Str → Option Value} {fa f1 f2 f3 f4 f5 f6 f7 f8 f9 f10 f11 f12 f13 f14 f15 f16 f17 f18 f19 f20 : Addr} (X : K.In h) (G : h.Ns mainGlobals mg) (hfa : mg "law" = some (.ref fa))
    {cq15 pq15 : Addr} {ocq15 : Value} {odq15 : Option Addr} {slq15 : Array (Option Value)} {vq15 : Array Value}
    {cq14 pq14 : Addr} {ocq14 : Value} {odq14 : Option Addr} {slq14 : Array (Option Value)} {vq14 : Array Value}
    {c_BourseError c_InvalidOrder : Addr}
    {od1 an1 od2 an2 od3 an3 od4 an4 od5 an5 od6 an6 od7 an7 od8 an8 od9 an9 od10 an10 od11 an11 od12 an12 od13 an13 od14 an14 od15 an15 od16 an16 od17 an17 od18 an18 od19 an19 od20 an20 : Option Addr} {sl1 sl2 sl3 sl4 sl5 sl6 sl7 sl8 sl9 sl10 sl11 sl12 sl13 sl14 sl15 sl16 sl17 sl18 sl19 sl20 : Array (Option Value)} {oc1 kV1 dc1 pm1 cd1 ct1 oc2 kV2 dc2 pm2 cd2 ct2 oc3 kV3 dc3 pm3 cd3 ct3 oc4 kV4 dc4 pm4 cd4 ct4 oc5 kV5 dc5 pm5 cd5 ct5 oc6 kV6 dc6 pm6 cd6 ct6 oc7 kV7 dc7 pm7 cd7 ct7 oc8 kV8 dc8 pm8 cd8 ct8 oc9 kV9 dc9 pm9 cd9 ct9 oc10 kV10 dc10 pm10 cd10 ct10 oc11 kV11 dc11 pm11 cd11 ct11 oc12 kV12 dc12 pm12 cd12 ct12 oc13 kV13 dc13 pm13 cd13 ct13 oc14 kV14 dc14 pm14 ct14 oc15 kV15 dc15 pm15 ct15 oc16 kV16 dc16 pm16 cd16 ct16 oc17 kV17 dc17 pm17 cd17 ct17 oc18 kV18 dc18 pm18 cd18 ct18 oc19 kV19 dc19 pm19 cd19 ct19 oc20 kV20 dc20 pm20 cd20 ct20 : Value}
    (a1 : PySem.W.nsIn K mainGlobals "pair_off" = some (some (.ref f1)))
    (l1 : K.lookup f1 = some ⟨oc1, od1, .func (PySem.W.fnOf "pair_off" "pair_off" (defArgs s_pair_off) (defBody s_pair_off) (defScope s_pair_off) .none kV1 dc1 pm1 an1 cd1 ct1), sl1⟩) (c1 : PySem.W.codeIn K cd1 "pair_off" = true) (k1 : PySem.W.keepIn K (.ref f1) = true)
    (a2 : PySem.W.nsIn K mainGlobals "is_integral" = some (some (.ref f2)))
    (l2 : K.lookup f2 = some ⟨oc2, od2, .func (PySem.W.fnOf "is_integral" "is_integral" (defArgs s_is_integral) (defBody s_is_integral) (defScope s_is_integral) .none kV2 dc2 pm2 an2 cd2 ct2), sl2⟩) (c2 : PySem.W.codeIn K cd2 "is_integral" = true) (k2 : PySem.W.keepIn K (.ref f2) = true)
    (a3 : PySem.W.nsIn K mainGlobals "is_within" = some (some (.ref f3)))
    (l3 : K.lookup f3 = some ⟨oc3, od3, .func (PySem.W.fnOf "is_within" "is_within" (defArgs s_is_within) (defBody s_is_within) (defScope s_is_within) .none kV3 dc3 pm3 an3 cd3 ct3), sl3⟩) (c3 : PySem.W.codeIn K cd3 "is_within" = true) (k3 : PySem.W.keepIn K (.ref f3) = true)
    (a4 : PySem.W.nsIn K mainGlobals "accepts" = some (some (.ref f4)))
    (l4 : K.lookup f4 = some ⟨oc4, od4, .func (PySem.W.fnOf "accepts" "accepts" (defArgs s_accepts) (defBody s_accepts) (defScope s_accepts) .none kV4 dc4 pm4 an4 cd4 ct4), sl4⟩) (c4 : PySem.W.codeIn K cd4 "accepts" = true) (k4 : PySem.W.keepIn K (.ref f4) = true)
    (a5 : PySem.W.nsIn K mainGlobals "check_side" = some (some (.ref f5)))
    (l5 : K.lookup f5 = some ⟨oc5, od5, .func (PySem.W.fnOf "check_side" "check_side" (defArgs s_check_side) (defBody s_check_side) (defScope s_check_side) .none kV5 dc5 pm5 an5 cd5 ct5), sl5⟩) (c5 : PySem.W.codeIn K cd5 "check_side" = true) (k5 : PySem.W.keepIn K (.ref f5) = true)
    (a6 : PySem.W.nsIn K mainGlobals "check_number" = some (some (.ref f6)))
    (l6 : K.lookup f6 = some ⟨oc6, od6, .func (PySem.W.fnOf "check_number" "check_number" (defArgs s_check_number) (defBody s_check_number) (defScope s_check_number) .none kV6 dc6 pm6 an6 cd6 ct6), sl6⟩) (c6 : PySem.W.codeIn K cd6 "check_number" = true) (k6 : PySem.W.keepIn K (.ref f6) = true)
    (a7 : PySem.W.nsIn K mainGlobals "check_price" = some (some (.ref f7)))
    (l7 : K.lookup f7 = some ⟨oc7, od7, .func (PySem.W.fnOf "check_price" "check_price" (defArgs s_check_price) (defBody s_check_price) (defScope s_check_price) .none kV7 dc7 pm7 an7 cd7 ct7), sl7⟩) (c7 : PySem.W.codeIn K cd7 "check_price" = true) (k7 : PySem.W.keepIn K (.ref f7) = true)
    (a8 : PySem.W.nsIn K mainGlobals "check_quantity" = some (some (.ref f8)))
    (l8 : K.lookup f8 = some ⟨oc8, od8, .func (PySem.W.fnOf "check_quantity" "check_quantity" (defArgs s_check_quantity) (defBody s_check_quantity) (defScope s_check_quantity) .none kV8 dc8 pm8 an8 cd8 ct8), sl8⟩) (c8 : PySem.W.codeIn K cd8 "check_quantity" = true) (k8 : PySem.W.keepIn K (.ref f8) = true)
    (a9 : PySem.W.nsIn K mainGlobals "call_price" = some (some (.ref f9)))
    (l9 : K.lookup f9 = some ⟨oc9, od9, .func (PySem.W.fnOf "call_price" "call_price" (defArgs s_call_price) (defBody s_call_price) (defScope s_call_price) .none kV9 dc9 pm9 an9 cd9 ct9), sl9⟩) (c9 : PySem.W.codeIn K cd9 "call_price" = true) (k9 : PySem.W.keepIn K (.ref f9) = true)
    (a10 : PySem.W.nsIn K mainGlobals "uncross" = some (some (.ref f10)))
    (l10 : K.lookup f10 = some ⟨oc10, od10, .func (PySem.W.fnOf "uncross" "uncross" (defArgs s_uncross) (defBody s_uncross) (defScope s_uncross) .none kV10 dc10 pm10 an10 cd10 ct10), sl10⟩) (c10 : PySem.W.codeIn K cd10 "uncross" = true) (k10 : PySem.W.keepIn K (.ref f10) = true)
    (a11 : PySem.W.nsIn K mainGlobals "_check_call" = some (some (.ref f11)))
    (l11 : K.lookup f11 = some ⟨oc11, od11, .func (PySem.W.fnOf "_check_call" "_check_call" (defArgs s_check_call) (defBody s_check_call) (defScope s_check_call) .none kV11 dc11 pm11 an11 cd11 ct11), sl11⟩) (c11 : PySem.W.codeIn K cd11 "_check_call" = true) (k11 : PySem.W.keepIn K (.ref f11) = true)
    (a12 : PySem.W.nsIn K mainGlobals "_candidates" = some (some (.ref f12)))
    (l12 : K.lookup f12 = some ⟨oc12, od12, .func (PySem.W.fnOf "_candidates" "_candidates" (defArgs s_candidates) (defBody s_candidates) (defScope s_candidates) .none kV12 dc12 pm12 an12 cd12 ct12), sl12⟩) (c12 : PySem.W.codeIn K cd12 "_candidates" = true) (k12 : PySem.W.keepIn K (.ref f12) = true)
    (a13 : PySem.W.nsIn K mainGlobals "_rank" = some (some (.ref f13)))
    (l13 : K.lookup f13 = some ⟨oc13, od13, .func (PySem.W.fnOf "_rank" "_rank" (defArgs s_rank) (defBody s_rank) (defScope s_rank) .none kV13 dc13 pm13 an13 cd13 ct13), sl13⟩) (c13 : PySem.W.codeIn K cd13 "_rank" = true) (k13 : PySem.W.keepIn K (.ref f13) = true)
    (a14 : PySem.W.nsIn K mainGlobals "_ranked" = some (some (.ref f14)))
    (l14 : K.lookup f14 = some ⟨oc14, od14, .func (PySem.W.fnOf "_ranked" "_ranked" (defArgs s_ranked) (defBody s_ranked) (defScope s_ranked) .none kV14 dc14 pm14 an14 (.ref cq14) ct14), sl14⟩) (c14 : PySem.W.codeIn K (.ref cq14) "_ranked" = true) (k14 : PySem.W.keepIn K (.ref f14) = true)
    (a15 : PySem.W.nsIn K mainGlobals "_interests" = some (some (.ref f15)))
    (l15 : K.lookup f15 = some ⟨oc15, od15, .func (PySem.W.fnOf "_interests" "_interests" (defArgs s_interests) (defBody s_interests) (defScope s_interests) .none kV15 dc15 pm15 an15 (.ref cq15) ct15), sl15⟩) (c15 : PySem.W.codeIn K (.ref cq15) "_interests" = true) (k15 : PySem.W.keepIn K (.ref f15) = true)
    (a16 : PySem.W.nsIn K mainGlobals "_served" = some (some (.ref f16)))
    (l16 : K.lookup f16 = some ⟨oc16, od16, .func (PySem.W.fnOf "_served" "_served" (defArgs s_served) (defBody s_served) (defScope s_served) .none kV16 dc16 pm16 an16 cd16 ct16), sl16⟩) (c16 : PySem.W.codeIn K cd16 "_served" = true) (k16 : PySem.W.keepIn K (.ref f16) = true)
    (a17 : PySem.W.nsIn K mainGlobals "_left" = some (some (.ref f17)))
    (l17 : K.lookup f17 = some ⟨oc17, od17, .func (PySem.W.fnOf "_left" "_left" (defArgs s_left) (defBody s_left) (defScope s_left) .none kV17 dc17 pm17 an17 cd17 ct17), sl17⟩) (c17 : PySem.W.codeIn K cd17 "_left" = true) (k17 : PySem.W.keepIn K (.ref f17) = true)
    (a18 : PySem.W.nsIn K mainGlobals "_law_raises" = some (some (.ref f18)))
    (l18 : K.lookup f18 = some ⟨oc18, od18, .func (PySem.W.fnOf "_law_raises" "_law_raises" (defArgs s_law_raises) (defBody s_law_raises) (defScope s_law_raises) .none kV18 dc18 pm18 an18 cd18 ct18), sl18⟩) (c18 : PySem.W.codeIn K cd18 "_law_raises" = true) (k18 : PySem.W.keepIn K (.ref f18) = true)
    (a19 : PySem.W.nsIn K mainGlobals "_law_spoil" = some (some (.ref f19)))
    (l19 : K.lookup f19 = some ⟨oc19, od19, .func (PySem.W.fnOf "_law_spoil" "_law_spoil" (defArgs s_law_spoil) (defBody s_law_spoil) (defScope s_law_spoil) .none kV19 dc19 pm19 an19 cd19 ct19), sl19⟩) (c19 : PySem.W.codeIn K cd19 "_law_spoil" = true) (k19 : PySem.W.keepIn K (.ref f19) = true)
    (a20 : PySem.W.nsIn K mainGlobals "law" = some (some (.ref f20)))
    (l20 : K.lookup f20 = some ⟨oc20, od20, .func (PySem.W.fnOf "law" "law" (defArgs s_law) (defBody s_law) (defScope s_law) .none kV20 dc20 pm20 an20 cd20 ct20), sl20⟩) (c20 : PySem.W.codeIn K cd20 "law" = true) (k20 : PySem.W.keepIn K (.ref f20) = true)
    (z_abs : PySem.W.nsIn K mainGlobals "abs" = some none)
    (z_bool : PySem.W.nsIn K mainGlobals "bool" = some none)
    (z_enumerate : PySem.W.nsIn K mainGlobals "enumerate" = some none)
    (z_int : PySem.W.nsIn K mainGlobals "int" = some none)
    (z_isinstance : PySem.W.nsIn K mainGlobals "isinstance" = some none)
    (z_len : PySem.W.nsIn K mainGlobals "len" = some none)
    (z_list : PySem.W.nsIn K mainGlobals "list" = some none)
    (z_max : PySem.W.nsIn K mainGlobals "max" = some none)
    (z_min : PySem.W.nsIn K mainGlobals "min" = some none)
    (z_set : PySem.W.nsIn K mainGlobals "set" = some none)
    (z_sorted : PySem.W.nsIn K mainGlobals "sorted" = some none)
    {t_MOST : Tok}
    (v_MOST : PySem.W.nsIn K mainGlobals "MOST" = some (some (.int 1000000 t_MOST)))
    {ac_SIDES : Addr} {oc_SIDES : Option Addr} {sc'_SIDES : Array (Option Value)} {nc_SIDES : Nat} {tc_SIDES_0 tc_SIDES_1 : Tok}
    (v_SIDES : PySem.W.nsIn K mainGlobals "SIDES" = some (some (.ref ac_SIDES))) (lc_SIDES : K.lookup ac_SIDES = some ⟨.type "tuple", oc_SIDES, .seq #[.str "buy" tc_SIDES_0, .str "sell" tc_SIDES_1] nc_SIDES, sc'_SIDES⟩)
    (g_BourseError : PySem.W.nsIn K mainGlobals "BourseError" = some (some (.ref c_BourseError)))
    (g_InvalidOrder : PySem.W.nsIn K mainGlobals "InvalidOrder" = some (some (.ref c_InvalidOrder)))
    (x_InvalidOrder : PySem.W.excIn K c_InvalidOrder [.type "ValueError", .type "Exception", .type "BaseException", .type "object"] "ValueError.__new__" = true)
    (k_InvalidOrder : PySem.W.keepIn K (.ref c_InvalidOrder) = true)
    (b_InvalidOrder : PySem.W.subIn K (.ref c_InvalidOrder) (.type "BaseException") = some true)
    (t_InvalidOrder : PySem.W.typeIn K (.ref c_InvalidOrder) = some (.type "type"))
    (d_InvalidOrder : PySem.W.hasDictIn K c_InvalidOrder = true)
    (s_InvalidOrder : PySem.W.subIn K (.ref c_InvalidOrder) (.ref c_InvalidOrder) = some true)
    (eg_InvalidOrder : PySem.W.findIn K (.ref c_InvalidOrder) "__getattribute__" = some (some (.builtin "BaseException.__getattribute__")))
    (ek_InvalidOrder : PySem.W.findIn K (.ref c_InvalidOrder) "__getattr__" = some none)
    (ea_InvalidOrder : PySem.W.findIn K (.ref c_InvalidOrder) "__class__" = some (some (.builtin "object.__class__")))
    (en_InvalidOrder : PySem.W.specialIn K (.builtin "object.__class__") "__get__" = some (some (.builtin "getset_descriptor.__get__")))
    (et_InvalidOrder : PySem.W.takesIn K (.builtin "object.__class__") = some true)
    (em_InvalidOrder : PySem.W.mroIn K c_InvalidOrder (.type "object") = some true)
    (kt_InvalidOrder_BourseError : PySem.W.kitOne K (.ref c_InvalidOrder) (.ref c_BourseError) = some true)
    (lq14 : K.lookup cq14 = some ⟨ocq14, odq14, .fields vq14, slq14⟩) (vp14 : (vq14[11]? : Option Value) = some (.ref pq14)) (nk14 : K.lookup pq14 = none)
    (tq14 : PySem.W.CodeHd h cq14 pq14 ∧ h.get? pq14 = some { cls := .none, data := .fields #[] })
    (lq15 : K.lookup cq15 = some ⟨ocq15, odq15, .fields vq15, slq15⟩) (vp15 : (vq15[11]? : Option Value) = some (.ref pq15)) (nk15 : K.lookup pq15 = none)
    (tq15 : PySem.W.CodeHd h cq15 pq15 ∧ h.get? pq15 = some { cls := .none, data := .fields #[] })
    (nq14_15 : pq14 ≠ pq15) :
    LamX.LawAtS l w K CX0 10 63 "script" mg fa h := by
  have e := hfa.symm.trans (PySem.W.mg_of X G a20)
  cases e
  have F1 := fun_mk (st := s_pair_off) l1 c1 k1
  have b1 := F1.binds (ps := ["givers", "takers"]) fun _ _ _ _ _ _ us hl => match us, hl with | [_, _], _ => rfl
  have F2 := fun_mk (st := s_is_integral) l2 c2 k2
  have b2 := F2.binds (ps := ["value"]) fun _ _ _ _ _ _ us hl => match us, hl with | [_], _ => rfl
  have F3 := fun_mk (st := s_is_within) l3 c3 k3
  have b3 := F3.binds (ps := ["least", "most", "value"]) fun _ _ _ _ _ _ us hl => match us, hl with | [_, _, _], _ => rfl
  have F4 := fun_mk (st := s_accepts) l4 c4 k4
  have b4 := F4.binds (ps := ["side", "limit", "price"]) fun _ _ _ _ _ _ us hl => match us, hl with | [_, _, _], _ => rfl
  have F5 := fun_mk (st := s_check_side) l5 c5 k5
  have b5 := F5.binds (ps := ["side"]) fun _ _ _ _ _ _ us hl => match us, hl with | [_], _ => rfl
  have F6 := fun_mk (st := s_check_number) l6 c6 k6
  have b6 := F6.binds (ps := ["number", "least", "most"]) fun _ _ _ _ _ _ us hl => match us, hl with | [_, _, _], _ => rfl
  have F7 := fun_mk (st := s_check_price) l7 c7 k7
  have b7 := F7.binds (ps := ["price"]) fun _ _ _ _ _ _ us hl => match us, hl with | [_], _ => rfl
  have F8 := fun_mk (st := s_check_quantity) l8 c8 k8
  have b8 := F8.binds (ps := ["quantity"]) fun _ _ _ _ _ _ us hl => match us, hl with | [_], _ => rfl
  have F9 := fun_mk (st := s_call_price) l9 c9 k9
  have b9 := F9.binds (ps := ["orders", "reference"]) fun _ _ _ _ _ _ us hl => match us, hl with | [_, _], _ => rfl
  have F10 := fun_mk (st := s_uncross) l10 c10 k10
  have b10 := F10.binds (ps := ["orders", "reference"]) fun _ _ _ _ _ _ us hl => match us, hl with | [_, _], _ => rfl
  have F11 := fun_mk (st := s_check_call) l11 c11 k11
  have b11 := F11.binds (ps := ["orders", "reference"]) fun _ _ _ _ _ _ us hl => match us, hl with | [_, _], _ => rfl
  have F12 := fun_mk (st := s_candidates) l12 c12 k12
  have b12 := F12.binds (ps := ["orders", "reference"]) fun _ _ _ _ _ _ us hl => match us, hl with | [_, _], _ => rfl
  have F13 := fun_mk (st := s_rank) l13 c13 k13
  have b13 := F13.binds (ps := ["side", "price"]) fun _ _ _ _ _ _ us hl => match us, hl with | [_, _], _ => rfl
  have F14 := fun_mk (st := s_ranked) l14 c14 k14
  have b14 := F14.binds (ps := ["orders", "side"]) fun _ _ _ _ _ _ us hl => match us, hl with | [_, _], _ => rfl
  have F15 := fun_mk (st := s_interests) l15 c15 k15
  have b15 := F15.binds (ps := ["orders", "side", "prices"]) fun _ _ _ _ _ _ us hl => match us, hl with | [_, _, _], _ => rfl
  have F16 := fun_mk (st := s_served) l16 c16 k16
  have b16 := F16.binds (ps := ["orders", "side", "volume"]) fun _ _ _ _ _ _ us hl => match us, hl with | [_, _, _], _ => rfl
  have F17 := fun_mk (st := s_left) l17 c17 k17
  have b17 := F17.binds (ps := ["orders", "traded"]) fun _ _ _ _ _ _ us hl => match us, hl with | [_, _], _ => rfl
  have F18 := fun_mk (st := s_law_raises) l18 c18 k18
  have b18 := F18.binds (ps := ["orders", "reference"]) fun _ _ _ _ _ _ us hl => match us, hl with | [_, _], _ => rfl
  have F19 := fun_mk (st := s_law_spoil) l19 c19 k19
  have b19 := F19.binds (ps := ["order", "cell"]) fun _ _ _ _ _ _ us hl => match us, hl with | [_, _], _ => rfl
  have F20 := fun_mk (st := s_law) l20 c20 k20
  have b20 := F20.binds (ps := ["script"]) fun _ _ _ _ _ _ us hl => match us, hl with | [_], _ => rfl
  obtain ⟨T, e14, g14, e15, g15⟩ : ∃ T : Txt K mg, T.cq_ranked = cq14 ∧ T.pq_ranked = pq14 ∧ T.cq_interests = cq15 ∧ T.pq_interests = pq15 := ⟨⟨f1, _, F1, PySem.W.mg_of X G a1, b1, f2, _, F2, PySem.W.mg_of X G a2, b2, f3, _, F3, PySem.W.mg_of X G a3, b3, f4, _, F4, PySem.W.mg_of X G a4, b4, f5, _, F5, PySem.W.mg_of X G a5, b5, f6, _, F6, PySem.W.mg_of X G a6, b6, f7, _, F7, PySem.W.mg_of X G a7, b7, f8, _, F8, PySem.W.mg_of X G a8, b8, f9, _, F9, PySem.W.mg_of X G a9, b9, f10, _, F10, PySem.W.mg_of X G a10, b10, f11, _, F11, PySem.W.mg_of X G a11, b11, f12, _, F12, PySem.W.mg_of X G a12, b12, f13, _, F13, PySem.W.mg_of X G a13, b13, f14, _, F14, PySem.W.mg_of X G a14, b14, f15, _, F15, PySem.W.mg_of X G a15, b15, f16, _, F16, PySem.W.mg_of X G a16, b16, f17, _, F17, PySem.W.mg_of X G a17, b17, f18, _, F18, PySem.W.mg_of X G a18, b18, f19, _, F19, PySem.W.mg_of X G a19, b19, c_BourseError, PySem.W.mg_of X G g_BourseError, c_InvalidOrder, PySem.W.mg_of X G g_InvalidOrder, x_InvalidOrder, k_InvalidOrder, b_InvalidOrder, t_InvalidOrder, d_InvalidOrder, s_InvalidOrder, eg_InvalidOrder, ek_InvalidOrder, ea_InvalidOrder, en_InvalidOrder, et_InvalidOrder, em_InvalidOrder, ⟨eg_InvalidOrder, ek_InvalidOrder, b_InvalidOrder, d_InvalidOrder, ea_InvalidOrder, en_InvalidOrder, et_InvalidOrder, em_InvalidOrder⟩, kt_InvalidOrder_BourseError, PySem.W.mg_none_of X G z_abs, PySem.W.mg_none_of X G z_bool, PySem.W.mg_none_of X G z_enumerate, PySem.W.mg_none_of X G z_int, PySem.W.mg_none_of X G z_isinstance, PySem.W.mg_none_of X G z_len, PySem.W.mg_none_of X G z_list, PySem.W.mg_none_of X G z_max, PySem.W.mg_none_of X G z_min, PySem.W.mg_none_of X G z_set, PySem.W.mg_none_of X G z_sorted, ac_SIDES, PySem.W.mg_of X G v_SIDES, (fun H => .inr ⟨_, _, _, lc_SIDES, rfl, rfl, (show 2 ≤ sizeLine from len_le rfl), .cons ⟨_, rfl⟩ (.cons ⟨_, rfl⟩ (.nil))⟩), t_MOST, PySem.W.mg_of X G v_MOST, cq14, pq14, rfl, cq15, pq15, rfl, nq14_15⟩, rfl, rfl, rfl, rfl⟩
  have hcs : ∀ {R : Addr × Addr → Prop}, R (cq14, pq14) → R (cq15, pq15) → ∀ p ∈ [(cq14, pq14), (cq15, pq15)], R p := fun r14 r15 p hp => by
    rcases List.mem_cons.mp hp with e | hp
    · rw [e]; exact r14
    rcases List.mem_cons.mp hp with e | hp
    · rw [e]; exact r15
    exact absurd hp List.not_mem_nil
  refine ⟨PySem.W.fnOf "law" "law" (defArgs s_law) (defBody s_law) (defScope s_law) .none kV20 dc20 pm20 an20 cd20 ct20, [(cq14, pq14), (cq15, pq15)], sp_law K (tabsL T), hcs tq14.2 tq15.2, hcs nk14 nk15, hcs tq14.1 tq15.1, fun s v => .of_eq rfl, fun H a ns hl _ hH hS => ⟨a, ns, rfl, hS, hl, fun p hp => ?_, fun _ => rfl⟩, fun base _ _ hB => ?_⟩
  · unfold tabsL at hp
    rcases List.mem_cons.mp hp with e | hp
    · rw [e]
      exact LamX.TabS.nil (by rw [g14]; exact hH (cq14, pq14) List.mem_cons_self)
    rcases List.mem_cons.mp hp with e | hp
    · rw [e]
      exact LamX.TabS.nil (by rw [g15]; exact hH (cq15, pq15) (List.mem_cons_of_mem _ List.mem_cons_self))
    exact absurd hp List.not_mem_nil
  · haveI TB : TabsOk T base := ⟨by rw [e14, g14]; exact hB (cq14, pq14) List.mem_cons_self, by rw [e15, g15]; exact hB (cq15, pq15) (List.mem_cons_of_mem _ List.mem_cons_self)⟩
    exact ok_law T F20
end FB
open PySem PySem.W PyProof.Rows
set_option maxRecDepth 100000 in
set_option maxHeartbeats 0 in
theorem PySem.Challenge.cw_fairbourse_k34_errors_of_a_call_holds : PySem.Challenge.rw_fairbourse_k34_errors_of_a_call.Holds := by
  w_on; o_law; k_head; (case hw => w_witness2)
  k_fill
  refine LamX.walk_ofTs (l := PySem.Challenge.rw_fairbourse_k34_errors_of_a_call) (n := 63) (k := 10) (x := "script") (CX := fun _ => L2.CX0) rfl (by decide) rfl ⟨rfl, by decide, by decide⟩ (fun w h Y => PySem.W.km_in_of Y) ?F (fun _ _ _ _ _ h => h)
  case F =>
    intro w mg fa h Y KX G hmg
    refine' FB.all_mk KX G hmg ?a1 ?l1 ?c1 ?k1 ?a2 ?l2 ?c2 ?k2 ?a3 ?l3 ?c3 ?k3 ?a4 ?l4 ?c4 ?k4 ?a5 ?l5 ?c5 ?k5 ?a6 ?l6 ?c6 ?k6 ?a7 ?l7 ?c7 ?k7 ?a8 ?l8 ?c8 ?k8 ?a9 ?l9 ?c9 ?k9 ?a10 ?l10 ?c10 ?k10 ?a11 ?l11 ?c11 ?k11 ?a12 ?l12 ?c12 ?k12 ?a13 ?l13 ?c13 ?k13 ?a14 ?l14 ?c14 ?k14 ?a15 ?l15 ?c15 ?k15 ?a16 ?l16 ?c16 ?k16 ?a17 ?l17 ?c17 ?k17 ?a18 ?l18 ?c18 ?k18 ?a19 ?l19 ?c19 ?k19 ?a20 ?l20 ?c20 ?k20 ?z_abs ?z_bool ?z_enumerate ?z_int ?z_isinstance ?z_len ?z_list ?z_max ?z_min ?z_set ?z_sorted ?v_MOST ?v_SIDES ?lc_SIDES ?g_BourseError ?g_InvalidOrder ?x_InvalidOrder ?k_InvalidOrder ?b_InvalidOrder ?t_InvalidOrder ?d_InvalidOrder ?s_InvalidOrder ?eg_InvalidOrder ?ek_InvalidOrder ?ea_InvalidOrder ?en_InvalidOrder ?et_InvalidOrder ?em_InvalidOrder ?kt_InvalidOrder_BourseError ?lq14 ?vp14 ?nk14 ?tq14 ?lq15 ?vp15 ?nk15 ?tq15 ?nq14_15
    (case g_BourseError => k_is)
    (case g_InvalidOrder => k_is)
    (case a1 => k_is)
    (case l1 => k_is)
    (case c1 => k_is)
    (case k1 => k_is)
    (case a2 => k_is)
    (case l2 => k_is)
    (case c2 => k_is)
    (case k2 => k_is)
    (case a3 => k_is)
    (case l3 => k_is)
    (case c3 => k_is)
    (case k3 => k_is)
    (case a4 => k_is)
    (case l4 => k_is)
    (case c4 => k_is)
    (case k4 => k_is)
    (case a5 => k_is)
    (case l5 => k_is)
    (case c5 => k_is)
    (case k5 => k_is)
    (case a6 => k_is)
    (case l6 => k_is)
    (case c6 => k_is)
    (case k6 => k_is)
    (case a7 => k_is)
    (case l7 => k_is)
    (case c7 => k_is)
    (case k7 => k_is)
    (case a8 => k_is)
    (case l8 => k_is)
    (case c8 => k_is)
    (case k8 => k_is)
    (case a9 => k_is)
    (case l9 => k_is)
    (case c9 => k_is)
    (case k9 => k_is)
    (case a10 => k_is)
    (case l10 => k_is)
    (case c10 => k_is)
    (case k10 => k_is)
    (case a11 => k_is)
    (case l11 => k_is)
    (case c11 => k_is)
    (case k11 => k_is)
    (case a12 => k_is)
    (case l12 => k_is)
    (case c12 => k_is)
    (case k12 => k_is)
    (case a13 => k_is)
    (case l13 => k_is)
    (case c13 => k_is)
    (case k13 => k_is)
    (case a14 => k_is)
    (case l14 => k_is)
    (case c14 => k_is)
    (case k14 => k_is)
    (case a15 => k_is)
    (case l15 => k_is)
    (case c15 => k_is)
    (case k15 => k_is)
    (case a16 => k_is)
    (case l16 => k_is)
    (case c16 => k_is)
    (case k16 => k_is)
    (case a17 => k_is)
    (case l17 => k_is)
    (case c17 => k_is)
    (case k17 => k_is)
    (case a18 => k_is)
    (case l18 => k_is)
    (case c18 => k_is)
    (case k18 => k_is)
    (case a19 => k_is)
    (case l19 => k_is)
    (case c19 => k_is)
    (case k19 => k_is)
    (case a20 => k_is)
    (case l20 => k_is)
    (case c20 => k_is)
    (case k20 => k_is)
    (case z_abs => k_is)
    (case z_bool => k_is)
    (case z_enumerate => k_is)
    (case z_int => k_is)
    (case z_isinstance => k_is)
    (case z_len => k_is)
    (case z_list => k_is)
    (case z_max => k_is)
    (case z_min => k_is)
    (case z_set => k_is)
    (case z_sorted => k_is)
    (case v_MOST => k_is)
    (case v_SIDES => k_is)
    (case lc_SIDES => k_is)
    (case x_InvalidOrder => k_exc)
    (case k_InvalidOrder => k_is)
    (case b_InvalidOrder => k_is)
    (case t_InvalidOrder => k_is)
    (case d_InvalidOrder => k_is)
    (case s_InvalidOrder => first | rfl | k_is)
    (case eg_InvalidOrder => k_is)
    (case ek_InvalidOrder => k_is)
    (case ea_InvalidOrder => k_is)
    (case en_InvalidOrder => k_is)
    (case et_InvalidOrder => k_is)
    (case em_InvalidOrder => k_is)
    (case kt_InvalidOrder_BourseError => kit_is)
    (case lq14 => k_is)
    (case vp14 => rfl)
    (case nk14 => first | rfl | k_is)
    (case tq14 => exact ⟨PySem.W.codeHd_of_K KX (by kernel_rfl), PySem.W.km_tabs_of Y _ (by k_mem)⟩)
    (case lq15 => k_is)
    (case vp15 => rfl)
    (case nk15 => first | rfl | k_is)
    (case tq15 => exact ⟨PySem.W.codeHd_of_K KX (by kernel_rfl), PySem.W.km_tabs_of Y _ (by k_mem)⟩)
    (case nq14_15 => decide)
