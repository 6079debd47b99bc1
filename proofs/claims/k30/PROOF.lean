import PyProof.Rows.All
import Wide.All
import OpenK.AllK
import Wide.FinOn
import HandS.ForMost
import HandS.ForExc
import HandS.Defaults
import HandS.IsInst
import HandS.Wide
import HandS.Codes
import HandS.Walk
import HandS.SetFor
import HandS.More
import HandS.Conv
import KE.DataFind
import HandS.ExcIs
import HandS.MakeKwOnly
import HandS.CallSlots
import HandS.Lambda
import HandS.EndTab
import HandS.SetFor
import HandS.Strs
import PyProof.Rows.SetFrom
import KE.DataMinMax
import HandS.Deep
import HandS.SortKw
import KE.SortKeyHeap
import PySem.Challenge.RW_fairbourse_k30_call_price_is_the_best
set_option Elab.async false
set_option linter.all false
set_option maxRecDepth 100000
namespace FB
open PySem PySem.Spec PyProof.Rows L2
def topS (i : Nat) : Stmt := PySem.Challenge.pw_fairbourse_k30_call_price_is_the_best.main.body.getD i (.Pass ⟨0, 0, 0, 0⟩)
abbrev s_is_integral : Stmt := topS 4
abbrev N_is_integral : List Str := ["value"]
theorem sc_is_integral : FnScope N_is_integral ["value"] (defScope s_is_integral) := ⟨rfl, rfl, rfl, by decide +kernel, rfl, by decide +kernel, by decide +kernel⟩
abbrev s_is_within : Stmt := topS 5
abbrev N_is_within : List Str := ["least", "most", "value"]
theorem sc_is_within : FnScope N_is_within ["least", "most", "value"] (defScope s_is_within) := ⟨rfl, rfl, rfl, by decide +kernel, rfl, by decide +kernel, by decide +kernel⟩
abbrev s_accepts : Stmt := topS 9
abbrev N_accepts : List Str := ["side", "limit", "price"]
theorem sc_accepts : FnScope N_accepts ["side", "limit", "price"] (defScope s_accepts) := ⟨rfl, rfl, rfl, by decide +kernel, rfl, by decide +kernel, by decide +kernel⟩
abbrev s_check_side : Stmt := topS 10
abbrev N_check_side : List Str := ["side"]
theorem sc_check_side : FnScope N_check_side ["side"] (defScope s_check_side) := ⟨rfl, rfl, rfl, by decide +kernel, rfl, by decide +kernel, by decide +kernel⟩
abbrev s_check_number : Stmt := topS 11
abbrev N_check_number : List Str := ["number", "least", "most"]
theorem sc_check_number : FnScope N_check_number ["number", "least", "most"] (defScope s_check_number) := ⟨rfl, rfl, rfl, by decide +kernel, rfl, by decide +kernel, by decide +kernel⟩
abbrev s_check_price : Stmt := topS 12
abbrev N_check_price : List Str := ["price"]
theorem sc_check_price : FnScope N_check_price ["price"] (defScope s_check_price) := ⟨rfl, rfl, rfl, by decide +kernel, rfl, by decide +kernel, by decide +kernel⟩
abbrev s_check_quantity : Stmt := topS 13
abbrev N_check_quantity : List Str := ["quantity"]
theorem sc_check_quantity : FnScope N_check_quantity ["quantity"] (defScope s_check_quantity) := ⟨rfl, rfl, rfl, by decide +kernel, rfl, by decide +kernel, by decide +kernel⟩
abbrev s_call_price : Stmt := topS 15
abbrev N_call_price : List Str := ["orders", "reference", "prices", "bought", "sold", "ranks", "price", "best"]
theorem sc_call_price : FnScope N_call_price ["orders", "reference"] (defScope s_call_price) := ⟨rfl, rfl, rfl, by decide +kernel, rfl, by decide +kernel, by decide +kernel⟩
abbrev s_check_call : Stmt := topS 16
abbrev N_check_call : List Str := ["orders", "reference", "_", "side", "price", "quantity"]
theorem sc_check_call : FnScope N_check_call ["orders", "reference"] (defScope s_check_call) := ⟨rfl, rfl, rfl, by decide +kernel, rfl, by decide +kernel, by decide +kernel⟩
abbrev s_candidates : Stmt := topS 17
abbrev N_candidates : List Str := ["orders", "reference", "limits", "_", "side", "price", "bounds", "beyond", "least", "most"]
theorem sc_candidates : FnScope N_candidates ["orders", "reference"] (defScope s_candidates) := ⟨rfl, rfl, rfl, by decide +kernel, rfl, by decide +kernel, by decide +kernel⟩
abbrev s_rank : Stmt := topS 18
abbrev N_rank : List Str := ["side", "price"]
theorem sc_rank : FnScope N_rank ["side", "price"] (defScope s_rank) := ⟨rfl, rfl, rfl, by decide +kernel, rfl, by decide +kernel, by decide +kernel⟩
abbrev s_ranked : Stmt := topS 19
abbrev N_ranked : List Str := ["orders", "side", "rows", "number", "_", "of_side", "price", "quantity"]
theorem sc_ranked : FnScope N_ranked ["orders", "side"] (defScope s_ranked) := ⟨rfl, rfl, rfl, by decide +kernel, rfl, by decide +kernel, by decide +kernel⟩
abbrev s_interests : Stmt := topS 20
abbrev N_interests : List Str := ["orders", "side", "prices", "ranked", "interests", "interest", "at", "price"]
theorem sc_interests : FnScope N_interests ["orders", "side", "prices"] (defScope s_interests) := ⟨rfl, rfl, rfl, by decide +kernel, rfl, by decide +kernel, by decide +kernel⟩
abbrev s_law_is_integer : Stmt := topS 22
abbrev N_law_is_integer : List Str := ["actual"]
theorem sc_law_is_integer : FnScope N_law_is_integer ["actual"] (defScope s_law_is_integer) := ⟨rfl, rfl, rfl, by decide +kernel, rfl, by decide +kernel, by decide +kernel⟩
abbrev s_law_orders : Stmt := topS 23
abbrev N_law_orders : List Str := ["script", "orders", "k", "cell", "number", "price", "house", "side"]
theorem sc_law_orders : FnScope N_law_orders ["script"] (defScope s_law_orders) := ⟨rfl, rfl, rfl, by decide +kernel, rfl, by decide +kernel, by decide +kernel⟩
abbrev s_law_reference : Stmt := topS 24
abbrev N_law_reference : List Str := ["script"]
theorem sc_law_reference : FnScope N_law_reference ["script"] (defScope s_law_reference) := ⟨rfl, rfl, rfl, by decide +kernel, rfl, by decide +kernel, by decide +kernel⟩
abbrev s_law_accepts : Stmt := topS 25
abbrev N_law_accepts : List Str := ["side", "limit", "price"]
theorem sc_law_accepts : FnScope N_law_accepts ["side", "limit", "price"] (defScope s_law_accepts) := ⟨rfl, rfl, rfl, by decide +kernel, rfl, by decide +kernel, by decide +kernel⟩
abbrev s_law_interest : Stmt := topS 26
abbrev N_law_interest : List Str := ["orders", "side", "price", "order"]
theorem sc_law_interest : FnScope N_law_interest ["orders", "side", "price"] (defScope s_law_interest) := ⟨rfl, rfl, rfl, by decide +kernel, rfl, by decide +kernel, by decide +kernel⟩
abbrev s_law_rank : Stmt := topS 27
abbrev N_law_rank : List Str := ["orders", "reference", "price", "bought", "sold"]
theorem sc_law_rank : FnScope N_law_rank ["orders", "reference", "price"] (defScope s_law_rank) := ⟨rfl, rfl, rfl, by decide +kernel, rfl, by decide +kernel, by decide +kernel⟩
abbrev s_law : Stmt := topS 28
abbrev N_law : List Str := ["script", "orders", "reference", "handed", "actual", "price", "volume", "limits", "order", "best", "other"]
theorem sc_law : FnScope N_law ["script"] (defScope s_law) := ⟨rfl, rfl, rfl, by decide +kernel, rfl, by decide +kernel, by decide +kernel⟩
set_option maxHeartbeats 0 in
structure Txt (K : PySem.W.Frag) (mg : Str → Option Value) where
  f_is_integral : Addr
  d_is_integral : FuncData
  F_is_integral : Fun K "is_integral" "is_integral" s_is_integral f_is_integral d_is_integral
  m_is_integral : mg "is_integral" = some (.ref f_is_integral)
  b_is_integral : Binds K d_is_integral ["value"] []
  f_is_within : Addr
  d_is_within : FuncData
  F_is_within : Fun K "is_within" "is_within" s_is_within f_is_within d_is_within
  m_is_within : mg "is_within" = some (.ref f_is_within)
  b_is_within : Binds K d_is_within ["least", "most", "value"] []
  f_accepts : Addr
  d_accepts : FuncData
  F_accepts : Fun K "accepts" "accepts" s_accepts f_accepts d_accepts
  m_accepts : mg "accepts" = some (.ref f_accepts)
  b_accepts : Binds K d_accepts ["side", "limit", "price"] []
  f_check_side : Addr
  d_check_side : FuncData
  F_check_side : Fun K "check_side" "check_side" s_check_side f_check_side d_check_side
  m_check_side : mg "check_side" = some (.ref f_check_side)
  b_check_side : Binds K d_check_side ["side"] []
  f_check_number : Addr
  d_check_number : FuncData
  F_check_number : Fun K "check_number" "check_number" s_check_number f_check_number d_check_number
  m_check_number : mg "check_number" = some (.ref f_check_number)
  b_check_number : Binds K d_check_number ["number", "least", "most"] []
  f_check_price : Addr
  d_check_price : FuncData
  F_check_price : Fun K "check_price" "check_price" s_check_price f_check_price d_check_price
  m_check_price : mg "check_price" = some (.ref f_check_price)
  b_check_price : Binds K d_check_price ["price"] []
  f_check_quantity : Addr
  d_check_quantity : FuncData
  F_check_quantity : Fun K "check_quantity" "check_quantity" s_check_quantity f_check_quantity d_check_quantity
  m_check_quantity : mg "check_quantity" = some (.ref f_check_quantity)
  b_check_quantity : Binds K d_check_quantity ["quantity"] []
  f_call_price : Addr
  d_call_price : FuncData
  F_call_price : Fun K "call_price" "call_price" s_call_price f_call_price d_call_price
  m_call_price : mg "call_price" = some (.ref f_call_price)
  b_call_price : Binds K d_call_price ["orders", "reference"] []
  f_check_call : Addr
  d_check_call : FuncData
  F_check_call : Fun K "_check_call" "_check_call" s_check_call f_check_call d_check_call
  m_check_call : mg "_check_call" = some (.ref f_check_call)
  b_check_call : Binds K d_check_call ["orders", "reference"] []
  f_candidates : Addr
  d_candidates : FuncData
  F_candidates : Fun K "_candidates" "_candidates" s_candidates f_candidates d_candidates
  m_candidates : mg "_candidates" = some (.ref f_candidates)
  b_candidates : Binds K d_candidates ["orders", "reference"] []
  f_rank : Addr
  d_rank : FuncData
  F_rank : Fun K "_rank" "_rank" s_rank f_rank d_rank
  m_rank : mg "_rank" = some (.ref f_rank)
  b_rank : Binds K d_rank ["side", "price"] []
  f_ranked : Addr
  d_ranked : FuncData
  F_ranked : Fun K "_ranked" "_ranked" s_ranked f_ranked d_ranked
  m_ranked : mg "_ranked" = some (.ref f_ranked)
  b_ranked : Binds K d_ranked ["orders", "side"] []
  f_interests : Addr
  d_interests : FuncData
  F_interests : Fun K "_interests" "_interests" s_interests f_interests d_interests
  m_interests : mg "_interests" = some (.ref f_interests)
  b_interests : Binds K d_interests ["orders", "side", "prices"] []
  f_law_is_integer : Addr
  d_law_is_integer : FuncData
  F_law_is_integer : Fun K "_law_is_integer" "_law_is_integer" s_law_is_integer f_law_is_integer d_law_is_integer
  m_law_is_integer : mg "_law_is_integer" = some (.ref f_law_is_integer)
  b_law_is_integer : Binds K d_law_is_integer ["actual"] []
  f_law_orders : Addr
  d_law_orders : FuncData
  F_law_orders : Fun K "_law_orders" "_law_orders" s_law_orders f_law_orders d_law_orders
  m_law_orders : mg "_law_orders" = some (.ref f_law_orders)
  b_law_orders : Binds K d_law_orders ["script"] []
  f_law_reference : Addr
  d_law_reference : FuncData
  F_law_reference : Fun K "_law_reference" "_law_reference" s_law_reference f_law_reference d_law_reference
  m_law_reference : mg "_law_reference" = some (.ref f_law_reference)
  b_law_reference : Binds K d_law_reference ["script"] []
  f_law_accepts : Addr
  d_law_accepts : FuncData
  F_law_accepts : Fun K "_law_accepts" "_law_accepts" s_law_accepts f_law_accepts d_law_accepts
  m_law_accepts : mg "_law_accepts" = some (.ref f_law_accepts)
  b_law_accepts : Binds K d_law_accepts ["side", "limit", "price"] []
  f_law_interest : Addr
  d_law_interest : FuncData
  F_law_interest : Fun K "_law_interest" "_law_interest" s_law_interest f_law_interest d_law_interest
  m_law_interest : mg "_law_interest" = some (.ref f_law_interest)
  b_law_interest : Binds K d_law_interest ["orders", "side", "price"] []
  f_law_rank : Addr
  d_law_rank : FuncData
  F_law_rank : Fun K "_law_rank" "_law_rank" s_law_rank f_law_rank d_law_rank
  m_law_rank : mg "_law_rank" = some (.ref f_law_rank)
  b_law_rank : Binds K d_law_rank ["orders", "reference", "price"] []
  c_BourseError : Addr
  m_BourseError : mg "BourseError" = some (.ref c_BourseError)
  c_InvalidOrder : Addr
  m_InvalidOrder : mg "InvalidOrder" = some (.ref c_InvalidOrder)
  z_abs : mg "abs" = none
  z_bool : mg "bool" = none
  z_enumerate : mg "enumerate" = none
  z_int : mg "int" = none
  z_isinstance : mg "isinstance" = none
  z_len : mg "len" = none
  z_list : mg "list" = none
  z_max : mg "max" = none
  z_min : mg "min" = none
  z_range : mg "range" = none
  z_set : mg "set" = none
  z_sorted : mg "sorted" = none
  z_sum : mg "sum" = none
  z_tuple : mg "tuple" = none
  c_SIDES : Addr
  m_SIDES : mg "SIDES" = some (.ref c_SIDES)
  q_SIDES : ∀ H : Hp, SqT K H c_SIDES [.str "buy", .str "sell"]
  t_MOST : Tok
  m_MOST : mg "MOST" = some (.int 1000000 t_MOST)
  cq_ranked : Addr
  pq_ranked : Addr
  eq_ranked : d_ranked.code = .ref cq_ranked
  cq_interests : Addr
  pq_interests : Addr
  eq_interests : d_interests.code = .ref cq_interests
  nq_ranked_interests : pq_ranked ≠ pq_interests
/-- the code objects' tables and the names in them -/
def tabsL {K : PySem.W.Frag} {mg : Str → Option Value} (T : Txt K mg) : List (Addr × Str) := [(T.pq_ranked, ("_ranked" : Str) ++ ".<locals>." ++ "<lambda>"), (T.pq_interests, ("_interests" : Str) ++ ".<locals>." ++ "<lambda>")]
class TabsOk {K : PySem.W.Frag} {mg : Str → Option Value} (T : Txt K mg) (base : Heap) : Prop where
  tb_ranked : LamX.TabB base mg T.cq_ranked T.pq_ranked
  tb_interests : LamX.TabB base mg T.cq_interests T.pq_interests
theorem tabsU_ranked {K : PySem.W.Frag} {mg : Str → Option Value} (T : Txt K mg) : ∀ p ∈ tabsL T, p.1 = T.pq_ranked → p.2 = ("_ranked" : Str) ++ ".<locals>." ++ "<lambda>" := by
  intro p hp e
  rcases List.mem_cons.mp hp with z | hp
  · subst z
    exact rfl
  rcases List.mem_cons.mp hp with z | hp
  · subst z
    exact absurd e.symm T.nq_ranked_interests
  exact absurd hp List.not_mem_nil
theorem tabsU_interests {K : PySem.W.Frag} {mg : Str → Option Value} (T : Txt K mg) : ∀ p ∈ tabsL T, p.1 = T.pq_interests → p.2 = ("_interests" : Str) ++ ".<locals>." ++ "<lambda>" := by
  intro p hp e
  rcases List.mem_cons.mp hp with z | hp
  · subst z
    exact absurd e T.nq_ranked_interests
  rcases List.mem_cons.mp hp with z | hp
  · subst z
    exact rfl
  exact absurd hp List.not_mem_nil
/-! ### a lambda with one parameter -/
section
open LamX
/-- the names of a lambda: its one parameter a, captured ones and globals -/
structure LamP (up sc : Scope) (a : Str) : Prop where
  fn : sc.kind = .function
  nco : sc.isCoroutine = false
  ngen : sc.isGenerator = false
  par : sc.names.lookup a = some .local
  loc : ∀ y ∈ sc.names, y.2 = .local → y.1 = a
  nocell : ∀ y ∈ sc.names, y.2 ≠ .cell
  cap : ∀ y ∈ sc.names, y.2 = .free → up.names.lookup y.1 = some .cell ∨ up.names.lookup y.1 = some .free
def lamPB (up sc : Scope) (a : Str) : Bool :=
  decide (sc.kind = .function) && (!sc.isCoroutine && (!sc.isGenerator && (decide (sc.names.lookup a = some .local) && sc.names.all fun y => (!decide (y.2 = .local) || decide (y.1 = a)) && (!decide (y.2 = .cell) && (!decide (y.2 = .free) || (decide (up.names.lookup y.1 = some .cell) || decide (up.names.lookup y.1 = some .free)))))))
theorem lamP_by {up sc : Scope} {a : Str} (h : lamPB up sc a = true) : LamP up sc a := by
  unfold lamPB at h
  simp only [Bool.and_eq_true, Bool.or_eq_true, Bool.not_eq_true', decide_eq_true_eq, decide_eq_false_iff_not, List.all_eq_true] at h
  obtain ⟨q1, q2, q3, q4, q5⟩ := h
  refine ⟨q1, q2, q3, q4, fun y hy e => ?_, fun y hy => (q5 y hy).2.1, fun y hy e => ?_⟩
  · rcases (q5 y hy).1 with z | z
    · exact absurd e z
    · exact z
  · rcases (q5 y hy).2.2 with z | z
    · exact absurd e z
    · exact z
theorem LamP.caps {X : Cx} {sc : Scope} {a : Str} (L : LamP X.env.scope sc a) (ok : X.Ok) : ∀ y ∈ sc.names, y.2 = .free → ∃ c, X.env.cells.lookup y.1 = some c := fun y hy e => ok.has _ (L.cap y hy e)
/-- the context of its body, entered at s from the frames out -/
def lamCxP (X : Cx) (A : Around) (out : List Env) (s : Shared) (H : Hp) (E : XK) (sc : Scope) (a : Str) (f c' : Addr) : Cx where
  prog := X.prog
  w := X.w
  K := X.K
  mg := X.mg
  base := X.base
  A := A.deeper (lamEnv X sc s.heap.objs.size f c')
  N := X.N ++ [a]
  s_0 := s
  H_0 := H
  env := lamEnv X sc s.heap.objs.size f c'
  outer := out
  stack := lamEnv X sc s.heap.objs.size f c' :: out
  ex := []
  fn := fun _ => false
  calm := true
  pn := []
  xe := fun e s2 => wpAny (model X.prog X.w) (A.deeper (lamEnv X sc s.heap.objs.size f c')) (leaving (lamEnv X sc s.heap.objs.size f c') e) (fun _ s3 => L2.CX X.prog X.w out H s E e s3) (fun e' s3 => L2.CX X.prog X.w out H s E e' s3) s2
variable {X : Cx} {pins : List (Addr × Obj)} {σ : L2.St} {H HZ : Hp} {s s1 : Shared}
theorem lamP_start {A : Around} {out : List Env} {E : XK} {sc : Scope} {a : Str} {f c' : Addr} {g : Heap} {tk : Nat} {v : V} {u : Value} (I : Inv X pins σ H s) (L : LamP X.env.scope sc a) (na : X.N.all (fun y => decide (y ≠ a)) = true) (e0 : Env0 X.prog X.w X.K X.mg X.base A out s1 HZ) (hd : A.handled = none) (rv : L2.RelV v u)
    (un : Un (frs X.stack) [] H HZ s.heap s1.heap) (hns : g.Ns s1.heap.objs.size fun y => [(a, u)].reverse.lookup y) (kp : ∀ b o, s1.heap.get? b = some o → g.get? b = some o) :
    Inv (lamCxP X A out s1 HZ E sc a f c') [] (σ ++ [some v]) HZ { s1 with heap := g, toks := tk } := by
  have caps := L.caps I.ok
  have inCells : ∀ {y c}, (cloFrom X.env.cells sc.names []).lookup y = some c → X.env.cells.lookup y = some c := fun {y c} e => by
    rcases cloFrom_mem (PySem.mem_of_lookup e) with k | ⟨k1, k2⟩
    · cases k
    · obtain ⟨c1, z⟩ := caps _ k1 rfl
      have z : X.env.cells.lookup y = some c1 := z
      have same : c = c1 := by
        rw [k2, z] <;> rfl
      rw [same]
      exact z
  have found : ∀ {y}, sc.names.lookup y = some .free → ∃ c, (cloFrom X.env.cells sc.names []).lookup y = some c := fun {y} k => by
    have ky : (y, NameKind.free) ∈ sc.names := PySem.mem_of_lookup k
    exact mem_lookup (cloFrom_has (cells := X.env.cells) (acc := []) ky)
  have cells : ∀ {c : Addr} {x : Option Value}, H c = none → s.heap.IsCell c x → g.IsCell c x := fun {c x} k ⟨o, k1, k2⟩ => by
    obtain ⟨sl, z⟩ := un.any k1 k (by simp)
    exact ⟨_, kp _ _ z, k2⟩
  have exA : ∀ b : Addr, b ∉ (lamCxP X A out s1 HZ E sc a f c').ex := fun b z => absurd (show b ∈ ([] : List Addr) from z) (by simp)
  refine ⟨⟨e0.mod, L.fn, rfl, rfl, Nat.le_refl _, fun y z c k1 k2 => I.ok.inj y z c (inCells k1) (inCells k2), fun y k => ?_, fun y c z _ => ?_, fun _ => hd, Around.frames_deeper e0.frames, .inr ⟨rfl, rfl⟩, fun b z => absurd z (exA b), e0.bs, e0.bsz, fun b _ _ => exA b,
      fun b z => absurd z (exA b), e0.funs, e0.frf⟩,
    rfl, e0.bare, Un.kept kp, ⟨_, hns, fun i y x k1 k2 k3 => ?_⟩, fun y c k => ?_, e0.hok.fresh (Nat.le_refl _), fun y c k => ?_, fun q k => absurd (show q ∈ ([] : List (Addr × Obj)) ++ [] from k) (by simp), e0.hok.kept kp, by show (σ ++ [some v]).length = (X.N ++ [a]).length; rw [List.length_append, List.length_append, I.len]; rfl⟩
  · have k : sc.names.lookup y = some .cell ∨ sc.names.lookup y = some .free := k
    rcases k with k | k
    · exact absurd rfl (L.nocell _ (PySem.mem_of_lookup k))
    · exact found k
  · have z : false = true := z
    cases z
  · have k1 : (X.N ++ [a])[i]? = some y := k1
    have k3 : Vis sc y := k3
    have hlen : σ.length = X.N.length := I.len
    by_cases hi : i < X.N.length
    · rw [List.getElem?_append_left hi] at k1
      rw [List.getElem?_append_left (by omega)] at k2
      have hya : y ≠ a := of_decide_eq_true (List.all_eq_true.mp na y (List.mem_of_getElem? k1))
      rcases k3 with k | k | k
      · exact absurd (L.loc _ (PySem.mem_of_lookup k) rfl) hya
      · exact absurd rfl (L.nocell _ (PySem.mem_of_lookup k))
      · obtain ⟨m, _, hl⟩ := I.loc
        have vis : Vis X.env.scope y := (L.cap _ (PySem.mem_of_lookup k) rfl).elim (fun z => .inr (.inl z)) (fun z => .inr (.inr z))
        obtain ⟨w', r, q⟩ := hl i y x k1 k2 vis
        obtain ⟨c2, h2⟩ := found k
        refine ⟨w', r, .inr ⟨.inr k, c2, h2, ?_⟩⟩
        have c1 := inCells h2
        rcases q with ⟨k', _⟩ | ⟨_, c3, e', z⟩
        · have k' : X.env.scope.names.lookup y = some .local := k'
          rcases L.cap _ (PySem.mem_of_lookup k) rfl with k2 | k2 <;> rw [show X.env.scope.names.lookup y = _ from k2] at k' <;> cases k'
        · rw [c1] at e'
          cases e'
          exact cells (I.freeC y _ c1) z
    · rw [List.getElem?_append_right (by omega)] at k1 k2
      have hi1 := (List.getElem?_eq_some_iff.mp k1).1
      rw [List.length_cons, List.length_nil] at hi1
      rw [show i - X.N.length = 0 by omega] at k1
      rw [show i - σ.length = 0 by omega] at k2
      obtain rfl := Option.some.inj k1
      obtain rfl := Option.some.inj (Option.some.inj k2)
      exact ⟨u, rv, .inl ⟨L.par, by simp [List.lookup]⟩⟩
  · obtain ⟨w', z⟩ := I.cell y c (inCells k)
    exact ⟨w', cells (I.freeC y c (inCells k)) z⟩
  · obtain ⟨x, o, k1, k2⟩ := I.cell y c (inCells k)
    exact un.free c o k1 (I.freeC y c (inCells k)) (by simp)
/-- f(v), f the lambda: from any later state -/
theorem lamP_run {A : Around} {sc : Scope} {a : Str} {f c' : Addr} {pm ctv : Value} {params : Arguments} {body : Expr} {k : Nat} {E : XK} {tb : TE} {v : V} {u : Value} {Q : VK}
    (I : Inv X pins σ H s) (L : LamP X.env.scope sc a) (na : X.N.all (fun y => decide (y ≠ a)) = true) (e0 : Env0 X.prog X.w X.K X.mg X.base A X.stack s1 HZ) (un : Un (frs X.stack) [] H HZ s.heap s1.heap) (rv : L2.RelV v u) (hr : Room (k + 1) A)
    (hf : s1.heap.get? f = some (PySem.W.kla_obj "<lambda>" (X.env.qual ++ "<lambda>") params body sc (cloFrom X.env.cells sc.names []) pm c' ctv)) (hc : HZ c' = some (CodeO c' (X.env.qual ++ "<lambda>")))
    (hbind : bindArgs (PySem.W.kla_fn "<lambda>" (X.env.qual ++ "<lambda>") params body sc (cloFrom X.env.cells sc.names []) pm (.ref c') ctv) ⟨[u], []⟩ = pure [(a, u)])
    (hbody : ∀ (s : Shared) (H : Hp), Room k (A.deeper (lamEnv X sc s.heap.objs.size f c')) → PE (lamCxP X A X.stack s H E sc a f c') body tb) (lim : s1.heap.NoLimit)
    (ht : tb (σ ++ [some v]) HZ Q) : codeAny (model X.prog X.w) A (.call (.ref f) ⟨[u], []⟩) (CR (L2.CX X.prog X.w) X.stack X.prog X.w HZ s1 Q E) s1 := by
  obtain ⟨⟨oc, xs, t, hoc, hdc, hvc⟩, _, _⟩ := e0.hok c' _ hc
  refine PySem.W.kla_callFunE hr.depth hf rfl L.nco L.ngen rfl ⟨c', oc, xs, t, rfl, hoc, hdc, hvc⟩ ?_
  rw [hbind]
  refine wpAny_pure (wpAny_newFunctionEnv (fun y hy => L.nocell y hy) (fun y hy => ?_) (fun g hns hsb => ⟨lim.fresh _ hsb, ?_⟩) L.fn)
  · rw [List.mem_singleton.mp hy]
    exact L.par
  show codeAny _ _ (.expr body (lamEnv X sc s1.heap.objs.size f c')) _ _
  have kp : ∀ b o, s1.heap.get? b = some o → g.get? b = some o := fun b o e => hsb.extBut b o (Nat.ne_of_lt (Heap.lt_size e)) (Heap.get?_push_of_some _ e)
  have J : Inv (lamCxP X A X.stack s1 HZ E sc a f c') [] (σ ++ [some v]) HZ { s1 with heap := g, toks := s1.toks + [(a, u)].length } := lamP_start I L na e0 hr.hd rv un hns kp
  refine PySem.W.kla_codeExpr (wpAny_mono ((hbody s1 HZ (hr.deeper _)).run [] _ _ HZ Q J ht) (fun x s2 q => ?_) fun e s2 q => q)
  obtain ⟨w', H2, J2, r2, q⟩ := q
  exact ⟨w', H2, J2.os, J2.bare, J2.base, J2.hok, r2, q⟩
end

/-! ### sorted(xs, key=lambda ..): the keys are pairs of numbers -/
section
open LamX
variable {X : Cx} {pins : List (Addr × Obj)} {σ : L2.St} {H : Hp} {s : Shared}
/-- a place that the sort itself has made -/
structure Mine (X : Cx) (pins : List (Addr × Obj)) (b : Addr) : Prop where
  new : X.s_0.heap.objs.size ≤ b
  loc : b ≠ X.env.locals
  cell : ∀ x c, X.env.cells.lookup x = some c → c ≠ b
  pin : ∀ q ∈ X.pn ++ pins, q.1 ≠ b
  fr : b ∉ frs X.stack
theorem mine_of (I : Inv X pins σ H s) {b : Addr} (hb : s.heap.objs.size ≤ b) : Mine X pins b := by
  refine ⟨Nat.le_trans I.sz hb, Nat.ne_of_gt (Nat.lt_of_lt_of_le I.lt hb), fun x c e => ?_, fun q hq => ?_, fun z => ?_⟩
  · obtain ⟨v, o, ho, _⟩ := I.cell x c e
    exact Nat.ne_of_lt (Nat.lt_of_lt_of_le (Heap.lt_size ho) hb)
  · exact Nat.ne_of_lt (Nat.lt_of_lt_of_le (Heap.lt_size (I.pin q hq).1) hb)
  · rcases List.mem_cons.mp (I.stkSub _ z) with k | k
    · exact absurd k (Nat.ne_of_gt (Nat.lt_of_lt_of_le I.lt hb))
    · exact I.nofs hb k
def NoX : XK := fun _ _ _ => False
theorem noX_elim {out : List Env} {s1 s2 : Shared} {e : Value} (h : L2.CX X.prog X.w out H s1 NoX e s2) : False := by
  obtain ⟨_, _, _, _, _, _, _, _, _, _, _, _, _, _, _, _, z⟩ := h
/-- one of the sort's own objects is written -/
theorem inv_mine {b : Addr} {g : Heap} {tk : Nat} (I : Inv X pins σ H s) (M : Mine X pins b) (nb : H b = none) (k : ∀ c o, c ≠ b → s.heap.get? c = some o → g.get? c = some o) : Inv X pins σ H { s with heap := g, toks := tk } := by
  refine I.step (g' := s.gens) (d' := s.drawn) (ch := [b]) (fun c hc => ?_) (fun c o _ _ hc e _ => k c o (fun z => hc (List.mem_singleton.mpr z)) e) (fun c o _ _ hc e _ => ⟨o.slots, k c o (fun z => hc (List.mem_singleton.mpr z)) e⟩)
    (fun c o _ _ n => n) (fun c o hc e => ⟨o, k c o (fun z => hc (List.mem_singleton.mpr z)) e⟩) (fun c xs e => e) (fun c o u e => e) (fun c ps e => ⟨#[], by rw [e, Array.append_empty]⟩) (fun m hm => ?_) (fun c o e => ?_) I.bare
  · rw [List.mem_singleton.mp hc]
    exact ⟨.inr M.new, M.loc, M.cell, M.pin⟩
  · obtain ⟨o, es, ep, ho, r⟩ := hm
    exact ⟨o, es, ep, k _ o (Ne.symm M.loc) ho, r⟩
  · refine (I.hok c o e).stay (fun d u hd q => k d u (fun z => ?_) q) (fun d q => q) fun d xs q => q
    rcases hd with w | w
    · rw [← w, z, nb] at e
      cases e
    · rw [z, nb] at w
      cases w
def pairD (k : Int × Int) : PyData := .tuple [.int k.1, .int k.2]
/-- what a key is: a pair of numbers -/
def PairAt (H : Hp) (k : Int × Int) (y : V) : Prop := ∃ t : Addr, y = .ref t ∧ H t = some (.tup [.int k.1, .int k.2])
theorem PairAt.same {H H' : Hp} {k : Int × Int} {y : V} (h : PairAt H k y) (e : Same H H') : PairAt H' k y := by
  obtain ⟨t, h1, h2⟩ := h
  exact ⟨t, h1, e _ _ h2⟩
theorem PairAt.reads {H : Hp} {k : Int × Int} {y : V} {v : Value} {P : Program} {w : World} {h : Heap} (q : PairAt H k y) (hok : HOk P w H h) (r : L2.RelV y v) : Reads h v (pairD k) [] := by
  obtain ⟨t, rfl, h2⟩ := q
  obtain rfl : v = Value.ref t := r
  obtain ⟨_, its, rv, o, ho, hcl, n, hd⟩ := hok t _ h2
  obtain ⟨u1, u2, rfl, e1, e2⟩ := vals2 rv
  obtain ⟨t1, rfl⟩ : ∃ t1, u1 = Value.int k.1 t1 := e1
  obtain ⟨t2, rfl⟩ : ∃ t2, u2 = Value.int k.2 t2 := e2
  exact .tuple ho hcl hd (.cons (.int _ _) (.cons (.int _ _) .nil))
theorem each_ix {α β : Type} {R : α → β → Prop} : ∀ {as : List α} {bs : List β}, as.length = bs.length → (∀ (i : Nat) (a : α) (b : β), as[i]? = some a → bs[i]? = some b → R a b) → PySem.W.EachIs R as bs
  | [], [], _, _ => .nil
  | [], _ :: _, h, _ => by cases h
  | _ :: _, [], h, _ => by cases h
  | a :: as, b :: bs, h, e => .cons (e 0 a b rfl rfl) (each_ix (Nat.succ.inj h) fun i a' b' h1 h2 => e (i + 1) a' b' h1 h2)
theorem each_vals : ∀ {us : List Value} {xs : List V}, PySem.W.EachIs (fun v x => L2.RelV x v) us xs → Vals xs us
  | _, _, .nil => .nil
  | _, _, .cons h t => .cons h (each_vals t)
theorem vals_each : ∀ {xs : List V} {us : List Value}, Vals xs us → PySem.W.EachIs (fun v x => L2.RelV x v) us xs
  | _, _, .nil => .nil
  | _, _, .cons h t => .cons h (vals_each t)
theorem pair_alike {ks : List (Int × Int)} : PySem.W.AllAlike (ks.map pairD) := by
  intro d hd d' hd'
  obtain ⟨x, _, rfl⟩ := List.mem_map.mp hd
  obtain ⟨y, _, rfl⟩ := List.mem_map.mp hd'
  simp [pairD, PySem.W.alike, PySem.W.alikeAll]
theorem pair_sortable {ks : List (Int × Int)} : PySem.W.Sortable (ks.map pairD) := .inl fun d hd => by
  obtain ⟨x, _, rfl⟩ := List.mem_map.mp hd
  exact ⟨_, _, rfl⟩
/-- the sort's end: the keys' list is let go, the result stands -/
theorem inv_sorted {p kS : Addr} {g : Heap} {tk : Nat} {c : Nat} {out : List Value} {zs : List V} (I : L2.Inv X pins σ H s) (Mp : Mine X pins p) (MkS : Mine X pins kS) (np : H p = none) (nk : H kS = none) (hz : zs.length ≤ sizeLine) (rv : Vals zs out) (hp : g.get? p = some (seqObj "list" out.toArray c))
    (k : ∀ c o, c ≠ p → c ≠ kS → s.heap.get? c = some o → g.get? c = some o) : L2.Inv X pins σ (upd H p (.lst zs)) { s with heap := g, toks := tk } := by
  have ne : ∀ {b o}, H b = some o → b ≠ p ∧ b ≠ kS := fun {b o} e => ⟨fun z => (by rw [z, np] at e; cases e), fun z => (by rw [z, nk] at e; cases e)⟩
  refine I.step (g' := s.gens) (d' := s.drawn) (ch := [kS, p]) (fun c hc => ?_) (fun c o _ _ hc e _ => k c o (fun z => hc (by rw [z]; simp)) (fun z => hc (by rw [z]; simp)) e) (fun c o _ _ hc e _ => ⟨o.slots, k c o (fun z => hc (by rw [z]; simp)) (fun z => hc (by rw [z]; simp)) e⟩)
    (fun c o hc _ n => by rw [upd_ne fun z => hc (by rw [z]; simp)]; exact n) (fun c o hc e => ⟨o, k c o (fun z => hc (by rw [z]; simp)) (fun z => hc (by rw [z]; simp)) e⟩) (fun c xs e => by rw [upd_ne (ne e).1]; exact e) (fun c o u e => by rw [upd_ne (ne e).1]; exact e) (fun c ps e => ⟨#[], by rw [upd_ne (ne e).1, e, Array.append_empty]⟩) (fun m hm => ?_) (fun c o e => ?_) I.bare
  · rcases List.mem_cons.mp hc with z | z
    · rw [z]
      exact ⟨.inr MkS.new, MkS.loc, MkS.cell, MkS.pin⟩
    · rw [List.mem_singleton.mp z]
      exact ⟨.inr Mp.new, Mp.loc, Mp.cell, Mp.pin⟩
  · obtain ⟨o, es, ep, ho, r⟩ := hm
    exact ⟨o, es, ep, k _ o (Ne.symm Mp.loc) (Ne.symm MkS.loc) ho, r⟩
  · by_cases hcp : c = p
    · rw [hcp, upd_same] at e
      obtain rfl := Option.some.inj e
      rw [hcp]
      exact ⟨hz, out, _, rv, hp⟩
    · rw [upd_ne hcp] at e
      refine (I.hok c o e).stay (fun d u hd q => k d u (fun z => ?_) (fun z => ?_) q) (fun d q => by rw [upd_ne (ne q).1]; exact q) fun d xs q => by rw [upd_ne (ne q).1]; exact q
      · rcases hd with w | w
        · exact hcp (w.symm.trans z)
        · exact (ne w).1 z
      · rcases hd with w | w
        · exact (ne e).2 (w.symm.trans z)
        · exact (ne w).2 z
/-- the keys are made one after another -/
theorem keys_loop {A : Around} {f : Addr} {fo : Obj} {vs : List Value} {xs : List V} {k : V → Int × Int} {p kS : Addr} {e1 : Nat} {H2 : Hp} {s2 : Shared} {P : PySem.Fin → Shared → Prop} {E : Value → Shared → Prop}
    (I : Inv X pins σ H2 s2) (rv : Vals xs vs) (hz : vs.length ≤ sizeLine) (hu : A.units + 5 < cLine)
    (Mp : Mine X pins p) (MkS : Mine X pins kS) (np : H2 p = none) (nk : H2 kS = none) (hkp : kS ≠ p) (ep : s2.heap.get? p = some (seqObj "list" #[] e1)) (ek : s2.heap.get? kS = some (seqObj "list" #[] 0)) (ef : s2.heap.get? f = some fo) (nf : H2 f = none) (ff : f ∉ frs X.stack) (hfp : f ≠ p) (hfk : f ≠ kS)
    (turn : ∀ (x : V) (v : Value) (H3 : Hp) (s3 : Shared), x ∈ xs → L2.RelV x v → Inv X pins σ H3 s3 → Same H2 H3 → s3.heap.get? f = some fo → H3 f = none →
      codeAny (model X.prog X.w) A (.call (.ref f) ⟨[v], []⟩) (CR (L2.CX X.prog X.w) X.stack X.prog X.w H3 s3 (fun y H4 => Same H3 H4 ∧ PairAt H4 (k x) y) NoX) s3)
    (q : ∀ H4 s4, L2.Inv X pins σ (upd H4 p (.lst (xs.mergeSort (PySem.W.dataLe false fun x => pairD (k x))))) s4 → Same H2 H4 → H4 p = none → P (.done (.ret .none)) s4) :
    wpAny (model X.prog X.w) A (ksk_rest p (.ref f) false vs.toArray e1 (.ref kS)) P E s2 := by
  unfold ksk_rest
  refine wpAny_bind (wpAny_rule ?_)
  first
    | rw [List.forIn_toArray]
    | (rw [← Array.forIn_toList]; simp only [List.toList_toArray])
    | rw [← Array.forIn_toList]
  have hxl : xs.length = vs.length := rv.length
  refine wpAny_bind (ksk_fold (fun i s3 => ∃ (H3 : Hp) (kA : Array Value) (e : Nat) (ys : List V), Inv X pins σ H3 s3 ∧ Same H2 H3 ∧ H3 p = none ∧ H3 kS = none ∧ H3 f = none ∧ s3.heap.get? p = some (seqObj "list" #[] e1) ∧ s3.heap.get? kS = some (seqObj "list" kA e) ∧ s3.heap.get? f = some fo ∧ Vals ys kA.toList ∧ ys.length = i ∧ ∀ (j : Nat) (x y : V), xs[j]? = some x → ys[j]? = some y → PairAt H3 (k x) y) vs 0 s2
    ⟨H2, #[], 0, [], I, Same.refl _, np, nk, nf, ep, ek, ef, .nil, rfl, fun j x y _ h => by cases h⟩ ?step ?done)
  case step =>
    rintro j v s3 hv ⟨H3, kA, e, ys, I3, e3, np3, nk3, nf3, ep3, ek3, ef3, rk, hy, hP⟩
    rw [Nat.zero_add] at hy
    have hj : j < vs.length := (List.getElem?_eq_some_iff.mp hv).1
    obtain ⟨x, hx⟩ : ∃ x, xs[j]? = some x := ⟨_, List.getElem?_eq_getElem (by omega)⟩
    obtain ⟨v', hv', rx⟩ := rv.get hx
    rw [hv] at hv'
    obtain rfl := Option.some.inj hv'
    have hkl : ys.length = kA.size := rk.length.trans (Array.length_toList ..)
    refine wpAny_bind (wpAny_attempt (wpAny_call (codeAny_mono (turn x v H3 s3 (List.mem_of_getElem? hx) rx I3 e3 ef3 nf3) fun r s4 hq => ?_)))
    cases r with
    | error e => exact (noX_elim hq).elim
    | ok fl =>
      cases fl with
      | next => exact False.elim hq
      | brk => exact False.elim hq
      | cont => exact False.elim hq
      | ret u =>
        obtain ⟨y, H4, os, bare, un, hok, ry, e4, hy4⟩ := hq
        have I4 : L2.Inv X pins σ H4 s4 := I3.call' os un hok bare fun b z => absurd z (by simp)
        have ep4 := un.keep p _ ep3 np3 Mp.fr (by simp)
        have ek4 := un.keep kS _ ek3 nk3 MkS.fr (by simp)
        have ef4 := un.keep f _ ef3 nf3 ff (by simp)
        have np4 := un.free p _ ep3 np3 (by simp)
        have nk4 := un.free kS _ ek3 nk3 (by simp)
        have nf4 := un.free f _ ef3 nf3 (by simp)
        have sb := Heap.SameBut.update s4.heap kS (Obj.mapSeq (·.push u))
        obtain ⟨c2, hc2⟩ : ∃ c2, (s4.heap.update kS (Obj.mapSeq (·.push u))).get? kS = some (seqObj "list" (kA.push u) c2) := ⟨_, get?_update_seq ek4 (·.push u)⟩
        dsimp only
        refine wpAny_bind (listUpdate_at ek4 rfl ?_ (by omega) (by rw [Array.size_push]; omega))
        have I5 : L2.Inv X pins σ H4 { s4 with heap := s4.heap.update kS (Obj.mapSeq (·.push u)) } := inv_mine (tk := s4.toks) I4 MkS nk4 fun c o hc e => (sb.2 c hc).trans e
        refine wpAny_pure ⟨rfl, H4, kA.push u, c2, ys ++ [y], I5, e3.trans e4, np4, nk4, nf4, (sb.2 p hkp.symm).trans ep4, hc2, (sb.2 f hfk).trans ef4, by rw [Array.toList_push]; exact rk.append (.cons ry .nil), by rw [List.length_append]; show ys.length + 1 = 0 + j + 1; omega, fun i a b h1 h2 => ?_⟩
        by_cases hi : i < ys.length
        · rw [List.getElem?_append_left hi] at h2
          exact (hP i a b h1 h2).same e4
        · rw [List.getElem?_append_right (by omega)] at h2
          have hi2 := (List.getElem?_eq_some_iff.mp h2).1
          rw [List.length_cons, List.length_nil] at hi2
          rw [show i - ys.length = 0 by omega] at h2
          obtain rfl := Option.some.inj h2
          rw [show i = j by omega, hx] at h1
          obtain rfl := Option.some.inj h1
          exact hy4
  case done =>
    rintro s3 ⟨H3, kA, e, ys, I3, e3, np3, nk3, nf3, ep3, ek3, ef3, rk, hy, hP⟩
    have hkl : ys.length = kA.size := rk.length.trans (Array.length_toList ..)
    have hk : PySem.W.EachIs (fun v d => ∃ as, Reads s3.heap v d as) kA.toList (xs.map fun x => pairD (k x)) := by
      refine each_ix (by rw [List.length_map, Array.length_toList]; omega) fun i v d h1 h2 => ?_
      rw [List.getElem?_map] at h2
      cases hx : xs[i]? with
      | none => rw [hx] at h2; cases h2
      | some x =>
        rw [hx] at h2
        obtain rfl := Option.some.inj h2
        have hil := (List.getElem?_eq_some_iff.mp hx).1
        obtain ⟨y, hy2⟩ : ∃ y, ys[i]? = some y := ⟨_, List.getElem?_eq_getElem (by omega)⟩
        obtain ⟨v', hv', rx⟩ := rk.get hy2
        rw [h1] at hv'
        obtain rfl := Option.some.inj hv'
        exact ⟨[], (hP i x y hx hy2).reads I3.hok rx⟩
    have hkk : (xs.map fun x => pairD (k x)) = (xs.map k).map pairD := by rw [List.map_map]; rfl
    have hal : PySem.W.AllAlike (xs.map fun x => pairD (k x)) := by rw [hkk]; exact pair_alike
    have hso : PySem.W.Sortable (xs.map fun x => pairD (k x)) := by rw [hkk]; exact pair_sortable
    refine wpAny_bind (listItems_at ek3 rfl ?_)
    obtain ⟨G, g1, g2⟩ := restrict s3.heap fun b => decide (b ≠ kS)
    refine PySem.W.keyH_end (κ := PySem.W.dataKind s3.heap (xs.map fun x => pairD (k x))) (h₁ := G) (fun b o hb e => ?_) (g2 kS (by simp)) ek3 ep3 hkp (PySem.W.SortsAt.data hk hal hso fun d hd => ?_) (by omega) hz fun h' tk c kp hp => ?_
    · by_cases z : b = kS
      · rw [z, g2 kS (by simp)] at e
        cases e
      · rw [g1 b (by simp [z])] at e
        exact e
    · obtain ⟨x, _, rfl⟩ := List.mem_map.mp hd
      show A.units + (pairD (k x)).depth < cLine
      have : (pairD (k x)).depth ≤ 2 := by simp [pairD, PyData.depth, PyData.depthAll]
      omega
    · have ko := PySem.W.keyedOut_each (rev := false) (R := fun v x => L2.RelV x v) (fun x => pairD (k x)) ⟨s3.heap, kA.toList, hal, rfl, hk⟩ (vals_each rv)
      have rs := each_vals ko
      refine q H3 _ (inv_sorted I3 Mp MkS np3 nk3 ?_ rs hp fun b o b1 b2 e => kp b o b1 (by rw [g1 b (by simp [b2])]; exact e)) e3 np3
      rw [List.length_mergeSort, hxl]
      exact hz
end

/-! ### the rule for sorted(xs, key=lambda x: ..) -/
section
open LamX
variable {X : Cx} {pins : List (Addr × Obj)} {σ : L2.St} {H : Hp} {s : Shared}
def pairLe (k : V → Int × Int) : V → V → Bool := PySem.W.dataLe false fun x => pairD (k x)
/-- what is asked of the sort of l, and what it gives -/
def rSortLam (K : PySem.W.Frag) (tb : V → Hp → VK → Prop) (v : V) (H : Hp) (Q : VK) : Prop := ∃ (_ : Unit) (l : Addr) (xs : List V) (k : V → Int × Int), v = .ref l ∧ SqL K H l xs ∧
  (∀ x, x ∈ xs → ∀ H3, Same H H3 → tb x H3 fun y H4 => Same H3 H4 ∧ PairAt H4 (k x) y) ∧ ∀ (_ : Unit) (p : Addr) (H4 : Hp), Same H H4 → H p = none → H4 p = none → Q (.ref p) (upd H4 p (.lst (xs.mergeSort (pairLe k))))
theorem sortLam_run {sc : Scope} {a : Str} {f c' : Addr} {pm ctv : Value} {params : Arguments} {body : Expr} {j : Nat} {tb : TE} {v : V} {u : Value} {Q : VK}
    (I : L2.Inv X pins σ H s) (L : LamP X.env.scope sc a) (na : X.N.all (fun y => decide (y ≠ a)) = true) (hr : Room (j + 3) X.A)
    (hf : s.heap.get? f = some (PySem.W.kla_obj "<lambda>" (X.env.qual ++ "<lambda>") params body sc (cloFrom X.env.cells sc.names []) pm c' ctv)) (nf : H f = none) (ff : f ∉ frs X.stack) (hc : H c' = some (CodeO c' (X.env.qual ++ "<lambda>")))
    (hbind : ∀ u, bindArgs (PySem.W.kla_fn "<lambda>" (X.env.qual ++ "<lambda>") params body sc (cloFrom X.env.cells sc.names []) pm (.ref c') ctv) ⟨[u], []⟩ = pure [(a, u)])
    (hbody : ∀ (A : Around) (s : Shared) (H : Hp), Room j (A.deeper (lamEnv X sc s.heap.objs.size f c')) → PE (lamCxP X A X.stack s H NoX sc a f c') body tb)
    (rv : L2.RelV v u) (h : rSortLam X.K (fun x H3 Q3 => tb (σ ++ [some x]) H3 Q3) v H Q) : wpAny (model X.prog X.w) X.A (call (.builtin "sorted") [u] [(Str.ofString "key", .ref f)]) (EP X pins σ Q) X.xe s := by
  obtain ⟨_, l, xs, k, rfl, hs, ht, q⟩ := h
  obtain rfl : u = Value.ref l := rv
  obtain ⟨its, rx, hl, hz⟩ := I.list hs
  have hz' : its.length ≤ sizeLine := by rw [← rx.length]; exact hz
  refine PySem.W.sorted_of_sort hl.isList hz' (ksk_s1 _ _) (fun _ => ksk_l1 _ _) fun E' => ?_
  rw [ksk_t1]
  have ho := PySem.W.copyHeap_at s.heap its
  have kold : ∀ b o, s.heap.get? b = some o → (PySem.W.copyHeap s.heap its).get? b = some o := fun b o e => PySem.W.copyHeap_old e
  have hsz : s.heap.objs.size + 1 < (PySem.W.copyHeap s.heap its).objs.size := Heap.lt_size ho
  generalize PySem.W.copyHeap s.heap its = g0 at *
  obtain ⟨e1, ho1⟩ : ∃ e1, (g0.update (s.heap.objs.size + 1) (Obj.mapSeq fun _ => (#[] : Array Value))).get? (s.heap.objs.size + 1) = some (seqObj "list" #[] e1) := ⟨_, get?_update_seq ho fun _ => #[]⟩
  have sb := Heap.SameBut.update g0 (s.heap.objs.size + 1) (Obj.mapSeq fun _ => (#[] : Array Value))
  have hs1 : (g0.update (s.heap.objs.size + 1) (Obj.mapSeq fun _ => (#[] : Array Value))).objs.size = g0.objs.size := Heap.size_update ..
  unfold ksk_tree
  refine wpAny_bind (listItems_at ho rfl ?_)
  refine wpAny_bind (listUpdate_at ho rfl ?_ (by rw [List.size_toArray]; exact hz') (Nat.zero_le _))
  refine wpAny_bind (seqEpoch_at ho1 rfl ?_)
  refine wpAny_bind (wpAny_newTuple ?_ (by show its.length ≤ _; exact hz'))
  refine wpAny_bind (wpAny_newList ?_ (Nat.zero_le _))
  refine wpAny_holding ?_
  generalize g0.update (s.heap.objs.size + 1) (Obj.mapSeq fun _ => (#[] : Array Value)) = g1 at *
  have k1 : ∀ b o, b ≠ s.heap.objs.size + 1 → s.heap.get? b = some o → ((g1.push (seqObj "tuple" its.toArray 0)).push (seqObj "list" #[] 0)).get? b = some o := fun b o hb e =>
    Heap.get?_push_of_some _ (Heap.get?_push_of_some _ ((sb.2 b hb).trans (kold b o e)))
  have k2 : ∀ b o, s.heap.get? b = some o → ((g1.push (seqObj "tuple" its.toArray 0)).push (seqObj "list" #[] 0)).get? b = some o := fun b o e => k1 b o (Nat.ne_of_lt (Nat.lt_succ_of_lt (Heap.lt_size e))) e
  have hs2 : (g1.push (seqObj "tuple" its.toArray 0)).objs.size = g1.objs.size + 1 := by rw [size_push']
  have I2 : L2.Inv X pins σ H { s with heap := (g1.push (seqObj "tuple" its.toArray 0)).push (seqObj "list" #[] 0) } := I.kept (t' := s.toks) k2
  have hfl := Heap.lt_size hf
  have hkS : s.heap.objs.size + 1 < (g1.push (seqObj "tuple" its.toArray 0)).objs.size := by omega
  refine keys_loop (k := k) (H2 := H) (p := s.heap.objs.size + 1) (kS := (g1.push (seqObj "tuple" its.toArray 0)).objs.size) I2 rx hz' (by have := hr.units; show X.A.units + 1 + 1 + 5 < cLine; omega) (mine_of I (Nat.le_succ _)) (mine_of I (by omega)) (I.hok.fresh (Nat.le_succ _)) (I.hok.fresh (by omega)) (Nat.ne_of_gt hkS)
    (Heap.get?_push_of_some _ (Heap.get?_push_of_some _ ho1)) (Heap.get?_push_size _ rfl) (k2 f _ hf) nf ff (Nat.ne_of_lt (Nat.lt_succ_of_lt hfl)) (Nat.ne_of_lt (Nat.lt_trans (Nat.lt_succ_of_lt hfl) hkS)) (fun x v H3 s3 hx rx3 I3 e3 ef nf3 => ?_) fun H4 s4 I4 e4 np4 => ?_
  · exact lamP_run I3 L na I3.env0.in1.in1 (Un.kept fun _ _ e => e) rx3 (Room.in1 (Room.in1 hr)) ef (e3 _ _ hc) (hbind v) (fun s5 H5 r5 => hbody _ s5 H5 r5) I3.nolimit (ht x hx H3 e3)
  · exact ⟨rfl, .ref (s.heap.objs.size + 1), _, I4, rfl, q () _ H4 e4 (I.hok.fresh (Nat.le_succ _)) np4⟩
/-- the term: te the list, tb the lambda's body with its parameter as the last name -/
def tSortLam (K : PySem.W.Frag) (T : List (Addr × Str)) (te tb : TE) : TE := fun σ H Q => te σ H fun v H1 => Tabs T H1 ∧ ∀ H2, ExtN H1 H2 → Tabs T H2 → rSortLam K (fun x H3 Q3 => tb (σ ++ [some x]) H3 Q3) v H2 Q
theorem pe_sortLam {T : List (Addr × Str)} {c P : Addr} {j : Nat} {a : Str} {sc : Scope} {params : Arguments} {body e : Expr} {te tb : TE} {p lpos kpos pos : Pos} (he : PE X e te) (hg : Gl X "sorted") (hm : X.mg "sorted" = none)
    (TB : TabB X.base X.mg c P) (hcode : X.env.code = .ref c) (hmT : (P, X.env.qual ++ "<lambda>") ∈ T) (hu : ∀ p ∈ T, p.1 = P → p.2 = X.env.qual ++ "<lambda>") (hr : Room (j + 3) X.A) (L : LamP X.env.scope sc a) (na : X.N.all (fun y => decide (y ≠ a)) = true) (hdef : defaultsOf params X.env = ([], []))
    (hbind : ∀ (q : Str) (cl : List (Str × Addr)) (pm cv ctv u : Value), bindArgs (PySem.W.kla_fn "<lambda>" q params body sc cl pm cv ctv) ⟨[u], []⟩ = pure [(a, u)])
    (hbody : ∀ (A : Around) (s : Shared) (H : Hp) (f c' : Addr), Room j (A.deeper (lamEnv X sc s.heap.objs.size f c')) → PE (lamCxP X A X.stack s H NoX sc a f c') body tb)
    (star : starEach [e] X.env = (false, eval e X.env) :: starEach [] X.env := by rfl) (plain : backTo pos (starEach [e] X.env) = (false, eval e X.env) :: backTo pos (starEach [] X.env) := by rfl) (nostar : (backTo pos (starEach [e] X.env)).any (·.1) = false := by rfl) :
    PE X (.Call (.Name "sorted" p) [e] [⟨some "key", .Lambda params body sc lpos, kpos⟩] pos) (tSortLam X.K T te tb) := by
  refine ⟨fun pins s σ H Q I h => ?_⟩
  refine wpAny_Call_Name_kw (ld_blt I hg hm (by rfl) ?_ (by decide) (by decide))
  refine PyProof.Rows.callWith_kw (thn ((pa_cons he pa_nil (hs := star)).run pos pins s σ H (fun vs H1 => match vs with
    | [v] => Tabs T H1 ∧ ∀ H2, ExtN H1 H2 → Tabs T H2 → rSortLam X.K (fun x H3 Q3 => tb (σ ++ [some x]) H3 Q3) v H2 Q
    | _ => False) I h) fun us s1 ⟨vs, H1, I1, r1, h1⟩ => ?_) plain nostar rfl rfl
  match vs, r1, h1 with
  | [v], r1, h1 =>
    obtain ⟨u, rfl, ru⟩ := vals1 r1
    obtain ⟨hT, h1⟩ := h1
    show wpAny _ _ (evalAll [(do let v ← eval (.Lambda params body sc lpos) X.env; standAt pos; pure v)]) _ _ s1
    refine wpAny_evalAll_cons (wpAny_bind (lam_make2 I1 TB hcode hmT hu hT hdef (L.caps I.ok) fun f c' pm' ctv H2 s2 I2 eN T2 hf hfn hfr hco => wpAny_bind (wpAny_standAt (wpAny_pure ?_))))
    refine wpAny_evalAll_nil ?_
    exact sortLam_run I2 L na hr hf hfn hfr hco (fun u => hbind _ _ _ _ _ u) (fun A s H r => hbody A s H f c' r) ru (h1 H2 eN T2)
  | [], _, h1 => exact h1.elim
  | _ :: _ :: _, _, h1 => exact h1.elim
end

/-! ### defs that make lambdas: their code objects, the law's end -/
section
open LamX
variable {P : Program} {w : World} {K : PySem.W.Frag} {mg : Str → Option Value} {base : Heap}
/-- a def by its body, its code object known -/
theorem fun_okC {x qual : Str} {st : Stmt} {f c : Addr} {fd : FuncData} {N ps : List Str} {k : Nat} {sp : Sp} (F : Fun K x qual st f fd) (S : FnScope N ps (defScope st)) (hc : fd.code = .ref c) (len : ∀ vs H Q E, sp vs H Q E → vs.length = ps.length)
    (hb : ∀ (A : Around) (out : List Env) (s : Shared) (H : Hp) (vs : List V) (Q : VK) (E : XK), Room k (A.deeper (envOfC qual (defScope st) s.heap.objs.size f (.ref c))) → sp vs H Q E →
      ∃ t, PSs (cxOf CX0 P w K mg base N qual (defScope st) f (.ref c) A out s H E).nox (defBody st) t ∧ t { nx := fun _ H' => Q .non H', rt := Q } (start N vs) H) : FnOk P w K mg base CX0 (k + 1) f fd ps sp := by
  obtain ⟨oc, od, kV, doc, pm, an, cd, ct, sl, rfl, lk, hcd⟩ := F.ex
  obtain rfl : cd = Value.ref c := hc
  refine fn_of lk hcd S len fun A out s H vs Q E hr hsp => ?_
  obtain ⟨t, h, q⟩ := hb A out s H vs Q E hr hsp
  exact ⟨t, h.nox, q⟩
end

/-! ### set(xs), xs a list of numbers -/
section
open PySem
abbrev blankSet (w : World) : Obj := { cls := .type "set", dict := none, data := .set #[] 0 (.fresh 0 0 (!w.params.followText "set-order")) }
variable {P : Program} {w : World} {A : Around} {E : Value → Shared → Prop} {s : Shared}
set_option maxRecDepth 100000 in
set_option maxHeartbeats 3200000 in
theorem set_of_ints {z : Addr} {us : Array Value} (ks : List Int) {Q : Value → Shared → Prop} (free : A.handled = none) (lz : s.heap.IsList z us) (ik : IntsAre us.toList ks) (few : ks.length + 1 < scanBound)
    (q : ∀ (g : Heap) (tk c : Nat), SetR w g s.heap.objs.size (fun j => decide (j ∈ ks)) c → c ≤ ks.length → (∀ b o, s.heap.get? b = some o → g.get? b = some o) → Q (.ref s.heap.objs.size) { s with heap := g, toks := tk }) :
    wpAny (model P w) A (call (.type "set") [.ref z]) Q E s := by
  have nus : us.size = ks.length := by
    have e := IntsAre.length ik
    rw [Array.length_toList] at e
    exact e
  obtain ⟨cz, tz, mroz⟩ := F.called_set.mro
  have q1 := F.called_set.made
  have q2 := F.called_set.sub
  refine (wpAny_call (codeAny_of_tree ?_))
  change wpAny _ _ (callAny (.type "set") _) _ _ _
  refine wpAny_pure (And.intro (Code.quiet_builtin _ (by decide +kernel)) (codeAny_builtin F.entry_type_call ?_))
  rw [Around.under_plain (weight_type_call_type "set" [.ref z] []) rfl]
  have q3 := F.called_set.notType
  have q4 := F.called_set.canCreate
  have q5 := F.typeCall_set_1 (.ref z)
  repeat
    any_goals
      first
        | assumption
        | wp_step
  refine codeAny_mono (code_set_led1 (.ref z) (E := E) (Q₁ := fun a s2 => a = .ref s.heap.objs.size ∧ s2 = { s with heap := s.heap.push (blankSet w) }) ⟨rfl, rfl⟩) fun r s2 hr => ?_
  cases r with
  | error e => exact hr
  | ok fl =>
    cases fl with
    | ret a =>
      obtain ⟨rfl, rfl⟩ := hr
      have sS : (s.heap.push (blankSet w)).get? s.heap.objs.size = some (blankSet w) := Heap.get?_push_size _ rfl
      have sT : Shared.TypeIs { s with heap := s.heap.push (blankSet w) } (.ref s.heap.objs.size) "set" := ⟨_, sS, rfl⟩
      have q6 := F.called_set.init.lookup
      have q7 := F.called_set.init.bind (.ref s.heap.objs.size)
      repeat
        any_goals
          first
            | assumption
            | wp_step
      refine codeAny_mono (codeAny_call_builtin (R := wants (fun r s3 => r = .none ∧ ∃ g tk c, s3 = { s with heap := g, toks := tk } ∧ SetR w g s.heap.objs.size (fun j => decide (j ∈ ks)) c ∧ c ≤ ks.length ∧ ∀ b o, s.heap.get? b = some o → g.get? b = some o) E) F.called_set.init.plain F.entry_set_init (check_set_init_1 sT ?_)) fun r2 s2 hr2 => ?_
      · obtain ⟨ol, lo, lcl, nl, ldt⟩ := lz
        obtain ⟨ocls, odict, odata, oslots⟩ := ol
        simp only at lcl ldt
        subst lcl; subst ldt
        have lo2 : (s.heap.push (blankSet w)).get? z = some { cls := .type "list", dict := odict, data := .seq us nl, slots := oslots } := Heap.get?_push_of_some _ lo
        have q8 := F.sub_list_set
        have q9 := F.sub_list_frozenset
        have nd : (Value.type "list" == Value.type "dict") = false := by decide
        have lz1 : (s.heap.push (blankSet w)).IsList z us := ⟨_, lo2, rfl, nl, rfl⟩
        unfold Builtin.«set.__init__» noKeywords Builtin.Frozenset.updateFrom
        generalize hPI : pyIter = PI
        wp_walk
        subst hPI
        refine (wpAny_pyIter_list lz1 (wpAny_bind (wpAny_runValue ?_)))
        have zS : z < s.heap.objs.size := Heap.lt_size lo
        have free3 : A.in1.in1.in1.handled = none := by simp [free]
        have zI : z ≠ (s.heap.push (blankSet w)).objs.size := by
          rw [Heap.size_push]
          exact Nat.ne_of_lt (Nat.lt_succ_of_lt zS)
        have out : s.heap.objs.size ∉ [(s.heap.push (blankSet w)).objs.size, z] := by
          rw [Heap.size_push]
          simp only [List.mem_cons, List.mem_singleton, List.not_mem_nil, or_false, not_or]
          exact And.intro (Nat.ne_of_lt (Nat.lt_succ_self _)) (Nat.ne_of_gt zS)
        have each : ∀ (i : Nat) (v : Value), us[i]? = some v → ∃ k t, ks[i]? = some k ∧ v = .int k t := fun i v hv => by
          have hi : i < ks.length := by rw [← nus]; exact (Array.getElem?_eq_some_iff.mp hv).1
          obtain ⟨t, e⟩ := PyProof.Rows.IntsAre.int_at ik i v (by rw [Array.getElem?_toList]; exact hv)
          exact ⟨ks[i], t, List.getElem?_eq_getElem hi, by rw [e, List.getD_eq_getElem?_getD, List.getElem?_eq_getElem hi] <;> rfl⟩
        refine set_update_ints ((Walks.list free3 _ z zI us).toS) s.heap.objs.size out ks nus few each (us.size - 0) 0 _ (by omega) (Nat.zero_le _) ⟨⟨_, Heap.get?_push_size _ rfl, rfl, rfl⟩, (lz1.push _)⟩ ⟨0, Nat.le_refl 0, setR_new_at (Heap.get?_push_of_some _ sS)⟩ ?_
        intro s3 c' moved hc' hS'
        obtain ⟨g, g2, d', tk', os'⟩ := s3
        have eg : g2 = s.gens := moved.gens
        have ed : d' = s.drawn := moved.drawn
        have eo : os' = s.os := moved.os
        subst eg ed eo
        show wpAny _ _ _ _ _ _
        refine wpAny_pure ?_
        change wpAny _ _ (ret Value.none) _ _ _
        rw [nus] at hc'
        refine wpAny_pure ⟨rfl, g, tk', c', rfl, hS', hc', fun b o e => moved.heap b o ?_ (Heap.get?_push_of_some _ (Heap.get?_push_of_some _ e))⟩
        have b0 : b < s.heap.objs.size := Heap.lt_size e
        have b2 : b ≠ (s.heap.push (blankSet w)).objs.size := by
          rw [Heap.size_push]
          exact Nat.ne_of_lt (Nat.lt_succ_of_lt b0)
        simp only [List.mem_cons, List.mem_singleton, List.not_mem_nil, or_false, not_or]
        exact And.intro (Nat.ne_of_lt b0) b2
      · cases r2 with
        | error e => exact hr2
        | ok fl2 =>
          cases fl2 with
          | ret r =>
            obtain ⟨rfl, g, tk', c', rfl, k1, k2, k3⟩ := hr2
            repeat
              any_goals
                first
                  | assumption
                  | wp_step
            exact q _ _ _ k1 k2 k3
          | _ => exact hr2.elim
    | _ => exact hr.elim
end
section
variable {X : Cx}
/-- set(xs) of at most 1000 numbers -/
def rSetInts (K : PySem.W.Frag) (w : World) : List V → Hp → VK → Prop := fun vs H Q => ∃ (_ : Unit) (a : Addr) (ns : List Int), vs = [V.ref a] ∧ SqL K H a (ns.map V.int) ∧ ns.length ≤ 1000 ∧
  ∀ (p : Addr) (c : Nat), c ≤ ns.length → H p = none → Q (.ref p) (upd H p (SetO w p (fun j => decide (j ∈ ns)) c))
theorem cr_setInts (hc : X.calm = true) : CallR X (.type "set") (rSetInts X.K X.w) := by
  intro pins s σ H vs us Q I r h
  obtain ⟨_, a, ns, rfl, hs, few, q⟩ := h
  rw [Vals.ref1 r]
  obtain ⟨its, rv, pl, _⟩ := I.list hs
  refine set_of_ints ns (I.ok.hd hc) pl.isList (by simpa using rv.ints) (by unfold scanBound; omega) fun g tk c R hcn k => ?_
  exact ⟨.ref _, upd H s.heap.objs.size (SetO X.w s.heap.objs.size (fun j => decide (j ∈ ns)) c), I.laid (t' := tk) k (Nat.le_refl _) (setO_new R), rfl, q _ c hcn (I.hok.fresh (Nat.le_refl _))⟩
end

/-- how items of one kind are told as data; equal data are equal items -/
structure LayD {α : Type} [DecidableEq α] (L : α → PyData) (k : Nat) (G : α → Prop) : Prop where
  lay : ∀ x, G x → (L x).canLay0 = true
  dep : ∀ x, (L x).depth ≤ k
  eqv : ∀ x y, PyData.eqv (L x) (L y) = decide (x = y)
theorem LayD.shaped {α : Type} [DecidableEq α] {L : α → PyData} {k : Nat} {G : α → Prop} (h : LayD L k G) (hk : k ≤ 64) {x : α} (g : G x) : SeqAt.shaped (L x) = true := by
  have h1 := h.lay x g
  have h2 := h.dep x
  unfold SeqAt.shaped
  rw [h1, Bool.true_and]
  exact decide_eq_true (by omega)
theorem layD_int : LayD PyData.int 0 (fun _ => True) := ⟨fun _ _ => rfl, fun _ => Nat.le_refl _, fun x y => by simp only [PyData.eqv]; exact (Bool.beq_eq_decide_eq x y)⟩
theorem layD_str : LayD PyData.str 0 (fun x => PyData.strOk x = true) := ⟨fun _ h => by simp only [PyData.canLay0]; exact h, fun _ => Nat.le_refl _, fun x y => by simp only [PyData.eqv]; exact (Bool.beq_eq_decide_eq x y)⟩
theorem decide_and2 {p q r : Prop} [Decidable p] [Decidable q] [Decidable r] (h : r ↔ p ∧ q) : (decide p && decide q) = decide r := by
  by_cases hp : p <;> by_cases hq : q <;> simp [h, hp, hq]
theorem layD_all {α : Type} [DecidableEq α] {L : α → PyData} {k : Nat} {G : α → Prop} (h : LayD L k G) : (∀ xs : List α, (∀ x, x ∈ xs → G x) → PyData.canLayAll0 (xs.map L) = true) ∧ (∀ xs : List α, PyData.depthAll (xs.map L) ≤ k) ∧ ∀ xs ys : List α, PyData.eqvAll (xs.map L) (ys.map L) = decide (xs = ys) := by
  refine ⟨fun xs => ?_, fun xs => ?_, fun xs => ?_⟩
  · induction xs with
    | nil => exact fun _ => rfl
    | cons x xs ih =>
      intro g
      rw [List.map_cons]
      simp only [PyData.canLayAll0, ih fun y hy => g y (List.mem_cons_of_mem _ hy), h.lay x (g x List.mem_cons_self)]
      rfl
  · induction xs with
    | nil => exact Nat.zero_le _
    | cons x xs ih => rw [List.map_cons]; simp only [PyData.depthAll]; exact Nat.max_le.mpr ⟨h.dep x, ih⟩
  · induction xs with
    | nil =>
      intro ys
      cases ys with
      | nil => rfl
      | cons y ys => simp [PyData.eqvAll]
    | cons x xs ih =>
      intro ys
      cases ys with
      | nil => simp [PyData.eqvAll]
      | cons y ys =>
        rw [List.map_cons, List.map_cons]
        simp only [PyData.eqvAll]
        rw [ih ys, h.eqv x y]
        exact decide_and2 (by rw [List.cons.injEq])
theorem LayD.list {α : Type} [DecidableEq α] {L : α → PyData} {k : Nat} {G : α → Prop} (h : LayD L k G) : LayD (fun xs : List α => PyData.list (xs.map L)) (k + 1) (fun xs => ∀ x, x ∈ xs → G x) := by
  obtain ⟨h1, h2, h3⟩ := layD_all h
  refine ⟨fun xs g => ?_, fun xs => ?_, fun xs ys => ?_⟩
  · simp only [PyData.canLay0]; exact h1 xs g
  · simp only [PyData.depth]; exact Nat.succ_le_succ (h2 xs)
  · simp only [PyData.eqv]; exact h3 xs ys
theorem LayD.tup2 {α β : Type} [DecidableEq α] [DecidableEq β] {L : α → PyData} {M : β → PyData} {k : Nat} {G : α → Prop} {G2 : β → Prop} (h : LayD L k G) (g : LayD M k G2) : LayD (fun x : α × β => PyData.tuple [L x.1, M x.2]) (k + 1) (fun x => G x.1 ∧ G2 x.2) := by
  refine ⟨fun x a => ?_, fun x => ?_, fun x y => ?_⟩
  · simp only [PyData.canLay0, PyData.canLayAll0, h.lay _ a.1, g.lay _ a.2, Bool.and_true]
  · simp only [PyData.depth, PyData.depthAll]
    have := h.dep x.1
    have := g.dep x.2
    omega
  · simp only [PyData.eqv, PyData.eqvAll, h.eqv, g.eqv, Bool.and_true]
    exact decide_and2 (by rw [Prod.ext_iff])
theorem LayD.tup3 {α β γ : Type} [DecidableEq α] [DecidableEq β] [DecidableEq γ] {L : α → PyData} {M : β → PyData} {N : γ → PyData} {k : Nat} {G : α → Prop} {G2 : β → Prop} {G3 : γ → Prop} (h : LayD L k G) (g : LayD M k G2) (e : LayD N k G3) : LayD (fun x : α × β × γ => PyData.tuple [L x.1, M x.2.1, N x.2.2]) (k + 1) (fun x => G x.1 ∧ G2 x.2.1 ∧ G3 x.2.2) := by
  refine ⟨fun x a => ?_, fun x => ?_, fun x y => ?_⟩
  · simp only [PyData.canLay0, PyData.canLayAll0, h.lay _ a.1, g.lay _ a.2.1, e.lay _ a.2.2, Bool.and_true]
  · simp only [PyData.depth, PyData.depthAll]
    have := h.dep x.1
    have := g.dep x.2.1
    have := e.dep x.2.2
    omega
  · simp only [PyData.eqv, PyData.eqvAll, h.eqv, g.eqv, e.eqv, Bool.and_true]
    rw [decide_and2 (r := x.2 = y.2) (by rw [Prod.ext_iff])]
    exact decide_and2 (by rw [Prod.ext_iff])
theorem LayD.tup4 {α β γ δ : Type} [DecidableEq α] [DecidableEq β] [DecidableEq γ] [DecidableEq δ] {L : α → PyData} {M : β → PyData} {N : γ → PyData} {O : δ → PyData} {k : Nat} {G : α → Prop} {G2 : β → Prop} {G3 : γ → Prop} {G4 : δ → Prop} (h : LayD L k G) (g : LayD M k G2) (e : LayD N k G3) (d : LayD O k G4) : LayD (fun x : α × β × γ × δ => PyData.tuple [L x.1, M x.2.1, N x.2.2.1, O x.2.2.2]) (k + 1) (fun x => G x.1 ∧ G2 x.2.1 ∧ G3 x.2.2.1 ∧ G4 x.2.2.2) := by
  refine ⟨fun x a => ?_, fun x => ?_, fun x y => ?_⟩
  · simp only [PyData.canLay0, PyData.canLayAll0, h.lay _ a.1, g.lay _ a.2.1, e.lay _ a.2.2.1, d.lay _ a.2.2.2, Bool.and_true]
  · simp only [PyData.depth, PyData.depthAll]
    have := h.dep x.1
    have := g.dep x.2.1
    have := e.dep x.2.2.1
    have := d.dep x.2.2.2
    omega
  · simp only [PyData.eqv, PyData.eqvAll, h.eqv, g.eqv, e.eqv, d.eqv, Bool.and_true]
    rw [decide_and2 (r := x.2.2 = y.2.2) (by rw [Prod.ext_iff]), decide_and2 (r := x.2 = y.2) (by rw [Prod.ext_iff])]
    exact decide_and2 (by rw [Prod.ext_iff])
theorem eqL {α : Type} [DecidableEq α] {L : α → PyData} {k : Nat} {G : α → Prop} (h : LayD L k G) (hk : k ≤ 64) {K : PySem.W.Frag} {H : Hp} {x y : V} {a b : α} {Q : VK} (ga : G a) (gb : G b) (h1 : Dp K H x (L a)) (h2 : Dp K H y (L b)) (q : Q (.bl (decide (a = b))) H) : rEqD K x y H Q :=
  ⟨_, _, h1, h2, h.shaped hk ga, h.shaped hk gb, by rw [h.eqv]; exact q⟩
theorem neL {α : Type} [DecidableEq α] {L : α → PyData} {k : Nat} {G : α → Prop} (h : LayD L k G) (hk : k ≤ 64) {K : PySem.W.Frag} {H : Hp} {x y : V} {a b : α} {Q : VK} (ga : G a) (gb : G b) (h1 : Dp K H x (L a)) (h2 : Dp K H y (L b)) (q : Q (.bl (!decide (a = b))) H) : rNeD K x y H Q :=
  ⟨_, _, h1, h2, h.shaped hk ga, h.shaped hk gb, by rw [h.eqv]; exact q⟩
theorem dpAll_refs {α : Type} {L : α → PyData} {K : PySem.W.Frag} {H : Hp} : ∀ {ps : List Addr} {xs : List α}, ps.length = xs.length → (∀ (i : Nat) (p : Addr) (x : α), ps[i]? = some p → xs[i]? = some x → Dp K H (.ref p) (L x)) → DpAll K H (ps.map V.ref) (xs.map L)
  | [], [], _, _ => .nil
  | [], _ :: _, h, _ => by cases h
  | _ :: _, [], h, _ => by cases h
  | p :: ps, x :: xs, h, e => .cons (e 0 p x rfl rfl) (dpAll_refs (Nat.succ.inj h) fun i p' x' h1 h2 => e (i + 1) p' x' h1 h2)

/-! ### pairs and fours of numbers in their order -/
section
theorem item_inl {a b : Int} : itemLt (.inl a) (.inl b) = decide (a < b) := rfl
theorem lex_inl {a b : Int} {r t : List (Int ⊕ List Nat)} : PyProof.Rows.lexLt itemOrd (.inl a :: r) (.inl b :: t) = (decide (a < b) || (!decide (b < a) && PyProof.Rows.lexLt itemOrd r t)) := rfl
theorem pair_lt {x y : Int × Int} : PySem.W.dataLt (pairD x) (pairD y) = decide (x.1 < y.1 ∨ (x.1 = y.1 ∧ x.2 < y.2)) := by
  unfold PySem.W.dataLt pairD
  simp only [PySem.W.keyToks, PySem.W.keyToksAll, List.cons_append, List.nil_append, lex_inl]
  rw [Bool.eq_iff_iff]
  simp only [Bool.or_eq_true, Bool.and_eq_true, Bool.not_eq_true', decide_eq_true_eq, decide_eq_false_iff_not, PyProof.Rows.lexLt, item_inl, Bool.false_eq_true, or_false, and_false]
  omega
theorem pairLe_iff {k : V → Int × Int} {x y : V} : pairLe k x y = true ↔ (k x).1 < (k y).1 ∨ ((k x).1 = (k y).1 ∧ (k x).2 ≤ (k y).2) := by
  have e : pairLe k x y = !PySem.W.dataLt (pairD (k y)) (pairD (k x)) := rfl
  rw [e, pair_lt]
  by_cases h : (k y).1 < (k x).1 ∨ ((k y).1 = (k x).1 ∧ (k y).2 < (k x).2)
  · rw [decide_eq_true h]
    constructor
    · intro z
      cases z
    · intro z
      omega
  · rw [decide_eq_false h]
    exact ⟨fun _ => by omega, fun _ => rfl⟩
/-- four numbers -/
abbrev Four := Int × Int × Int × Int
def fourD (q : Four) : PyData := .tuple [.int q.1, .int q.2.1, .int q.2.2.1, .int q.2.2.2]
def FourLt (x y : Four) : Prop := x.1 < y.1 ∨ (x.1 = y.1 ∧ (x.2.1 < y.2.1 ∨ (x.2.1 = y.2.1 ∧ (x.2.2.1 < y.2.2.1 ∨ (x.2.2.1 = y.2.2.1 ∧ x.2.2.2 < y.2.2.2)))))
instance (x y : Four) : Decidable (FourLt x y) := by unfold FourLt; exact inferInstance
theorem four_lt {x y : Four} : PySem.W.dataLt (fourD x) (fourD y) = decide (FourLt x y) := by
  unfold PySem.W.dataLt fourD
  simp only [PySem.W.keyToks, PySem.W.keyToksAll, List.cons_append, List.nil_append, lex_inl]
  rw [Bool.eq_iff_iff, decide_eq_true_iff]
  simp only [Bool.or_eq_true, Bool.and_eq_true, Bool.not_eq_true', decide_eq_true_eq, decide_eq_false_iff_not, PyProof.Rows.lexLt, item_inl, Bool.false_eq_true, or_false, and_false]
  unfold FourLt
  omega
def minFour (x : Four) (xs : List Four) : Four := xs.foldl (fun a y => if FourLt y a then y else a) x
theorem minD_four (x : Four) : ∀ xs : List Four, PySem.W.minD (fourD x) (xs.map fourD) = fourD (minFour x xs) := by
  intro xs
  unfold PySem.W.minD minFour
  induction xs generalizing x with
  | nil => rfl
  | cons y r ih =>
    rw [List.map_cons, List.foldl_cons, List.foldl_cons, ← ih, four_lt]
    congr 1
    by_cases h : FourLt y x
    · rw [decide_eq_true h, if_pos rfl, if_pos h]
    · rw [decide_eq_false h, if_neg Bool.false_ne_true, if_neg h]
theorem minFour_least : ∀ (xs : List Four) (x y : Four), y ∈ x :: xs → ¬ FourLt y (minFour x xs) := by
  intro xs
  induction xs with
  | nil =>
    intro x y h
    rw [List.mem_singleton.mp h]
    show ¬ FourLt x x
    unfold FourLt
    omega
  | cons z r ih =>
    intro x y h
    have e : minFour x (z :: r) = minFour (if FourLt z x then z else x) r := rfl
    rw [e]
    have hm := ih (if FourLt z x then z else x)
    have h0 := hm _ (List.mem_cons_self ..)
    rcases List.mem_cons.mp h with rfl | h
    · by_cases c : FourLt z y
      · rw [if_pos c] at h0 ⊢
        unfold FourLt at c h0 ⊢
        omega
      · rw [if_neg c] at h0 ⊢
        exact h0
    · rcases List.mem_cons.mp h with rfl | h
      · by_cases c : FourLt y x
        · rw [if_pos c] at h0 ⊢
          exact h0
        · rw [if_neg c] at h0 ⊢
          unfold FourLt at c h0 ⊢
          omega
      · exact hm y (List.mem_cons_of_mem _ h)
variable {X : Cx}
def FourAt (H : Hp) (q : Four) (a : Addr) : Prop := H a = some (.tup [.int q.1, .int q.2.1, .int q.2.2.1, .int q.2.2.2])
/-- min(xs), xs a list of fours of numbers -/
def rMinFour (K : PySem.W.Frag) : List V → Hp → VK → Prop := fun vs H Q => ∃ (_ : Unit) (l : Addr) (as : List Addr) (x : Four) (xs : List Four), vs = [V.ref l] ∧ SqL K H l (as.map V.ref) ∧ as.length = xs.length + 1 ∧ (∀ (i : Nat) (a : Addr) (q : Four), as[i]? = some a → (x :: xs)[i]? = some q → FourAt H q a) ∧
  ∀ (_ : Unit) (a : Addr) (q : Four), q ∈ x :: xs → FourAt H q a → (∀ y, y ∈ x :: xs → ¬ FourLt y q) → Q (.ref a) H
theorem four_inj {x y : Four} (h : fourD x = fourD y) : x = y := by
  obtain ⟨a, b, c, d⟩ := x
  obtain ⟨a', b', c', d'⟩ := y
  unfold fourD at h
  simp only [PyData.tuple.injEq, List.cons.injEq, PyData.int.injEq, and_true] at h
  obtain ⟨h1, h2, h3, h4⟩ := h
  subst h1 h2 h3 h4
  rfl
theorem cr_minFour {k : Nat} (hr : Room k X.A) (hc : X.calm = true) : CallR X (.builtin "min") (rMinFour X.K) := by
  intro pins s σ H vs us Q I r h
  obtain ⟨_, l, as, x, xs, rfl, hs, hl, hf, q⟩ := h
  rw [Vals.ref1 r]
  obtain ⟨its, rv, pl, _⟩ := I.list hs
  have hd : DpAll X.K H (as.map V.ref) ((x :: xs).map fourD) := dpAll_refs (L := fourD) (by rw [hl]; rfl) fun i p q h1 h2 => .tup (SqT.of (hf i p q h1 h2)) (.cons (.int _) (.cons (.int _) (.cons (.int _) (.cons (.int _) .nil))))
  obtain ⟨ws, hrd⟩ := Dp.readsAll I _ _ _ hd rv
  have hal : PySem.W.AlikeAll (fourD x :: xs.map fourD) := by
    have all : ∀ d, d ∈ fourD x :: xs.map fourD → ∃ q, d = fourD q := fun d hd => by
      rcases List.mem_cons.mp hd with z | z
      · exact ⟨x, z⟩
      · obtain ⟨q, _, e⟩ := List.mem_map.mp z
        exact ⟨q, e.symm⟩
    refine ⟨fun d hd e he => ?_, fun d hd z => ?_⟩
    · obtain ⟨q1, rfl⟩ := all d hd
      obtain ⟨q2, rfl⟩ := all e he
      simp [fourD, PySem.W.alike, PySem.W.alikeAll]
    · obtain ⟨q1, rfl⟩ := all d hd
      cases z
  refine PySem.W.min_list_data (I.ok.hd hc) pl.isList (x := fourD x) (xs := xs.map fourD) (by simpa using hrd) hal ?_ fun i v g tk bs hv hrv hk => ?_
  · have hdep : PyData.depthAll (fourD x :: xs.map fourD) ≤ 2 := by
      have h2 : ∀ ys : List Four, PyData.depthAll (ys.map fourD) ≤ 2 := fun ys => by
        induction ys with
        | nil => exact Nat.zero_le _
        | cons y r ih =>
          rw [List.map_cons]
          simp only [PyData.depthAll]
          exact Nat.max_le.mpr ⟨by simp [fourD, PyData.depth, PyData.depthAll], ih⟩
      exact h2 (x :: xs)
    have := hr.units
    omega
  · rw [List.getElem?_toArray] at hv
    have hi := (List.getElem?_eq_some_iff.mp hv).1
    have hlen := rv.length
    rw [List.length_map] at hlen
    obtain ⟨a, ha⟩ : ∃ a, as[i]? = some a := ⟨_, List.getElem?_eq_getElem (by omega)⟩
    obtain ⟨y, hy⟩ : ∃ y, (x :: xs)[i]? = some y := ⟨_, List.getElem?_eq_getElem (by rw [List.length_cons]; omega)⟩
    obtain ⟨u, hu, ru⟩ := rv.get (i := i) (x := V.ref a) (by rw [List.getElem?_map, ha]; rfl)
    rw [hv] at hu
    obtain rfl := Option.some.inj hu
    obtain rfl : v = Value.ref a := ru
    have I2 : L2.Inv X pins σ H { s with heap := g, toks := tk } := I.kept hk
    have hfa := hf i a y ha hy
    obtain ⟨bs2, r2⟩ := Dp.reads I2 (fourD y) (.ref a) (.ref a) (.tup (SqT.of hfa) (.cons (.int _) (.cons (.int _) (.cons (.int _) (.cons (.int _) .nil))))) rfl
    rw [minD_four] at hrv
    have e : y = minFour x xs := four_inj (PySem.W.alike_unique _ _ _ _ _ (by simp [fourD, PySem.W.alike, PySem.W.alikeAll]) r2 hrv)
    exact ⟨.ref a, H, I2, rfl, q () a y (List.mem_of_getElem? hy) hfa fun z hz => by rw [e]; exact minFour_least xs x z hz⟩
end
section
variable {X : Cx}
/-- x < y of alike data -/
def rLtAlike (K : PySem.W.Frag) : R2 := fun x y H Q => ∃ (_ : Unit) (dx dy : PyData), Dp K H x dx ∧ Dp K H y dy ∧ PySem.W.alike dx dy = true ∧ dx ≠ .none ∧ dx.depth ≤ 60 ∧ Q (.bl (PySem.W.dataLt dx dy)) H
theorem op_ltAlike {k : Nat} (hr : Room k X.A) : OpR X (compareOp .Lt) (rLtAlike X.K) := by
  intro pins s σ H x y v u Q I rx ry h
  obtain ⟨_, dx, dy, h1, h2, h3, h4, h5, q⟩ := h
  obtain ⟨as, r1⟩ := Dp.reads I dx x v h1 rx
  obtain ⟨bs, r2⟩ := Dp.reads I dy y u h2 ry
  refine PySem.W.lt_data r1 r2 h3 h4 ?_ ⟨.bl (PySem.W.dataLt dx dy), H, I, rfl, q⟩
  have := hr.units
  omega
/-- four numbers in a list -/
theorem four_ltL {x y : Four} : PySem.W.dataLt (.list [.int x.1, .int x.2.1, .int x.2.2.1, .int x.2.2.2]) (.list [.int y.1, .int y.2.1, .int y.2.2.1, .int y.2.2.2]) = decide (FourLt x y) := by
  rw [← four_lt]
  rfl
end

/-! own short words -/
theorem iteD {p A B : Prop} [Decidable p] (h1 : p → A) (h2 : ¬ p → B) : if decide p = true then A else B := by
  by_cases h : p
  · rw [decide_eq_true h, if_pos rfl]; exact h1 h
  · rw [decide_eq_false h, if_neg Bool.false_ne_true]; exact h2 h
theorem iteDN {p A B : Prop} [Decidable p] (h1 : ¬ p → A) (h2 : p → B) : if (!decide p) = true then A else B := by
  by_cases h : p
  · rw [decide_eq_true h]; exact iteF (h2 h)
  · rw [decide_eq_false h]; exact iteT (h1 h)
theorem len_le {n : Nat} (h : Nat.ble n 1000 = true) : n ≤ sizeLine := Nat.le_trans (Nat.le_of_ble_eq_true h) (by decide)
theorem iteB {b : Bool} {A B : Prop} (h1 : b = true → A) (h2 : b = false → B) : if b = true then A else B := by
  cases b with
  | true => exact iteT (h1 rfl)
  | false => exact iteF (h2 rfl)
theorem cmul_l {i j : Int} (h : -(2 ^ 64) < i) (h' : i < 2 ^ 64) : CMul i j := .inl ⟨h, h'⟩
theorem cmul_r {i j : Int} (h : -(2 ^ 64) < j) (h' : j < 2 ^ 64) : CMul i j := .inr ⟨h, h'⟩
theorem dec_t {p : Prop} [Decidable p] (h : decide p = true) : p := of_decide_eq_true h
theorem dec_f {p : Prop} [Decidable p] (h : decide p = false) : ¬ p := of_decide_eq_false h
theorem ndec_t {p : Prop} [Decidable p] (h : (!decide p) = true) : ¬ p := fun q => by rw [decide_eq_true q] at h; cases h
theorem ndec_f {p : Prop} [Decidable p] (h : (!decide p) = false) : p := by
  by_cases q : p
  · exact q
  · rw [decide_eq_false q] at h; cases h
theorem fld_lt {n : Nat} (h : Nat.ble (n + 1) 1000 = true) : n < 1000 := Nat.le_of_ble_eq_true h
def rLen (K : PySem.W.Frag) : List V → Hp → VK → Prop := fun xs H Q => ∃ p ys, xs = [.ref p] ∧ (SqL K H p ys ∨ SqT K H p ys) ∧ Q (.int ys.length) H
def rListOf (K : PySem.W.Frag) : List V → Hp → VK → Prop := fun xs H Q => ∃ p ys, xs = [.ref p] ∧ (SqL K H p ys ∨ SqT K H p ys) ∧ ∀ l, H l = none → Q (.ref l) (upd H l (.lst ys))
def rTupleOf (K : PySem.W.Frag) : List V → Hp → VK → Prop := fun xs H Q => ∃ p ys, xs = [.ref p] ∧ ((SqL K H p ys ∧ ∀ l, H l = none → Q (.ref l) (upd H l (.tup ys))) ∨ (SqT K H p ys ∧ Q (.ref p) H))
theorem len0 : ([] : List V).length ≤ sizeLine := len_le rfl
theorem len1 {a : V} : [a].length ≤ sizeLine := len_le rfl
theorem len2 {a b : V} : [a, b].length ≤ sizeLine := len_le rfl
theorem len3 {a b c : V} : [a, b, c].length ≤ sizeLine := len_le rfl
theorem len4 {a b c d : V} : [a, b, c, d].length ≤ sizeLine := len_le rfl
theorem len5 {a b c d e : V} : [a, b, c, d, e].length ≤ sizeLine := len_le rfl
local macro_rules | `(tactic| walk_at "st") => `(tactic| repeat (first
  | (apply Exists.intro (α := V))
  | (apply Exists.intro (α := Int))
  | (apply Exists.intro (α := Bool))
  | (apply Exists.intro (α := Addr))
  | (apply Exists.intro (α := List V))
  | (apply Exists.intro (α := List Int))
  | (apply Exists.intro (α := List (Str × V)))
  | (apply Exists.intro (α := Str))
  | (apply And.intro; focus (first | omega | (dsimp only; omega) | (simp only [List.length_map, List.length_replicate]; omega) | exact rfl | assumption | exact SqL.of (by assumption) | exact Or.inl (by assumption) | exact Or.inr (by assumption) | exact Or.inr (SqT.of (by assumption)) | exact Or.inl (Or.inl upd_same) | exact Or.inl (Or.inl (Or.inl upd_same)) | (with_reducible exact len0) | (with_reducible exact len1) | (with_reducible exact len2) | (with_reducible exact len3) | (with_reducible exact len4) | (with_reducible exact len5) | exact upd_same | exact ⟨_, Or.inl (Or.inl upd_same)⟩ | exact ⟨_, SqL.of (by assumption)⟩ | exact ⟨_, by assumption⟩ | exact Or.inl ⟨rfl, _, SqL.of (by assumption)⟩ | exact Or.inl ⟨rfl, _, SqL.of upd_same⟩ | exact cmul_l (by omega) (by omega) | exact cmul_r (by omega) (by omega) | exact ⟨by omega, by omega⟩ | (simp only [List.length_map, List.length_replicate]; omega) | exact Or.inl (SqL.of (by assumption)) | exact SqT.of (by assumption) | exact fld_lt rfl | exact Or.inl ⟨_, by assumption, rfl⟩))))
/-- the script's cell at j, 0 where there is none -/
def cellOf (ns : List Int) (j : Nat) : Int := ns.getD j 0
theorem atI_ints {ns : List Int} {j : Nat} (h : j < ns.length) : atI (ns.map V.int) (j : Int) = some (.int (cellOf ns j)) := by
  refine at_of (j := j) rfl ?_
  rw [List.getElem?_map, List.getElem?_eq_getElem h]
  unfold cellOf
  rw [List.getD_eq_getElem?_getD, List.getElem?_eq_getElem h]
  rfl
theorem cellOf_out {ns : List Int} {j : Nat} (h : ¬ j < ns.length) : cellOf ns j = 0 := by
  unfold cellOf
  rw [List.getD_eq_getElem?_getD, List.getElem?_eq_none (by omega)]
  rfl
theorem same_upd {H : Hp} {p : Addr} {o : HO} (h : H p = none) : Same H (upd H p o) := fun b x e => by
  rw [upd_ne (ne_of_none e h)]
  exact e
/-- a slice of a list of ints -/
def cutI (ns : List Int) (lo hi : Option Int) : List Int := (ns.drop (HT.sIx ns.length 0 lo)).take (HT.sIx ns.length ns.length hi - HT.sIx ns.length 0 lo)
theorem cutV_ints (ns : List Int) (lo hi : Option Int) : cutV (ns.map V.int) lo hi = (cutI ns lo hi).map V.int := by
  unfold cutV cutI
  rw [List.length_map, List.map_take, List.map_drop]
theorem cutI_len (ns : List Int) (lo hi : Option Int) : (cutI ns lo hi).length ≤ ns.length := by
  unfold cutI
  rw [List.length_take, List.length_drop]
  omega
theorem ints_at {ns : List Int} {i : Nat} {x : V} (h : (ns.map V.int)[i]? = some x) : ∃ z, ns[i]? = some z ∧ x = V.int z := by
  rw [List.getElem?_map] at h
  cases e : ns[i]? with
  | none => rw [e] at h; cases h
  | some z => rw [e] at h; exact ⟨z, rfl, (Option.some.inj h).symm⟩
theorem take_succ {α : Type} {xs : List α} {i : Nat} {x : α} (h : xs[i]? = some x) : xs.take (i + 1) = xs.take i ++ [x] := by
  rw [List.take_add_one, h]
  rfl
theorem sum_le_mul : ∀ (ws : List Int) (b : Int), (∀ w, w ∈ ws → w ≤ b) → ws.sum ≤ (ws.length : Int) * b
  | [], b, _ => by show (0 : Int) ≤ ((0 : Nat) : Int) * b; omega
  | w :: ws, b, h => by
    rw [List.sum_cons, List.length_cons, Int.natCast_add, Int.add_mul]
    have h1 := h w List.mem_cons_self
    have h2 := sum_le_mul ws b fun x hx => h x (List.mem_cons_of_mem _ hx)
    omega
theorem ixN_nat {n j : Nat} (h : j < n) : ixN n (j : Int) = some j := by
  unfold ixN
  rw [if_pos (by omega), if_pos (by omega), Int.toNat_natCast]
theorem call_int_i {X : Cx} : CallR X (.type "int") (fun xs H Q => ∃ i : Int, xs = [.int i] ∧ Q (.int i) H) := by
  intro pins s σ H xs us Q I r h
  obtain ⟨i, e, q⟩ := h
  exact call_int1 pins s σ H xs us Q I r (.inl ⟨i, e, q⟩)
theorem dpAll_ints {K : PySem.W.Frag} {H : Hp} : ∀ xs : List Int, DpAll K H (xs.map V.int) (xs.map PyData.int)
  | [] => .nil
  | x :: xs => .cons (.int x) (dpAll_ints xs)
theorem eqvAll_ints : ∀ xs ys : List Int, PyData.eqvAll (xs.map PyData.int) (ys.map PyData.int) = decide (xs = ys)
  | [], [] => by simp [PyData.eqvAll]
  | [], _ :: _ => by simp [PyData.eqvAll]
  | _ :: _, [] => by simp [PyData.eqvAll]
  | x :: xs, y :: ys => by
    rw [List.map_cons, List.map_cons]
    simp only [PyData.eqvAll, PyData.eqv]
    rw [eqvAll_ints xs ys]
    by_cases h : x = y <;> by_cases h2 : xs = ys <;> simp [h, h2]
theorem lay_ints : ∀ xs : List Int, PyData.canLayAll0 (xs.map PyData.int) = true
  | [] => rfl
  | x :: xs => by
    rw [List.map_cons]
    simp only [PyData.canLayAll0, PyData.canLay0, Bool.true_and]
    exact lay_ints xs
theorem depth_ints : ∀ xs : List Int, PyData.depthAll (xs.map PyData.int) = 0
  | [] => rfl
  | x :: xs => by
    rw [List.map_cons]
    simp only [PyData.depthAll, PyData.depth, depth_ints xs]
    rfl
theorem shaped_ints (xs : List Int) : SeqAt.shaped (.list (xs.map PyData.int)) = true := by
  unfold SeqAt.shaped
  simp only [PyData.canLay0, PyData.depth, lay_ints, depth_ints]
  rfl
theorem eqD_ints {K : PySem.W.Frag} {H : Hp} {a b : Addr} {xs ys : List Int} {Q : VK} (h1 : SqL K H a (xs.map V.int)) (h2 : SqL K H b (ys.map V.int)) (q : Q (.bl (decide (xs = ys))) H) : rEqD K (.ref a) (.ref b) H Q :=
  ⟨_, _, .lst h1 (dpAll_ints xs), .lst h2 (dpAll_ints ys), shaped_ints xs, shaped_ints ys, by rw [show PyData.eqv (.list (xs.map PyData.int)) (.list (ys.map PyData.int)) = decide (xs = ys) by simp only [PyData.eqv, eqvAll_ints]]; exact q⟩
theorem neD_ints {K : PySem.W.Frag} {H : Hp} {a b : Addr} {xs ys : List Int} {Q : VK} (h1 : SqL K H a (xs.map V.int)) (h2 : SqL K H b (ys.map V.int)) (q : Q (.bl (!decide (xs = ys))) H) : rNeD K (.ref a) (.ref b) H Q :=
  ⟨_, _, .lst h1 (dpAll_ints xs), .lst h2 (dpAll_ints ys), shaped_ints xs, shaped_ints ys, by rw [show PyData.eqv (.list (xs.map PyData.int)) (.list (ys.map PyData.int)) = decide (xs = ys) by simp only [PyData.eqv, eqvAll_ints]]; exact q⟩

def at0 (ws : List Int) (i : Nat) : Int := ws.getD i 0
theorem at0_lt {ws : List Int} {i : Nat} (h : i < ws.length) : ws[i]? = some (at0 ws i) := by
  unfold at0
  rw [List.getD_eq_getElem?_getD, List.getElem?_eq_getElem h]
  rfl
theorem atI_n {ws : List Int} {j : Nat} (h : j < ws.length) : atI (ws.map V.int) (j : Int) = some (.int (at0 ws j)) := by
  refine at_of (j := j) rfl ?_
  rw [List.getElem?_map, at0_lt h]
  rfl
theorem at0_of {ws : List Int} {i : Nat} {x : Int} (h : ws[i]? = some x) : at0 ws i = x := by
  unfold at0
  rw [List.getD_eq_getElem?_getD, h]
  rfl
theorem at0_out {ws : List Int} {i : Nat} (h : ws.length ≤ i) : at0 ws i = 0 := by
  unfold at0
  rw [List.getD_eq_getElem?_getD, List.getElem?_eq_none h]
  rfl
theorem at0_ext {xs ys : List Int} (hl : xs.length = ys.length) (h : ∀ i, i < xs.length → at0 xs i = at0 ys i) : xs = ys := by
  refine List.ext_getElem? fun i => ?_
  by_cases hi : i < xs.length
  · rw [at0_lt hi, at0_lt (by omega), h i hi]
  · rw [List.getElem?_eq_none (by omega), List.getElem?_eq_none (by omega)]
theorem at0_set {ps : List Int} {k i : Nat} {x : Int} (hk : k < ps.length) : at0 (ps.set k x) i = if i = k then x else at0 ps i := by
  by_cases h : i = k
  · subst h
    rw [if_pos rfl]
    exact at0_of (List.getElem?_set_self hk)
  · rw [if_neg h]
    unfold at0
    rw [List.getD_eq_getElem?_getD, List.getD_eq_getElem?_getD, List.getElem?_set_ne (fun e => h e.symm)]
theorem at0_nonneg {ws : List Int} (h : ∀ w, w ∈ ws → 0 ≤ w) (i : Nat) : 0 ≤ at0 ws i := by
  by_cases hi : i < ws.length
  · exact h _ (List.mem_of_getElem? (at0_lt hi))
  · rw [at0_out (by omega)]; exact Int.le_refl 0

theorem pget_list {X : Cx} : PGet X (fun x y H Q => ∃ (p : Addr) (xs : List V) (j : Nat) (z : V), x = .ref p ∧ y = .int (j : Int) ∧ SqL X.K H p xs ∧ xs[j]? = some z ∧ Q z H) := by
  intro pins s σ H x y v u Q I rx ry h
  obtain ⟨p, xs, j, z, rfl, rfl, hq, he, q⟩ := h
  cases rx
  obtain ⟨t, rfl⟩ := ry
  obtain ⟨its, r, pl, hz⟩ := I.list hq
  obtain ⟨w, ew, rw'⟩ := r.get he
  have hl := r.length
  have hn := line63
  have hj := (List.getElem?_eq_some_iff.mp he).1
  exact wpAny_getItem_list pl.isList (by omega) (by omega) (by simpa using ew) ⟨z, H, I, rw', q⟩

theorem in1_lt {k : Nat} {A : Around} (hr : Room k A) : A.in1.units < cLine := by
  have := hr.un
  simp only [Around.in1_units]
  omega
/-- a comprehension over enumerate(xs) -/
theorem lc_enum {K : PySem.W.Frag} {a : Addr} {xs : List V} {g : TG} {tt : TT} {te : TE} {vs : List Nat} {σ : L2.St} {H1 : Hp} {D : Addr} {Qd : Hp → Prop} (Pv : Nat → Hp → Prop) (h0 : Pv 0 (upd H1 D (.lst []))) (hl : ∀ i H, i ≤ xs.length → Pv i H → SqL K H a xs)
    (hs : ∀ (i : Nat) (x : V) (H : Hp) (T : Addr), xs[i]? = some x → Pv i H → H T = none → g (.ref T) (wipe σ vs) (upd H T (.tup [.int (i : Int), x])) fun σ2 H2 => wipe σ2 vs = wipe σ vs ∧ tt σ2 H2 fun b H3 =>
      if b = true then te σ2 H3 fun y H4 => ∃ acc, H4 D = some (.lst acc) ∧ acc.length < sizeLine ∧ Pv (i + 1) (upd H4 D (.lst (acc ++ [y]))) else Pv (i + 1) H3) (hd : ∀ H, Pv xs.length H → Qd H) :
    ∃ W : Nat → Nat → Hp → Prop, (∃ m, W 0 m (upd H1 D (.lst []))) ∧ ∀ i m H, W i m H →
      ((Ite K a).stop i H ∧ Qd H) ∨ ((Ite K a).go i H ∧ ∃ Nx : Hp → Prop, (∀ H', Nx H' → ∃ m', m' < m ∧ W (i + 1) m' H') ∧ ∀ x H', (Ite K a).yld i H x H' → g x (wipe σ vs) H' fun σ2 H2 => wipe σ2 vs = wipe σ vs ∧ tt σ2 H2 fun b H3 =>
        if b = true then te σ2 H3 fun y H4 => ∃ acc, H4 D = some (.lst acc) ∧ acc.length < sizeLine ∧ Nx (upd H4 D (.lst (acc ++ [y]))) else Nx H3) := by
  refine ⟨fun i m H => m + i = xs.length ∧ Pv i H, ⟨xs.length, rfl, h0⟩, ?_⟩
  rintro i m H ⟨em, p⟩
  have q := hl i H (by omega) p
  by_cases hlt : i < xs.length
  · refine .inr ⟨⟨xs, xs[i], q, List.getElem?_eq_getElem hlt⟩, Pv (i + 1), fun H' p' => ⟨m - 1, by omega, by omega, p'⟩, fun x H' y => ?_⟩
    obtain ⟨T, z, rfl, nT, rfl, hz⟩ := y
    exact hs i z H T (hz xs q) p nT
  · have e : i = xs.length := by omega
    subst e
    exact .inl ⟨⟨xs, q, Nat.le_refl _⟩, hd H p⟩

/-- for i, x in enumerate(xs): each turn a new pair -/
theorem for_enum {K : PySem.W.Frag} {a : Addr} {xs : List V} {g : TG} {tb : TS} {D : Ends} {σ : L2.St} {H : Hp} (Pv : Nat → L2.St → Hp → Prop) (h0 : Pv 0 σ H) (hl : ∀ i σ H, i ≤ xs.length → Pv i σ H → SqL K H a xs)
    (hs : ∀ (i : Nat) (x : V) (σ : L2.St) (H : Hp) (T : Addr), xs[i]? = some x → Pv i σ H → H T = none → g (.ref T) σ (upd H T (.tup [.int (i : Int), x])) fun σ2 H2 => tb { D with nx := Pv (i + 1), ct := Pv (i + 1), bk := D.nx } σ2 H2) (hd : ∀ σ H, Pv xs.length σ H → D.nx σ H) :
    ∃ W : Nat → Nat → L2.St → Hp → Prop, (∃ m, W 0 m σ H) ∧ ∀ i m σ H, W i m σ H →
      ((Ite K a).stop i H ∧ D.nx σ H) ∨ ((Ite K a).go i H ∧ ∃ N : L2.St → Hp → Prop, (∀ σ' H', N σ' H' → ∃ m', m' < m ∧ W (i + 1) m' σ' H') ∧ ∀ x H', (Ite K a).yld i H x H' → g x σ H' fun σ2 H2 => tb { D with nx := N, ct := N, bk := D.nx } σ2 H2) := by
  refine ⟨fun i m σ H => m + i = xs.length ∧ Pv i σ H, ⟨xs.length, rfl, h0⟩, ?_⟩
  rintro i m σ H ⟨em, p⟩
  have q := hl i σ H (by omega) p
  by_cases hlt : i < xs.length
  · refine .inr ⟨⟨xs, xs[i], q, List.getElem?_eq_getElem hlt⟩, Pv (i + 1), fun σ' H' p' => ⟨m - 1, by omega, by omega, p'⟩, fun x H' y => ?_⟩
    obtain ⟨T, z, rfl, nT, rfl, hz⟩ := y
    exact hs i z σ H T (hz xs q) p nT
  · have e : i = xs.length := by omega
    subst e
    exact .inl ⟨⟨xs, q, Nat.le_refl _⟩, hd σ H p⟩
theorem call_int_b {X : Cx} : CallR X (.type "int") (fun xs H Q => ∃ b : Bool, xs = [.bl b] ∧ Q (.int (if b = true then 1 else 0)) H) := by
  intro pins s σ H xs us Q I r h
  obtain ⟨i, e, q⟩ := h
  exact call_int1 pins s σ H xs us Q I r (.inr ⟨i, e, q⟩)

/-! a range that is kept under a name -/
theorem mk_rng {X : Cx} : CallR X (.type "range") (fun xs H Q => ∃ top, xs = [V.int top] ∧ ∀ a, H a = none → Q (.ref a) (upd H a (.rng 0 top))) := by
  intro pn sh st Hh xs us Q inv rel hyp
  obtain ⟨top, rfl, go⟩ := hyp
  obtain ⟨w1, rfl, tk1, rfl⟩ := vals1 rel
  refine call_range_1 ⟨.ref sh.heap.objs.size, upd Hh sh.heap.objs.size (.rng 0 top), ?_, rfl, go _ (inv.hok.fresh (Nat.le_refl _))⟩
  refine inv.laid (t' := sh.toks + 2) (fun b o e => Heap.get?_push_of_some _ e) (Nat.le_refl _) ?_
  exact ⟨sh.toks, tk1, sh.toks + 1, Heap.get?_push_size _ rfl⟩
/-- walking it: lo, the bounds, the turns -/
def iRngV (tv : TE) : TI := fun σ H R => tv σ H fun x H1 => ∃ (a : Addr) (n : Nat), x = .ref a ∧ H1 a = some (.rng 0 (n : Int)) ∧ (n : Int) < 2 ^ 62 ∧ R (Itr 0 n) H1
theorem pi_rng {X : Cx} {tg l : Expr} {tv : TE} (hl : PE X l tv) : PI X tg l (iRngV tv) := by
  refine ⟨fun pn sh st Hh R inv hyp => ?_⟩
  refine thn (hl.run pn sh st Hh _ inv hyp) fun vv s2 ⟨y, H2, inv2, rel2, more⟩ => ?_
  obtain ⟨a, n, ea, ha, hb, go⟩ := more
  subst ea
  cases rel2
  obtain ⟨k1, k2, k3, hobj⟩ := inv2.hok a _ ha
  have small : Builtin.Range.small 0 (n : Int) 1 = true := small_one (by omega) (by omega) (by omega) (by omega)
  refine wpAny_pyIter_range (a := 0) (b := (n : Int)) (c := 1) hobj small ?_
  have inv3 : Inv X pn st H2 { s2 with heap := s2.heap.push { cls := Value.type "range_iterator", data := Data.fields #[rawInt 0, rawInt (Builtin.Range.rangeSize 0 (n : Int) 1), rawInt 1] } } := inv2.kept (t' := s2.toks) fun _ _ was => Heap.get?_push_of_some _ was
  have size : (n : Int) - ((0 : Nat) : Int) = Builtin.Range.rangeSize 0 (n : Int) 1 := by
    rw [rangeSize_one]
    split <;> omega
  refine ⟨s2.heap.objs.size, [s2.heap.objs.size], _, _, H2, rfl, inv3, turn_range _ 0 n, ?_, fun c hc => ?_, go⟩
  · rw [show IsRangeIter _ _ _ _ _ = _ from rfl, size]
    exact (Heap.get?_push_size _ rfl)
  · obtain rfl : c = s2.heap.objs.size := List.mem_singleton.mp hc
    exact inv2.fpOk (Nat.le_refl _) (inv2.hok.fresh (Nat.le_refl _))

/-- the first n values of g -/
def rowI (n : Nat) (g : Nat → Int) : List Int := (List.range n).map g
theorem rowI_len (n : Nat) (g : Nat → Int) : (rowI n g).length = n := by
  unfold rowI
  rw [List.length_map, List.length_range]
theorem rowI_at {n : Nat} {g : Nat → Int} {i : Nat} (h : i < n) : (rowI n g)[i]? = some (g i) := by
  unfold rowI
  rw [List.getElem?_map, List.getElem?_range h]
  rfl
theorem atI_row {n : Nat} {g : Nat → Int} {i : Nat} (h : i < n) : atI ((rowI n g).map V.int) (i : Int) = some (.int (g i)) := by
  refine at_of (j := i) rfl ?_
  rw [List.getElem?_map, rowI_at h]
  rfl
theorem rowI_succ (n : Nat) (g : Nat → Int) : rowI (n + 1) g = rowI n g ++ [g n] := by
  unfold rowI
  rw [List.range_succ, List.map_append]
  rfl
theorem rowI_eq {n : Nat} {f g : Nat → Int} : rowI n f = rowI n g ↔ ∀ i, i < n → f i = g i := by
  unfold rowI
  rw [List.map_inj_left]
  exact ⟨fun h i hi => h i (List.mem_range.mpr hi), fun h i hi => h i (List.mem_range.mp hi)⟩
theorem rowI_of (ws : List Int) : rowI ws.length (at0 ws) = ws := by
  refine List.ext_getElem? fun i => ?_
  by_cases h : i < ws.length
  · rw [rowI_at h, at0_lt h]
  · rw [List.getElem?_eq_none (by rw [rowI_len]; omega), List.getElem?_eq_none (by omega)]
theorem rowI_mem {n : Nat} {g : Nat → Int} {x : Int} : x ∈ rowI n g ↔ ∃ i, i < n ∧ g i = x := by
  unfold rowI
  rw [List.mem_map]
  exact ⟨fun ⟨i, h, e⟩ => ⟨i, List.mem_range.mp h, e⟩, fun ⟨i, h, e⟩ => ⟨i, List.mem_range.mpr h, e⟩⟩
/-- the sum of the first n values of g -/
def sumI (n : Nat) (g : Nat → Int) : Int := (rowI n g).sum
theorem sumI_succ (n : Nat) (g : Nat → Int) : sumI (n + 1) g = sumI n g + g n := by
  unfold sumI
  rw [rowI_succ, List.sum_append, List.sum_cons, List.sum_nil]
  omega
theorem sumI_congr {n : Nat} {f g : Nat → Int} (h : ∀ i, i < n → f i = g i) : sumI n f = sumI n g := by
  unfold sumI
  rw [rowI_eq.mpr h]
theorem sumI_sub : ∀ (n : Nat) (f g : Nat → Int), sumI n (fun i => f i - g i) = sumI n f - sumI n g
  | 0, _, _ => rfl
  | n + 1, f, g => by rw [sumI_succ, sumI_succ, sumI_succ, sumI_sub n f g]; omega
theorem sumI_bound {n : Nat} {g : Nat → Int} {m : Int} (h : ∀ i, i < n → 0 ≤ g i ∧ g i ≤ m) : 0 ≤ sumI n g ∧ sumI n g ≤ n * m := by
  induction n with
  | zero => exact ⟨Int.le_refl 0, by show (0 : Int) ≤ ((0 : Nat) : Int) * m; omega⟩
  | succ n ih =>
    have h1 := ih fun i hi => h i (by omega)
    have h2 := h n (by omega)
    rw [sumI_succ]
    have e : ((n + 1 : Nat) : Int) * m = n * m + m := by rw [Int.natCast_add, Int.add_mul]; omega
    omega
/-- a square table of numbers, its rows at ps -/
structure Tab (H : Hp) (t : Addr) (ps : List Addr) (n : Nat) (f : Nat → Nat → Int) : Prop where
  lst : H t = some (.lst (ps.map V.ref))
  len : ps.length = n
  row : ∀ i p, ps[i]? = some p → H p = some (.lst ((rowI n (f i)).map V.int))
  nod : ps.Nodup
  out : t ∉ ps
theorem Tab.same {H H' : Hp} {t : Addr} {ps : List Addr} {n : Nat} {f : Nat → Nat → Int} (h : Tab H t ps n f) (e : Same H H') : Tab H' t ps n f :=
  ⟨e _ _ h.lst, h.len, fun i p hp => e _ _ (h.row i p hp), h.nod, h.out⟩
def tabL (n : Nat) (f : Nat → Nat → Int) : List (List Int) := (List.range n).map fun i => rowI n (f i)
theorem tabL_at {n : Nat} {f : Nat → Nat → Int} {i : Nat} (h : i < n) : (tabL n f)[i]? = some (rowI n (f i)) := by
  unfold tabL
  rw [List.getElem?_map, List.getElem?_range h]
  rfl
theorem tabL_eq {n : Nat} {f g : Nat → Nat → Int} : tabL n f = tabL n g ↔ ∀ i, i < n → ∀ j, j < n → f i j = g i j := by
  unfold tabL
  rw [List.map_inj_left]
  exact ⟨fun h i hi => rowI_eq.mp (h i (List.mem_range.mpr hi)), fun h i hi => rowI_eq.mpr (h i (List.mem_range.mp hi))⟩
theorem layD_tab : LayD (fun xs : List (List Int) => PyData.list (xs.map fun ys => PyData.list (ys.map PyData.int))) 2 (fun xs => ∀ x, x ∈ xs → ∀ y, y ∈ x → True) := layD_int.list.list
theorem Tab.dp {K : PySem.W.Frag} {H : Hp} {t : Addr} {ps : List Addr} {n : Nat} {f : Nat → Nat → Int} (h : Tab H t ps n f) : Dp K H (.ref t) (PyData.list ((tabL n f).map fun ys => PyData.list (ys.map PyData.int))) := by
  refine .lst (SqL.of h.lst) (dpAll_refs ?_ fun i p x h1 h2 => ?_)
  · rw [h.len]
    unfold tabL
    rw [List.length_map, List.length_range]
  · have hi := (List.getElem?_eq_some_iff.mp h1).1
    rw [h.len] at hi
    rw [tabL_at hi] at h2
    cases h2
    exact .lst (SqL.of (h.row i p h1)) (dpAll_ints _)
theorem refs_at {ps : List Addr} {i : Nat} {x : V} (h : (ps.map V.ref)[i]? = some x) : ∃ p, ps[i]? = some p ∧ x = V.ref p := by
  rw [List.getElem?_map] at h
  cases e : ps[i]? with
  | none => rw [e] at h; cases h
  | some z => rw [e] at h; exact ⟨z, rfl, (Option.some.inj h).symm⟩
theorem Tab.at {H : Hp} {t : Addr} {ps : List Addr} {n : Nat} {f : Nat → Nat → Int} (h : Tab H t ps n f) {i : Nat} (hi : i < n) : ∃ p, ps[i]? = some p ∧ atI (ps.map V.ref) (i : Int) = some (.ref p) ∧ H p = some (.lst ((rowI n (f i)).map V.int)) := by
  have hl : i < ps.length := by rw [h.len]; exact hi
  refine ⟨ps[i], List.getElem?_eq_getElem hl, at_of (j := i) rfl ?_, h.row i _ (List.getElem?_eq_getElem hl)⟩
  rw [List.getElem?_map, List.getElem?_eq_getElem hl]
  rfl

/-- a table that grows: m rows of n numbers -/
structure TabR (H : Hp) (t : Addr) (ps : List Addr) (m n : Nat) (f : Nat → Nat → Int) : Prop where
  lst : H t = some (.lst (ps.map V.ref))
  len : ps.length = m
  row : ∀ i p, ps[i]? = some p → H p = some (.lst ((rowI n (f i)).map V.int))
  nod : ps.Nodup
  out : t ∉ ps
theorem TabR.nil {H : Hp} {t : Addr} (n : Nat) (f : Nat → Nat → Int) (h : H t = some (.lst [])) : TabR H t [] 0 n f :=
  ⟨h, rfl, fun _ _ e => (by rw [List.getElem?_nil] at e; cases e), List.nodup_nil, fun h => (by cases h)⟩
theorem TabR.congr {H : Hp} {t : Addr} {ps : List Addr} {m n : Nat} {f g : Nat → Nat → Int} (h : TabR H t ps m n f) (e : ∀ i, i < m → ∀ j, j < n → f i j = g i j) : TabR H t ps m n g :=
  ⟨h.lst, h.len, fun i p hp => by
    have hi := (List.getElem?_eq_some_iff.mp hp).1
    rw [h.row i p hp, rowI_eq.mpr (e i (by rw [← h.len]; exact hi))], h.nod, h.out⟩
theorem TabR.push {H H' : Hp} {t p : Addr} {ps : List Addr} {m n : Nat} {f : Nat → Nat → Int} (h : TabR H t ps m n f) (e : Same H H') (np : H p = none) (hp : H' p = some (.lst ((rowI n (f m)).map V.int))) : TabR (upd H' t (.lst (ps.map V.ref ++ [V.ref p]))) t (ps ++ [p]) (m + 1) n f := by
  have hmem : ∀ q, q ∈ ps → ∃ o, H q = some o := fun q hq => by
    obtain ⟨i, hi⟩ := List.mem_iff_getElem?.mp hq
    exact ⟨_, h.row i q hi⟩
  have hpt : p ≠ t := fun z => by rw [z, h.lst] at np; cases np
  have hnp : p ∉ ps := fun z => by
    obtain ⟨o, ho⟩ := hmem p z
    rw [np] at ho
    cases ho
  refine ⟨?_, ?_, fun i q hq => ?_, ?_, ?_⟩
  · rw [upd_same, List.map_append]
    rfl
  · rw [List.length_append, h.len]
    rfl
  · by_cases hi : i < ps.length
    · rw [List.getElem?_append_left hi] at hq
      have hm := List.mem_of_getElem? hq
      rw [upd_ne (fun z => h.out (by rw [← z]; exact hm))]
      exact e _ _ (h.row i q hq)
    · rw [List.getElem?_append_right (by omega)] at hq
      have hi2 := (List.getElem?_eq_some_iff.mp hq).1
      have : i - ps.length = 0 := by
        rw [List.length_cons, List.length_nil] at hi2
        omega
      rw [this] at hq
      have hqp : p = q := Option.some.inj hq
      subst hqp
      rw [upd_ne hpt, hp]
      have : i = m := by have := h.len; omega
      rw [this]
  · rw [List.nodup_append]
    refine ⟨h.nod, List.nodup_cons.mpr ⟨fun z => (by cases z), List.nodup_nil⟩, fun a ha b hb z => ?_⟩
    rw [List.mem_singleton] at hb
    rw [hb] at z
    rw [z] at ha
    exact hnp ha
  · intro z
    rcases List.mem_append.mp z with z | z
    · exact h.out z
    · rw [List.mem_singleton] at z
      exact hpt z.symm
theorem TabR.tab {H : Hp} {t : Addr} {ps : List Addr} {n : Nat} {f : Nat → Nat → Int} (h : TabR H t ps n n f) : Tab H t ps n f := ⟨h.lst, h.len, h.row, h.nod, h.out⟩
theorem TabR.keep {H H0 : Hp} {t : Addr} {xs : List V} (s : Same H0 H) (nt : H0 t = none) : Same H0 (upd H t (.lst xs)) := fun b o e => by
  rw [upd_ne (ne_of_none e nt)]
  exact s b o e
/-- debts: one to thirteen houses, nobody owes itself -/
structure Debts (n : Nat) (f : Nat → Nat → Int) (m : Int) : Prop where
  n0 : 1 ≤ n
  n1 : n ≤ 13
  b : ∀ i, i < n → ∀ j, j < n → 0 ≤ f i j ∧ f i j ≤ m
  d : ∀ i, i < n → f i i = 0
theorem Debts.mono {n : Nat} {f : Nat → Nat → Int} {m k : Int} (h : Debts n f m) (e : m ≤ k) : Debts n f k := ⟨h.n0, h.n1, fun i hi j hj => ⟨(h.b i hi j hj).1, Int.le_trans (h.b i hi j hj).2 e⟩, h.d⟩

/-- a list of tuples: the tuple of each item -/
structure Tups {α : Type} (enc : α → List V) (H : Hp) (l : Addr) (ps : List Addr) (xs : List α) : Prop where
  lst : H l = some (.lst (ps.map V.ref))
  len : ps.length = xs.length
  row : ∀ (i : Nat) (p : Addr) (x : α), ps[i]? = some p → xs[i]? = some x → H p = some (.tup (enc x))
theorem Tups.nil {α : Type} {enc : α → List V} {H : Hp} {l : Addr} (h : H l = some (.lst [])) : Tups enc H l [] ([] : List α) :=
  ⟨h, rfl, fun _ _ _ e => (by rw [List.getElem?_nil] at e; cases e)⟩
theorem Tups.same {α : Type} {enc : α → List V} {H H' : Hp} {l : Addr} {ps : List Addr} {xs : List α} (h : Tups enc H l ps xs) (e : Same H H') : Tups enc H' l ps xs :=
  ⟨e _ _ h.lst, h.len, fun i p x a b => e _ _ (h.row i p x a b)⟩
theorem Tups.at {α : Type} {enc : α → List V} {H : Hp} {l : Addr} {ps : List Addr} {xs : List α} (h : Tups enc H l ps xs) {i : Nat} {x : α} (e : xs[i]? = some x) : ∃ p, ps[i]? = some p ∧ atI (ps.map V.ref) (i : Int) = some (.ref p) ∧ H p = some (.tup (enc x)) := by
  have hi := (List.getElem?_eq_some_iff.mp e).1
  have hl : i < ps.length := by rw [h.len]; exact hi
  refine ⟨ps[i], List.getElem?_eq_getElem hl, at_of (j := i) rfl ?_, h.row i _ x (List.getElem?_eq_getElem hl) e⟩
  rw [List.getElem?_map, List.getElem?_eq_getElem hl]
  rfl
theorem Tups.item {α : Type} {enc : α → List V} {H : Hp} {l : Addr} {ps : List Addr} {xs : List α} (h : Tups enc H l ps xs) {i : Nat} {v : V} (e : (ps.map V.ref)[i]? = some v) : ∃ p x, ps[i]? = some p ∧ xs[i]? = some x ∧ v = .ref p ∧ H p = some (.tup (enc x)) := by
  obtain ⟨p, hp, rfl⟩ := refs_at e
  have hi := (List.getElem?_eq_some_iff.mp hp).1
  rw [h.len] at hi
  exact ⟨p, xs[i], hp, List.getElem?_eq_getElem hi, rfl, h.row i p _ hp (List.getElem?_eq_getElem hi)⟩
theorem Tups.push {α : Type} {enc : α → List V} {H H' : Hp} {l p : Addr} {ps : List Addr} {xs : List α} {x : α} (h : Tups enc H l ps xs) (e : Same H H') (np : H p = none) (hp : H' p = some (.tup (enc x))) : Tups enc (upd H' l (.lst (ps.map V.ref ++ [V.ref p]))) l (ps ++ [p]) (xs ++ [x]) := by
  have hpl : p ≠ l := fun z => by rw [z, h.lst] at np; cases np
  refine ⟨?_, ?_, fun i q y hq hy => ?_⟩
  · rw [upd_same, List.map_append]
    rfl
  · rw [List.length_append, List.length_append, h.len]
    rfl
  · by_cases hi : i < ps.length
    · rw [List.getElem?_append_left hi] at hq
      rw [List.getElem?_append_left (by rw [← h.len]; exact hi)] at hy
      have hq2 := h.row i q y hq hy
      rw [upd_ne (fun z => by rw [z, h.lst] at hq2; cases hq2)]
      exact e _ _ hq2
    · rw [List.getElem?_append_right (by omega)] at hq
      rw [List.getElem?_append_right (by have := h.len; omega)] at hy
      have h1 := (List.getElem?_eq_some_iff.mp hq).1
      rw [List.length_cons, List.length_nil] at h1
      have e0 : i - ps.length = 0 := by omega
      have e1 : i - xs.length = 0 := by have := h.len; omega
      rw [e0] at hq
      rw [e1] at hy
      have z1 : p = q := Option.some.inj hq
      have z2 : x = y := Option.some.inj hy
      rw [← z1, ← z2, upd_ne hpl]
      exact hp
theorem Tups.dp {α : Type} {enc : α → List V} {L : α → PyData} {K : PySem.W.Frag} {H : Hp} {l : Addr} {ps : List Addr} {xs : List α} (h : Tups enc H l ps xs) (he : ∀ x (p : Addr), H p = some (.tup (enc x)) → Dp K H (.ref p) (L x)) : Dp K H (.ref l) (PyData.list (xs.map L)) :=
  .lst (SqL.of h.lst) (dpAll_refs h.len fun i p x h1 h2 => he x p (h.row i p x h1 h2))
def enc2 (x : Int × Int) : List V := [.int x.1, .int x.2]
def enc3 (x : Int × Int × Int) : List V := [.int x.1, .int x.2.1, .int x.2.2]
def lay3 (x : Int × Int × Int) : PyData := .tuple [.int x.1, .int x.2.1, .int x.2.2]
theorem layD_3 : LayD lay3 1 (fun x => True ∧ True ∧ True) := layD_int.tup3 layD_int layD_int
theorem dp3 {K : PySem.W.Frag} {H : Hp} (x : Int × Int × Int) (p : Addr) (h : H p = some (.tup (enc3 x))) : Dp K H (.ref p) (lay3 x) :=
  .tup (SqT.of h) (.cons (.int _) (.cons (.int _) (.cons (.int _) .nil)))
theorem Tups.push2 {α : Type} {enc : α → List V} {H : Hp} {l p : Addr} {ps : List Addr} {xs : List α} {x : α} (h : Tups enc H l ps xs) (hp : H p = some (.tup (enc x))) : Tups enc (upd H l (.lst (ps.map V.ref ++ [V.ref p]))) l (ps ++ [p]) (xs ++ [x]) := by
  have hpl : p ≠ l := fun z => by rw [z, h.lst] at hp; cases hp
  refine ⟨?_, ?_, fun i q y hq hy => ?_⟩
  · rw [upd_same, List.map_append]
    rfl
  · rw [List.length_append, List.length_append, h.len]
    rfl
  · by_cases hi : i < ps.length
    · rw [List.getElem?_append_left hi] at hq
      rw [List.getElem?_append_left (by rw [← h.len]; exact hi)] at hy
      have hq2 := h.row i q y hq hy
      rw [upd_ne (fun z => by rw [z, h.lst] at hq2; cases hq2)]
      exact hq2
    · rw [List.getElem?_append_right (by omega)] at hq
      rw [List.getElem?_append_right (by have := h.len; omega)] at hy
      have h1 := (List.getElem?_eq_some_iff.mp hq).1
      rw [List.length_cons, List.length_nil] at h1
      have e0 : i - ps.length = 0 := by omega
      have e1 : i - xs.length = 0 := by have := h.len; omega
      rw [e0] at hq
      rw [e1] at hy
      have z1 : p = q := Option.some.inj hq
      have z2 : x = y := Option.some.inj hy
      rw [← z1, ← z2, upd_ne hpl]
      exact hp
theorem Tups.copy {α : Type} {enc : α → List V} {H H' : Hp} {l l2 : Addr} {ps : List Addr} {xs : List α} (h : Tups enc H l ps xs) (e : Same H H') (h2 : H' l2 = some (.lst (ps.map V.ref))) : Tups enc H' l2 ps xs :=
  ⟨h2, h.len, fun i p x a b => e _ _ (h.row i p x a b)⟩
theorem Tups.other {α : Type} {enc : α → List V} {H : Hp} {l A : Addr} {ps : List Addr} {xs : List α} {ys zs : List V} (h : Tups enc H l ps xs) (hA : H A = some (.lst ys)) (ne : l ≠ A) : Tups enc (upd H A (.lst zs)) l ps xs :=
  ⟨by rw [upd_ne ne]; exact h.lst, h.len, fun i p x a b => by
    have hp := h.row i p x a b
    rw [upd_ne (fun z => by rw [z, hA] at hp; cases hp)]
    exact hp⟩

/-! a dict from texts to whole numbers -/
def encD (d : List (Int × Int)) : List (Key × V) := d.map fun x => (Sum.inl x.1, V.int x.2)
def getS (d : List (Int × Int)) (s : Int) : Option Int := (d.find? fun x => decide (x.1 = s)).map (·.2)
def keysS (d : List (Int × Int)) : List Int := d.map (·.1)
def putS (d : List (Int × Int)) (s : Int) (v : Int) : List (Int × Int) := if s ∈ keysS d then d.map (fun x => if x.1 = s then (x.1, v) else x) else d ++ [(s, v)]
def gD (d : List (Int × Int)) (s : Int) : Int := (getS d s).getD 0
theorem inl_eq {a b : Int} : ((Sum.inl a : Key) = Sum.inl b) ↔ a = b := ⟨fun h => Sum.inl.inj h, fun h => by rw [h]⟩
theorem valV_enc (s : Int) : ∀ d : List (Int × Int), valV (encD d) (Sum.inl s) = (getS d s).map V.int
  | [] => rfl
  | x :: d => by
    unfold encD getS
    rw [List.map_cons, List.find?_cons]
    by_cases h : x.1 = s
    · rw [valV_pos (by rw [h]), decide_eq_true h]; rfl
    · rw [valV_neg (fun z => h (Sum.inl.inj z)), decide_eq_false h]
      exact valV_enc s d
theorem any_enc (s : Int) : ∀ d : List (Int × Int), ((encD d).any fun kv => decide (kv.1 = Sum.inl s)) = decide (s ∈ keysS d)
  | [] => rfl
  | x :: d => by
    have ih := any_enc s d
    unfold encD at ih ⊢
    rw [List.map_cons, List.any_cons, ih]
    unfold keysS
    rw [List.map_cons]
    by_cases h : x.1 = s
    · have hm : s ∈ x.1 :: List.map (fun x => x.1) d := by rw [← h]; exact List.mem_cons_self
      rw [decide_eq_true (show ((Sum.inl x.1 : Key) = Sum.inl s) by rw [h]), decide_eq_true hm]; rfl
    · rw [decide_eq_false (fun z => h (Sum.inl.inj z)), Bool.false_or]
      exact decide_eq_decide.mpr ⟨fun z => List.mem_cons_of_mem _ z, fun z => (List.mem_cons.mp z).resolve_left fun e => h e.symm⟩
theorem putK_enc (d : List (Int × Int)) (s : Int) (v : Int) : putK (encD d) (Sum.inl s) (V.int v) = encD (putS d s v) := by
  unfold putK putS
  rw [any_enc]
  by_cases h : s ∈ keysS d
  · rw [if_pos (decide_eq_true h), if_pos h]
    unfold encD
    rw [List.map_map, List.map_map]
    refine List.map_congr_left fun x _ => ?_
    show (if (Sum.inl x.1 : Key) = Sum.inl s then ((Sum.inl x.1 : Key), V.int v) else (Sum.inl x.1, V.int x.2)) = _
    by_cases z : x.1 = s
    · rw [if_pos (by rw [z])]
      show _ = ((Sum.inl (if x.1 = s then (x.1, v) else x).1 : Key), V.int (if x.1 = s then (x.1, v) else x).2)
      rw [if_pos z]
    · rw [if_neg (fun e => z (Sum.inl.inj e))]
      show _ = ((Sum.inl (if x.1 = s then (x.1, v) else x).1 : Key), V.int (if x.1 = s then (x.1, v) else x).2)
      rw [if_neg z]
  · rw [if_neg (by rw [decide_eq_false h]; exact Bool.false_ne_true), if_neg h]
    unfold encD
    rw [List.map_append]
    rfl
def addK (ks : List Int) (s : Int) : List Int := if s ∈ ks then ks else ks ++ [s]
theorem keys_put (d : List (Int × Int)) (s : Int) (v : Int) : keysS (putS d s v) = addK (keysS d) s := by
  unfold putS addK
  by_cases h : s ∈ keysS d
  · rw [if_pos h, if_pos h]
    unfold keysS
    rw [List.map_map]
    refine List.map_congr_left fun x _ => ?_
    show (if x.1 = s then (x.1, v) else x).1 = x.1
    split <;> rfl
  · rw [if_neg h, if_neg h]
    unfold keysS
    rw [List.map_append]
    rfl
theorem get_mem (s : Int) : ∀ d : List (Int × Int), (getS d s).isSome = decide (s ∈ keysS d)
  | [] => rfl
  | x :: d => by
    have ih := get_mem s d
    unfold getS keysS at ih ⊢
    rw [List.find?_cons, List.map_cons]
    by_cases h : x.1 = s
    · rw [decide_eq_true h, decide_eq_true (by rw [h]; exact List.mem_cons_self)]; rfl
    · rw [decide_eq_false h]
      refine ih.trans (decide_eq_decide.mpr ⟨fun z => List.mem_cons_of_mem _ z, fun z => (List.mem_cons.mp z).resolve_left fun e => h e.symm⟩)
theorem get_some {d : List (Int × Int)} {s : Int} (h : s ∈ keysS d) : getS d s = some (gD d s) := by
  have e := get_mem s d
  rw [decide_eq_true h] at e
  unfold gD
  cases w : getS d s with
  | none => rw [w] at e; cases e
  | some x => rfl
theorem get_map (s t : Int) (v : Int) : ∀ d : List (Int × Int), getS (d.map fun x => if x.1 = s then (x.1, v) else x) t = (getS d t).map fun w => if t = s then v else w
  | [] => rfl
  | x :: d => by
    have ih := get_map s t v d
    unfold getS at ih ⊢
    rw [List.map_cons, List.find?_cons, List.find?_cons]
    have e1 : (if x.1 = s then (x.1, v) else x).1 = x.1 := by split <;> rfl
    rw [e1]
    by_cases h : x.1 = t
    · rw [decide_eq_true h]
      show some (if x.1 = s then (x.1, v) else x).2 = some (if t = s then v else x.2)
      by_cases z : x.1 = s
      · rw [if_pos z, if_pos (h.symm.trans z)]
      · rw [if_neg z, if_neg fun e => z (h.trans e)]
    · rw [decide_eq_false h]
      exact ih
theorem gD_put (d : List (Int × Int)) (s t : Int) (v : Int) : gD (putS d s v) t = if t = s then v else gD d t := by
  unfold gD putS
  by_cases h : s ∈ keysS d
  · rw [if_pos h, get_map]
    by_cases z : t = s
    · have := get_some h
      rw [z, this, if_pos rfl]
      show (if s = s then v else gD d s) = v
      rw [if_pos rfl]
    · rw [if_neg z]
      cases getS d t with
      | none => rfl
      | some w => show (if t = s then v else w) = w; rw [if_neg z]
  · rw [if_neg h]
    unfold getS
    rw [List.find?_append]
    by_cases z : t = s
    · have e := get_mem s d
      rw [decide_eq_false h] at e
      unfold getS at e
      rw [z, if_pos rfl]
      cases w : d.find? fun x => decide (x.1 = s) with
      | none => rw [Option.none_or, List.find?_cons, decide_eq_true rfl]; rfl
      | some x => rw [w] at e; cases e
    · rw [if_neg z]
      have : List.find? (fun x : Int × Int => decide (x.1 = t)) [(s, v)] = none := by
        rw [List.find?_cons, decide_eq_false fun e : s = t => z e.symm]
        rfl
      rw [this, Option.or_none]
theorem dget_go {H : Hp} {a : Addr} {s : Int} {d : List (Int × Int)} {R : Option V → Prop} (h : H a = some (.dK (encD d))) (q : R ((getS d s).map V.int)) : ∃ o, DGet H a (.int s) o ∧ R o := by
  refine ⟨_, ?_, q⟩
  have := DGet.k (k := Sum.inl s) h
  rw [valV_enc] at this
  exact this
theorem dget_at {H : Hp} {a : Addr} {s : Int} {d : List (Int × Int)} (h : H a = some (.dK (encD d))) (k : s ∈ keysS d) : DGet H a (.int s) (some (.int (gD d s))) := by
  have := DGet.k (k := Sum.inl s) h
  rw [valV_enc, get_some k] at this
  exact this
theorem dput_go {H : Hp} {a : Addr} {s : Int} {v : Int} {d : List (Int × Int)} {R : Hp → Prop} (h : H a = some (.dK (encD d))) (hl : d.length ≤ 1000) (q : R (upd H a (.dK (encD (putS d s v))))) : ∃ H', V.ref a = V.ref a ∧ DPut H a (.int s) (.int v) H' ∧ R H' := by
  refine ⟨_, rfl, ?_, q⟩
  rw [← putK_enc]
  refine DPut.k (k := Sum.inl s) h ?_
  unfold encD
  rw [List.length_map]
  exact small1000 (by omega)
theorem getD_int (d : List (Int × Int)) (s : Int) : ((getS d s).map V.int).getD (.int 0) = .int (gD d s) := by
  unfold gD
  cases getS d s <;> rfl
theorem isD_enc {H : Hp} {a : Addr} {d : List (Int × Int)} (h : H a = some (.dK (encD d))) : IsD H a := .inl ⟨_, .inl h⟩
theorem addK_mem {ks : List Int} {s t : Int} : t ∈ addK ks s ↔ t ∈ ks ∨ t = s := by
  unfold addK
  split
  · exact ⟨.inl, fun h => h.elim id fun e => by rw [e]; assumption⟩
  · rw [List.mem_append, List.mem_singleton]
theorem addK_nodup {ks : List Int} {s : Int} (h : ks.Nodup) : (addK ks s).Nodup := by
  unfold addK
  split
  · exact h
  · rename_i n
    rw [List.nodup_append]
    exact ⟨h, List.nodup_cons.mpr ⟨fun z => (by cases z), List.nodup_nil⟩, fun a ha b hb e => n (by rw [List.mem_singleton] at hb; rw [← hb, ← e]; exact ha)⟩
theorem addK_len (ks : List Int) (s : Int) : (addK ks s).length ≤ ks.length + 1 := by
  unfold addK
  split
  · omega
  · rw [List.length_append]; exact Nat.le_refl _
theorem keys_enc (d : List (Int × Int)) : (encD d).map (·.1) = (keysS d).map Sum.inl := by
  unfold encD keysS
  rw [List.map_map, List.map_map]
  rfl

/-! ### xs != ys, two lists of the very same objects -/
def rNeSame (K : PySem.W.Frag) : R2 := fun x y H Q => ∃ (a b : Addr) (as : List Addr), x = .ref a ∧ y = .ref b ∧ SqL K H a (as.map V.ref) ∧ SqL K H b (as.map V.ref) ∧ Q (.bl false) H
theorem vals_same : ∀ {as : List Addr} {its : List Value}, Vals (as.map V.ref) its → its = as.map Value.ref
  | [], _, .nil => rfl
  | _ :: _, _, .cons h t => by
    cases h
    rw [vals_same t]
    rfl
theorem op_neSame {X : Cx} (hu : X.A.units + 64 < cLine) : OpR X (compareOp .NotEq) (rNeSame X.K) := by
  intro pins s σ H x y v u Q I rx ry h
  obtain ⟨a, b, as, rfl, rfl, h1, h2, q⟩ := h
  cases rx
  cases ry
  obtain ⟨us1, r1, p1, _⟩ := I.list h1
  obtain ⟨us2, r2, p2, _⟩ := I.list h2
  obtain rfl := vals_same r1
  obtain rfl := vals_same r2
  have key := PySem.SeqAt.RcNeAt.lists (A := X.A) (e := fun _ => true) p1.isList p2.isList rfl (by omega) fun j j1 j2 => PySem.SeqAt.EqAt.same _
  rw [show (!(List.range (as.map Value.ref).toArray.size).all fun _ => true) = false by simp] at key
  exact key X.prog X.w X.xe _ ⟨.bl false, H, I, rfl, q⟩

section
variable {P : Program} {w : World} {K : PySem.W.Frag} {mg : Str → Option Value} {base : Heap}
def optV : Option Int → V
  | none => .non
  | some i => .int i
def buyS (s : Str) : Bool := decide (V.str s = V.str "buy")
/-- whether the limit takes the price -/
def takes (side : Str) (limit : Option Int) (p : Int) : Bool := match limit with
  | none => true
  | some l => if buyS side then decide (p ≤ l) else decide (l ≤ p)
def sp_accepts (K : PySem.W.Frag) : Sp := fun vs H Q _ => ∃ (s : Str) (l : Option Int) (p : Int), vs = [.str s, optV l, .int p] ∧ Q (.bl (takes s l p)) H
set_option maxHeartbeats 0 in
theorem ok_accepts (T : Txt K mg) [TB : TabsOk T base] : FnOk P w K mg base CX0 1 T.f_accepts T.d_accepts ["side", "limit", "price"] (sp_accepts K) := by
  refine T.F_accepts.ok sc_accepts (fun vs H Q E h => ?_) (fun cdv A outer s H vs Q E hr h => ?_)
  · obtain ⟨s, l, p, rfl, _⟩ := h
    rfl
  · obtain ⟨s, l, p, rfl, q⟩ := h
    refine ⟨_, (pss_cons (ps_if (pt_cmpR op_isN (pv 1) pe_non (nomark _))
      (pss_one (ps_ret pe_bl))
      pss_nil)
    (pss_one (ps_ret (pe_ifExp (pt_cmpR op_eq (pv 0) pe_str (nomark _)) (pe_cmpR op_le (pv 2) (pv 1) (nomark _)) (pe_cmpR op_ge (pv 2) (pv 1) (nomark _)))))), ?_⟩
    cases l with
    | none =>
      walk_at "st"
      exact q
    | some l =>
      walk_at "st"
      refine iteB (fun h => ?_) (fun h => ?_)
      · walk_at "st"
        have e : takes s (some l) p = decide (p ≤ l) := by
          show (if buyS s = true then _ else _) = _
          rw [show buyS s = true from h, if_pos rfl]
        rw [e] at q
        exact q
      · walk_at "st"
        have e : takes s (some l) p = decide (l ≤ p) := by
          show (if buyS s = true then _ else _) = _
          rw [show buyS s = false from h, if_neg Bool.false_ne_true]
        rw [e] at q
        exact q

/-- an order that may be handed in -/
structure GoodOrd (ho si : Str) (pr : Option Int) (qu : Int) (kd : Str) (sh : Int) : Prop where
  h1 : ¬ V.str ho = V.str ""
  h2 : V.str si = V.str "buy" ∨ V.str si = V.str "sell"
  h3 : V.str kd = V.str "rest" ∨ V.str kd = V.str "now" ∨ V.str kd = V.str "all"
  h4 : ∀ p, pr = some p → 1 ≤ p ∧ p ≤ 1000000
  h5 : pr = none → ¬ V.str kd = V.str "rest"
  h6 : 1 ≤ qu ∧ qu ≤ 1000000
  h7 : 0 ≤ sh ∧ sh ≤ qu
  h8 : 0 < sh → V.str kd = V.str "rest"
def sp_is_integral (K : PySem.W.Frag) : Sp := fun vs H Q _ => ∃ x : Int, vs = [.int x] ∧ Q (.bl true) H
set_option maxHeartbeats 0 in
theorem ok_is_integral (T : Txt K mg) [TB : TabsOk T base] : FnOk P w K mg base CX0 1 T.f_is_integral T.d_is_integral ["value"] (sp_is_integral K) := by
  refine T.F_is_integral.ok sc_is_integral (fun vs H Q E h => ?_) (fun cdv A outer s H vs Q E hr h => ?_)
  · obtain ⟨x, rfl, _⟩ := h
    rfl
  · obtain ⟨x, rfl, q⟩ := h
    refine ⟨_, (pss_one (ps_ret (pe_and (pe_callB call_isi (by rfl) T.z_isinstance (by decide +kernel) (pa_cons (pv 0) (pa_cons (pe_bltn (v := .ty "int") (u := .type "int") (by rfl) T.z_int (by decide +kernel) rfl) pa_nil))) (pe_one (pe_not (pe_callB call_isi (by rfl) T.z_isinstance (by decide +kernel) (pa_cons (pv 0) (pa_cons (pe_bltn (v := .ty "bool") (u := .type "bool") (by rfl) T.z_bool (by decide +kernel) rfl) pa_nil)))))))), ?_⟩
    refine ⟨_, rfl, ?_⟩
    refine ⟨_, _, _, _, true, rfl, .ty _, .base (.int _), kit_ty (by decide +kernel), ?_⟩
    refine ⟨true, rfl, iteT ?_⟩
    refine ⟨_, rfl, ?_⟩
    refine ⟨_, _, _, _, false, rfl, .ty _, .base (.int _), kit_ty (by decide +kernel), ?_⟩
    refine ⟨false, rfl, ?_⟩
    exact q
def sp_is_within (K : PySem.W.Frag) : Sp := fun vs H Q _ => ∃ a b x : Int, vs = [.int a, .int b, .int x] ∧ Q (.bl (decide (a ≤ x ∧ x ≤ b))) H
set_option maxHeartbeats 0 in
theorem ok_is_within (T : Txt K mg) [TB : TabsOk T base] : FnOk P w K mg base CX0 2 T.f_is_within T.d_is_within ["least", "most", "value"] (sp_is_within K) := by
  refine T.F_is_within.ok sc_is_within (fun vs H Q E h => ?_) (fun cdv A outer s H vs Q E hr h => ?_)
  · obtain ⟨a, b, x, rfl, _⟩ := h
    rfl
  · obtain ⟨a, b, x, rfl, q⟩ := h
    have G_is_integral : FnOk P w K mg base CX0 1 T.f_is_integral T.d_is_integral ["value"] (sp_is_integral K) := ok_is_integral T
    refine ⟨_, (pss_one (ps_ret (pe_and (pe_call G_is_integral hr (by rfl) T.m_is_integral T.F_is_integral.kp T.b_is_integral .nil pass0 (pa_cons (pv 2) pa_nil)) (pe_one (pe_chain op_le op_le (pv 0) (pv 2) (pv 1)))))), ?_⟩
    walk_at "st"
    refine iteB (fun h => ?_) (fun h => ?_)
    · walk_at "st"
      rw [show (decide (a ≤ x ∧ x ≤ b)) = decide (x ≤ b) from decide_eq_decide.mpr ⟨fun z => z.2, fun z => ⟨dec_t h, z⟩⟩] at q
      exact q
    · rw [decide_eq_false (fun z => dec_f h z.1)] at q
      exact q

def sp_check_house (K : PySem.W.Frag) : Sp := fun vs H Q _ => ∃ s : Str, vs = [.str s] ∧ ¬ V.str s = V.str "" ∧ Q .non H
def sp_check_side (K : PySem.W.Frag) : Sp := fun vs H Q _ => ∃ s : Str, vs = [.str s] ∧ (V.str s = V.str "buy" ∨ V.str s = V.str "sell") ∧ Q .non H
set_option maxHeartbeats 0 in
theorem ok_check_side (T : Txt K mg) [TB : TabsOk T base] : FnOk P w K mg base CX0 1 T.f_check_side T.d_check_side ["side"] (sp_check_side K) := by
  refine T.F_check_side.ok sc_check_side (fun vs H Q E h => ?_) (fun cdv A outer s H vs Q E hr h => ?_)
  · obtain ⟨s, rfl, _⟩ := h
    rfl
  · obtain ⟨s, rfl, hs, q⟩ := h
    
    refine ⟨_, (pss_one (ps_if (pt_cmpR op_notIn_seq (pv 0) (pe_glob (v := .ref T.c_SIDES) rfl T.m_SIDES rfl) rfl)
      (pss_one ps_never)
      pss_nil)), ?_⟩
    have hq := T.q_SIDES H
    have e0 : inV (V.str s) [.str "buy", .str "sell"] = true := by
      rcases hs with z | z
      · rw [z]
        rfl
      · rw [z]
        rfl
    walk_at "st"
    rw [if_pos (show true = true from rfl), e0]
    exact q
def sp_check_number (K : PySem.W.Frag) : Sp := fun vs H Q _ => ∃ n a b : Int, vs = [.int n, .int a, .int b] ∧ a ≤ n ∧ n ≤ b ∧ Q .non H
set_option maxHeartbeats 0 in
theorem ok_check_number (T : Txt K mg) [TB : TabsOk T base] : FnOk P w K mg base CX0 3 T.f_check_number T.d_check_number ["number", "least", "most"] (sp_check_number K) := by
  refine T.F_check_number.ok sc_check_number (fun vs H Q E h => ?_) (fun cdv A outer s H vs Q E hr h => ?_)
  · obtain ⟨n, a, b, rfl, _⟩ := h
    rfl
  · obtain ⟨n, a, b, rfl, h1, h2, q⟩ := h
    have G_is_within : FnOk P w K mg base CX0 2 T.f_is_within T.d_is_within ["least", "most", "value"] (sp_is_within K) := ok_is_within T
    refine ⟨_, (pss_one (ps_if (pt_not (pt_val (pe_call G_is_within hr (by rfl) T.m_is_within T.F_is_within.kp T.b_is_within .nil pass0 (pa_cons (pv 1) (pa_cons (pv 2) (pa_cons (pv 0) pa_nil))))))
      (pss_one ps_never)
      pss_nil)), ?_⟩
    have e0 : decide (a ≤ n ∧ n ≤ b) = true := decide_eq_true ⟨h1, h2⟩
    walk_at "st"
    rw [e0]
    walk_at "st"
    exact q
def sp_check_price (K : PySem.W.Frag) : Sp := fun vs H Q _ => ∃ n : Int, vs = [.int n] ∧ 1 ≤ n ∧ n ≤ 1000000 ∧ Q .non H
set_option maxHeartbeats 0 in
theorem ok_check_price (T : Txt K mg) [TB : TabsOk T base] : FnOk P w K mg base CX0 4 T.f_check_price T.d_check_price ["price"] (sp_check_price K) := by
  refine T.F_check_price.ok sc_check_price (fun vs H Q E h => ?_) (fun cdv A outer s H vs Q E hr h => ?_)
  · obtain ⟨n, rfl, _⟩ := h
    rfl
  · obtain ⟨n, rfl, h1, h2, q⟩ := h
    have G_check_number : FnOk P w K mg base CX0 3 T.f_check_number T.d_check_number ["number", "least", "most"] (sp_check_number K) := ok_check_number T
    refine ⟨_, (pss_one (ps_expr (pe_call G_check_number hr (by rfl) T.m_check_number T.F_check_number.kp T.b_check_number .nil pass0 (pa_cons (pv 0) (pa_cons pe_int (pa_cons (pe_glob (v := .int 1000000) rfl T.m_MOST ⟨_, rfl⟩) pa_nil)))))), ?_⟩
    walk_at "st"
    exact q
def sp_check_quantity (K : PySem.W.Frag) : Sp := fun vs H Q _ => ∃ n : Int, vs = [.int n] ∧ 1 ≤ n ∧ n ≤ 1000000 ∧ Q .non H
set_option maxHeartbeats 0 in
theorem ok_check_quantity (T : Txt K mg) [TB : TabsOk T base] : FnOk P w K mg base CX0 4 T.f_check_quantity T.d_check_quantity ["quantity"] (sp_check_quantity K) := by
  refine T.F_check_quantity.ok sc_check_quantity (fun vs H Q E h => ?_) (fun cdv A outer s H vs Q E hr h => ?_)
  · obtain ⟨n, rfl, _⟩ := h
    rfl
  · obtain ⟨n, rfl, h1, h2, q⟩ := h
    have G_check_number : FnOk P w K mg base CX0 3 T.f_check_number T.d_check_number ["number", "least", "most"] (sp_check_number K) := ok_check_number T
    refine ⟨_, (pss_one (ps_expr (pe_call G_check_number hr (by rfl) T.m_check_number T.F_check_number.kp T.b_check_number .nil pass0 (pa_cons (pv 0) (pa_cons pe_int (pa_cons (pe_glob (v := .int 1000000) rfl T.m_MOST ⟨_, rfl⟩) pa_nil)))))), ?_⟩
    walk_at "st"
    exact q
def sp_check_order (K : PySem.W.Frag) : Sp := fun vs H Q _ => ∃ (ho si : Str) (pr : Option Int) (qu : Int) (kd : Str) (sh : Int), vs = [.str ho, .str si, optV pr, .int qu, .str kd, .int sh] ∧ GoodOrd ho si pr qu kd sh ∧ Q .non H
/-! ### a call: the orders as rows -/
structure Ord30 where
  n : Int
  h : Str
  s : Str
  p : Option Int
  q : Int
def rowO (o : Ord30) : List V := [.int o.n, .str o.h, .str o.s, optV o.p, .int o.q]
def rowR (o : Ord30) : List V := [.int o.n, optV o.p, .int o.q]
/-- what an order is sorted by -/
def rankK (s : Str) : Option Int → Int × Int
  | none => (0, 0)
  | some z => (1, if buyS s then -z else z)
def sp_rank (K : PySem.W.Frag) : Sp := fun vs H Q _ => ∃ (s : Str) (p : Option Int), vs = [.str s, optV p] ∧ ∀ t, H t = none → Q (.ref t) (upd H t (.tup [.int (rankK s p).1, .int (rankK s p).2]))
set_option maxHeartbeats 0 in
theorem ok_rank (T : Txt K mg) [TB : TabsOk T base] : FnOk P w K mg base CX0 1 T.f_rank T.d_rank ["side", "price"] (sp_rank K) := by
  refine T.F_rank.ok sc_rank (fun vs H Q E h => ?_) (fun cdv A outer s H vs Q E hr h => ?_)
  · obtain ⟨s, p, rfl, _⟩ := h
    rfl
  · obtain ⟨s, p, rfl, q⟩ := h
    refine ⟨_, (pss_cons (ps_if (pt_cmpR op_isN (pv 1) pe_non (nomark _))
      (pss_one (ps_ret (pe_tup (pa_cons pe_int (pa_cons pe_int pa_nil)))))
      pss_nil)
    (pss_one (ps_ret (pe_ifExp (pt_cmpR op_eq (pv 0) pe_str (nomark _)) (pe_tup (pa_cons pe_int (pa_cons (pe_un un_neg (pv 1)) pa_nil))) (pe_tup (pa_cons pe_int (pa_cons (pv 1) pa_nil))))))), ?_⟩
    cases p with
    | none =>
      walk_at "st"
      intro t nt
      exact q t nt
    | some z =>
      walk_at "st"
      refine iteB (fun h => ?_) (fun h => ?_)
      · have e : rankK s (some z) = (1, -z) := by
          show ((1 : Int), if buyS s = true then -z else z) = _
          rw [show buyS s = true from h, if_pos rfl]
        rw [e] at q
        walk_at "st"
        intro t nt
        exact q t nt
      · have e : rankK s (some z) = (1, z) := by
          show ((1 : Int), if buyS s = true then -z else z) = _
          rw [show buyS s = false from h, if_neg Bool.false_ne_true]
        rw [e] at q
        walk_at "st"
        intro t nt
        exact q t nt
/-- the orders of one side, the best first, of equals the earlier -/
def rankLe (s : Str) (a b : Ord30) : Bool := decide ((rankK s a.p).1 < (rankK s b.p).1 ∨ ((rankK s a.p).1 = (rankK s b.p).1 ∧ (rankK s a.p).2 ≤ (rankK s b.p).2))
def rankedL (s : Str) (os : List Ord30) : List Ord30 := (os.filter fun o => decide (V.str o.s = V.str s)).mergeSort (rankLe s)
/-- the key of a row as the heap has it -/
def rowKey (H : Hp) (s : Str) : V → Int × Int
  | .ref a => match H a with
    | some (.tup [_, .int z, _]) => rankK s (some z)
    | _ => rankK s none
  | _ => (0, 0)
theorem rowKey_at {H : Hp} {s : Str} {a : Addr} {o : Ord30} (h : H a = some (.tup (rowR o))) : rowKey H s (.ref a) = rankK s o.p := by
  unfold rowKey
  dsimp only
  rw [h]
  unfold rowR
  cases o.p <;> rfl
theorem extN_same {H H' : Hp} (e : Same H H') : LamX.ExtN H H' := .of e
theorem ext_new {H H' : Hp} {p : Addr} {o : HO} (e : LamX.ExtN H H') (np : H' p = none) : LamX.ExtN H (upd H' p o) := fun b u h n => by
  by_cases hb : b = p
  · rw [hb] at h
    have := e p u h n
    rw [np] at this
    cases this
  · rw [upd_ne hb]
    exact e b u h n
/-- a sorted list of rows -/
theorem Tups.sorted {α : Type} {enc : α → List V} {H H' : Hp} {l p : Addr} {bs : List Addr} {os : List α} {k : V → Int × Int} {le : α → α → Bool} (h : Tups enc H l bs os) (hk : ∀ a b x y, H a = some (.tup (enc x)) → H b = some (.tup (enc y)) → pairLe k (.ref a) (.ref b) = le x y)
    (e : ∀ a x, H a = some (.tup (enc x)) → H' a = some (.tup (enc x))) (hp : H' p = some (.lst ((bs.map V.ref).mergeSort (pairLe k)))) : ∃ rs, Tups enc H' p rs (os.mergeSort le) := by
  have hat : ∀ z, z ∈ bs.zip os → H z.1 = some (.tup (enc z.2)) := fun z hz => by
    obtain ⟨i, hi⟩ := List.mem_iff_getElem?.mp hz
    have h1 := List.getElem?_zip_eq_some.mp hi
    exact h.row i z.1 z.2 h1.1 h1.2
  have e1 : bs.map V.ref = (bs.zip os).map fun z => V.ref z.1 := by
    conv => lhs; rw [← List.map_fst_zip (l₁ := bs) (l₂ := os) (Nat.le_of_eq h.len), List.map_map]
    rfl
  have e2 : os = (bs.zip os).map fun z => z.2 := (List.map_snd_zip (l₁ := bs) (l₂ := os) (Nat.le_of_eq h.len.symm)).symm
  have m1 : ((bs.zip os).mergeSort fun a b => le a.2 b.2).map (fun z => V.ref z.1) = (bs.map V.ref).mergeSort (pairLe k) := by
    rw [e1]
    exact List.map_mergeSort fun a ha b hb => (hk _ _ _ _ (hat a ha) (hat b hb)).symm
  have m2 : ((bs.zip os).mergeSort fun a b => le a.2 b.2).map (fun z => z.2) = os.mergeSort le := by
    conv => rhs; rw [e2]
    exact List.map_mergeSort fun a _ b _ => rfl
  refine ⟨((bs.zip os).mergeSort fun a b => le a.2 b.2).map (·.1), ?_, by rw [← m2, List.length_map, List.length_map], fun i a x h1 h2 => ?_⟩
  · rw [hp, ← m1, List.map_map]
    rfl
  · rw [← m2] at h2
    rw [List.getElem?_map] at h1 h2
    cases hz : ((bs.zip os).mergeSort fun a b => le a.2 b.2)[i]? with
    | none => rw [hz] at h1; cases h1
    | some z =>
      rw [hz] at h1 h2
      obtain rfl := Option.some.inj h1
      obtain rfl := Option.some.inj h2
      exact e _ _ (hat z (List.mem_mergeSort.mp (List.mem_of_getElem? hz)))
open LamX in
def sp_ranked (K : PySem.W.Frag) (TL : List (Addr × Str)) : Sp := fun vs H Q _ => ∃ (_ : Unit) (l : Addr) (as : List Addr) (os : List Ord30) (s : Str), vs = [.ref l, .str s] ∧ Tups rowO H l as os ∧ os.length ≤ 31 ∧ Tabs TL H ∧
  ∀ (_ : Unit) r rs H', ExtN H H' → Tabs TL H' → Tups rowR H' r rs (rankedL s os) → Q (.ref r) H'
set_option maxHeartbeats 0 in
theorem ok_ranked (T : Txt K mg) [TB : TabsOk T base] : FnOk P w K mg base CX0 5 T.f_ranked T.d_ranked ["orders", "side"] (sp_ranked K (tabsL T)) := by
  refine fun_okC T.F_ranked sc_ranked T.eq_ranked (fun vs H Q E h => ?_) (fun A outer s H vs Q E hr h => ?_)
  · obtain ⟨_, l, as, os, s, rfl, _⟩ := h
    rfl
  · obtain ⟨_, l, as, os, s, rfl, hT, hl, hTb, q⟩ := h
    have G_rank : FnOk P w K mg base CX0 1 T.f_rank T.d_rank ["side", "price"] (sp_rank K) := ok_rank T
    have hs := SqL.of (K := K) hT.lst
    refine ⟨_, (pss_cons (ps_setLc (i := 2) (own := [("number", 3), ("_", 4), ("of_side", 5), ("price", 6), ("quantity", 7)]) rfl sc_ranked.nd rfl rfl (sw_true rfl rfl rfl (by decide +kernel)) (pi_list (pv 0)) (blkOk_by (own := [("number", 3), ("_", 4), ("of_side", 5), ("price", 6), ("quantity", 7)]) (N := N_ranked) (sc := defScope s_ranked) (by decide +kernel)) (fun _ _ _ _ _ => (show PG _ _ (gTup K 5 (gCons (gName 3) (gCons (gName 4) (gCons (gName 5) (gCons (gName 6) (gCons (gName 7) gNil)))))) from (pg_tup rfl (pgs_cons (pg_name (i := 3) sc_ranked.nd rfl (Or.inl rfl)) (pgs_cons (pg_name (i := 4) sc_ranked.nd rfl (Or.inl rfl)) (pgs_cons (pg_name (i := 5) sc_ranked.nd rfl (Or.inl rfl)) (pgs_cons (pg_name (i := 6) sc_ranked.nd rfl (Or.inl rfl)) (pgs_cons (pg_name (i := 7) sc_ranked.nd rfl (Or.inl rfl)) pgs_nil)))))))) (fun _ _ _ _ _ => pts_one (pt_cmpR op_eq (pv 5) (pv 1) (nomark _))) (fun _ _ _ _ _ => (pe_tup (pa_cons (pv 3) (pa_cons (pv 6) (pa_cons (pv 7) pa_nil))))))
    (pss_one (ps_ret (pe_sortLam (T := tabsL T) (j := 1) (a := "row") (pv 2) (by rfl) T.z_sorted TB.tb_ranked rfl (.head _) (tabsU_ranked T) hr (lamP_by (by show lamPB (defScope s_ranked) _ _ = true; decide +kernel)) (by show (N_ranked.all fun y => decide (y ≠ "row")) = true; decide +kernel) rfl (fun _ _ _ _ _ _ => rfl) (fun _ _ _ _ _ hr => (pe_call G_rank hr (by rfl) T.m_rank T.F_rank.kp T.b_rank .nil pass0 (pa_cons (pv 1) (pa_cons (pe_ix (show IxR _ (rIxT K) from ix_tup) (pv 8) pe_int (fun _ _ => rfl)) pa_nil)))))))), ?_⟩
    walk_at "st"
    intro D nD
    refine lc_list (K := K) (a := l) (xs := as.map V.ref) (fun i H' => ∃ (_ : Unit) (bs : List Addr), Tups rowR H' D bs ((os.take i).filter fun o => decide (V.str o.s = V.str s)) ∧ Same H H') ⟨(), [], .nil upd_same, same_upd nD⟩ (fun i H' _ ⟨_, _, _, e⟩ => e.seq hs) ?_ ?_
    · rintro i v H2 hvv ⟨_, bs, hB, e2⟩
      obtain ⟨p, o, hp, ho, rfl, hat⟩ := (hT.same e2).item hvv
      have htup : SqT K H2 p (rowO o) := SqT.of hat
      walk_at "st"
      refine iteB (fun h => ?_) (fun h => ?_)
      · walk_at "st"
        intro E nE
        have sE := same_upd (o := .tup (rowR o)) nE
        have hpush := hB.push (x := o) sE nE upd_same
        have hbl : bs.length ≤ 31 := by
          have := hB.len
          have h2 := List.length_filter_le (fun o : Ord30 => decide (V.str o.s = V.str s)) (os.take i)
          rw [List.length_take] at h2
          omega
        refine ⟨_, sE _ _ hB.lst, small1000 (by rw [List.length_map]; omega), (), bs ++ [E], ?_, TabR.keep (e2.trans sE) nD⟩
        rw [take_succ ho, List.filter_append, List.filter_cons_of_pos (p := fun o : Ord30 => decide (V.str o.s = V.str s)) h]
        exact hpush
      · refine ⟨(), bs, ?_, e2⟩
        rw [take_succ ho, List.filter_append, List.filter_cons_of_neg (p := fun o : Ord30 => decide (V.str o.s = V.str s)) (by rw [h]; exact Bool.false_ne_true), List.filter_nil, List.append_nil]
        exact hB
    · rintro H2 ⟨_, bs, hB, e2⟩
      rw [show os.take (as.map V.ref).length = os by rw [List.length_map, hT.len, List.take_length]] at hB
      walk_at "st"
      refine ⟨hTb.ext e2, fun H3 e3 t3 => ?_⟩
      have hB3 : ∀ a o, H2 a = some (.tup (rowR o)) → H3 a = some (.tup (rowR o)) := fun a o z => e3 _ _ z fun _ y => by cases y
      have hl3 : H3 D = some (.lst (bs.map V.ref)) := e3 _ _ hB.lst fun _ y => by cases y
      refine ⟨(), D, bs.map V.ref, rowKey H2 s, rfl, SqL.of hl3, fun x hx H4 e4 => ?_, fun _ p H4 e4 np np4 => ?_⟩
      · obtain ⟨i, hi⟩ := List.mem_iff_getElem?.mp hx
        obtain ⟨a, o, ha, ho, rfl, hat⟩ := hB.item hi
        have h4 := e4 _ _ (hB3 a o hat)
        have htup : SqT K H4 a (rowR o) := SqT.of h4
        have hix : atI (rowR o) 1 = some (optV o.p) := rfl
        rw [rowKey_at hat]
        walk_at "st"
        exact ⟨o.p, rfl, fun t nt => ⟨same_upd nt, t, rfl, upd_same⟩⟩
      · have hk : ∀ a b x y, H2 a = some (.tup (rowR x)) → H2 b = some (.tup (rowR y)) → pairLe (rowKey H2 s) (.ref a) (.ref b) = rankLe s x y := fun a b x y ha hb => by
          rw [Bool.eq_iff_iff, pairLe_iff, rowKey_at ha, rowKey_at hb]
          unfold rankLe
          rw [decide_eq_true_iff]
        obtain ⟨rs, hR⟩ := hB.sorted (H' := upd H4 p (.lst ((bs.map V.ref).mergeSort (pairLe (rowKey H2 s))))) hk (fun a x z => same_upd np4 _ _ (e4 _ _ (hB3 a x z))) upd_same
        exact q () p rs _ (ext_new (((extN_same e2).trans e3).trans (extN_same e4)) np4) ((t3.ext e4).ext (same_upd np4)) hR

/-- an order that a call takes -/
structure Good30 (o : Ord30) : Prop where
  s : V.str o.s = V.str "buy" ∨ V.str o.s = V.str "sell"
  p : ∀ z, o.p = some z → 1 ≤ z ∧ z ≤ 1000000
  q : 1 ≤ o.q ∧ o.q ≤ 1000000
def sp_check_call (K : PySem.W.Frag) : Sp := fun vs H Q _ => ∃ (_ : Unit) (l : Addr) (as : List Addr) (os : List Ord30) (r : Int), vs = [.ref l, .int r] ∧ Tups rowO H l as os ∧ (∀ o, o ∈ os → Good30 o) ∧ 1 ≤ r ∧ r ≤ 1000000 ∧ Q .non H
set_option maxHeartbeats 0 in
theorem ok_check_call (T : Txt K mg) [TB : TabsOk T base] : FnOk P w K mg base CX0 5 T.f_check_call T.d_check_call ["orders", "reference"] (sp_check_call K) := by
  refine T.F_check_call.ok sc_check_call (fun vs H Q E h => ?_) (fun cdv A outer s H vs Q E hr h => ?_)
  · obtain ⟨_, l, as, os, r, rfl, _⟩ := h
    rfl
  · obtain ⟨_, l, as, os, r, rfl, hT, hg, hr0, hr1, q⟩ := h
    have G_check_price : FnOk P w K mg base CX0 4 T.f_check_price T.d_check_price ["price"] (sp_check_price K) := ok_check_price T
    have G_check_side : FnOk P w K mg base CX0 1 T.f_check_side T.d_check_side ["side"] (sp_check_side K) := ok_check_side T
    have G_check_quantity : FnOk P w K mg base CX0 4 T.f_check_quantity T.d_check_quantity ["quantity"] (sp_check_quantity K) := ok_check_quantity T
    have hs := SqL.of (K := K) hT.lst
    refine ⟨_, (pss_cons (ps_for PassesOwn.never rfl (pi_list (pv 0)) (pg_tup rfl (pgs_cons (pg_name (i := 2) sc_check_call.nd rfl (Or.inl rfl)) (pgs_cons (pg_name (i := 2) sc_check_call.nd rfl (Or.inl rfl)) (pgs_cons (pg_name (i := 3) sc_check_call.nd rfl (Or.inl rfl)) (pgs_cons (pg_name (i := 4) sc_check_call.nd rfl (Or.inl rfl)) (pgs_cons (pg_name (i := 5) sc_check_call.nd rfl (Or.inl rfl)) pgs_nil))))))
      (pss_cons (ps_expr (pe_call G_check_side (hr.mono (by decide)) (by rfl) T.m_check_side T.F_check_side.kp T.b_check_side .nil pass0 (pa_cons (pv 3) pa_nil)))
      (pss_cons (ps_if (pt_cmpR op_notN (pv 4) pe_non (nomark _))
        (pss_one (ps_expr (pe_call G_check_price hr (by rfl) T.m_check_price T.F_check_price.kp T.b_check_price .nil pass0 (pa_cons (pv 4) pa_nil))))
        pss_nil)
      (pss_one (ps_expr (pe_call G_check_quantity hr (by rfl) T.m_check_quantity T.F_check_quantity.kp T.b_check_quantity .nil pass0 (pa_cons (pv 5) pa_nil)))))))
    (pss_one (ps_expr (pe_call G_check_price hr (by rfl) T.m_check_price T.F_check_price.kp T.b_check_price .nil pass0 (pa_cons (pv 1) pa_nil))))), ?_⟩
    walk_at "st"
    refine for_list (K := K) (a := l) (xs := as.map V.ref) (fun i σ H' => ∃ v2 v3 v4 v5 : Option V, σ = [some (.ref l), some (.int r), v2, v3, v4, v5] ∧ H' = H) ⟨none, none, none, none, rfl, rfl⟩ (fun i σ H' _ ⟨_, _, _, _, _, e⟩ => by rw [e]; exact hs) ?_ ?_
    · rintro i v σ H2 hvv ⟨v2, v3, v4, v5, rfl, rfl⟩
      obtain ⟨p, o, hp, ho, rfl, hat⟩ := hT.item hvv
      have htup : SqT K H2 p (rowO o) := SqT.of hat
      have go := hg o (List.mem_of_getElem? ho)
      walk_at "st"
      refine ⟨go.s, ?_⟩
      have h1 := go.p
      have h2 := go.q
      obtain ⟨on, oh, os', op, oq⟩ := o
      cases op with
      | none =>
        walk_at "st"
        exact ⟨_, _, _, _, rfl, rfl⟩
      | some z =>
        have h3 := h1 z rfl
        walk_at "st"
        exact ⟨_, _, _, _, rfl, rfl⟩
    · rintro σ H2 ⟨v2, v3, v4, v5, rfl, rfl⟩
      walk_at "st"
      exact q
/-- the prices at which a call may be held -/
def limits30 (os : List Ord30) : List Int := os.filterMap (·.p)
def beyond30 (os : List Ord30) : List Int := os.filterMap fun o => o.p.map fun z => if buyS o.s then z + 1 else z - 1
def rowL (x : Str × Int) : List V := [.str x.1, .int x.2]
def sp_candidates (K : PySem.W.Frag) : Sp := fun vs H Q _ => ∃ (_ : Unit) (l : Addr) (as : List Addr) (os : List Ord30) (r : Int), vs = [.ref l, .int r] ∧ Tups rowO H l as os ∧ os.length ≤ 31 ∧
  ∀ (_ : Unit) (p : Addr) (ps : List Int) (H' : Hp), Same H H' → H' p = some (.lst (ps.map V.int)) → (∀ z, z ∈ ps ↔ (z = r ∨ z ∈ limits30 os ∨ z ∈ beyond30 os) ∧ (∃ a, (a = r ∨ a ∈ limits30 os) ∧ a ≤ z) ∧ ∃ b, (b = r ∨ b ∈ limits30 os) ∧ z ≤ b) → ps.length ≤ 63 → ps.Pairwise (· < ·) → Q (.ref p) H'
set_option maxHeartbeats 0 in
theorem ok_candidates (T : Txt K mg) [TB : TabsOk T base] : FnOk P w K mg base CX0 1 T.f_candidates T.d_candidates ["orders", "reference"] (sp_candidates K) := by
  refine T.F_candidates.ok sc_candidates (fun vs H Q E h => ?_) (fun cdv A outer s H vs Q E hr h => ?_)
  · obtain ⟨_, l, as, os, r, rfl, _⟩ := h
    rfl
  · obtain ⟨_, l, as, os, r, rfl, hT, hl, q⟩ := h
    have hs := SqL.of (K := K) hT.lst
    refine ⟨_, (pss_cons (ps_setLc (i := 2) (own := [("_", 3), ("_", 3), ("side", 4), ("price", 5), ("_", 3)]) rfl sc_candidates.nd rfl rfl (sw_true rfl rfl rfl (by decide +kernel)) (pi_list (pv 0)) (blkOk_by (own := [("_", 3), ("_", 3), ("side", 4), ("price", 5), ("_", 3)]) (N := N_candidates) (sc := defScope s_candidates) (by decide +kernel)) (fun _ _ _ _ _ => (show PG _ _ (gTup K 5 (gCons (gName 3) (gCons (gName 3) (gCons (gName 4) (gCons (gName 5) (gCons (gName 3) gNil)))))) from (pg_tup rfl (pgs_cons (pg_name (i := 3) sc_candidates.nd rfl (Or.inl rfl)) (pgs_cons (pg_name (i := 3) sc_candidates.nd rfl (Or.inl rfl)) (pgs_cons (pg_name (i := 4) sc_candidates.nd rfl (Or.inl rfl)) (pgs_cons (pg_name (i := 5) sc_candidates.nd rfl (Or.inl rfl)) (pgs_cons (pg_name (i := 3) sc_candidates.nd rfl (Or.inl rfl)) pgs_nil)))))))) (fun _ _ _ _ _ => pts_one (pt_cmpR op_notN (pv 5) pe_non (nomark _))) (fun _ _ _ _ _ => (pe_tup (pa_cons (pv 4) (pa_cons (pv 5) pa_nil)))))
    (pss_cons (ps_set (i := 6) sc_candidates.nd rfl (Or.inl rfl) (pe_op op_cat (pe_lst (pa_cons (pv 1) pa_nil)) (pe_lc (own := [("_", 3), ("price", 5)]) (tt := tYes) rfl sc_candidates.nd (pi_list (pv 2)) (blkOk_by (own := [("_", 3), ("price", 5)]) (N := N_candidates) (sc := defScope s_candidates) (by decide +kernel)) (fun _ _ _ _ _ => (show PG _ _ (gTup K 2 (gCons (gName 3) (gCons (gName 5) gNil))) from (pg_tup rfl (pgs_cons (pg_name (i := 3) sc_candidates.nd rfl (Or.inl rfl)) (pgs_cons (pg_name (i := 5) sc_candidates.nd rfl (Or.inl rfl)) pgs_nil))))) (fun _ _ _ _ _ => pts_nil) (fun _ _ _ _ _ => (pv 5)))))
    (pss_cons (ps_setLc (i := 7) (own := [("side", 4), ("price", 5)]) (tt := tYes) rfl sc_candidates.nd rfl rfl (sw_true rfl rfl rfl (by decide +kernel)) (pi_list (pv 2)) (blkOk_by (own := [("side", 4), ("price", 5)]) (N := N_candidates) (sc := defScope s_candidates) (by decide +kernel)) (fun _ _ _ _ _ => (show PG _ _ (gTup K 2 (gCons (gName 4) (gCons (gName 5) gNil))) from (pg_tup rfl (pgs_cons (pg_name (i := 4) sc_candidates.nd rfl (Or.inl rfl)) (pgs_cons (pg_name (i := 5) sc_candidates.nd rfl (Or.inl rfl)) pgs_nil))))) (fun _ _ _ _ _ => pts_nil) (fun _ _ _ _ _ => (pe_ifExp (pt_cmpR op_eq (pv 4) pe_str (nomark _)) (pe_op op_add (pv 5) pe_int) (pe_op op_sub (pv 5) pe_int))))
    (pss_cons (ps_set (i := 8) sc_candidates.nd rfl (Or.inr rfl) (pe_callB (cr_min rfl) (by rfl) T.z_min (by decide +kernel) (pa_cons (pv 6) pa_nil)))
    (pss_cons (ps_set (i := 9) sc_candidates.nd rfl (Or.inr rfl) (pe_callB (cr_max rfl) (by rfl) T.z_max (by decide +kernel) (pa_cons (pv 6) pa_nil)))
    (pss_one (ps_ret (pe_lc (own := [("price", 5)]) (g := gName 5) rfl sc_candidates.nd (pi_list (pe_callB (cr_sortedSet rfl) (by rfl) T.z_sorted (by decide +kernel) (pa_cons (pe_callTy (cr_setInts rfl) (by rfl) T.z_set (by decide +kernel) (pa_cons (pe_op op_cat (pv 6) (pv 7)) pa_nil)) pa_nil))) (blkOk_by (own := [("price", 5)]) (N := N_candidates) (sc := defScope s_candidates) (by decide +kernel)) (fun _ _ _ _ _ => (pg_name (i := 5) sc_candidates.nd rfl (Or.inl rfl))) (fun _ _ _ _ _ => pts_one (pt_chain op_le op_le (pv 8) (pv 5) (pv 9))) (fun _ _ _ _ _ => (pv 5)))))))))), ?_⟩
    walk_at "st"
    intro D nD
    refine lc_list (K := K) (a := l) (xs := as.map V.ref) (fun i H' => ∃ (_ : Unit) (bs : List Addr), Tups rowL H' D bs (((os.take i).filterMap fun o => o.p.map fun z => (o.s, z))) ∧ Same H H') ⟨(), [], .nil upd_same, same_upd nD⟩ (fun i H' _ ⟨_, _, _, e⟩ => e.seq hs) ?_ ?_
    · rintro i v H2 hvv ⟨_, bs, hB, e2⟩
      obtain ⟨p, o, hp, ho, rfl, hat⟩ := (hT.same e2).item hvv
      have htup : SqT K H2 p (rowO o) := SqT.of hat
      have hbl : bs.length ≤ 31 := by
        have h1 := hB.len
        have h2 := List.length_filterMap_le (fun o : Ord30 => o.p.map fun z => (o.s, z)) (os.take i)
        rw [List.length_take] at h2
        omega
      rw [take_succ ho, List.filterMap_append]
      obtain ⟨on, oh, os', op, oq⟩ := o
      cases op with
      | none =>
        walk_at "st"
        refine iteB (fun h => by simp [optV] at h) (fun _ => ⟨(), bs, ?_, e2⟩)
        rw [show List.filterMap (fun o : Ord30 => o.p.map fun z => (o.s, z)) [⟨on, oh, os', none, oq⟩] = [] from rfl, List.append_nil]
        exact hB
      | some z =>
        walk_at "st"
        intro E nE
        have sE := same_upd (o := .tup (rowL (os', z))) nE
        exact ⟨_, sE _ _ hB.lst, small1000 (by rw [List.length_map]; omega), (), bs ++ [E], hB.push (x := (os', z)) sE nE upd_same, TabR.keep (e2.trans sE) nD⟩
    · rintro H2 ⟨_, bs, hB, e2⟩
      rw [show os.take (as.map V.ref).length = os by rw [List.length_map, hT.len, List.take_length]] at hB
      have hBs := SqL.of (K := K) hB.lst
      have hlim : (os.filterMap fun o => o.p.map fun z => (o.s, z)).map (·.2) = limits30 os := by
        unfold limits30
        rw [List.map_filterMap]
        congr 1
        funext o
        cases o.p <;> rfl
      have hll : (os.filterMap fun o => o.p.map fun z => (o.s, z)).length ≤ 31 := Nat.le_trans (List.length_filterMap_le _ _) hl
      generalize hls : (os.filterMap fun o => o.p.map fun z => (o.s, z)) = ls at *
      walk_at "st"
      intro L nL
      have sL := same_upd (o := .lst [.int r]) nL
      have hL := upd_same (H := H2) (a := L) (o := .lst [.int r])
      generalize upd H2 L (.lst [.int r]) = H3 at *
      have hB3 := hB.same sL
      have hBs3 := SqL.of (K := K) hB3.lst
      walk_at "st"
      intro C nC
      refine lc_list (K := K) (a := D) (xs := bs.map V.ref) (fun i H' => H' C = some (.lst (((ls.take i).map (·.2)).map V.int)) ∧ Same H3 H') ⟨upd_same, same_upd nC⟩ (fun i H' _ ⟨_, e⟩ => e.seq hBs3) ?_ ?_
      · rintro i v H4 hvv ⟨hC, e4⟩
        obtain ⟨p, x, hp, hx, rfl, hat⟩ := (hB3.same e4).item hvv
        have htup : SqT K H4 p (rowL x) := SqT.of hat
        have hil := (List.getElem?_eq_some_iff.mp hx).1
        walk_at "st"
        refine ⟨small1000 (by rw [List.length_map, List.length_map, List.length_take]; omega), ?_, TabR.keep e4 nC⟩
        rw [upd_same, take_succ hx, List.map_append, List.map_append]
        rfl
      · rintro H4 ⟨hC, e4⟩
        rw [show ls.take (bs.map V.ref).length = ls by rw [List.length_map, hB.len, List.take_length], hlim] at hC
        have hL4 := e4 _ _ hL
        have hlen : (limits30 os).length ≤ 31 := by rw [← hlim, List.length_map]; exact hll
        have hz : [V.int r].length + ((limits30 os).map V.int).length ≤ sizeLine := len_le (Nat.ble_eq_true_of_le (by rw [List.length_map]; show 1 + (limits30 os).length ≤ 1000; omega))
        walk_at "st"
        intro R nR
        have sR := same_upd (o := .lst ([.int r] ++ (limits30 os).map V.int)) nR
        have hR : upd H4 R (.lst ([.int r] ++ (limits30 os).map V.int)) R = some (.lst ((r :: limits30 os).map V.int)) := upd_same
        generalize upd H4 R (.lst ([.int r] ++ (limits30 os).map V.int)) = H5 at *
        have hB5 := (hB3.same e4).same sR
        have hBs5 := SqL.of (K := K) hB5.lst
        have hbey : ls.map (fun x => if buyS x.1 then x.2 + 1 else x.2 - 1) = beyond30 os := by
          rw [← hls]
          unfold beyond30
          rw [List.map_filterMap]
          congr 1
          funext o
          cases o.p <;> rfl
        walk_at "st"
        intro F nF
        refine lc_list (K := K) (a := D) (xs := bs.map V.ref) (fun i H' => H' F = some (.lst (((ls.take i).map fun x => if buyS x.1 then x.2 + 1 else x.2 - 1).map V.int)) ∧ Same H5 H') ⟨upd_same, same_upd nF⟩ (fun i H' _ ⟨_, e⟩ => e.seq hBs5) ?_ ?_
        · rintro i v H6 hvv ⟨hF, e6⟩
          obtain ⟨p, x, hp, hx, rfl, hat⟩ := (hB5.same e6).item hvv
          have htup : SqT K H6 p (rowL x) := SqT.of hat
          have hil := (List.getElem?_eq_some_iff.mp hx).1
          walk_at "st"
          refine iteB (fun h => ?_) (fun h => ?_)
          · walk_at "st"
            refine ⟨small1000 (by rw [List.length_map, List.length_map, List.length_take]; omega), ?_, TabR.keep e6 nF⟩
            rw [upd_same, take_succ hx, List.map_append, List.map_append, List.map_cons, List.map_nil, show (if buyS x.1 then x.2 + 1 else x.2 - 1) = x.2 + 1 from if_pos h]
            rfl
          · walk_at "st"
            refine ⟨small1000 (by rw [List.length_map, List.length_map, List.length_take]; omega), ?_, TabR.keep e6 nF⟩
            rw [upd_same, take_succ hx, List.map_append, List.map_append, List.map_cons, List.map_nil, show (if buyS x.1 then x.2 + 1 else x.2 - 1) = x.2 - 1 from if_neg (by rw [show buyS x.1 = false from h]; exact Bool.false_ne_true)]
            rfl
        · rintro H6 ⟨hF, e6⟩
          rw [show ls.take (bs.map V.ref).length = ls by rw [List.length_map, hB.len, List.take_length], hbey] at hF
          have hR6 := e6 _ _ hR
          have hRs6 := SqL.of (K := K) hR6
          walk_at "st"
          refine ⟨Nat.succ_pos _, fun lo hlo hlo2 => ?_⟩
          walk_at "st"
          refine ⟨Nat.succ_pos _, fun hi hhi hhi2 => ?_⟩
          have hbl : (beyond30 os).length ≤ 31 := Nat.le_trans (List.length_filterMap_le _ _) hl
          have hz6 : ((r :: limits30 os).map V.int).length + ((beyond30 os).map V.int).length ≤ sizeLine := len_le (Nat.ble_eq_true_of_le (by rw [List.length_map, List.length_map, List.length_cons]; omega))
          walk_at "st"
          intro S nS
          have sS := same_upd (o := .lst ((r :: limits30 os).map V.int ++ (beyond30 os).map V.int)) nS
          have hS : upd H6 S (.lst ((r :: limits30 os).map V.int ++ (beyond30 os).map V.int)) S = some (.lst ((r :: limits30 os ++ beyond30 os).map V.int)) := upd_same.trans (by rw [List.map_append])
          generalize upd H6 S (.lst ((r :: limits30 os).map V.int ++ (beyond30 os).map V.int)) = H7 at *
          have hSs := SqL.of (K := K) hS
          have hbs : (r :: limits30 os ++ beyond30 os).length ≤ 63 := by rw [List.length_append, List.length_cons]; omega
          walk_at "st"
          refine ⟨(), S, _, rfl, hSs, by omega, fun U c hc nU => ?_⟩
          walk_at "st"
          refine ⟨_, _, rfl, upd_same, by omega, fun ns N hp hm hln nN => ?_⟩
          generalize hH8 : upd (upd H7 U _) N _ = H8
          have s0N : Same H6 H8 := sS.trans (hH8 ▸ (same_upd nU).trans (same_upd nN))
          have hN : H8 N = some (.lst (ns.map V.int)) := (congrFun hH8 N).symm.trans upd_same
          have hNs := SqL.of (K := K) hN
          refine ⟨N, rfl, ⟨_, hNs⟩, ?_⟩
          intro G nG
          refine lc_list (K := K) (a := N) (xs := ns.map V.int) (fun i H' => H' G = some (.lst (((ns.take i).filter fun z => decide (lo ≤ z) && decide (z ≤ hi)).map V.int)) ∧ Same H8 H') ⟨upd_same, same_upd nG⟩ (fun i H' _ ⟨_, e⟩ => e.seq hNs) ?_ ?_
          · rintro i v H9 hvv ⟨hG, e9⟩
            obtain ⟨z, hz, rfl⟩ := ints_at hvv
            have hfl : (((ns.take i).filter fun z => decide (lo ≤ z) && decide (z ≤ hi)).map V.int).length ≤ 63 := by
              rw [List.length_map]
              refine Nat.le_trans (List.length_filter_le _ _) ?_
              rw [List.length_take]
              omega
            have hno : (decide (lo ≤ z) && decide (z ≤ hi)) = false → H9 G = some (.lst (((ns.take (i + 1)).filter fun z => decide (lo ≤ z) && decide (z ≤ hi)).map V.int)) ∧ Same H8 H9 := fun e => by
              rw [take_succ hz, List.filter_append, List.filter_cons_of_neg (by rw [e]; exact Bool.false_ne_true), List.filter_nil, List.append_nil]
              exact ⟨hG, e9⟩
            walk_at "st"
            refine iteB (fun h1 => ?_) (fun h1 => ?_)
            · walk_at "st"
              refine iteB (fun h2 => ?_) (fun h2 => ?_)
              · walk_at "st"
                refine ⟨small1000 (by omega), ?_, TabR.keep e9 nG⟩
                rw [upd_same, take_succ hz, List.filter_append, List.filter_cons_of_pos (by rw [h1, h2]; rfl), List.map_append]
                rfl
              · exact hno (by rw [h1, h2]; rfl)
            · refine ⟨_, rfl, iteF ?_⟩
              exact hno (by rw [h1]; rfl)
          · rintro H9 ⟨hG, e9⟩
            rw [show ns.take (ns.map V.int).length = ns by rw [List.length_map, List.take_length]] at hG
            refine q () G _ H9 ((((((e2.trans sL).trans e4).trans sR).trans e6).trans s0N).trans e9) hG (fun z => ?_) (by have := List.length_filter_le (fun z => decide (lo ≤ z) && decide (z ≤ hi)) ns; omega) (hp.sublist List.filter_sublist)
            rw [List.mem_filter, hm z, decide_eq_true_iff, Bool.and_eq_true, decide_eq_true_iff, decide_eq_true_iff, List.mem_append, List.mem_cons]
            have bo : ∀ y, (y = r ∨ y ∈ limits30 os) → lo ≤ y ∧ y ≤ hi := fun y hy => ⟨hlo2 y (List.mem_cons.mpr hy), hhi2 y (List.mem_cons.mpr hy)⟩
            constructor
            · rintro ⟨h1, h2, h3⟩
              exact ⟨or_assoc.mp h1, ⟨lo, List.mem_cons.mp hlo, h2⟩, hi, List.mem_cons.mp hhi, h3⟩
            · rintro ⟨h1, ⟨a, ha, haz⟩, b, hb, hbz⟩
              have q1 := (bo a ha).1
              have q2 := (bo b hb).2
              exact ⟨or_assoc.mpr h1, by omega, by omega⟩

/-! ### interests -/
/-- the interest of a side at a price -/
def intr (os : List Ord30) (s : Str) (z : Int) : Int := ((os.filter fun o => takes s o.p z && decide (V.str o.s = V.str s)).map (·.q)).sum
def kLe (a b : Int × Int) : Prop := a.1 < b.1 ∨ (a.1 = b.1 ∧ a.2 ≤ b.2)
instance (a b : Int × Int) : Decidable (kLe a b) := by unfold kLe; exact inferInstance
theorem kLe_trans {a b c : Int × Int} (h1 : kLe a b) (h2 : kLe b c) : kLe a c := by
  unfold kLe at *
  omega
theorem kLe_total (a b : Int × Int) : kLe a b ∨ kLe b a := by
  unfold kLe
  omega
theorem takes_iff (s : Str) (p : Option Int) (z : Int) : takes s p z = true ↔ kLe (rankK s p) (rankK s (some z)) := by
  cases p with
  | none => exact ⟨fun _ => .inl (show (0 : Int) < 1 by decide), fun _ => rfl⟩
  | some l =>
    show (if buyS s then decide (z ≤ l) else decide (l ≤ z)) = true ↔ kLe (1, if buyS s then -l else l) (1, if buyS s then -z else z)
    unfold kLe
    cases buyS s with
    | true =>
      rw [if_pos rfl, if_pos rfl, if_pos rfl, decide_eq_true_iff]
      exact ⟨fun h => .inr ⟨rfl, by show -l ≤ -z; omega⟩, fun h => h.elim (fun h => absurd h (Int.lt_irrefl _)) fun h => by have := h.2; dsimp only at this; omega⟩
    | false =>
      rw [if_neg Bool.false_ne_true, if_neg Bool.false_ne_true, if_neg Bool.false_ne_true, decide_eq_true_iff]
      exact ⟨fun h => .inr ⟨rfl, h⟩, fun h => h.elim (fun h => absurd h (Int.lt_irrefl _)) fun h => h.2⟩
theorem takes_none (s : Str) (z : Int) : takes s none z = true := rfl
theorem takes_later {s : Str} {p : Option Int} {y z : Int} (h : takes s p y = true) (k : kLe (rankK s (some y)) (rankK s (some z))) : takes s p z = true := (takes_iff s p z).mpr (kLe_trans ((takes_iff s p y).mp h) k)
theorem ranked_sorted (s : Str) (os : List Ord30) : (rankedL s os).Pairwise fun x y => kLe (rankK s x.p) (rankK s y.p) := by
  unfold rankedL
  have := List.pairwise_mergeSort (le := rankLe s) (fun a b c h1 h2 => decide_eq_true (kLe_trans (of_decide_eq_true h1) (of_decide_eq_true h2))) (fun a b => by
    rcases kLe_total (rankK s a.p) (rankK s b.p) with h | h
    · rw [show rankLe s a b = true from decide_eq_true h]
      rfl
    · rw [show rankLe s b a = true from decide_eq_true h, Bool.or_true]) (os.filter fun o => decide (V.str o.s = V.str s))
  exact this.imp fun h => of_decide_eq_true h
theorem ranked_mem {s : Str} {os : List Ord30} {o : Ord30} : o ∈ rankedL s os ↔ o ∈ os ∧ V.str o.s = V.str s := by
  unfold rankedL
  rw [List.mem_mergeSort, List.mem_filter, decide_eq_true_iff]
theorem ranked_len (s : Str) (os : List Ord30) : (rankedL s os).length ≤ os.length := by
  unfold rankedL
  rw [List.length_mergeSort]
  exact List.length_filter_le _ _
/-- what accepts a price is a beginning of the order of the service -/
theorem pre_takes {s : Str} {rk : List Ord30} {a : Nat} {z : Int} (hs : rk.Pairwise fun x y => kLe (rankK s x.p) (rankK s y.p)) (h1 : ∀ o, o ∈ rk.take a → takes s o.p z = true) (h2 : ∀ o, rk[a]? = some o → takes s o.p z = false) : rk.filter (fun o => takes s o.p z) = rk.take a := by
  have hp := hs.sublist (List.drop_sublist a rk)
  have hd0 : (rk.drop a).filter (fun o => takes s o.p z) = [] := by
    rw [List.filter_eq_nil_iff]
    intro o ho ht
    cases hd : rk.drop a with
    | nil => rw [hd] at ho; cases ho
    | cons x t =>
      have hx : rk[a]? = some x := by rw [← List.head?_drop, hd]; rfl
      rw [hd] at ho hp
      have nx := h2 x hx
      rcases List.mem_cons.mp ho with rfl | ho
      · rw [nx] at ht
        cases ht
      · have := (List.pairwise_cons.mp hp).1 o ho
        have t2 := (takes_iff s x.p z).mpr (kLe_trans this ((takes_iff s o.p z).mp ht))
        rw [nx] at t2
        cases t2
  conv => lhs; rw [← List.take_append_drop a rk]
  rw [List.filter_append, List.filter_eq_self.mpr h1, hd0, List.append_nil]
theorem sum_permI {a b : List Int} (h : a.Perm b) : a.sum = b.sum := by
  induction h with
  | nil => rfl
  | cons x _ ih => rw [List.sum_cons, List.sum_cons, ih]
  | swap x y l => rw [List.sum_cons, List.sum_cons, List.sum_cons, List.sum_cons]; omega
  | trans _ _ h1 h2 => exact h1.trans h2
theorem ranked_sum (s : Str) (os : List Ord30) (z : Int) : (((rankedL s os).filter fun o => takes s o.p z).map (·.q)).sum = intr os s z := by
  unfold intr
  rw [← List.filter_filter]
  exact sum_permI (((List.mergeSort_perm _ _).filter _).map _)
theorem pre_intr {s : Str} {os : List Ord30} {a : Nat} {z : Int} (h1 : ∀ o, o ∈ (rankedL s os).take a → takes s o.p z = true) (h2 : ∀ o, (rankedL s os)[a]? = some o → takes s o.p z = false) : (((rankedL s os).take a).map (·.q)).sum = intr os s z := by
  rw [← pre_takes (ranked_sorted s os) h1 h2, ranked_sum]
/-- prices in the order of a side -/
def priceL (s : Str) (ps : List Int) : List Int := ps.mergeSort fun a b => decide (kLe (rankK s (some a)) (rankK s (some b)))
theorem price_sorted (s : Str) (ps : List Int) : (priceL s ps).Pairwise fun x y => kLe (rankK s (some x)) (rankK s (some y)) := by
  have := List.pairwise_mergeSort (le := fun a b => decide (kLe (rankK s (some a)) (rankK s (some b)))) (fun a b c h1 h2 => decide_eq_true (kLe_trans (of_decide_eq_true h1) (of_decide_eq_true h2))) (fun a b => by
    rcases kLe_total (rankK s (some a)) (rankK s (some b)) with h | h
    · rw [decide_eq_true h]
      rfl
    · rw [decide_eq_true h, Bool.or_true]) ps
  exact this.imp fun h => of_decide_eq_true h
theorem price_mem {s : Str} {ps : List Int} {z : Int} : z ∈ priceL s ps ↔ z ∈ ps := List.mem_mergeSort
theorem price_len (s : Str) (ps : List Int) : (priceL s ps).length = ps.length := List.length_mergeSort _
theorem price_nodup {s : Str} {ps : List Int} (h : ps.Nodup) : (priceL s ps).Nodup := (List.mergeSort_perm _ _).nodup_iff.mpr h
/-- the key of a price -/
def priceKey (s : Str) : V → Int × Int
  | .int z => rankK s (some z)
  | _ => (0, 0)
theorem price_vals (s : Str) (ps : List Int) : (ps.map V.int).mergeSort (pairLe (priceKey s)) = (priceL s ps).map V.int := by
  unfold priceL
  refine (List.map_mergeSort fun a _ b _ => ?_).symm
  rw [Bool.eq_iff_iff, decide_eq_true_iff, pairLe_iff]
  exact Iff.rfl
theorem put_new {d : List (Int × Int)} {s v : Int} (h : s ∉ keysS d) : putS d s v = d ++ [(s, v)] := by
  unfold putS
  rw [if_neg h]
theorem gD_of {qs : List Int} (f : Int → Int) {z : Int} (h : z ∈ qs) : z ∈ keysS (qs.map fun y => (y, f y)) ∧ gD (qs.map fun y => (y, f y)) z = f z := by
  have hk : keysS (qs.map fun y => (y, f y)) = qs := by
    unfold keysS
    rw [List.map_map]
    exact List.map_id _
  refine ⟨by rw [hk]; exact h, ?_⟩
  have e := get_some (d := qs.map fun y => (y, f y)) (s := z) (by rw [hk]; exact h)
  have hf : ∀ x, (qs.map fun y => (y, f y)).find? (fun x => decide (x.1 = z)) = some x → x.2 = f z := fun x hx => by
    have h1 := List.mem_of_find?_eq_some hx
    have h2 := List.find?_some hx
    obtain ⟨y, _, rfl⟩ := List.mem_map.mp h1
    rw [← of_decide_eq_true h2]
  unfold getS at e
  cases w : (qs.map fun y => (y, f y)).find? (fun x => decide (x.1 = z)) with
  | none => rw [w] at e; cases e
  | some x =>
    rw [w] at e
    have : gD (qs.map fun y => (y, f y)) z = x.2 := (Option.some.inj e).symm
    rw [this, hf x w]
/-! ### the best price -/
def rank4 (os : List Ord30) (r z : Int) : Four := (-(min (intr os "buy" z) (intr os "sell" z)), (if intr os "buy" z - intr os "sell" z < 0 then -(intr os "buy" z - intr os "sell" z) else intr os "buy" z - intr os "sell" z), (if z - r < 0 then -(z - r) else z - r), z)
/-- between the least and the greatest price told -/
def InR (os : List Ord30) (r z : Int) : Prop := (∃ a, (a = r ∨ a ∈ limits30 os) ∧ a ≤ z) ∧ ∃ b, (b = r ∨ b ∈ limits30 os) ∧ z ≤ b
theorem intr_same {os : List Ord30} {s : Str} {y z : Int} (h : ∀ o, o ∈ os → V.str o.s = V.str s → takes s o.p y = takes s o.p z) : intr os s y = intr os s z := by
  unfold intr
  rw [List.filter_congr fun o ho => ?_]
  by_cases e : V.str o.s = V.str s
  · rw [h o ho e]
  · rw [decide_eq_false e, Bool.and_false, Bool.and_false]
theorem lim_mem {os : List Ord30} {o : Ord30} {l : Int} (h : o ∈ os) (e : o.p = some l) : l ∈ limits30 os := List.mem_filterMap.mpr ⟨o, h, e⟩
theorem bey_mem {os : List Ord30} {o : Ord30} {l : Int} (h : o ∈ os) (e : o.p = some l) : (if buyS o.s then l + 1 else l - 1) ∈ beyond30 os := List.mem_filterMap.mpr ⟨o, h, by rw [e]; rfl⟩
theorem buy_takes (l z : Int) : takes "buy" (some l) z = decide (z ≤ l) := rfl
theorem sell_takes (l z : Int) : takes "sell" (some l) z = decide (l ≤ z) := rfl
/-- a price at which nothing begins or ends is as good as its neighbour toward the reference -/
theorem step_down {os : List Ord30} {z : Int} (h : z ∉ limits30 os ∧ z ∉ beyond30 os) : intr os "buy" (z - 1) = intr os "buy" z ∧ intr os "sell" (z - 1) = intr os "sell" z := by
  refine ⟨intr_same fun o ho e => ?_, intr_same fun o ho e => ?_⟩
  · cases hp : o.p with
    | none => rfl
    | some l =>
      have hb := bey_mem ho hp
      rw [show buyS o.s = true from decide_eq_true e, if_pos rfl] at hb
      have : z ≠ l + 1 := fun q => h.2 (by rw [q]; exact hb)
      rw [buy_takes, buy_takes]
      exact decide_eq_decide.mpr (by omega)
  · cases hp : o.p with
    | none => rfl
    | some l =>
      have hb := lim_mem ho hp
      have : z ≠ l := fun q => h.1 (by rw [q]; exact hb)
      rw [sell_takes, sell_takes]
      exact decide_eq_decide.mpr (by omega)
theorem step_up {os : List Ord30} {z : Int} (h : z ∉ limits30 os ∧ z ∉ beyond30 os) : intr os "buy" (z + 1) = intr os "buy" z ∧ intr os "sell" (z + 1) = intr os "sell" z := by
  refine ⟨intr_same fun o ho e => ?_, intr_same fun o ho e => ?_⟩
  · cases hp : o.p with
    | none => rfl
    | some l =>
      have hb := lim_mem ho hp
      have : z ≠ l := fun q => h.1 (by rw [q]; exact hb)
      rw [buy_takes, buy_takes]
      exact decide_eq_decide.mpr (by omega)
  · cases hp : o.p with
    | none => rfl
    | some l =>
      have hb := bey_mem ho hp
      have hs : ¬ V.str o.s = V.str "buy" := fun q => by rw [e] at q; exact absurd (V.str.inj q) (by decide)
      rw [show buyS o.s = false from decide_eq_false hs, if_neg Bool.false_ne_true] at hb
      have : z ≠ l - 1 := fun q => h.2 (by rw [q]; exact hb)
      rw [sell_takes, sell_takes]
      exact decide_eq_decide.mpr (by omega)
theorem rank4_near {os : List Ord30} {r y z : Int} (h1 : intr os "buy" y = intr os "buy" z) (h2 : intr os "sell" y = intr os "sell" z) (hd : (if y - r < 0 then -(y - r) else y - r) < (if z - r < 0 then -(z - r) else z - r)) {c : Four} (n : ¬ FourLt (rank4 os r y) c) : ¬ FourLt (rank4 os r z) c := by
  unfold rank4 at *
  rw [h1, h2] at n
  unfold FourLt at *
  dsimp only at *
  omega
/-- the best of the candidates is the best of all -/
theorem cand_best {os : List Ord30} {r : Int} {c : Four} (h : ∀ y, (y = r ∨ y ∈ limits30 os ∨ y ∈ beyond30 os) → InR os r y → ¬ FourLt (rank4 os r y) c) : ∀ (n : Nat) (z : Int), (z - r).natAbs ≤ n → InR os r z → ¬ FourLt (rank4 os r z) c := by
  intro n
  induction n with
  | zero => exact fun z hz hi => h z (.inl (by omega)) hi
  | succ n ih =>
    intro z hz hi
    by_cases hc : z = r ∨ z ∈ limits30 os ∨ z ∈ beyond30 os
    · exact h z hc hi
    · have nc : z ∉ limits30 os ∧ z ∉ beyond30 os := ⟨fun q => hc (.inr (.inl q)), fun q => hc (.inr (.inr q))⟩
      have nr : z ≠ r := fun q => hc (.inl q)
      obtain ⟨⟨a, ha, haz⟩, b, hb, hbz⟩ := hi
      by_cases hlt : r < z
      · have s := step_down nc
        refine rank4_near s.1 s.2 (by split <;> split <;> omega) (ih (z - 1) (by omega) ⟨⟨r, .inl rfl, by omega⟩, b, hb, by omega⟩)
      · have s := step_up nc
        refine rank4_near s.1 s.2 (by split <;> split <;> omega) (ih (z + 1) (by omega) ⟨⟨a, ha, by omega⟩, r, .inl rfl, by omega⟩)
/-- a best call price -/
def Best30 (os : List Ord30) (r z : Int) : Prop := InR os r z ∧ ∀ y, InR os r y → ¬ FourLt (rank4 os r y) (rank4 os r z)

theorem Tups.extN {α : Type} {enc : α → List V} {H H' : Hp} {l : Addr} {ps : List Addr} {xs : List α} (h : Tups enc H l ps xs) (e : LamX.ExtN H H') : Tups enc H' l ps xs :=
  ⟨e _ _ h.lst (fun _ y => by cases y), h.len, fun i p x a b => e _ _ (h.row i p x a b) fun _ y => by cases y⟩
/-- all but the dicts stay -/
def KeepD (H H' : Hp) : Prop := ∀ b o, H b = some o → (∀ d, o ≠ .dK d) → H' b = some o
theorem KeepD.tups {α : Type} {enc : α → List V} {H H' : Hp} {l : Addr} {ps : List Addr} {xs : List α} (k : KeepD H H') (h : Tups enc H l ps xs) : Tups enc H' l ps xs :=
  ⟨k _ _ h.lst (fun d e => by cases e), h.len, fun i p x a b => k _ _ (h.row i p x a b) fun d e => by cases e⟩
theorem keepD_of {H H' : Hp} {D : Addr} {d : List (Key × V)} (hD : H D = some (.dK d)) (e : ∀ b, b ≠ D → H' b = H b) : KeepD H H' := fun b o h n => by
  by_cases hb : b = D
  · rw [hb, hD] at h
    exact absurd (Option.some.inj h).symm (n d)
  · rw [e b hb]
    exact h
theorem tabs_keepD {TL : List (Addr × Str)} {H H' : Hp} (k : KeepD H H') (t : LamX.Tabs TL H) : LamX.Tabs TL H' := fun p hp => by
  obtain ⟨ps, h1, h2, h3⟩ := t p hp
  refine ⟨ps, k _ _ h1 (fun d e => by cases e), h2, fun pos cv h => ?_⟩
  obtain ⟨c, rfl, h4⟩ := h3 pos cv h
  exact ⟨c, rfl, k _ _ h4 fun d e => by unfold LamX.CodeO at e; cases e⟩
open LamX in
def sp_interests (K : PySem.W.Frag) (TL : List (Addr × Str)) : Sp := fun vs H Q _ => ∃ (_ : Unit) (l PA : Addr) (as : List Addr) (os : List Ord30) (s : Str) (ps : List Int), vs = [.ref l, .str s, .ref PA] ∧ Tups rowO H l as os ∧ os.length ≤ 31 ∧ H PA = some (.lst (ps.map V.int)) ∧ ps.length ≤ 63 ∧ ps.Nodup ∧ Tabs TL H ∧
  ∀ (_ : Unit) D d H', ExtN H H' → Tabs TL H' → H' D = some (.dK (encD d)) → (∀ z, z ∈ ps → z ∈ keysS d ∧ gD d z = intr os s z) → Q (.ref D) H'
set_option maxHeartbeats 0 in
theorem ok_interests (T : Txt K mg) [TB : TabsOk T base] : FnOk P w K mg base CX0 6 T.f_interests T.d_interests ["orders", "side", "prices"] (sp_interests K (tabsL T)) := by
  refine fun_okC T.F_interests sc_interests T.eq_interests (fun vs H Q E h => ?_) (fun A outer s H vs Q E hr h => ?_)
  · obtain ⟨_, l, PA, as, os, s, ps, rfl, _⟩ := h
    rfl
  · obtain ⟨_, l, PA, as, os, s, ps, rfl, hT, hl, hP, hpl, hnd, hTb, q⟩ := h
    have G_ranked : FnOk P w K mg base CX0 5 T.f_ranked T.d_ranked ["orders", "side"] (sp_ranked K (tabsL T)) := ok_ranked T
    have G_accepts : FnOk P w K mg base CX0 1 T.f_accepts T.d_accepts ["side", "limit", "price"] (sp_accepts K) := ok_accepts T
    have G_rank : FnOk P w K mg base CX0 1 T.f_rank T.d_rank ["side", "price"] (sp_rank K) := ok_rank T
    have hs := SqL.of (K := K) hP
    refine ⟨_, (pss_cons (ps_set (i := 3) sc_interests.nd rfl (Or.inl rfl) (pe_call G_ranked hr (by rfl) T.m_ranked T.F_ranked.kp T.b_ranked .nil pass0 (pa_cons (pv 0) (pa_cons (pv 1) pa_nil))))
    (pss_cons (ps_set (i := 4) sc_interests.nd rfl (Or.inl rfl) pe_dnewK)
    (pss_cons (ps_set (i := 5) sc_interests.nd rfl (Or.inl rfl) pe_int)
    (pss_cons (ps_set (i := 6) sc_interests.nd rfl (Or.inl rfl) pe_int)
    (pss_cons (ps_for PassesOwn.never rfl (pi_list (pe_sortLam (T := tabsL T) (j := 1) (a := "limit") (pv 2) (by rfl) T.z_sorted TB.tb_interests rfl (.tail _ (.head _)) (tabsU_interests T) (hr.mono (by decide)) (lamP_by (by show lamPB (defScope s_interests) _ _ = true; decide +kernel)) (by show (N_interests.all fun y => decide (y ≠ "limit")) = true; decide +kernel) rfl (fun _ _ _ _ _ _ => rfl) (fun _ _ _ _ _ hr => (pe_call G_rank hr (by rfl) T.m_rank T.F_rank.kp T.b_rank .nil pass0 (pa_cons (pv 1) (pa_cons (pv 8) pa_nil)))))) (pg_name (i := 7) sc_interests.nd rfl (Or.inl rfl))
      (pss_cons (ps_while PassesOwn.never (PW.pt (pw_and (pt_cmpR op_lt (pv 6) (pe_callB call_len_seq (by rfl) T.z_len PySem.boot_len (pa_cons (pv 3) pa_nil)) (nomark _)) (pw_and1 (pt_val (pe_call G_accepts (hr.mono (by decide)) (by rfl) T.m_accepts T.F_accepts.kp T.b_accepts .nil pass0 (pa_cons (pv 1) (pa_cons (pe_ix ix_tup (pe_ix ix_list (pv 3) (pv 6) (fun _ _ => rfl)) pe_int (fun _ _ => rfl)) (pa_cons (pv 7) pa_nil))))))))
        (pss_cons (ps_aug (i := 5) sc_interests.nd rfl (Or.inl rfl) (pe_ix ix_tup (pe_ix ix_list (pv 3) (pv 6) (fun _ _ => rfl)) pe_int (fun _ _ => rfl)) ip_add)
        (pss_one (ps_aug (i := 6) sc_interests.nd rfl (Or.inl rfl) pe_int ip_add))))
      (pss_one (ps_dput (hu_of hr) (pv 4) (pv 7) (pv 5) rfl))))
    (pss_one (ps_ret (pv 4)))))))), ?_⟩
    walk_at "st"
    refine ⟨(), l, as, os, s, rfl, hT, hl, hTb, fun _ R rs H1 e1 t1 hR => ?_⟩
    have hP1 := e1 _ _ hP fun _ y => by cases y
    walk_at "st"
    intro D nD
    generalize hH2 : upd H1 D _ = H2
    have s2 : Same H1 H2 := hH2 ▸ same_upd nD
    have hD : H2 D = some (.dK (encD [])) := (congrFun hH2 D).symm.trans upd_same
    have hR2 := hR.same s2
    have hP2 := s2 _ _ hP1
    have t2 := t1.ext s2
    walk_at "st"
    intro H3 e3 t3
    have hP3 := e3 _ _ hP2 fun _ y => by cases y
    have hD3 := e3 _ _ hD fun _ y => by cases y
    refine ⟨(), PA, ps.map V.int, priceKey s, rfl, SqL.of hP3, fun x hx H4 e4 => ?_, fun _ p H4 e4 np np4 => ?_⟩
    · obtain ⟨z, _, rfl⟩ := List.mem_map.mp hx
      walk_at "st"
      exact ⟨some z, rfl, fun t nt => ⟨same_upd nt, t, rfl, upd_same⟩⟩
    · rw [price_vals]
      have hp4 := upd_same (H := H4) (a := p) (o := .lst ((priceL s ps).map V.int))
      have s4 := same_upd (o := .lst ((priceL s ps).map V.int)) np4
      have hD4 := s4 _ _ (e4 _ _ hD3)
      have hR4 := ((hR2.extN e3).same e4).same s4
      have t4 := (t3.ext e4).ext s4
      have e04 : LamX.ExtN H1 (upd H4 p (.lst ((priceL s ps).map V.int))) := (((extN_same s2).trans e3).trans (extN_same e4)).trans (extN_same s4)
      generalize upd H4 p (.lst ((priceL s ps).map V.int)) = H5 at *
      refine ⟨p, rfl, ⟨_, SqL.of hp4⟩, ?_⟩
      have hrl := ranked_len s os
      have hql := price_len s ps
      have hqn := price_nodup (s := s) hnd
      have hqs := price_sorted s ps
      have hqm : ∀ z, z ∈ priceL s ps ↔ z ∈ ps := fun z => price_mem
      generalize priceL s ps = qs at *
      have hin : ∀ {a : Nat} {z : Int}, (∀ o, o ∈ (rankedL s os).take a → takes s o.p z = true) → (∀ o, (rankedL s os)[a]? = some o → takes s o.p z = false) → (((rankedL s os).take a).map (·.q)).sum = intr os s z := fun h1 h2 => pre_intr h1 h2
      generalize rankedL s os = rk at *
      refine for_list (K := K) (a := p) (xs := qs.map V.int) (fun i σ H' => ∃ (v7 : Option V) (a : Nat), σ = [some (.ref l), some (.str s), some (.ref PA), some (.ref R), some (.ref D), some (.int (((rk.take a).map (·.q)).sum)), some (.int (a : Int)), v7] ∧ a ≤ rk.length ∧
        (∀ o, o ∈ rk.take a → ∀ z, z ∈ qs.drop i → takes s o.p z = true) ∧ H' D = some (.dK (encD ((qs.take i).map fun z => (z, intr os s z)))) ∧ (∀ b, b ≠ D → H' b = H5 b))
        ⟨none, 0, rfl, Nat.zero_le _, (fun o ho => by cases ho), hD4, fun _ _ => rfl⟩ (fun i σ H' _ ⟨_, _, _, _, _, hd, hk⟩ => SqL.of (keepD_of hD4 hk _ _ hp4 fun d e => by cases e)) ?_ ?_
      · rintro i v σ H6 hvv ⟨v7, a, rfl, ha, hac, hd, hk⟩
        obtain ⟨z, hz, rfl⟩ := ints_at hvv
        have kD := keepD_of hD4 hk
        have hR6 := kD.tups hR4
        have hRs := SqL.of (K := K) hR6.lst
        have hzd : z ∈ qs.drop i := List.mem_iff_getElem?.mpr ⟨0, by rw [List.getElem?_drop]; exact hz⟩
        have hil := (List.getElem?_eq_some_iff.mp hz).1
        have hlate : ∀ y, y ∈ qs.drop (i + 1) → kLe (rankK s (some z)) (rankK s (some y)) := by
          have h1 := hqs.sublist (List.drop_sublist i qs)
          rw [List.drop_eq_getElem_cons hil, (List.getElem?_eq_some_iff.mp hz).2] at h1
          exact (List.pairwise_cons.mp h1).1
        have hnew : z ∉ keysS ((qs.take i).map fun z => (z, intr os s z)) := fun hm => by
          have h1 : z ∈ qs.take i := by
            unfold keysS at hm
            rw [List.map_map] at hm
            obtain ⟨y, hy, rfl⟩ := List.mem_map.mp hm
            exact hy
          have h2 := hqn.sublist (List.take_sublist (i + 1) qs)
          rw [take_succ hz, List.nodup_append] at h2
          exact h2.2.2 z h1 z (List.mem_singleton_self _) rfl
        refine while_by (fun σ H' => H' = H6 ∧ ∃ b : Nat, σ = [some (.ref l), some (.str s), some (.ref PA), some (.ref R), some (.ref D), some (.int (((rk.take b).map (·.q)).sum)), some (.int (b : Int)), some (.int z)] ∧ b ≤ rk.length ∧ ∀ o, o ∈ rk.take b → takes s o.p z = true)
          (fun σ _ => match σ with | [_, _, _, _, _, _, some (.int n), _] => rk.length - n.toNat | _ => 0)
          ⟨rfl, a, rfl, ha, fun o ho => hac o ho z hzd⟩ ?_ ?_
        · rintro σ H7 ⟨rfl, b, rfl, hb, hba⟩
          walk_at "st"
          refine iteD (fun hlt => ?_) (fun hlt => ?_)
          · obtain ⟨x, hx⟩ : ∃ x, rk[b]? = some x := ⟨_, List.getElem?_eq_getElem (by rw [List.length_map, hR6.len] at hlt; omega)⟩
            obtain ⟨pe, hpe, hat, hrow⟩ := hR6.at hx
            have htup : SqT K H7 pe (rowR x) := SqT.of hrow
            have hix1 : atI (rowR x) 1 = some (optV x.p) := rfl
            have hix2 : atI (rowR x) 2 = some (.int x.q) := rfl
            have hsum : ((rk.take (b + 1)).map (·.q)).sum = ((rk.take b).map (·.q)).sum + x.q := by
              rw [take_succ hx, List.map_append, List.sum_append]
              show _ + (x.q + 0) = _
              rw [Int.add_zero]
            walk_at "st"
            refine ⟨x.p, z, rfl, ?_⟩
            walk_at "st"
            refine iteB (fun ht => ?_) (fun ht => ?_)
            · have hnext : ∀ o, o ∈ rk.take (b + 1) → takes s o.p z = true := fun o ho => by
                rw [take_succ hx] at ho
                rcases List.mem_append.mp ho with h1 | h1
                · exact hba o h1
                · rw [List.mem_singleton.mp h1]
                  exact ht
              have hbl : b < rk.length := (List.getElem?_eq_some_iff.mp hx).1
              walk_at "st"
              refine ⟨⟨rfl, b + 1, by rw [hsum]; rfl, hbl, hnext⟩, ?_⟩
              show rk.length - ((b : Int) + 1).toNat < rk.length - ((b : Int)).toNat
              omega
            · have hfin := hin hba (fun o ho => by rw [hx] at ho; rw [← Option.some.inj ho]; exact ht)
              rw [hfin]
              walk_at "st"
              refine dput_go (s := z) hd (by rw [List.length_map, List.length_take]; omega) ?_
              rw [put_new hnew]
              refine ⟨_, b, by rw [hfin], hb, fun o ho y hy => takes_later (hba o ho) (hlate y hy), ?_, fun c hc => (upd_ne hc).trans (hk c hc)⟩
              rw [upd_same, take_succ hz, List.map_append]
              rfl
          · have hfin := hin hba (fun o ho => by have h2 := (List.getElem?_eq_some_iff.mp ho).1; rw [List.length_map, hR6.len] at hlt; omega)
            rw [hfin]
            walk_at "st"
            refine dput_go (s := z) hd (by rw [List.length_map, List.length_take]; omega) ?_
            rw [put_new hnew]
            refine ⟨_, b, by rw [hfin], hb, fun o ho y hy => takes_later (hba o ho) (hlate y hy), ?_, fun c hc => (upd_ne hc).trans (hk c hc)⟩
            rw [upd_same, take_succ hz, List.map_append]
            rfl
        · rintro σ H Q Q' h ⟨v1, e1, v2, e2, p, ys, r0, hq, i, j, r1, r2, k, r3, q⟩
          refine ⟨v1, e1, v2, e2, p, ys, r0, hq, i, j, r1, r2, k, r3, ?_⟩
          cases k with
          | false => exact h _ _ q
          | true =>
            rw [if_pos rfl] at q ⊢
            obtain ⟨w1, f1, w3, f3, w6, f6, p1, x1, i1, y1, a1, a2, a3, a4, p2, x2, i2, y2, b1, b2, b3, b4, w7, f7, s', l', p', c1, k', c2, q⟩ := q
            exact ⟨w1, f1, w3, f3, w6, f6, p1, x1, i1, y1, a1, a2, a3, a4, p2, x2, i2, y2, b1, b2, b3, b4, w7, f7, s', l', p', c1, k', c2, h _ _ q⟩
      · rintro σ H6 ⟨v7, a, rfl, ha, hac, hd, hk⟩
        rw [show qs.take (qs.map V.int).length = qs by rw [List.length_map, List.take_length]] at hd
        have kD := keepD_of hD4 hk
        walk_at "st"
        refine q () D _ H6 (fun b u hb nt => ?_) (tabs_keepD kD t4) hd fun z hz => gD_of (intr os s) ((hqm z).mpr hz)
        have h5 := e1.trans e04 b u hb nt
        have h1 := e1 b u hb nt
        rw [hk b fun e => by rw [e, nD] at h1; cases h1]
        exact h5

theorem min_py (a b : Int) : (if b < a then b else a) = min a b := by
  rw [Int.min_def]
  split <;> split <;> omega
open LamX in
def sp_call_price (K : PySem.W.Frag) (TL : List (Addr × Str)) : Sp := fun vs H Q _ => ∃ (_ : Unit) (l : Addr) (as : List Addr) (os : List Ord30) (r : Int), vs = [.ref l, .int r] ∧ Tups rowO H l as os ∧ os.length ≤ 31 ∧ (∀ o, o ∈ os → Good30 o) ∧ 1 ≤ r ∧ r ≤ 1000000 ∧ Tabs TL H ∧
  ∀ (_ : Unit) (t : Addr) (z : Int) (H' : Hp), ExtN H H' → Tabs TL H' → Best30 os r z → H' t = some (.tup [.int z, .int (min (intr os "buy" z) (intr os "sell" z))]) → Q (.ref t) H'
def rowF (q : Four) : List V := [.int q.1, .int q.2.1, .int q.2.2.1, .int q.2.2.2]
set_option maxHeartbeats 0 in
theorem ok_call_price (T : Txt K mg) [TB : TabsOk T base] : FnOk P w K mg base CX0 7 T.f_call_price T.d_call_price ["orders", "reference"] (sp_call_price K (tabsL T)) := by
  refine T.F_call_price.ok sc_call_price (fun vs H Q E h => ?_) (fun cdv A outer s H vs Q E hr h => ?_)
  · obtain ⟨_, l, as, os, r, rfl, _⟩ := h
    rfl
  · obtain ⟨_, l, as, os, r, rfl, hT, hl, hg, hr0, hr1, hTb, q⟩ := h
    have G_check_call : FnOk P w K mg base CX0 5 T.f_check_call T.d_check_call ["orders", "reference"] (sp_check_call K) := ok_check_call T
    have G_candidates : FnOk P w K mg base CX0 1 T.f_candidates T.d_candidates ["orders", "reference"] (sp_candidates K) := ok_candidates T
    have G_interests : FnOk P w K mg base CX0 6 T.f_interests T.d_interests ["orders", "side", "prices"] (sp_interests K (tabsL T)) := ok_interests T
    refine ⟨_, (pss_cons (ps_expr (pe_call G_check_call (hr.mono (by decide)) (by rfl) T.m_check_call T.F_check_call.kp T.b_check_call .nil pass0 (pa_cons (pv 0) (pa_cons (pv 1) pa_nil))))
    (pss_cons (ps_set (i := 2) sc_call_price.nd rfl (Or.inl rfl) (pe_call G_candidates (hr.mono (by decide)) (by rfl) T.m_candidates T.F_candidates.kp T.b_candidates .nil pass0 (pa_cons (pv 0) (pa_cons (pv 1) pa_nil))))
    (pss_cons (ps_set (i := 3) sc_call_price.nd rfl (Or.inr rfl) (pe_call G_interests hr (by rfl) T.m_interests T.F_interests.kp T.b_interests .nil pass0 (pa_cons (pv 0) (pa_cons pe_str (pa_cons (pv 2) pa_nil)))))
    (pss_cons (ps_set (i := 4) sc_call_price.nd rfl (Or.inr rfl) (pe_call G_interests hr (by rfl) T.m_interests T.F_interests.kp T.b_interests .nil pass0 (pa_cons (pv 0) (pa_cons pe_str (pa_cons (pv 2) pa_nil)))))
    (pss_cons (ps_setLc (i := 5) (own := [("price", 6)]) (g := gName 6) (tt := tYes) rfl sc_call_price.nd rfl rfl (sw_true rfl rfl rfl (by decide +kernel)) (pi_list (pv 2)) (blkOk_by (own := [("price", 6)]) (N := N_call_price) (sc := defScope s_call_price) (by decide +kernel)) (fun _ _ _ _ _ => (pg_name (i := 6) sc_call_price.nd rfl (Or.inl rfl))) (fun _ _ _ _ _ => pts_nil) (fun _ _ _ _ _ => (pe_tup (pa_cons (pe_un un_neg (pe_callB (call_min2 rfl) (by rfl) T.z_min (by decide +kernel) (pa_cons (pe_dget (hu_of hr) (pv 3) (pv 6) (fun _ _ => rfl)) (pa_cons (pe_dget (hu_of hr) (pv 4) (pv 6) (fun _ _ => rfl)) pa_nil)))) (pa_cons (pe_callB call_abs (by rfl) T.z_abs (by decide +kernel) (pa_cons (pe_op op_sub (pe_dget (hu_of hr) (pv 3) (pv 6) (fun _ _ => rfl)) (pe_dget (hu_of hr) (pv 4) (pv 6) (fun _ _ => rfl))) pa_nil)) (pa_cons (pe_callB call_abs (by rfl) T.z_abs (by decide +kernel) (pa_cons (pe_op op_sub (pv 6) (pv 1)) pa_nil)) (pa_cons (pv 6) pa_nil)))))))
    (pss_cons (ps_set (i := 7) sc_call_price.nd rfl (Or.inl rfl) (pe_callB (cr_minFour hr rfl) (by rfl) T.z_min (by decide +kernel) (pa_cons (pv 5) pa_nil)))
    (pss_one (ps_ret (pe_tup (pa_cons (pe_ix ix_tup (pv 7) pe_int (fun _ _ => rfl)) (pa_cons (pe_un un_neg (pe_ix ix_tup (pv 7) pe_int (fun _ _ => rfl))) pa_nil))))))))))), ?_⟩
    walk_at "st"
    refine ⟨(), l, as, os, r, rfl, hT, hg, hr0, hr1, ?_⟩
    walk_at "st"
    refine ⟨(), l, as, os, r, rfl, hT, hl, fun _ PA ps H1 s1 hP hps hpl hpw => ?_⟩
    have hnd : ps.Nodup := hpw.imp fun h => Int.ne_of_lt h
    have hT1 := hT.same s1
    have t1 := hTb.ext s1
    walk_at "st"
    refine ⟨(), l, PA, as, os, "buy", ps, rfl, hT1, hl, hP, hpl, hnd, t1, fun _ D d H2 e2 t2 hD hd => ?_⟩
    have hT2 := hT1.extN e2
    have hP2 := e2 _ _ hP fun _ y => by cases y
    walk_at "st"
    refine ⟨(), l, PA, as, os, "sell", ps, rfl, hT2, hl, hP2, hpl, hnd, t2, fun _ F f H3 e3 t3 hF hf => ?_⟩
    have hP3 := e3 _ _ hP2 fun _ y => by cases y
    have hD3 := e3 _ _ hD fun _ y => by cases y
    have hs := SqL.of (K := K) hP3
    walk_at "st"
    intro C nC
    refine lc_list (K := K) (a := PA) (xs := ps.map V.int) (fun i H' => ∃ (_ : Unit) (bs : List Addr), Tups rowF H' C bs ((ps.take i).map (rank4 os r)) ∧ Same H3 H') ⟨(), [], .nil upd_same, same_upd nC⟩ (fun i H' _ ⟨_, _, _, e⟩ => e.seq hs) ?_ ?_
    · rintro i v H4 hvv ⟨_, bs, hB, e4⟩
      obtain ⟨z, hz, rfl⟩ := ints_at hvv
      have hzm := List.mem_of_getElem? hz
      have hD4 := e4 _ _ hD3
      have hF4 := e4 _ _ hF
      have kd := hd z hzm
      have kf := hf z hzm
      have hil := (List.getElem?_eq_some_iff.mp hz).1
      have g1 := dget_at hD4 kd.1
      have g2 := dget_at hF4 kf.1
      rw [kd.2] at g1
      rw [kf.2] at g2
      walk_at "st"
      intro E nE
      have ev : (HO.tup [V.int (-(if intr os "sell" z < intr os "buy" z then intr os "sell" z else intr os "buy" z)), V.int (if intr os "buy" z - intr os "sell" z < 0 then -(intr os "buy" z - intr os "sell" z) else intr os "buy" z - intr os "sell" z), V.int (if z - r < 0 then -(z - r) else z - r), V.int z]) = HO.tup (rowF (rank4 os r z)) := by
        unfold rowF rank4
        rw [min_py]
      have sE := same_upd (o := .tup (rowF (rank4 os r z))) nE
      show ∃ _, _
      refine ⟨_, by rw [ev]; exact sE _ _ hB.lst, small1000 (by rw [List.length_map, hB.len, List.length_map, List.length_take]; omega), (), bs ++ [E], ?_, ?_⟩
      · rw [take_succ hz, List.map_append, ev]
        exact hB.push (x := rank4 os r z) sE nE upd_same
      · rw [ev]
        exact TabR.keep (e4.trans sE) nC
    · rintro H4 ⟨_, bs, hB, e4⟩
      rw [show ps.take (ps.map V.int).length = ps by rw [List.length_map, List.take_length]] at hB
      have hBs := SqL.of (K := K) hB.lst
      have hne : ps ≠ [] := fun e => by
        have := (hps r).mpr ⟨.inl rfl, ⟨r, .inl rfl, Int.le_refl _⟩, r, .inl rfl, Int.le_refl _⟩
        rw [e] at this
        cases this
      obtain ⟨z0, zs, hzs⟩ := List.exists_cons_of_ne_nil hne
      have hmap : ps.map (rank4 os r) = rank4 os r z0 :: zs.map (rank4 os r) := by rw [hzs]; rfl
      rw [hmap] at hB
      walk_at "st"
      refine ⟨(), C, bs, rank4 os r z0, zs.map (rank4 os r), rfl, hBs, hB.len, fun i a q h1 h2 => hB.row i a q h1 h2, fun _ t q4 hq4 ht hleast => ?_⟩
      rw [← hmap] at hq4 hleast
      obtain ⟨z, hz, rfl⟩ := List.mem_map.mp hq4
      have htup : SqT K H4 t (rowF (rank4 os r z)) := SqT.of ht
      walk_at "st"
      intro u nu
      have e3' := extN_same (e4.trans (same_upd (o := .tup [.int (rank4 os r z).2.2.2, .int (-(rank4 os r z).1)]) nu))
      refine q () u z _ ((((extN_same s1).trans e2).trans e3).trans e3') (t3.ext (e4.trans (same_upd nu))) ⟨((hps z).mp hz).2, fun y hy => ?_⟩ ?_
      · exact cand_best (fun y hy hin => hleast _ (List.mem_map.mpr ⟨y, (hps y).mpr ⟨hy, hin⟩, rfl⟩)) _ y (Nat.le_refl _) hy
      · refine upd_same.trans ?_
        show some (HO.tup [V.int z, V.int (- -(min (intr os "buy" z) (intr os "sell" z)))]) = _
        rw [Int.neg_neg]

/-! ### the law's own rows -/
def houses30 : List Str := ["ash", "bay", "elm", "oak"]
theorem house30_at (c : Int) : ∃ s, atI (houses30.map V.str) (c % 4) = some (.str s) ∧ s ∈ houses30 := by
  have h0 := Int.emod_nonneg c (by decide : (4 : Int) ≠ 0)
  have h1 := Int.emod_lt_of_pos c (by decide : (0 : Int) < 4)
  obtain ⟨n, hn⟩ := Int.eq_ofNat_of_zero_le h0
  have hl : n < houses30.length := by show n < 4; omega
  refine ⟨houses30[n], ?_, List.getElem_mem hl⟩
  rw [hn]
  refine at_of (j := n) rfl ?_
  rw [List.getElem?_map, List.getElem?_eq_getElem hl]
  rfl
theorem side30_at (c : Int) : ∃ s, atI ([V.str "buy", V.str "sell"]) (c % 2) = some (.str s) ∧ (s = "buy" ∨ s = "sell") := by
  have h0 := Int.emod_nonneg c (by decide : (2 : Int) ≠ 0)
  have h1 := Int.emod_lt_of_pos c (by decide : (0 : Int) < 2)
  rcases (by omega : c % 2 = 0 ∨ c % 2 = 1) with e | e
  · exact ⟨"buy", by rw [e]; rfl, .inl rfl⟩
  · exact ⟨"sell", by rw [e]; rfl, .inr rfl⟩
/-- the number of an order of the script -/
def num30 (c : Int) (k : Nat) : Int := if c % 3 = 0 then 100 - 2 * (k : Int) else (k : Int) + 1
theorem num30_inj {c : Int} {i j : Nat} (h : num30 c i = num30 c j) : i = j := by
  unfold num30 at h
  split at h <;> omega
/-- an order of the script -/
structure Fine30 (o : Ord30) : Prop where
  good : Good30 o
  h : o.h ∈ houses30
  s : o.s = "buy" ∨ o.s = "sell"
  p : ∀ z, o.p = some z → 90 ≤ z ∧ z ≤ 110
  q : o.q ≤ 40
/-- the orders of a script -/
structure Ords30 (os : List Ord30) : Prop where
  len : os.length ≤ 30
  fine : ∀ o, o ∈ os → Fine30 o
  nums : ∃ c, ∀ j o, os[j]? = some o → o.n = num30 c j
theorem fine_of {n : Int} {h s : Str} {p : Option Int} {q : Int} (hh : h ∈ houses30) (hs : s = "buy" ∨ s = "sell") (hp : ∀ z, p = some z → 90 ≤ z ∧ z ≤ 110) (hq : 1 ≤ q ∧ q ≤ 40) : Fine30 ⟨n, h, s, p, q⟩ :=
  ⟨⟨hs.imp (fun e => by rw [e]) (fun e => by rw [e]), fun z e => ⟨by have := hp z e; omega, by have := hp z e; omega⟩, hq.1, by show q ≤ 1000000; omega⟩, hh, hs, hp, hq.2⟩
def sp_law_orders (K : PySem.W.Frag) : Sp := fun vs H Q _ => ∃ (a : Addr) (ns : List Int), vs = [.ref a] ∧ SqL K H a (ns.map V.int) ∧ ns.length ≤ 63 ∧
  ∀ (_ : Unit) PA as os H', Same H H' → Tups rowO H' PA as os → Ords30 os → Q (.ref PA) H'
set_option maxHeartbeats 0 in
theorem ok_law_orders (T : Txt K mg) [TB : TabsOk T base] : FnOk P w K mg base CX0 1 T.f_law_orders T.d_law_orders ["script"] (sp_law_orders K) := by
  refine T.F_law_orders.ok sc_law_orders (fun vs H Q E h => ?_) (fun cdv A outer s H vs Q E hr h => ?_)
  · obtain ⟨a, ns, rfl, _⟩ := h
    rfl
  · obtain ⟨a, ns, rfl, hs, hl, q⟩ := h
    refine ⟨_, (pss_cons (ps_set (i := 1) sc_law_orders.nd rfl (Or.inl rfl) (pe_lst pa_nil))
    (pss_cons (ps_for PassesOwn.never rfl (pi_enum (by rfl) T.z_enumerate (pa_cons (pe_slice sl_list (pv 0) (po_some pe_int) (po_some pe_int)) pa_nil)) (pg_tup rfl (pgs_cons (pg_name (i := 2) sc_law_orders.nd rfl (Or.inl rfl)) (pgs_cons (pg_name (i := 3) sc_law_orders.nd rfl (Or.inl rfl)) pgs_nil)))
      (pss_cons (ps_set (i := 4) sc_law_orders.nd rfl (Or.inl rfl) (pe_op op_add (pv 2) pe_int))
      (C8.pss_cut (ps_if (pt_cmpR op_eq (pe_op op_mod (pe_callTy call_int_i (by rfl) T.z_int (by decide +kernel) (pa_cons (pe_ix ix_list (pv 0) pe_int (fun _ _ => rfl)) pa_nil)) pe_int) pe_int (nomark _))
        (pss_one (ps_set (i := 4) sc_law_orders.nd rfl (Or.inl rfl) (pe_op op_sub pe_int (pe_op op_mul pe_int (pv 2)))))
        pss_nil)
      (pss_cons (ps_set (i := 5) sc_law_orders.nd rfl (Or.inl rfl) (pe_op op_add pe_int (pe_op op_mod (pe_op op_fdiv (pe_callTy call_int_i (by rfl) T.z_int (by decide +kernel) (pa_cons (pv 3) pa_nil)) pe_int) pe_int)))
      (C8.pss_cut (ps_if (pt_cmpR op_eq (pe_op op_mod (pe_op op_fdiv (pe_callTy call_int_i (by rfl) T.z_int (by decide +kernel) (pa_cons (pv 3) pa_nil)) pe_int) pe_int) pe_int (nomark _))
        (pss_one (ps_set (i := 5) sc_law_orders.nd rfl (Or.inl rfl) pe_non))
        pss_nil)
      (pss_cons (ps_set (i := 6) sc_law_orders.nd rfl (Or.inl rfl) (pe_ix ix_list (pe_lst (pa_cons pe_str (pa_cons pe_str (pa_cons pe_str (pa_cons pe_str pa_nil))))) (pe_op op_mod (pe_op op_fdiv (pe_callTy call_int_i (by rfl) T.z_int (by decide +kernel) (pa_cons (pv 3) pa_nil)) pe_int) pe_int) (fun _ _ => rfl)))
      (pss_cons (ps_set (i := 7) sc_law_orders.nd rfl (Or.inl rfl) (pe_ix ix_list (pe_lst (pa_cons pe_str (pa_cons pe_str pa_nil))) (pe_op op_mod (pe_callTy call_int_i (by rfl) T.z_int (by decide +kernel) (pa_cons (pv 3) pa_nil)) pe_int) (fun _ _ => rfl)))
      (pss_one (ps_expr (pe_bm PySem.F.plainAttrs_list PySem.F.slot_list_append PySem.F.type_list_append mt_append (pv 1) (pa_cons (pe_tup (pa_cons (pv 4) (pa_cons (pv 6) (pa_cons (pv 7) (pa_cons (pv 5) (pa_cons (pe_op op_add pe_int (pe_op op_mod (pe_op op_fdiv (pe_callTy call_int_i (by rfl) T.z_int (by decide +kernel) (pa_cons (pv 3) pa_nil)) pe_int) pe_int)) pa_nil)))))) pa_nil)))))))))))
    (pss_one (ps_ret (pv 1))))), ?_⟩
    walk_at "st"
    intro D nD
    generalize hH1 : upd H D _ = H1
    have s1 : Same H H1 := hH1 ▸ same_upd nD
    have hD : H1 D = some (.lst []) := (congrFun hH1 D).symm.trans upd_same
    have hs1 := s1.seq hs
    walk_at "st"
    intro C nC
    generalize hH2 : upd H1 C _ = H2
    have s2 : Same H1 H2 := hH2 ▸ same_upd nC
    have hC := (congrFun hH2 C).symm.trans upd_same
    rw [cutV_ints] at hC
    have hcl : (cutI ns (some 1) (some 31)).length ≤ 30 := by
      unfold cutI
      rw [show (31 : Int) = ((31 : Nat) : Int) from rfl, show (1 : Int) = ((1 : Nat) : Int) from rfl, HT.sIx_nat, HT.sIx_nat, List.length_take, List.length_drop]
      omega
    have hcn : 0 < (cutI ns (some 1) (some 31)).length → 0 < ns.length := by
      unfold cutI
      rw [show (31 : Int) = ((31 : Nat) : Int) from rfl, show (1 : Int) = ((1 : Nat) : Int) from rfl, HT.sIx_nat, HT.sIx_nat, List.length_take, List.length_drop]
      omega
    generalize cutI ns (some 1) (some 31) = cs at hC hcl hcn
    have hD2 := s2 _ _ hD
    have hCs := SqL.of (K := K) hC
    have s02 := s1.trans s2
    have hCD : C ≠ D := fun e => by rw [e, hD] at nC; cases nC
    walk_at "st"
    refine for_enum (a := C) (xs := cs.map V.int) (fun i σ H' => ∃ (v2 v3 v4 v5 v6 v7 : Option V) (bs : List Addr) (os : List Ord30), σ = [some (.ref a), some (.ref D), v2, v3, v4, v5, v6, v7] ∧ Tups rowO H' D bs os ∧ os.length = i ∧ (∀ o, o ∈ os → Fine30 o) ∧ (∀ j o, os[j]? = some o → o.n = num30 (cellOf ns 0) j) ∧ ∀ b o, b ≠ D → H2 b = some o → H' b = some o)
      ⟨none, none, none, none, none, none, [], [], rfl, .nil hD2, rfl, (fun o ho => by cases ho), (fun j o e => by rw [List.getElem?_nil] at e; cases e), fun b o _ h => h⟩ (fun i σ H' _ ⟨_, _, _, _, _, _, _, _, _, _, _, _, _, k⟩ => SqL.of (k _ _ hCD hC)) ?_ ?_
    · rintro i y σ H' U hy ⟨v2, v3, v4, v5, v6, v7, bs, os, rfl, hB, hlen, hf, hnm, keep⟩ nU
      obtain ⟨c, hc, rfl⟩ := ints_at hy
      have hi := (List.getElem?_eq_some_iff.mp hc).1
      generalize hH4 : upd H' U _ = H4
      have s4 : Same H' H4 := hH4 ▸ same_upd nU
      have hB4 := hB.same s4
      have hU4 := (congrFun hH4 U).symm.trans upd_same
      have k4 : ∀ b o, b ≠ D → H2 b = some o → H4 b = some o := fun b o h1 h2 => s4 _ _ (keep b o h1 h2)
      have s04 : Same H H4 := fun b o h => k4 b o (fun e => by rw [e, nD] at h; cases h) (s02 _ _ h)
      have hs4 := s04.seq hs
      have hat0 : atI (ns.map V.int) 0 = some (.int (cellOf ns 0)) := atI_ints (j := 0) (hcn (by omega))
      obtain ⟨hh, hat1, hhm⟩ := house30_at (c / 2)
      obtain ⟨ss, hat2, hsm⟩ := side30_at c
      walk_at "st"
      refine ⟨fun σ' H5 => H5 = H4 ∧ σ' = [some (.ref a), some (.ref D), some (.int (i : Int)), some (.int c), some (.int (num30 (cellOf ns 0) i)), v5, v6, v7], ?_, ?_⟩
      · walk_at "st"
        refine iteD (fun h => ?_) (fun h => ?_)
        · have e : num30 (cellOf ns 0) i = 100 - 2 * (i : Int) := if_pos (V.int.inj h)
          walk_at "st"
          rw [e]
          rfl
        · have e : num30 (cellOf ns 0) i = (i : Int) + 1 := if_neg fun e => h (congrArg V.int e)
          refine ⟨rfl, ?_⟩
          rw [e]
          rfl
      · rintro σ' H5 ⟨rfl, rfl⟩
        walk_at "st"
        refine ⟨fun σ' H6 => H6 = H5 ∧ ∃ (_ : Unit) (p : Option Int), σ' = [some (.ref a), some (.ref D), some (.int (i : Int)), some (.int c), some (.int (num30 (cellOf ns 0) i)), some (optV p), v6, v7] ∧ ∀ z, p = some z → 90 ≤ z ∧ z ≤ 110, ?_, ?_⟩
        · walk_at "st"
          refine iteD (fun h => ?_) (fun h => ?_)
          · walk_at "st"
            refine ⟨(), none, rfl, fun z e => by cases e⟩
          · refine ⟨rfl, (), some (90 + c / 8 % 21), rfl, fun z e => ?_⟩
            obtain rfl := Option.some.inj e
            omega
        · rintro σ' H6 ⟨rfl, _, p, rfl, hp⟩
          walk_at "st"
          intro L1 n1
          have hL1 : SqL K (upd H6 L1 (.lst [V.str "ash", V.str "bay", V.str "elm", V.str "oak"])) L1 (houses30.map V.str) := SqL.of upd_same
          have sL1 := same_upd (o := .lst [V.str "ash", V.str "bay", V.str "elm", V.str "oak"]) n1
          walk_at "st"
          intro L2 n2
          have hL2 : SqL K (upd (upd H6 L1 (.lst [V.str "ash", V.str "bay", V.str "elm", V.str "oak"])) L2 (.lst [V.str "buy", V.str "sell"])) L2 [V.str "buy", V.str "sell"] := SqL.of upd_same
          have sL2 := sL1.trans (same_upd (o := .lst [V.str "buy", V.str "sell"]) n2)
          generalize upd (upd H6 L1 (.lst [V.str "ash", V.str "bay", V.str "elm", V.str "oak"])) L2 (.lst [V.str "buy", V.str "sell"]) = H7 at *
          have hD7 := (hB4.same sL2).lst
          have hbl : bs.length ≤ 31 := by
            rw [hB.len]
            omega
          walk_at "st"
          intro E nE
          have sE := same_upd (o := .tup (rowO ⟨num30 (cellOf ns 0) i, hh, ss, p, 1 + c / 1008 % 40⟩)) nE
          have hpush := (hB4.same sL2).push (x := ⟨num30 (cellOf ns 0) i, hh, ss, p, 1 + c / 1008 % 40⟩) sE nE upd_same
          have s46 := sL2.trans sE
          have hfi : Fine30 ⟨num30 (cellOf ns 0) i, hh, ss, p, 1 + c / 1008 % 40⟩ := fine_of hhm hsm hp (by omega)
          have hDE := sE _ _ hD7
          have hsm' : (bs.map V.ref).length < sizeLine := small1000 (by rw [List.length_map]; omega)
          walk_at "st"
          refine ⟨_, _, _, _, _, _, bs ++ [E], os ++ [(⟨num30 (cellOf ns 0) i, hh, ss, p, 1 + c / 1008 % 40⟩ : Ord30)], rfl, hpush, by rw [List.length_append, hlen]; rfl, fun o ho => ?_, fun j o e => ?_, fun b o h1 h2 => (upd_ne h1).trans (s46 _ _ (k4 b o h1 h2))⟩
          · rcases List.mem_append.mp ho with h1 | h1
            · exact hf o h1
            · rw [List.mem_singleton.mp h1]
              exact hfi
          · by_cases hj : j < os.length
            · rw [List.getElem?_append_left hj] at e
              exact hnm j o e
            · rw [List.getElem?_append_right (by omega)] at e
              have h1 := (List.getElem?_eq_some_iff.mp e).1
              rw [List.length_cons, List.length_nil] at h1
              rw [show j - os.length = 0 by omega] at e
              rw [← Option.some.inj e, show j = i by omega]
    · rintro σ H' ⟨v2, v3, v4, v5, v6, v7, bs, os, rfl, hB, hlen, hf, hnm, keep⟩
      walk_at "st"
      exact q () D bs os H' (fun b o h => keep b o (fun e => by rw [e, nD] at h; cases h) (s02 _ _ h)) hB ⟨by rw [hlen, List.length_map]; exact hcl, hf, _, hnm⟩
def sp_law_reference (K : PySem.W.Frag) : Sp := fun vs H Q _ => ∃ (_ : Unit) (a : Addr) (ns : List Int), vs = [.ref a] ∧ SqL K H a (ns.map V.int) ∧ ns.length ≤ 63 ∧ ∀ (_ : Unit) (r : Int), 85 ≤ r → r ≤ 115 → Q (.int r) H
set_option maxHeartbeats 0 in
theorem ok_law_reference (T : Txt K mg) [TB : TabsOk T base] : FnOk P w K mg base CX0 1 T.f_law_reference T.d_law_reference ["script"] (sp_law_reference K) := by
  refine T.F_law_reference.ok sc_law_reference (fun vs H Q E h => ?_) (fun cdv A outer s H vs Q E hr h => ?_)
  · obtain ⟨_, a, ns, rfl, _⟩ := h
    rfl
  · obtain ⟨_, a, ns, rfl, hs, hl, q⟩ := h
    refine ⟨_, (pss_cons (ps_if (pt_truth (pv 0) (by intro _; rfl))
      (pss_one (ps_ret (pe_op op_add pe_int (pe_op op_mod (pe_op op_fdiv (pe_callTy call_int_i (by rfl) T.z_int (by decide +kernel) (pa_cons (pe_ix ix_list (pv 0) pe_int (fun _ _ => rfl)) pa_nil)) pe_int) pe_int))))
      pss_nil)
    (pss_one (ps_ret pe_int))), ?_⟩
    walk_at "st"
    cases ns with
    | nil =>
      refine iteF ?_
      walk_at "st"
      exact q () 100 (by decide) (by decide)
    | cons c ns =>
      have hat0 : atI ((c :: ns).map V.int) 0 = some (.int c) := atI_ints (ns := c :: ns) (j := 0) (Nat.succ_pos _)
      refine iteT ?_
      walk_at "st"
      exact q () _ (by omega) (by omega)
def sp_law_is_integer (K : PySem.W.Frag) : Sp := fun vs H Q _ => ∃ x : Int, vs = [.int x] ∧ Q (.bl true) H
set_option maxHeartbeats 0 in
theorem ok_law_is_integer (T : Txt K mg) [TB : TabsOk T base] : FnOk P w K mg base CX0 1 T.f_law_is_integer T.d_law_is_integer ["actual"] (sp_law_is_integer K) := by
  refine T.F_law_is_integer.ok sc_law_is_integer (fun vs H Q E h => ?_) (fun cdv A outer s H vs Q E hr h => ?_)
  · obtain ⟨x, rfl, _⟩ := h
    rfl
  · obtain ⟨x, rfl, q⟩ := h
    refine ⟨_, (pss_one (ps_ret (pe_and (pe_callB call_isi (by rfl) T.z_isinstance (by decide +kernel) (pa_cons (pv 0) (pa_cons (pe_bltn (v := .ty "int") (u := .type "int") (by rfl) T.z_int (by decide +kernel) rfl) pa_nil))) (pe_one (pe_not (pe_callB call_isi (by rfl) T.z_isinstance (by decide +kernel) (pa_cons (pv 0) (pa_cons (pe_bltn (v := .ty "bool") (u := .type "bool") (by rfl) T.z_bool (by decide +kernel) rfl) pa_nil)))))))), ?_⟩
    refine ⟨_, rfl, ?_⟩
    refine ⟨_, _, _, _, true, rfl, .ty _, .base (.int _), kit_ty (by decide +kernel), ?_⟩
    refine ⟨true, rfl, iteT ?_⟩
    refine ⟨_, rfl, ?_⟩
    refine ⟨_, _, _, _, false, rfl, .ty _, .base (.int _), kit_ty (by decide +kernel), ?_⟩
    refine ⟨false, rfl, ?_⟩
    exact q

def sp_law_accepts (K : PySem.W.Frag) : Sp := fun vs H Q _ => ∃ (s : Str) (l : Option Int) (p : Int), vs = [.str s, optV l, .int p] ∧ Q (.bl (takes s l p)) H
set_option maxHeartbeats 0 in
theorem ok_law_accepts (T : Txt K mg) [TB : TabsOk T base] : FnOk P w K mg base CX0 1 T.f_law_accepts T.d_law_accepts ["side", "limit", "price"] (sp_law_accepts K) := by
  refine T.F_law_accepts.ok sc_law_accepts (fun vs H Q E h => ?_) (fun cdv A outer s H vs Q E hr h => ?_)
  · obtain ⟨s, l, p, rfl, _⟩ := h
    rfl
  · obtain ⟨s, l, p, rfl, q⟩ := h
    refine ⟨_, (pss_cons (ps_if (pt_cmpR op_isN (pv 1) pe_non (nomark _))
      (pss_one (ps_ret pe_bl))
      pss_nil)
    (pss_cons (ps_if (pt_cmpR op_eq (pv 0) pe_str (nomark _))
      (pss_one (ps_ret (pe_cmpR op_le (pv 2) (pv 1) (nomark _))))
      pss_nil)
    (pss_one (ps_ret (pe_cmpR op_ge (pv 2) (pv 1) (nomark _)))))), ?_⟩
    cases l with
    | none =>
      walk_at "st"
      exact q
    | some l =>
      walk_at "st"
      refine iteB (fun h => ?_) (fun h => ?_)
      · walk_at "st"
        have e : takes s (some l) p = decide (p ≤ l) := by
          show (if buyS s = true then _ else _) = _
          rw [show buyS s = true from h, if_pos rfl]
        rw [e] at q
        exact q
      · walk_at "st"
        have e : takes s (some l) p = decide (l ≤ p) := by
          show (if buyS s = true then _ else _) = _
          rw [show buyS s = false from h, if_neg Bool.false_ne_true]
        rw [e] at q
        exact q
def sp_law_interest (K : PySem.W.Frag) : Sp := fun vs H Q _ => ∃ (_ : Unit) (l : Addr) (as : List Addr) (os : List Ord30) (s : Str) (z : Int), vs = [.ref l, .str s, .int z] ∧ Tups rowO H l as os ∧ os.length ≤ 31 ∧ ∀ H', Same H H' → Q (.int (intr os s z)) H'
set_option maxHeartbeats 0 in
theorem ok_law_interest (T : Txt K mg) [TB : TabsOk T base] : FnOk P w K mg base CX0 2 T.f_law_interest T.d_law_interest ["orders", "side", "price"] (sp_law_interest K) := by
  refine T.F_law_interest.ok sc_law_interest (fun vs H Q E h => ?_) (fun cdv A outer s H vs Q E hr h => ?_)
  · obtain ⟨_, l, as, os, s, z, rfl, _⟩ := h
    rfl
  · obtain ⟨_, l, as, os, s, z, rfl, hT, hl, q⟩ := h
    have G_law_accepts : FnOk P w K mg base CX0 1 T.f_law_accepts T.d_law_accepts ["side", "limit", "price"] (sp_law_accepts K) := ok_law_accepts T
    have hs := SqL.of (K := K) hT.lst
    refine ⟨_, (pss_one (ps_ret (pe_callB (cr_sum rfl) (by rfl) T.z_sum (by decide +kernel) (pa_cons (pe_lc (own := [("order", 3)]) (g := gName 3) rfl sc_law_interest.nd (pi_list (pv 0)) (blkOk_by (own := [("order", 3)]) (N := N_law_interest) (sc := defScope s_law_interest) (by decide +kernel)) (fun _ _ _ _ _ => (pg_name (i := 3) sc_law_interest.nd rfl (Or.inl rfl))) (fun _ _ _ _ _ => pts_one (PW.pt (pw_and (pt_cmpR op_eq (pe_ix (show IxR _ (rIxT K) from ix_tup) (pv 3) pe_int (fun _ _ => rfl)) (pv 1) (nomark _)) (pw_and1 (pt_val (pe_call G_law_accepts hr (by rfl) T.m_law_accepts T.F_law_accepts.kp T.b_law_accepts .nil pass0 (pa_cons (pv 1) (pa_cons (pe_ix (show IxR _ (rIxT K) from ix_tup) (pv 3) pe_int (fun _ _ => rfl)) (pa_cons (pv 2) pa_nil))))))))) (fun _ _ _ _ _ => (pe_ix (show IxR _ (rIxT K) from ix_tup) (pv 3) pe_int (fun _ _ => rfl)))) pa_nil)))), ?_⟩
    walk_at "st"
    intro D nD
    refine lc_list (K := K) (a := l) (xs := as.map V.ref) (fun i H' => H' D = some (.lst ((((os.take i).filter fun o => takes s o.p z && decide (V.str o.s = V.str s)).map (·.q)).map V.int)) ∧ Same H H') ⟨upd_same, same_upd nD⟩ (fun i H' _ ⟨_, e⟩ => e.seq hs) ?_ ?_
    · rintro i v H2 hvv ⟨hD, e2⟩
      obtain ⟨p, o, hp, ho, rfl, hat⟩ := (hT.same e2).item hvv
      have htup : SqT K H2 p (rowO o) := SqT.of hat
      have hfl : ((((os.take i).filter fun o => takes s o.p z && decide (V.str o.s = V.str s)).map (·.q)).map V.int).length ≤ 31 := by
        rw [List.length_map, List.length_map]
        refine Nat.le_trans (List.length_filter_le _ _) ?_
        rw [List.length_take]
        omega
      have hno : (takes s o.p z && decide (V.str o.s = V.str s)) = false → H2 D = some (.lst ((((os.take (i + 1)).filter fun o => takes s o.p z && decide (V.str o.s = V.str s)).map (·.q)).map V.int)) ∧ Same H H2 := fun e => by
        rw [take_succ ho, List.filter_append, List.filter_cons_of_neg (by rw [e]; exact Bool.false_ne_true), List.filter_nil, List.append_nil]
        exact ⟨hD, e2⟩
      walk_at "st"
      refine iteB (fun h1 => ?_) (fun h1 => ?_)
      · walk_at "st"
        refine ⟨o.p, z, rfl, ?_⟩
        walk_at "st"
        refine iteB (fun h2 => ?_) (fun h2 => ?_)
        · walk_at "st"
          refine ⟨small1000 (by omega), ?_, TabR.keep e2 nD⟩
          rw [upd_same, take_succ ho, List.filter_append, List.filter_cons_of_pos (by rw [h2]; exact h1), List.map_append, List.map_append]
          rfl
        · exact hno (by rw [h2]; rfl)
      · exact iteF (hno (by rw [show decide (V.str o.s = V.str s) = false from h1, Bool.and_false]))
    · rintro H2 ⟨hD, e2⟩
      rw [show os.take (as.map V.ref).length = os by rw [List.length_map, hT.len, List.take_length]] at hD
      walk_at "st"
      exact q H2 e2
def sp_law_rank (K : PySem.W.Frag) : Sp := fun vs H Q _ => ∃ (_ : Unit) (l : Addr) (as : List Addr) (os : List Ord30) (r z : Int), vs = [.ref l, .int r, .int z] ∧ Tups rowO H l as os ∧ os.length ≤ 31 ∧ ∀ (_ : Unit) (p : Addr) H', Same H H' → H p = none → H' p = some (.lst (rowF (rank4 os r z))) → Q (.ref p) H'
set_option maxHeartbeats 0 in
theorem ok_law_rank (T : Txt K mg) [TB : TabsOk T base] : FnOk P w K mg base CX0 3 T.f_law_rank T.d_law_rank ["orders", "reference", "price"] (sp_law_rank K) := by
  refine T.F_law_rank.ok sc_law_rank (fun vs H Q E h => ?_) (fun cdv A outer s H vs Q E hr h => ?_)
  · obtain ⟨_, l, as, os, r, z, rfl, _⟩ := h
    rfl
  · obtain ⟨_, l, as, os, r, z, rfl, hT, hl, q⟩ := h
    have G_law_interest : FnOk P w K mg base CX0 2 T.f_law_interest T.d_law_interest ["orders", "side", "price"] (sp_law_interest K) := ok_law_interest T
    refine ⟨_, (pss_cons (ps_set (i := 3) sc_law_rank.nd rfl (Or.inl rfl) (pe_call G_law_interest hr (by rfl) T.m_law_interest T.F_law_interest.kp T.b_law_interest .nil pass0 (pa_cons (pv 0) (pa_cons pe_str (pa_cons (pv 2) pa_nil)))))
    (pss_cons (ps_set (i := 4) sc_law_rank.nd rfl (Or.inl rfl) (pe_call G_law_interest hr (by rfl) T.m_law_interest T.F_law_interest.kp T.b_law_interest .nil pass0 (pa_cons (pv 0) (pa_cons pe_str (pa_cons (pv 2) pa_nil)))))
    (pss_one (ps_ret (pe_lst (pa_cons (pe_op op_sub pe_int (pe_callB (call_min2 rfl) (by rfl) T.z_min (by decide +kernel) (pa_cons (pv 3) (pa_cons (pv 4) pa_nil)))) (pa_cons (pe_callB call_abs (by rfl) T.z_abs (by decide +kernel) (pa_cons (pe_op op_sub (pv 3) (pv 4)) pa_nil)) (pa_cons (pe_callB call_abs (by rfl) T.z_abs (by decide +kernel) (pa_cons (pe_op op_sub (pv 2) (pv 1)) pa_nil)) (pa_cons (pv 2) pa_nil))))))))), ?_⟩
    walk_at "st"
    refine ⟨(), l, as, os, "buy", z, rfl, hT, hl, fun H1 s1 => ?_⟩
    walk_at "st"
    refine ⟨(), l, as, os, "sell", z, rfl, hT.same s1, hl, fun H2 s2 => ?_⟩
    walk_at "st"
    intro p np
    refine q () p _ ((s1.trans s2).trans (same_upd np)) ((s1.trans s2).free np) (upd_same.trans ?_)
    show some (HO.lst [V.int (0 - (if intr os "sell" z < intr os "buy" z then intr os "sell" z else intr os "buy" z)), _, _, _]) = some (HO.lst [V.int (-(min (intr os "buy" z) (intr os "sell" z))), _, _, _])
    rw [min_py, Int.zero_sub]
    rfl
open LamX in
def sp_law (K : PySem.W.Frag) (TL : List (Addr × Str)) : Sp := fun vs H Q _ => ∃ (a : Addr) (ns : List Int), vs = [.ref a] ∧ SqL K H a (ns.map V.int) ∧ ns.length ≤ 63 ∧ Tabs TL H ∧ ∀ H', Q (.bl true) H'
set_option maxHeartbeats 0 in
theorem ok_law {f : Addr} {fd : FuncData} (T : Txt K mg) [TB : TabsOk T base] (F : Fun K "law" "law" s_law f fd) : FnOk P w K mg base CX0 8 f fd ["script"] (sp_law K (tabsL T)) := by
  refine F.ok sc_law (fun vs H Q E h => ?_) (fun cdv A outer s H vs Q E hr h => ?_)
  · obtain ⟨a, ns, rfl, _⟩ := h
    rfl
  · obtain ⟨a, ns, rfl, hs, hl, hTb, q⟩ := h
    have G_law_orders : FnOk P w K mg base CX0 1 T.f_law_orders T.d_law_orders ["script"] (sp_law_orders K) := ok_law_orders T
    have G_law_reference : FnOk P w K mg base CX0 1 T.f_law_reference T.d_law_reference ["script"] (sp_law_reference K) := ok_law_reference T
    have G_call_price : FnOk P w K mg base CX0 7 T.f_call_price T.d_call_price ["orders", "reference"] (sp_call_price K (tabsL T)) := ok_call_price T
    have G_law_rank : FnOk P w K mg base CX0 3 T.f_law_rank T.d_law_rank ["orders", "reference", "price"] (sp_law_rank K) := ok_law_rank T
    have G_law_is_integer : FnOk P w K mg base CX0 1 T.f_law_is_integer T.d_law_is_integer ["actual"] (sp_law_is_integer K) := ok_law_is_integer T
    have G_law_interest : FnOk P w K mg base CX0 2 T.f_law_interest T.d_law_interest ["orders", "side", "price"] (sp_law_interest K) := ok_law_interest T
    refine ⟨_, (pss_cons (ps_set (i := 1) sc_law.nd rfl (Or.inl rfl) (pe_call G_law_orders (hr.mono (by decide)) (by rfl) T.m_law_orders T.F_law_orders.kp T.b_law_orders .nil pass0 (pa_cons (pv 0) pa_nil)))
    (pss_cons (ps_set (i := 2) sc_law.nd rfl (Or.inl rfl) (pe_call G_law_reference (hr.mono (by decide)) (by rfl) T.m_law_reference T.F_law_reference.kp T.b_law_reference .nil pass0 (pa_cons (pv 0) pa_nil)))
    (pss_cons (ps_set (i := 3) sc_law.nd rfl (Or.inl rfl) (pe_callTy call_list_of (by rfl) T.z_list (by decide +kernel) (pa_cons (pv 1) pa_nil)))
    (pss_cons (ps_set (i := 4) sc_law.nd rfl (Or.inl rfl) (pe_call G_call_price hr (by rfl) T.m_call_price T.F_call_price.kp T.b_call_price .nil pass0 (pa_cons (pv 3) (pa_cons (pv 2) pa_nil))))
    (pss_cons (ps_if (PW.pt (pw_or (pt_not (pt_val (pe_callB call_isi (by rfl) T.z_isinstance (by decide +kernel) (pa_cons (pv 4) (pa_cons (pe_bltn (v := .ty "tuple") (u := .type "tuple") (by rfl) T.z_tuple (by decide +kernel) rfl) pa_nil))))) (pw_or (pt_cmpR op_ne (pe_callB call_len_seq (by rfl) T.z_len PySem.boot_len (pa_cons (pv 4) pa_nil)) pe_int (nomark _)) (pw_or1 (pt_cmpR (op_neSame hr.units) (pv 3) (pv 1) (nomark _))))))
      (pss_one (ps_ret pe_bl))
      pss_nil)
    (pss_cons (ps_asg (pv 4) (pg_tup rfl (pgs_cons (pg_name (i := 5) sc_law.nd rfl (Or.inl rfl)) (pgs_cons (pg_name (i := 6) sc_law.nd rfl (Or.inl rfl)) pgs_nil))))
    (pss_cons (ps_if (PW.pt (pw_or (pt_not (pt_val (pe_call G_law_is_integer (hr.mono (by decide)) (by rfl) T.m_law_is_integer T.F_law_is_integer.kp T.b_law_is_integer .nil pass0 (pa_cons (pv 5) pa_nil)))) (pw_or1 (pt_not (pt_val (pe_call G_law_is_integer (hr.mono (by decide)) (by rfl) T.m_law_is_integer T.F_law_is_integer.kp T.b_law_is_integer .nil pass0 (pa_cons (pv 6) pa_nil)))))))
      (pss_one (ps_ret pe_bl))
      pss_nil)
    (pss_cons (ps_set (i := 7) sc_law.nd rfl (Or.inl rfl) (pe_op op_cat (pe_lc (own := [("order", 8)]) (g := gName 8) rfl sc_law.nd (pi_list (pv 1)) (blkOk_by (own := [("order", 8)]) (N := N_law) (sc := defScope s_law) (by decide +kernel)) (fun _ _ _ _ _ => (pg_name (i := 8) sc_law.nd rfl (Or.inl rfl))) (fun _ _ _ _ _ => pts_one (pt_cmpR op_notN (pe_ix (show IxR _ (rIxT K) from ix_tup) (pv 8) pe_int (fun _ _ => rfl)) pe_non (nomark _))) (fun _ _ _ _ _ => (pe_ix (show IxR _ (rIxT K) from ix_tup) (pv 8) pe_int (fun _ _ => rfl)))) (pe_lst (pa_cons (pv 2) pa_nil))))
    (pss_cons (ps_if (PW.pt (pw_or (pt_cmpR op_lt (pv 5) (pe_callB (cr_min rfl) (by rfl) T.z_min (by decide +kernel) (pa_cons (pv 7) pa_nil)) (nomark _)) (pw_or1 (pt_cmpR op_gt (pv 5) (pe_callB (cr_max rfl) (by rfl) T.z_max (by decide +kernel) (pa_cons (pv 7) pa_nil)) (nomark _)))))
      (pss_one (ps_ret pe_bl))
      pss_nil)
    (pss_cons (ps_if (pt_cmpR op_ne (pv 6) (pe_callB (call_min2 rfl) (by rfl) T.z_min (by decide +kernel) (pa_cons (pe_call G_law_interest (hr.mono (by decide)) (by rfl) T.m_law_interest T.F_law_interest.kp T.b_law_interest .nil pass0 (pa_cons (pv 1) (pa_cons pe_str (pa_cons (pv 5) pa_nil)))) (pa_cons (pe_call G_law_interest (hr.mono (by decide)) (by rfl) T.m_law_interest T.F_law_interest.kp T.b_law_interest .nil pass0 (pa_cons (pv 1) (pa_cons pe_str (pa_cons (pv 5) pa_nil)))) pa_nil))) (nomark _))
      (pss_one (ps_ret pe_bl))
      pss_nil)
    (pss_cons (ps_set (i := 9) sc_law.nd rfl (Or.inl rfl) (pe_call G_law_rank (hr.mono (by decide)) (by rfl) T.m_law_rank T.F_law_rank.kp T.b_law_rank .nil pass0 (pa_cons (pv 1) (pa_cons (pv 2) (pa_cons (pv 5) pa_nil)))))
    (pss_cons (ps_for PassesOwn.never rfl (pi_range2 (by rfl) T.z_range (pa_cons (pe_callB (cr_min rfl) (by rfl) T.z_min (by decide +kernel) (pa_cons (pv 7) pa_nil)) (pa_cons (pe_op op_add (pe_callB (cr_max rfl) (by rfl) T.z_max (by decide +kernel) (pa_cons (pv 7) pa_nil)) pe_int) pa_nil))) (pg_name (i := 10) sc_law.nd rfl (Or.inl rfl))
      (pss_one (ps_if (pt_cmpR (op_ltAlike hr) (pe_call G_law_rank (hr.mono (by decide)) (by rfl) T.m_law_rank T.F_law_rank.kp T.b_law_rank .nil pass0 (pa_cons (pv 1) (pa_cons (pv 2) (pa_cons (pv 10) pa_nil)))) (pv 9) (nomark _))
        (pss_one (ps_ret pe_bl))
        pss_nil)))
    (pss_one (ps_ret pe_bl)))))))))))))), ?_⟩
    walk_at "st"
    intro _ PA as os H1 s1 hT hO
    have hol := hO.len
    walk_at "st"
    refine ⟨(), a, ns, rfl, s1.seq hs, hl, fun _ r hr0 hr1 => ?_⟩
    have hPs := SqL.of (K := K) hT.lst
    walk_at "st"
    intro h nh
    generalize hH2 : upd H1 h _ = H2
    have s2 : Same H1 H2 := hH2 ▸ same_upd nh
    have hT2 := hT.same s2
    have hh : Tups rowO H2 h as os := ⟨(congrFun hH2 h).symm.trans upd_same, hT.len, hT2.row⟩
    have t2 := hTb.ext (s1.trans s2)
    walk_at "st"
    refine ⟨(), h, as, os, r, rfl, hh, by omega, fun o ho => (hO.fine o ho).good, by omega, by omega, t2, fun _ t z H3 e3 t3 hB ht => ?_⟩
    have hh3 := hh.extN e3
    have hT3 := hT2.extN e3
    have hhs := SqL.of (K := K) hh3.lst
    have hTs := SqL.of (K := K) hT3.lst
    have htup : SqT K H3 t [.int z, .int (min (intr os "buy" z) (intr os "sell" z))] := SqT.of ht
    walk_at "st"
    refine ⟨_, _, true, rfl, .ty _, .base (.tup ht), kit_ty (by decide +kernel), ?_⟩
    walk_at "st"
    refine ⟨as, rfl, rfl, hhs, hTs, ?_⟩
    walk_at "st"
    intro D nD
    refine lc_list (K := K) (a := PA) (xs := as.map V.ref) (fun i H' => H' D = some (.lst ((limits30 (os.take i)).map V.int)) ∧ Same H3 H') ⟨upd_same, same_upd nD⟩ (fun i H' _ ⟨_, e⟩ => e.seq hTs) ?_ ?_
    · rintro i v H4 hvv ⟨hD, e4⟩
      obtain ⟨p, o, hp, ho, rfl, hat⟩ := (hT3.same e4).item hvv
      have htu : SqT K H4 p (rowO o) := SqT.of hat
      have hll : ((limits30 (os.take i)).map V.int).length ≤ 31 := by
        rw [List.length_map]
        refine Nat.le_trans (List.length_filterMap_le _ _) ?_
        rw [List.length_take]
        omega
      have e1 : limits30 (os.take (i + 1)) = limits30 (os.take i) ++ limits30 [o] := by
        unfold limits30
        rw [take_succ ho, List.filterMap_append]
      rw [e1]
      obtain ⟨on, oh, os', op, oq⟩ := o
      cases op with
      | none =>
        walk_at "st"
        refine iteB (fun h => by simp [optV] at h) (fun _ => ?_)
        rw [show limits30 [⟨on, oh, os', none, oq⟩] = [] from rfl, List.append_nil]
        exact ⟨hD, e4⟩
      | some y =>
        walk_at "st"
        refine ⟨small1000 (by omega), ?_, TabR.keep e4 nD⟩
        rw [upd_same, List.map_append]
        rfl
    · rintro H4 ⟨hD, e4⟩
      rw [show os.take (as.map V.ref).length = os by rw [List.length_map, hT3.len, List.take_length]] at hD
      have hll : (limits30 os).length ≤ 30 := Nat.le_trans (List.length_filterMap_le _ _) hol
      have hz4 : ((limits30 os).map V.int).length + [V.int r].length ≤ sizeLine := len_le (Nat.ble_eq_true_of_le (by rw [List.length_map]; show (limits30 os).length + 1 ≤ 1000; omega))
      walk_at "st"
      intro L nL
      have sL := same_upd (o := .lst [.int r]) nL
      have hL := upd_same (H := H4) (a := L) (o := .lst [.int r])
      generalize upd H4 L (.lst [.int r]) = H5 at *
      have hD5 := sL _ _ hD
      walk_at "st"
      intro R nR
      generalize hH6 : upd H5 R _ = H6
      have s36 : Same H3 H6 := (e4.trans sL).trans (hH6 ▸ same_upd nR)
      have hR : H6 R = some (.lst ((limits30 os ++ [r]).map V.int)) := (congrFun hH6 R).symm.trans (upd_same.trans (by rw [List.map_append]; rfl))
      have hRs := SqL.of (K := K) hR
      have hT6 := hT3.same s36
      have hmem : ∀ y, y ∈ limits30 os ++ [r] ↔ (y = r ∨ y ∈ limits30 os) := fun y => by rw [List.mem_append, List.mem_singleton]; exact or_comm
      have hpos : 0 < (limits30 os ++ [r]).length := by rw [List.length_append]; show 0 < _ + 1; omega
      obtain ⟨⟨za, hza, hzaz⟩, zb, hzb, hzbz⟩ := hB.1
      have hra : ∀ x, x ∈ limits30 os ++ [r] → 85 ≤ x ∧ x ≤ 115 := fun x hx => by
        rcases (hmem x).mp hx with rfl | hx
        · exact ⟨hr0, hr1⟩
        · obtain ⟨o, ho, hp⟩ := List.mem_filterMap.mp hx
          have := (hO.fine o ho).p x hp
          omega
      walk_at "st"
      intro lo hlo hlo2
      walk_at "st"
      refine iteD (fun hx => ?_) (fun _ => ?_)
      · have := hlo2 za ((hmem za).mpr hza)
        omega
      walk_at "st"
      intro hi hhi hhi2
      walk_at "st"
      refine iteD (fun hx => ?_) (fun _ => ?_)
      · have := hhi2 zb ((hmem zb).mpr hzb)
        omega
      walk_at "st"
      refine ⟨(), PA, as, os, "buy", z, rfl, hT6, by omega, fun H7 s7 => ?_⟩
      walk_at "st"
      refine ⟨(), PA, as, os, "sell", z, rfl, hT6.same s7, by omega, fun H8 s8 => ?_⟩
      walk_at "st"
      rw [min_py]
      refine iteDN (fun hx => absurd rfl hx) (fun _ => ?_)
      have hT8 := (hT6.same s7).same s8
      walk_at "st"
      refine ⟨(), PA, as, os, r, z, rfl, hT8, by omega, fun _ B H9 s9 nB hB9 => ?_⟩
      have hR9 := s9 _ _ (s8 _ _ (s7 _ _ hR))
      have hRs9 := SqL.of (K := K) hR9
      have hT9 := hT8.same s9
      walk_at "st"
      intro lo' hlo' hlo2'
      walk_at "st"
      intro hi' hhi' hhi2'
      have r1 := hra _ hlo'
      have r2 := hra _ hhi'
      walk_at "st"
      refine for_range (lo := lo') (n := (hi' + 1 - lo').toNat) (fun i σ H' => ∃ v10 : Option V, σ = [some (.ref a), some (.ref PA), some (.int r), some (.ref h), some (.ref t), some (.int z), some (.int (min (intr os "buy" z) (intr os "sell" z))), some (.ref R), none, some (.ref B), v10] ∧ Same H9 H') ⟨none, rfl, fun _ _ e => e⟩ ?_ ?_
      · rintro i σ H' hi ⟨v10, rfl, s⟩
        have hT' := hT9.same s
        have hyin : InR os r (lo' + i) := ⟨⟨lo', (hmem lo').mp hlo', by omega⟩, hi', (hmem hi').mp hhi', by omega⟩
        walk_at "st"
        refine ⟨(), PA, as, os, r, lo' + i, rfl, hT', by omega, fun _ B2 H10 s10 nB2 hB10 => ?_⟩
        have hB9' := s10 _ _ (s _ _ hB9)
        have hd : ∀ {b : Addr} {q : Four}, H10 b = some (.lst (rowF q)) → Dp K H10 (.ref b) (.list [.int q.1, .int q.2.1, .int q.2.2.1, .int q.2.2.2]) := fun e => .lst (SqL.of e) (.cons (.int _) (.cons (.int _) (.cons (.int _) (.cons (.int _) .nil))))
        walk_at "st"
        refine ⟨(), _, _, hd hB10, hd hB9', by simp [PySem.W.alike, PySem.W.alikeAll], by simp, by simp [PyData.depth, PyData.depthAll], ?_⟩
        rw [four_ltL]
        refine ⟨_, rfl, iteD (fun hx => absurd hx (hB.2 _ hyin)) (fun _ => ?_)⟩
        exact ⟨_, rfl, s.trans s10⟩
      · rintro σ H' ⟨v10, rfl, s⟩
        walk_at "st"
        exact q _

end
set_option maxHeartbeats 0 in
theorem all_mk {l : PySem.W.OpenLaw} {w : World} {K : PySem.W.Frag} {h : Heap} {mg : Str → Option Value} {fa f1 f2 f3 f4 f5 f6 f7 f8 f9 f10 f11 f12 f13 f14 f15 f16 f17 f18 f19 f20 : Addr} (X : K.In h) (G : h.Ns mainGlobals mg) (hfa : mg "law" = some (.ref fa))
    {cq13 pq13 : Addr} {ocq13 : Value} {odq13 : Option Addr} {slq13 : Array (Option Value)} {vq13 : Array Value}
    {cq12 pq12 : Addr} {ocq12 : Value} {odq12 : Option Addr} {slq12 : Array (Option Value)} {vq12 : Array Value}
    {c_BourseError c_InvalidOrder : Addr}
    {od1 an1 od2 an2 od3 an3 od4 an4 od5 an5 od6 an6 od7 an7 od8 an8 od9 an9 od10 an10 od11 an11 od12 an12 od13 an13 od14 an14 od15 an15 od16 an16 od17 an17 od18 an18 od19 an19 od20 an20 : Option Addr} {sl1 sl2 sl3 sl4 sl5 sl6 sl7 sl8 sl9 sl10 sl11 sl12 sl13 sl14 sl15 sl16 sl17 sl18 sl19 sl20 : Array (Option Value)} {oc1 kV1 dc1 pm1 cd1 ct1 oc2 kV2 dc2 pm2 cd2 ct2 oc3 kV3 dc3 pm3 cd3 ct3 oc4 kV4 dc4 pm4 cd4 ct4 oc5 kV5 dc5 pm5 cd5 ct5 oc6 kV6 dc6 pm6 cd6 ct6 oc7 kV7 dc7 pm7 cd7 ct7 oc8 kV8 dc8 pm8 cd8 ct8 oc9 kV9 dc9 pm9 cd9 ct9 oc10 kV10 dc10 pm10 cd10 ct10 oc11 kV11 dc11 pm11 cd11 ct11 oc12 kV12 dc12 pm12 ct12 oc13 kV13 dc13 pm13 ct13 oc14 kV14 dc14 pm14 cd14 ct14 oc15 kV15 dc15 pm15 cd15 ct15 oc16 kV16 dc16 pm16 cd16 ct16 oc17 kV17 dc17 pm17 cd17 ct17 oc18 kV18 dc18 pm18 cd18 ct18 oc19 kV19 dc19 pm19 cd19 ct19 oc20 kV20 dc20 pm20 cd20 ct20 : Value}
    (a1 : PySem.W.nsIn K mainGlobals "is_integral" = some (some (.ref f1)))
    (l1 : K.lookup f1 = some ⟨oc1, od1, .func (PySem.W.fnOf "is_integral" "is_integral" (defArgs s_is_integral) (defBody s_is_integral) (defScope s_is_integral) .none kV1 dc1 pm1 an1 cd1 ct1), sl1⟩) (c1 : PySem.W.codeIn K cd1 "is_integral" = true) (k1 : PySem.W.keepIn K (.ref f1) = true)
    (a2 : PySem.W.nsIn K mainGlobals "is_within" = some (some (.ref f2)))
    (l2 : K.lookup f2 = some ⟨oc2, od2, .func (PySem.W.fnOf "is_within" "is_within" (defArgs s_is_within) (defBody s_is_within) (defScope s_is_within) .none kV2 dc2 pm2 an2 cd2 ct2), sl2⟩) (c2 : PySem.W.codeIn K cd2 "is_within" = true) (k2 : PySem.W.keepIn K (.ref f2) = true)
    (a3 : PySem.W.nsIn K mainGlobals "accepts" = some (some (.ref f3)))
    (l3 : K.lookup f3 = some ⟨oc3, od3, .func (PySem.W.fnOf "accepts" "accepts" (defArgs s_accepts) (defBody s_accepts) (defScope s_accepts) .none kV3 dc3 pm3 an3 cd3 ct3), sl3⟩) (c3 : PySem.W.codeIn K cd3 "accepts" = true) (k3 : PySem.W.keepIn K (.ref f3) = true)
    (a4 : PySem.W.nsIn K mainGlobals "check_side" = some (some (.ref f4)))
    (l4 : K.lookup f4 = some ⟨oc4, od4, .func (PySem.W.fnOf "check_side" "check_side" (defArgs s_check_side) (defBody s_check_side) (defScope s_check_side) .none kV4 dc4 pm4 an4 cd4 ct4), sl4⟩) (c4 : PySem.W.codeIn K cd4 "check_side" = true) (k4 : PySem.W.keepIn K (.ref f4) = true)
    (a5 : PySem.W.nsIn K mainGlobals "check_number" = some (some (.ref f5)))
    (l5 : K.lookup f5 = some ⟨oc5, od5, .func (PySem.W.fnOf "check_number" "check_number" (defArgs s_check_number) (defBody s_check_number) (defScope s_check_number) .none kV5 dc5 pm5 an5 cd5 ct5), sl5⟩) (c5 : PySem.W.codeIn K cd5 "check_number" = true) (k5 : PySem.W.keepIn K (.ref f5) = true)
    (a6 : PySem.W.nsIn K mainGlobals "check_price" = some (some (.ref f6)))
    (l6 : K.lookup f6 = some ⟨oc6, od6, .func (PySem.W.fnOf "check_price" "check_price" (defArgs s_check_price) (defBody s_check_price) (defScope s_check_price) .none kV6 dc6 pm6 an6 cd6 ct6), sl6⟩) (c6 : PySem.W.codeIn K cd6 "check_price" = true) (k6 : PySem.W.keepIn K (.ref f6) = true)
    (a7 : PySem.W.nsIn K mainGlobals "check_quantity" = some (some (.ref f7)))
    (l7 : K.lookup f7 = some ⟨oc7, od7, .func (PySem.W.fnOf "check_quantity" "check_quantity" (defArgs s_check_quantity) (defBody s_check_quantity) (defScope s_check_quantity) .none kV7 dc7 pm7 an7 cd7 ct7), sl7⟩) (c7 : PySem.W.codeIn K cd7 "check_quantity" = true) (k7 : PySem.W.keepIn K (.ref f7) = true)
    (a8 : PySem.W.nsIn K mainGlobals "call_price" = some (some (.ref f8)))
    (l8 : K.lookup f8 = some ⟨oc8, od8, .func (PySem.W.fnOf "call_price" "call_price" (defArgs s_call_price) (defBody s_call_price) (defScope s_call_price) .none kV8 dc8 pm8 an8 cd8 ct8), sl8⟩) (c8 : PySem.W.codeIn K cd8 "call_price" = true) (k8 : PySem.W.keepIn K (.ref f8) = true)
    (a9 : PySem.W.nsIn K mainGlobals "_check_call" = some (some (.ref f9)))
    (l9 : K.lookup f9 = some ⟨oc9, od9, .func (PySem.W.fnOf "_check_call" "_check_call" (defArgs s_check_call) (defBody s_check_call) (defScope s_check_call) .none kV9 dc9 pm9 an9 cd9 ct9), sl9⟩) (c9 : PySem.W.codeIn K cd9 "_check_call" = true) (k9 : PySem.W.keepIn K (.ref f9) = true)
    (a10 : PySem.W.nsIn K mainGlobals "_candidates" = some (some (.ref f10)))
    (l10 : K.lookup f10 = some ⟨oc10, od10, .func (PySem.W.fnOf "_candidates" "_candidates" (defArgs s_candidates) (defBody s_candidates) (defScope s_candidates) .none kV10 dc10 pm10 an10 cd10 ct10), sl10⟩) (c10 : PySem.W.codeIn K cd10 "_candidates" = true) (k10 : PySem.W.keepIn K (.ref f10) = true)
    (a11 : PySem.W.nsIn K mainGlobals "_rank" = some (some (.ref f11)))
    (l11 : K.lookup f11 = some ⟨oc11, od11, .func (PySem.W.fnOf "_rank" "_rank" (defArgs s_rank) (defBody s_rank) (defScope s_rank) .none kV11 dc11 pm11 an11 cd11 ct11), sl11⟩) (c11 : PySem.W.codeIn K cd11 "_rank" = true) (k11 : PySem.W.keepIn K (.ref f11) = true)
    (a12 : PySem.W.nsIn K mainGlobals "_ranked" = some (some (.ref f12)))
    (l12 : K.lookup f12 = some ⟨oc12, od12, .func (PySem.W.fnOf "_ranked" "_ranked" (defArgs s_ranked) (defBody s_ranked) (defScope s_ranked) .none kV12 dc12 pm12 an12 (.ref cq12) ct12), sl12⟩) (c12 : PySem.W.codeIn K (.ref cq12) "_ranked" = true) (k12 : PySem.W.keepIn K (.ref f12) = true)
    (a13 : PySem.W.nsIn K mainGlobals "_interests" = some (some (.ref f13)))
    (l13 : K.lookup f13 = some ⟨oc13, od13, .func (PySem.W.fnOf "_interests" "_interests" (defArgs s_interests) (defBody s_interests) (defScope s_interests) .none kV13 dc13 pm13 an13 (.ref cq13) ct13), sl13⟩) (c13 : PySem.W.codeIn K (.ref cq13) "_interests" = true) (k13 : PySem.W.keepIn K (.ref f13) = true)
    (a14 : PySem.W.nsIn K mainGlobals "_law_is_integer" = some (some (.ref f14)))
    (l14 : K.lookup f14 = some ⟨oc14, od14, .func (PySem.W.fnOf "_law_is_integer" "_law_is_integer" (defArgs s_law_is_integer) (defBody s_law_is_integer) (defScope s_law_is_integer) .none kV14 dc14 pm14 an14 cd14 ct14), sl14⟩) (c14 : PySem.W.codeIn K cd14 "_law_is_integer" = true) (k14 : PySem.W.keepIn K (.ref f14) = true)
    (a15 : PySem.W.nsIn K mainGlobals "_law_orders" = some (some (.ref f15)))
    (l15 : K.lookup f15 = some ⟨oc15, od15, .func (PySem.W.fnOf "_law_orders" "_law_orders" (defArgs s_law_orders) (defBody s_law_orders) (defScope s_law_orders) .none kV15 dc15 pm15 an15 cd15 ct15), sl15⟩) (c15 : PySem.W.codeIn K cd15 "_law_orders" = true) (k15 : PySem.W.keepIn K (.ref f15) = true)
    (a16 : PySem.W.nsIn K mainGlobals "_law_reference" = some (some (.ref f16)))
    (l16 : K.lookup f16 = some ⟨oc16, od16, .func (PySem.W.fnOf "_law_reference" "_law_reference" (defArgs s_law_reference) (defBody s_law_reference) (defScope s_law_reference) .none kV16 dc16 pm16 an16 cd16 ct16), sl16⟩) (c16 : PySem.W.codeIn K cd16 "_law_reference" = true) (k16 : PySem.W.keepIn K (.ref f16) = true)
    (a17 : PySem.W.nsIn K mainGlobals "_law_accepts" = some (some (.ref f17)))
    (l17 : K.lookup f17 = some ⟨oc17, od17, .func (PySem.W.fnOf "_law_accepts" "_law_accepts" (defArgs s_law_accepts) (defBody s_law_accepts) (defScope s_law_accepts) .none kV17 dc17 pm17 an17 cd17 ct17), sl17⟩) (c17 : PySem.W.codeIn K cd17 "_law_accepts" = true) (k17 : PySem.W.keepIn K (.ref f17) = true)
    (a18 : PySem.W.nsIn K mainGlobals "_law_interest" = some (some (.ref f18)))
    (l18 : K.lookup f18 = some ⟨oc18, od18, .func (PySem.W.fnOf "_law_interest" "_law_interest" (defArgs s_law_interest) (defBody s_law_interest) (defScope s_law_interest) .none kV18 dc18 pm18 an18 cd18 ct18), sl18⟩) (c18 : PySem.W.codeIn K cd18 "_law_interest" = true) (k18 : PySem.W.keepIn K (.ref f18) = true)
    (a19 : PySem.W.nsIn K mainGlobals "_law_rank" = some (some (.ref f19)))
    (l19 : K.lookup f19 = some ⟨oc19, od19, .func (PySem.W.fnOf "_law_rank" "_law_rank" (defArgs s_law_rank) (defBody s_law_rank) (defScope s_law_rank) .none kV19 dc19 pm19 an19 cd19 ct19), sl19⟩) (c19 : PySem.W.codeIn K cd19 "_law_rank" = true) (k19 : PySem.W.keepIn K (.ref f19) = true)
    (a20 : PySem.W.nsIn K mainGlobals "law" = some (some (.ref f20)))
    (l20 : K.lookup f20 = some ⟨oc20, od20, .func (PySem.W.fnOf "law" "law" (defArgs s_law) (defBody s_law) (defScope s_law) .none kV20 dc20 pm20 an20 cd20 ct20), sl20⟩) (c20 : PySem.W.codeIn K cd20 "law" = true) (k20 : PySem.W.keepIn K (.ref f20) = true)
    (z_abs : PySem.W.nsIn K mainGlobals "abs" = some none)
    (z_bool : PySem.W.nsIn K mainGlobals "bool" = some none)
    (z_enumerate : PySem.W.nsIn K mainGlobals "enumerate" = some none)
    (z_int : PySem.W.nsIn K mainGlobals "int" = some none)
    (z_isinstance : PySem.W.nsIn K mainGlobals "isinstance" = some none)
    (z_len : PySem.W.nsIn K mainGlobals "len" = some none)
    (z_list : PySem.W.nsIn K mainGlobals "list" = some none)
    (z_max : PySem.W.nsIn K mainGlobals "max" = some none)
    (z_min : PySem.W.nsIn K mainGlobals "min" = some none)
    (z_range : PySem.W.nsIn K mainGlobals "range" = some none)
    (z_set : PySem.W.nsIn K mainGlobals "set" = some none)
    (z_sorted : PySem.W.nsIn K mainGlobals "sorted" = some none)
    (z_sum : PySem.W.nsIn K mainGlobals "sum" = some none)
    (z_tuple : PySem.W.nsIn K mainGlobals "tuple" = some none)
    {t_MOST : Tok}
    (v_MOST : PySem.W.nsIn K mainGlobals "MOST" = some (some (.int 1000000 t_MOST)))
    {ac_SIDES : Addr} {oc_SIDES : Option Addr} {sc'_SIDES : Array (Option Value)} {nc_SIDES : Nat} {tc_SIDES_0 tc_SIDES_1 : Tok}
    (v_SIDES : PySem.W.nsIn K mainGlobals "SIDES" = some (some (.ref ac_SIDES))) (lc_SIDES : K.lookup ac_SIDES = some ⟨.type "tuple", oc_SIDES, .seq #[.str "buy" tc_SIDES_0, .str "sell" tc_SIDES_1] nc_SIDES, sc'_SIDES⟩)
    (g_BourseError : PySem.W.nsIn K mainGlobals "BourseError" = some (some (.ref c_BourseError)))
    (g_InvalidOrder : PySem.W.nsIn K mainGlobals "InvalidOrder" = some (some (.ref c_InvalidOrder)))
    (lq12 : K.lookup cq12 = some ⟨ocq12, odq12, .fields vq12, slq12⟩) (vp12 : (vq12[11]? : Option Value) = some (.ref pq12)) (nk12 : K.lookup pq12 = none)
    (tq12 : PySem.W.CodeHd h cq12 pq12 ∧ h.get? pq12 = some { cls := .none, data := .fields #[] })
    (lq13 : K.lookup cq13 = some ⟨ocq13, odq13, .fields vq13, slq13⟩) (vp13 : (vq13[11]? : Option Value) = some (.ref pq13)) (nk13 : K.lookup pq13 = none)
    (tq13 : PySem.W.CodeHd h cq13 pq13 ∧ h.get? pq13 = some { cls := .none, data := .fields #[] })
    (nq12_13 : pq12 ≠ pq13) :
    LamX.LawAtS l w K CX0 8 63 "script" mg fa h := by
  have e := hfa.symm.trans (PySem.W.mg_of X G a20)
  cases e
  have F1 := fun_mk (st := s_is_integral) l1 c1 k1
  have b1 := F1.binds (ps := ["value"]) fun _ _ _ _ _ _ us hl => match us, hl with | [_], _ => rfl
  have F2 := fun_mk (st := s_is_within) l2 c2 k2
  have b2 := F2.binds (ps := ["least", "most", "value"]) fun _ _ _ _ _ _ us hl => match us, hl with | [_, _, _], _ => rfl
  have F3 := fun_mk (st := s_accepts) l3 c3 k3
  have b3 := F3.binds (ps := ["side", "limit", "price"]) fun _ _ _ _ _ _ us hl => match us, hl with | [_, _, _], _ => rfl
  have F4 := fun_mk (st := s_check_side) l4 c4 k4
  have b4 := F4.binds (ps := ["side"]) fun _ _ _ _ _ _ us hl => match us, hl with | [_], _ => rfl
  have F5 := fun_mk (st := s_check_number) l5 c5 k5
  have b5 := F5.binds (ps := ["number", "least", "most"]) fun _ _ _ _ _ _ us hl => match us, hl with | [_, _, _], _ => rfl
  have F6 := fun_mk (st := s_check_price) l6 c6 k6
  have b6 := F6.binds (ps := ["price"]) fun _ _ _ _ _ _ us hl => match us, hl with | [_], _ => rfl
  have F7 := fun_mk (st := s_check_quantity) l7 c7 k7
  have b7 := F7.binds (ps := ["quantity"]) fun _ _ _ _ _ _ us hl => match us, hl with | [_], _ => rfl
  have F8 := fun_mk (st := s_call_price) l8 c8 k8
  have b8 := F8.binds (ps := ["orders", "reference"]) fun _ _ _ _ _ _ us hl => match us, hl with | [_, _], _ => rfl
  have F9 := fun_mk (st := s_check_call) l9 c9 k9
  have b9 := F9.binds (ps := ["orders", "reference"]) fun _ _ _ _ _ _ us hl => match us, hl with | [_, _], _ => rfl
  have F10 := fun_mk (st := s_candidates) l10 c10 k10
  have b10 := F10.binds (ps := ["orders", "reference"]) fun _ _ _ _ _ _ us hl => match us, hl with | [_, _], _ => rfl
  have F11 := fun_mk (st := s_rank) l11 c11 k11
  have b11 := F11.binds (ps := ["side", "price"]) fun _ _ _ _ _ _ us hl => match us, hl with | [_, _], _ => rfl
  have F12 := fun_mk (st := s_ranked) l12 c12 k12
  have b12 := F12.binds (ps := ["orders", "side"]) fun _ _ _ _ _ _ us hl => match us, hl with | [_, _], _ => rfl
  have F13 := fun_mk (st := s_interests) l13 c13 k13
  have b13 := F13.binds (ps := ["orders", "side", "prices"]) fun _ _ _ _ _ _ us hl => match us, hl with | [_, _, _], _ => rfl
  have F14 := fun_mk (st := s_law_is_integer) l14 c14 k14
  have b14 := F14.binds (ps := ["actual"]) fun _ _ _ _ _ _ us hl => match us, hl with | [_], _ => rfl
  have F15 := fun_mk (st := s_law_orders) l15 c15 k15
  have b15 := F15.binds (ps := ["script"]) fun _ _ _ _ _ _ us hl => match us, hl with | [_], _ => rfl
  have F16 := fun_mk (st := s_law_reference) l16 c16 k16
  have b16 := F16.binds (ps := ["script"]) fun _ _ _ _ _ _ us hl => match us, hl with | [_], _ => rfl
  have F17 := fun_mk (st := s_law_accepts) l17 c17 k17
  have b17 := F17.binds (ps := ["side", "limit", "price"]) fun _ _ _ _ _ _ us hl => match us, hl with | [_, _, _], _ => rfl
  have F18 := fun_mk (st := s_law_interest) l18 c18 k18
  have b18 := F18.binds (ps := ["orders", "side", "price"]) fun _ _ _ _ _ _ us hl => match us, hl with | [_, _, _], _ => rfl
  have F19 := fun_mk (st := s_law_rank) l19 c19 k19
  have b19 := F19.binds (ps := ["orders", "reference", "price"]) fun _ _ _ _ _ _ us hl => match us, hl with | [_, _, _], _ => rfl
  have F20 := fun_mk (st := s_law) l20 c20 k20
  have b20 := F20.binds (ps := ["script"]) fun _ _ _ _ _ _ us hl => match us, hl with | [_], _ => rfl
  obtain ⟨T, e12, g12, e13, g13⟩ : ∃ T : Txt K mg, T.cq_ranked = cq12 ∧ T.pq_ranked = pq12 ∧ T.cq_interests = cq13 ∧ T.pq_interests = pq13 := ⟨⟨f1, _, F1, PySem.W.mg_of X G a1, b1, f2, _, F2, PySem.W.mg_of X G a2, b2, f3, _, F3, PySem.W.mg_of X G a3, b3, f4, _, F4, PySem.W.mg_of X G a4, b4, f5, _, F5, PySem.W.mg_of X G a5, b5, f6, _, F6, PySem.W.mg_of X G a6, b6, f7, _, F7, PySem.W.mg_of X G a7, b7, f8, _, F8, PySem.W.mg_of X G a8, b8, f9, _, F9, PySem.W.mg_of X G a9, b9, f10, _, F10, PySem.W.mg_of X G a10, b10, f11, _, F11, PySem.W.mg_of X G a11, b11, f12, _, F12, PySem.W.mg_of X G a12, b12, f13, _, F13, PySem.W.mg_of X G a13, b13, f14, _, F14, PySem.W.mg_of X G a14, b14, f15, _, F15, PySem.W.mg_of X G a15, b15, f16, _, F16, PySem.W.mg_of X G a16, b16, f17, _, F17, PySem.W.mg_of X G a17, b17, f18, _, F18, PySem.W.mg_of X G a18, b18, f19, _, F19, PySem.W.mg_of X G a19, b19, c_BourseError, PySem.W.mg_of X G g_BourseError, c_InvalidOrder, PySem.W.mg_of X G g_InvalidOrder, PySem.W.mg_none_of X G z_abs, PySem.W.mg_none_of X G z_bool, PySem.W.mg_none_of X G z_enumerate, PySem.W.mg_none_of X G z_int, PySem.W.mg_none_of X G z_isinstance, PySem.W.mg_none_of X G z_len, PySem.W.mg_none_of X G z_list, PySem.W.mg_none_of X G z_max, PySem.W.mg_none_of X G z_min, PySem.W.mg_none_of X G z_range, PySem.W.mg_none_of X G z_set, PySem.W.mg_none_of X G z_sorted, PySem.W.mg_none_of X G z_sum, PySem.W.mg_none_of X G z_tuple, ac_SIDES, PySem.W.mg_of X G v_SIDES, (fun H => .inr ⟨_, _, _, lc_SIDES, rfl, rfl, (show 2 ≤ sizeLine from len_le rfl), .cons ⟨_, rfl⟩ (.cons ⟨_, rfl⟩ (.nil))⟩), t_MOST, PySem.W.mg_of X G v_MOST, cq12, pq12, rfl, cq13, pq13, rfl, nq12_13⟩, rfl, rfl, rfl, rfl⟩
  have hcs : ∀ {R : Addr × Addr → Prop}, R (cq12, pq12) → R (cq13, pq13) → ∀ p ∈ [(cq12, pq12), (cq13, pq13)], R p := fun r12 r13 p hp => by
    rcases List.mem_cons.mp hp with e | hp
    · rw [e]; exact r12
    rcases List.mem_cons.mp hp with e | hp
    · rw [e]; exact r13
    exact absurd hp List.not_mem_nil
  refine ⟨PySem.W.fnOf "law" "law" (defArgs s_law) (defBody s_law) (defScope s_law) .none kV20 dc20 pm20 an20 cd20 ct20, [(cq12, pq12), (cq13, pq13)], sp_law K (tabsL T), hcs tq12.2 tq13.2, hcs nk12 nk13, hcs tq12.1 tq13.1, fun s v => .of_eq rfl, fun H a ns hl _ hH hS => ⟨a, ns, rfl, hS, hl, fun p hp => ?_, fun _ => rfl⟩, fun base _ _ hB => ?_⟩
  · unfold tabsL at hp
    rcases List.mem_cons.mp hp with e | hp
    · rw [e]
      exact LamX.TabS.nil (by rw [g12]; exact hH (cq12, pq12) List.mem_cons_self)
    rcases List.mem_cons.mp hp with e | hp
    · rw [e]
      exact LamX.TabS.nil (by rw [g13]; exact hH (cq13, pq13) (List.mem_cons_of_mem _ List.mem_cons_self))
    exact absurd hp List.not_mem_nil
  · haveI TB : TabsOk T base := ⟨by rw [e12, g12]; exact hB (cq12, pq12) List.mem_cons_self, by rw [e13, g13]; exact hB (cq13, pq13) (List.mem_cons_of_mem _ List.mem_cons_self)⟩
    exact ok_law T F20
end FB
open PySem PySem.W PyProof.Rows
set_option maxRecDepth 100000 in
set_option maxHeartbeats 0 in
theorem PySem.Challenge.cw_fairbourse_k30_call_price_is_the_best_holds : PySem.Challenge.rw_fairbourse_k30_call_price_is_the_best.Holds := by
  w_on; o_law; k_head; (case hw => w_witness2)
  k_fill
  refine LamX.walk_ofTs (l := PySem.Challenge.rw_fairbourse_k30_call_price_is_the_best) (n := 63) (k := 8) (x := "script") (CX := fun _ => L2.CX0) rfl (by decide) rfl ⟨rfl, by decide, by decide⟩ (fun w h Y => PySem.W.km_in_of Y) ?F (fun _ _ _ _ _ h => h)
  case F =>
    intro w mg fa h Y KX G hmg
    refine' FB.all_mk KX G hmg ?a1 ?l1 ?c1 ?k1 ?a2 ?l2 ?c2 ?k2 ?a3 ?l3 ?c3 ?k3 ?a4 ?l4 ?c4 ?k4 ?a5 ?l5 ?c5 ?k5 ?a6 ?l6 ?c6 ?k6 ?a7 ?l7 ?c7 ?k7 ?a8 ?l8 ?c8 ?k8 ?a9 ?l9 ?c9 ?k9 ?a10 ?l10 ?c10 ?k10 ?a11 ?l11 ?c11 ?k11 ?a12 ?l12 ?c12 ?k12 ?a13 ?l13 ?c13 ?k13 ?a14 ?l14 ?c14 ?k14 ?a15 ?l15 ?c15 ?k15 ?a16 ?l16 ?c16 ?k16 ?a17 ?l17 ?c17 ?k17 ?a18 ?l18 ?c18 ?k18 ?a19 ?l19 ?c19 ?k19 ?a20 ?l20 ?c20 ?k20 ?z_abs ?z_bool ?z_enumerate ?z_int ?z_isinstance ?z_len ?z_list ?z_max ?z_min ?z_range ?z_set ?z_sorted ?z_sum ?z_tuple ?v_MOST ?v_SIDES ?lc_SIDES ?g_BourseError ?g_InvalidOrder ?lq12 ?vp12 ?nk12 ?tq12 ?lq13 ?vp13 ?nk13 ?tq13 ?nq12_13
    (case g_BourseError => k_is)
    (case g_InvalidOrder => k_is)
    (case a1 => k_is)
    (case l1 => k_is)
    (case c1 => k_is)
    (case k1 => k_is)
    (case a2 => k_is)
    (case l2 => k_is)
    (case c2 => k_is)
    (case k2 => k_is)
    (case a3 => k_is)
    (case l3 => k_is)
    (case c3 => k_is)
    (case k3 => k_is)
    (case a4 => k_is)
    (case l4 => k_is)
    (case c4 => k_is)
    (case k4 => k_is)
    (case a5 => k_is)
    (case l5 => k_is)
    (case c5 => k_is)
    (case k5 => k_is)
    (case a6 => k_is)
    (case l6 => k_is)
    (case c6 => k_is)
    (case k6 => k_is)
    (case a7 => k_is)
    (case l7 => k_is)
    (case c7 => k_is)
    (case k7 => k_is)
    (case a8 => k_is)
    (case l8 => k_is)
    (case c8 => k_is)
    (case k8 => k_is)
    (case a9 => k_is)
    (case l9 => k_is)
    (case c9 => k_is)
    (case k9 => k_is)
    (case a10 => k_is)
    (case l10 => k_is)
    (case c10 => k_is)
    (case k10 => k_is)
    (case a11 => k_is)
    (case l11 => k_is)
    (case c11 => k_is)
    (case k11 => k_is)
    (case a12 => k_is)
    (case l12 => k_is)
    (case c12 => k_is)
    (case k12 => k_is)
    (case a13 => k_is)
    (case l13 => k_is)
    (case c13 => k_is)
    (case k13 => k_is)
    (case a14 => k_is)
    (case l14 => k_is)
    (case c14 => k_is)
    (case k14 => k_is)
    (case a15 => k_is)
    (case l15 => k_is)
    (case c15 => k_is)
    (case k15 => k_is)
    (case a16 => k_is)
    (case l16 => k_is)
    (case c16 => k_is)
    (case k16 => k_is)
    (case a17 => k_is)
    (case l17 => k_is)
    (case c17 => k_is)
    (case k17 => k_is)
    (case a18 => k_is)
    (case l18 => k_is)
    (case c18 => k_is)
    (case k18 => k_is)
    (case a19 => k_is)
    (case l19 => k_is)
    (case c19 => k_is)
    (case k19 => k_is)
    (case a20 => k_is)
    (case l20 => k_is)
    (case c20 => k_is)
    (case k20 => k_is)
    (case z_abs => k_is)
    (case z_bool => k_is)
    (case z_enumerate => k_is)
    (case z_int => k_is)
    (case z_isinstance => k_is)
    (case z_len => k_is)
    (case z_list => k_is)
    (case z_max => k_is)
    (case z_min => k_is)
    (case z_range => k_is)
    (case z_set => k_is)
    (case z_sorted => k_is)
    (case z_sum => k_is)
    (case z_tuple => k_is)
    (case v_MOST => k_is)
    (case v_SIDES => k_is)
    (case lc_SIDES => k_is)
    (case lq12 => k_is)
    (case vp12 => rfl)
    (case nk12 => first | rfl | k_is)
    (case tq12 => exact ⟨PySem.W.codeHd_of_K KX (by kernel_rfl), PySem.W.km_tabs_of Y _ (by k_mem)⟩)
    (case lq13 => k_is)
    (case vp13 => rfl)
    (case nk13 => first | rfl | k_is)
    (case tq13 => exact ⟨PySem.W.codeHd_of_K KX (by kernel_rfl), PySem.W.km_tabs_of Y _ (by k_mem)⟩)
    (case nq12_13 => decide)
