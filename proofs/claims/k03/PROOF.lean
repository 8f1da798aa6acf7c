import PyProof.Rows.All
import Wide.All
import OpenK.AllK
import Wide.FinOn
import PyProof.EqAt
import PyProof.EqKinds
import PyProof.TupleCall
import KE.OsGo
import HandS.ForMost
import HandS.ForExc
import HandS.IsInst
import HandS.ExcIs
import HandS.Conv
import HandS.Style
import KE.KEqSeq
import KE.KSortedM
import PySem.Challenge.RW_roomtold_k03_steps_refused
set_option Elab.async false
set_option linter.all false
set_option maxRecDepth 100000
set_option maxHeartbeats 2000000
namespace PySem
namespace ErrX_part
open PySem.W PySem.Calls PyProof.Rows PySem.HandSPX
/-! ### the text of __init__ -/
def iA (p1 p2 : Pos) : Arguments := { posonlyargs := [], args := [{ arg := "self", annotation := none, pos := p1 }, { arg := "part", annotation := none, pos := p2 }], vararg := none, kwonlyargs := [], kw_defaults := [], kwarg := none, defaults := [] }
def iB (q1 q2 q3 q4 : Pos) : List Stmt := [.Assign [.Attribute (.Name "self" q1) "part" q2] (.Name "part" q3) q4]
def iS : Scope := { kind := .function, names := [(PySem.Str.ofString "self", .local), (PySem.Str.ofString "part", .local)], isGenerator := false, isCoroutine := false, more := [] }
/-- what the written part says of Low, at C, and of its __init__, at fI -/
structure ErrTxt (K : Frag) (mg : Str → Option Value) (nx qn : Str) (C fI : Addr) : Prop where
  gC : mg nx = some (.ref C)
  cls : ∃ nm q N bs bm sn sub ab col dd k0 k1 k2 k3 k5, K.lookup C = some (excClassObj nm q C N bs bm true sn sub ab col dd k0 k1 k2 k3 k5 "ValueError.__new__") ∧ refsVE bm = true
  sa : findIn K (.ref C) "__setattr__" = some (some (.builtin "object.__setattr__"))
  ga : findIn K (.ref C) "__getattribute__" = some (some (.builtin "BaseException.__getattribute__"))
  gg : findIn K (.ref C) "__getattr__" = some none
  noN : findIn K (.ref C) "part" = some none
  iC : findIn K (.ref C) "__init__" = some (some (.ref fI))
  tC : typeIn K (.ref fI) = some (.type "function")
  kC : keepIn K (.ref C) = true
  exC : subIn K (.ref C) (.type "BaseException") = some true
  tyC : typeIn K (.ref C) = some (.type "type")
  hdC : hasDictIn K C = true
  te : exmOne K (.ref C) (.ref C) = some true
  fn : ∃ (oc : Value) (od : Option Addr) (doc pm : Value) (an : Option Addr) (cdv ct : Value) (osl : Array (Option Value)) (p1 p2 q1 q2 q3 q4 : Pos),
    K.lookup fI = some ⟨oc, od, .func (fnOf "__init__" qn (iA p1 p2) (iB q1 q2 q3 q4) iS .none .none doc pm an cdv ct), osl⟩ ∧ codeIn K cdv qn = true
theorem one_size (v : Value) : [v].length ≤ sizeLine := by
  rw [sizeLine_eq]
  exact (by decide : 1 ≤ 16777216)
theorem kept_but {K : Frag} {h h' : Heap} {x : Addr} (X : K.In h) (hx : K.lookup x = none) (k : ∀ b o, b ≠ x → h.get? b = some o → h'.get? b = some o) : K.In h' := fun a o e =>
  k a o (fun z => by rw [z, hx] at e; cases e) (X a o e)
theorem ldC {M : Model} {s : Shared} {name : Str} {scope : Scope} {L a : Addr} {cd : Value} {m : Str → Option Value} {x : Str} {pos : Pos} {v : Value} {Q : Value → Shared → Prop} {A : Around} {E : Value → Shared → Prop} (hn : s.heap.Ns L m) (hv : m x = some v) (h : Q v s)
    (hk : scope.kind = .function := by rfl) (hl : (envOfC name scope L a cd).kindOf x = some .local := by rfl) (hd : (x == ("__debug__" : Str)) = false := by decide) :
    wpAny M A (eval (.Name x pos) (envOfC name scope L a cd)) Q E s := wpAny_Name (wpAny_loadName_local hk hl hn hv h) hd
/-- what __init__ leaves of a fresh exception at x -/
structure InitEnd (h h' : Heap) (x C dx t1 : Addr) (v : Value) : Prop where
  keep : ∀ b o, b ≠ x → h.get? b = some o → h'.get? b = some o
  obj : h'.get? x = some { cls := .ref C, dict := some dx, data := .fields #[.ref t1, .none, .none, .none, .bool false, .none] }
  dbig : h.objs.size ≤ dx
  dne : dx ≠ x
  ns : h'.Ns1 dx (fun y => if y = "part" then some v else none)
/-- a made Low -/
structure OwnMade (h h' : Heap) (e C d : Addr) (v : Value) : Prop where
  keep : ∀ b o, h.get? b = some o → h'.get? b = some o
  new : h.objs.size ≤ e
  obj : ∃ oe vs, h'.get? e = some oe ∧ oe.cls = .ref C ∧ oe.dict = some d ∧ oe.data = .fields vs ∧ vs[1]? = some .none
  dbig : h.objs.size ≤ d
  dne : d ≠ e
  ns : h'.Ns1 d (fun y => if y = "part" then some v else none)
section
variable {prog : Program} {w : World} {A : Around} {E : Value → Shared → Prop} {R : Result → Shared → Prop} {s : Shared} {K : Frag} {mg : Str → Option Value} {nx qn : Str} {C fI : Addr}
theorem low_init (T : ErrTxt K mg nx qn C fI) {x t0 : Addr} {v : Value} (X : K.In s.heap) (hlim : s.heap.NoLimit) (hx : s.heap.get? x = some (excO C t0)) (hnx : K.lookup x = none) (hroom : A.depth < recursionLimit)
    (hq : ∀ h' tk dx, InitEnd s.heap h' x C dx t0 v → R (.ok (.ret .none)) { s with heap := h', toks := tk }) :
    codeAny (model prog w) A (.call (.ref fI) ⟨[.ref x, v], []⟩) R s := by
  obtain ⟨oc, od, doc, pm, an, cdv, ct, osl, p1, p2, q1, q2, q3, q4, ho, hcd⟩ := T.fn
  obtain ⟨nm, q, N, bs, bm, sn, sub, ab, col, dd, k0, k1, k2, k3, k5, hC, hbm⟩ := T.cls
  have hcl : clsIn K C = some { name := nm, bases := bs, mro := .ref C :: bm, ns := N, qualname := q, hasDict := true, slotNames := sn, subclasses := sub, abstract := ab, collection := col, hasDel := false } := by unfold clsIn; rw [hC] <;> rfl
  refine Att.call_fn (binds := [("self", .ref x), ("part", v)]) X hlim ho hcd hroom (BindsTo.of_eq (by first | rfl | with_unfolding_all rfl)) (by first | rfl | decide | with_unfolding_all rfl) (fun s₁ IC => ?_) rfl rfl rfl
  obtain ⟨h₁, tk₁, rfl⟩ := IC.toInCall.same
  have k : ∀ b o, s.heap.get? b = some o → h₁.get? b = some o := IC.toInCall.keep
  have hn := IC.toInCall.ns
  have hxL : s.heap.objs.size ≠ x := Nat.ne_of_gt (Heap.lt_size hx)
  have X₁ : K.In h₁ := X.keeps k
  have hx₁ := k _ _ hx
  -- self.by = by
  show wpAny _ _ (execs _ _) _ _ _
  refine wpAny_execs_cons (plainObj_wpAny_Assign_Attribute ?_)
  refine ldC (v := v) hn (by first | rfl | with_unfolding_all rfl | kernel_rfl) (ldC (v := .ref x) hn (by first | rfl | with_unfolding_all rfl | kernel_rfl) ?_)
  refine set_plain X₁ (ox := excO C t0) (od := none) ⟨hx₁, rfl, rfl, trivial⟩ T.sa ?_
  refine exc_osa X₁ hx₁ hcl (show refsVE (.ref C :: bm) = true from hbm) rfl T.noN (fun h₃ tk₃ dx k₃ dn dne hx₃ hn₃ => ?_)
  show wpAny _ _ (execs _ _) _ _ _
  have z : s.heap.objs.size < h₁.objs.size := hn.lt
  exact wpAny_execs_nil (hq h₃ tk₃ dx ⟨fun b o hb e => k₃ b o hb (k b o e), hx₃, Nat.le_of_lt (Nat.lt_of_lt_of_le z dn), dne, hn₃⟩)
theorem low_made (T : ErrTxt K mg nx qn C fI) {v : Value} (X : K.In s.heap) (hlim : s.heap.NoLimit) (hroom : A.depth + 1 < recursionLimit)
    (hq : ∀ h' tk e d, OwnMade s.heap h' e C d v → R (.ok (.ret (.ref e))) { s with heap := h', toks := tk }) :
    codeAny (model prog w) A (.call (.ref C) ⟨[v], []⟩) R s := by
  obtain ⟨nm, q, N, bs, bm, sn, sub, ab, col, dd, k0, k1, k2, k3, k5, hC, hbm⟩ := T.cls
  obtain ⟨hp, g, dr, tk, os⟩ := s
  have k : ∀ b o, hp.get? b = some o → ((hp.push (kdv_tup [v])).push (excO C hp.objs.size)).get? b = some o := fun b o e => Heap.get?_push_of_some _ (Heap.get?_push_of_some _ e)
  have hget : ((hp.push (kdv_tup [v])).push (excO C hp.objs.size)).get? (hp.objs.size + 1) = some (excO C hp.objs.size) := by heap_get
  have hnx : K.lookup (hp.objs.size + 1) = none := by
    cases e : K.lookup (hp.objs.size + 1) with
    | none => rfl
    | some o =>
      have z : hp.get? (hp.objs.size + 1) = some o := X _ _ e
      exact absurd (Nat.lt_of_succ_lt (Heap.lt_size z)) (Nat.lt_irrefl _)
  refine call_own F.excBase_ValueError (fun X => refsVE_contains X bm hbm) (X _ _ hC) (looks_findIn X T.iC) (fun self => bind_fn X self T.tC) (one_size v) ?_
  refine low_init (s := ⟨(hp.push (kdv_tup [v])).push (excO C hp.objs.size), g, dr, tk, os⟩) T (X.keeps k) (hlim.keeps k) hget hnx ?_ fun h' tk' dx ⟨k', hx, dn, dne, hns⟩ => ?_
  · show A.depth + 1 < recursionLimit
    exact hroom
  · have old : ∀ b o, hp.get? b = some o → h'.get? b = some o := fun b o e => k' b o (Nat.ne_of_lt (Nat.lt_succ_of_lt (Heap.lt_size e))) (k b o e)
    have z : hp.objs.size + 1 + 1 ≤ dx := by
      first
        | (simpa only [Heap.size_push] using dn)
        | exact dn
        | (have q := dn; rw [Heap.size_push, Heap.size_push] at q; exact q)
    exact ⟨rfl, hq h' tk' (hp.objs.size + 1) dx ⟨old, Nat.le_succ _, ⟨_, _, hx, rfl, rfl, rfl, rfl⟩, Nat.le_trans (Nat.le_trans (Nat.le_succ _) (Nat.le_succ _)) z, dne, hns⟩⟩
end
end ErrX_part
end PySem
namespace L2
open PySem PySem.Spec PyProof.Rows
theorem relO_part {v : V} {v' : Value} (r : RelV v v') (f : Str) : RelO (List.lookup f [(("part" : Str), v)]) (if f = "part" then some v' else none) := by
  by_cases hw : f = "part"
  · subst hw
    rw [if_pos rfl]
    have q : List.lookup ("part" : Str) [(("part" : Str), v)] = some v := by simp [List.lookup]
    rw [q]
    exact r
  · rw [if_neg hw]
    have qw : (f == ("part" : Str)) = false := by simpa using hw
    have q2 : List.lookup f [(("part" : Str), v)] = none := by simp [List.lookup, qw]
    rw [q2]
    trivial
section
variable {X : Cx} {nx qn : Str} {C fI : Addr}
/-- Low(e) -/
def tMk_part (C : Addr) (ta : TA) : St → Hp → XK → Prop := fun σ H Q => ta σ H fun vs H1 => ∃ v, vs = [v] ∧ ∀ d, H1 d = none → Q (.ref C) (some d) (upd H1 d (.xd [(("part" : Str), v)]))
theorem pmk_part {a : Expr} {ta : TA} {p pos : Pos} {k : Nat} (T : PySem.ErrX_part.ErrTxt X.K X.mg nx qn C fI) (hr : Room k X.A) (ha : PA X [a] ta) (hg : Gl X nx := by rfl) (hdb : (nx == ("__debug__" : Str)) = false := by decide)
    (he : starEach (a :: []) X.env = (false, eval a X.env) :: starEach [] X.env := by rfl) (hpl : (backTo pos (starEach [] X.env)).any (·.1) = false := by rfl) :
    PMk X (.Call (.Name nx p) [a] [] pos) (tMk_part C ta) := by
  intro pins s σ H Q I h
  refine wpAny_Call_Name_kw (ld_glob I hg T.gC ?_ hdb)
  refine PySem.W.callWith_K (h₀ := X.base) I.ok.mod.kin T.kC (thn (ha.run pos pins s σ H _ I h) fun us s1 hh => ?_) he hpl
  obtain ⟨vs, H1, I1, r1, v, ev, q1⟩ := hh
  subst ev
  refine ⟨I1.kIn, ?_⟩
  cases r1 with
  | cons rv rn =>
    rename_i v' us'
    cases rn
    show wpAny _ _ (call (.ref C) [v']) _ _ _
    have hlim := I1.nolimit
    obtain ⟨hp, g, dr, tk, os⟩ := s1
    refine wpAny_call (PySem.ErrX_part.low_made T I1.kIn hlim (by have := hr.dp; omega) fun h' tk' e d M => ?_)
    show MkP X pins σ Q (.ref e) ⟨h', g, dr, tk', os⟩
    obtain ⟨oe, fv, hoe, hc, hd, hdat, h1⟩ := M.obj
    have hns := M.ns
    obtain ⟨G', g1, g2⟩ := restrict h' fun b => decide (b ≠ e)
    have gk : ∀ b, b ≠ e → G'.get? b = h'.get? b := fun b hb => g1 b (decide_eq_true hb)
    have ge : G'.get? e = none := g2 e (by simp)
    have old : ∀ b o, hp.get? b = some o → G'.get? b = some o := fun b o q => (gk b (Nat.ne_of_lt (Nat.lt_of_lt_of_le (Heap.lt_size q) M.new))).trans (M.keep b o q)
    have ob : ObjOk X.prog X.w (upd H1 d (.xd [(("part" : Str), v)])) G' d (.xd [(("part" : Str), v)]) :=
      ⟨_, hns.at (fun o q => (gk d M.dne).trans q), fun f => relO_part rv f⟩
    have J : Inv X pins σ (upd H1 d (.xd [(("part" : Str), v)])) ⟨G', g, dr, tk', os⟩ := I1.laid (t' := tk') old M.dbig ob
    refine ⟨e, oe, fv, ⟨G', g, dr, tk', os⟩, _, .ref C, some d, rfl, J, fun b o q => ?_, ge, hoe, ⟨hc, hd⟩, hdat, h1, ?_, rfl, I1.bare, raises_own T.exC T.tyC, q1 d (I1.hok.fresh M.dbig)⟩
    · by_cases hb : b = e
      · have q' : G'.get? b = some o := q
        rw [hb, ge] at q'; cases q'
      · exact (gk b hb).symm.trans q
    · rw [upd_ne (Ne.symm M.dne)]
      exact I1.hok.fresh M.new
/-- raise Low(e) -/
def tRaise_part (C : Addr) (W : WX) (ta : TA) : TS := fun _ σ H => tMk_part C ta σ H fun cls d H' => W cls d σ H'
theorem ps_raise_part {a : Expr} {ta : TA} {W : WX} {p pos pos2 : Pos} {k : Nat} (hc : X.calm = true) (T : PySem.ErrX_part.ErrTxt X.K X.mg nx qn C fI) (hr : Room k X.A) (tk : Takes X W) (ha : PA X [a] ta) (hg : Gl X nx := by rfl) (hdb : (nx == ("__debug__" : Str)) = false := by decide)
    (he : starEach (a :: []) X.env = (false, eval a X.env) :: starEach [] X.env := by rfl) (hpl : (backTo pos (starEach [] X.env)).any (·.1) = false := by rfl) :
    PS X (.Raise (some (.Call (.Name nx p) [a] [] pos)) none pos2) (tRaise_part C W ta) := ps_raise hc tk (pmk_part T hr ha hg hdb he hpl)
/-- low.by, low the exception that the suite holds (at a; its class cls, its dict d) -/
def tBy_part (C : Addr) (a : Addr) (cls : Value) (d : Option Addr) (te : TE) : TE := fun σ H Q => te σ H fun x H1 => x = .ref a ∧ cls = .ref C ∧ ∃ (dd : Addr) (v : V), d = some dd ∧ H1 dd = some (.xd [(("part" : Str), v)]) ∧ Q v H1
theorem pe_by_part {a : Addr} {oe : Obj} {cls : Value} {d : Option Addr} {pn : List (Addr × Obj)} {e : Expr} {te : TE} {pos : Pos} (T : PySem.ErrX_part.ErrTxt X.K X.mg nx qn C fI) (hz : Zc cls d oe) (hf : ∃ vs, oe.data = .fields vs) (he : PE (X.suite a ((a, oe) :: pn)) e te)
    (hb : attributeBase e "part" X.env (eval e X.env) = eval e X.env := by rfl) :
    PE (X.suite a ((a, oe) :: pn)) (.Attribute e "part" pos) (tBy_part C a cls d te) := by
  refine ⟨fun pins s σ H Q I h => ?_⟩
  refine attr_of hb (thn (he.run pins s σ H _ I h) fun u s1 hh => ?_)
  obtain ⟨x, H1, I1, rx, ex, ec, dd, v, ed, ea, q⟩ := hh
  subst ex
  obtain rfl : u = Value.ref a := rx
  subst ec
  subst ed
  obtain ⟨ha, _⟩ := I1.pin (a, oe) (List.mem_append_left _ List.mem_cons_self)
  obtain ⟨vs, hd⟩ := hf
  have hx : ObjOk X.prog X.w H1 s1.heap dd (.xd [(("part" : Str), v)]) := I1.hok dd _ ea
  obtain ⟨mA, hns, hr⟩ := hx
  obtain ⟨od, ho, hl⟩ := lookIn_ns hns
  have l : List.lookup ("part" : Str) [(("part" : Str), v)] = some v := by simp [List.lookup]
  obtain ⟨u, hu, ru⟩ := RelO.some_of (v := v) (o := mA "part") (by rw [← l]; exact hr "part")
  have J : PySem.W.InstAt s1.heap a oe C (some od) := ⟨ha, hz.1, by unfold PySem.W.notCls; rw [hd] <;> rfl, by rw [hz.2]; exact ho⟩
  exact HandSPX.exc_get I1.kIn J T.ga T.gg T.exC (PySem.W.findObj_own T.hdC T.noN rfl (by rw [hl, hu])) (handed_of ru) ⟨v, H1, I1.tok _, ru, q⟩
end
end L2
namespace Rt
open PySem L2
def topS (i : Nat) : Stmt := PySem.Challenge.pw_roomtold_k03_steps_refused.main.body.getD i (.Pass ⟨0, 0, 0, 0⟩)
abbrev s_is_integer : Stmt := (topS 9)
theorem sc_is_integer : FnScope ["value", "least", "greatest"] ["value", "least", "greatest"] (defScope s_is_integer) := ⟨rfl, rfl, rfl, by decide +kernel, rfl, by decide +kernel, by decide +kernel⟩
abbrev s_are_integers : Stmt := (topS 10)
theorem sc_are_integers : FnScope ["value", "least", "greatest", "number"] ["value", "least", "greatest"] (defScope s_are_integers) := ⟨rfl, rfl, rfl, by decide +kernel, rfl, by decide +kernel, by decide +kernel⟩
abbrev s_are_bounds : Stmt := (topS 11)
theorem sc_are_bounds : FnScope ["value", "most", "at"] ["value", "most"] (defScope s_are_bounds) := ⟨rfl, rfl, rfl, by decide +kernel, rfl, by decide +kernel, by decide +kernel⟩
abbrev s_Steps_init : Stmt := (inClass (topS 12) 0)
theorem sc_Steps_init : FnScope ["self", "most", "bounds"] ["self", "most", "bounds"] (defScope s_Steps_init) := ⟨rfl, rfl, rfl, by decide +kernel, rfl, by decide +kernel, by decide +kernel⟩
abbrev s_law_opened : Stmt := (topS 14)
theorem sc_law_opened : FnScope ["_law_script", "_law_k", "_law_cell", "_law_great"] ["_law_script", "_law_k"] (defScope s_law_opened) := ⟨rfl, rfl, rfl, by decide +kernel, rfl, by decide +kernel, by decide +kernel⟩
abbrev s_law_draw : Stmt := (topS 15)
theorem sc_law_draw : FnScope ["_law_pool", "_law_many", "_law_digit"] ["_law_pool", "_law_many"] (defScope s_law_draw) := ⟨rfl, rfl, rfl, by decide +kernel, rfl, by decide +kernel, by decide +kernel⟩
abbrev s_law_bounds : Stmt := (topS 16)
theorem sc_law_bounds : FnScope ["_law_pool", "_law_top", "_law_most", "_law_menu", "_law_bounds_here", "_law_step", "_law_one"] ["_law_pool", "_law_top"] (defScope s_law_bounds) := ⟨rfl, rfl, rfl, by decide +kernel, rfl, by decide +kernel, by decide +kernel⟩
abbrev s_law_tried : Stmt := (topS 17)
theorem sc_law_tried : FnScope ["_law_most", "_law_bounds_here", "e"] ["_law_most", "_law_bounds_here"] (defScope s_law_tried) := ⟨rfl, rfl, rfl, by decide +kernel, rfl, by decide +kernel, by decide +kernel⟩
abbrev s_law : Stmt := (topS 18)
theorem sc_law : FnScope ["_law_script", "_law_k", "_law_pool", "_law_plan", "_law_most", "_law_bounds_here", "_law_odd", "_law_wrong"] ["_law_script"] (defScope s_law) := ⟨rfl, rfl, rfl, by decide +kernel, rfl, by decide +kernel, by decide +kernel⟩

structure Ad where
  C_Steps : Addr
  C_RoomError : Addr
  C_BadSteps : Addr
  i_BadSteps : Addr
  a_is_integer : Addr
  fd_is_integer : FuncData
  a_are_integers : Addr
  fd_are_integers : FuncData
  a_are_bounds : Addr
  fd_are_bounds : FuncData
  a_Steps_init : Addr
  fd_Steps_init : FuncData
  a_law_opened : Addr
  fd_law_opened : FuncData
  a_law_draw : Addr
  fd_law_draw : FuncData
  a_law_bounds : Addr
  fd_law_bounds : FuncData
  a_law_tried : Addr
  fd_law_tried : FuncData
  a_law : Addr
  fd_law : FuncData
  tk_GREATEST_ROOM : Tok
  tk_MOST_BOUNDS : Tok
structure Txt (K : PySem.W.Frag) (mg : Str → Option Value) (a : Ad) : Prop where
  cl_Steps : Cls K a.C_Steps
  g_Steps : mg "Steps" = some (.ref a.C_Steps)
  nf_Steps_most : NoAttr K a.C_Steps "most"
  nf_Steps_bounds : NoAttr K a.C_Steps "_bounds"
  mk_Steps : Mk K a.C_Steps a.a_Steps_init
  g_RoomError : mg "RoomError" = some (.ref a.C_RoomError)
  e_BadSteps : PySem.ErrX_part.ErrTxt K mg "BadSteps" "BadSteps.__init__" a.C_BadSteps a.i_BadSteps
  x_BadSteps : ExcC K a.C_BadSteps
  is_BadSteps_RoomError : PySem.W.kitOne K (.ref a.C_BadSteps) (.ref a.C_RoomError) = some true
  F_is_integer : Fun K "is_integer" "is_integer" s_is_integer a.a_is_integer a.fd_is_integer
  b_is_integer : Binds K a.fd_is_integer ["value", "least", "greatest"] []
  g_is_integer : mg "is_integer" = some (.ref a.a_is_integer)
  F_are_integers : Fun K "are_integers" "are_integers" s_are_integers a.a_are_integers a.fd_are_integers
  b_are_integers : Binds K a.fd_are_integers ["value", "least", "greatest"] []
  g_are_integers : mg "are_integers" = some (.ref a.a_are_integers)
  F_are_bounds : Fun K "are_bounds" "are_bounds" s_are_bounds a.a_are_bounds a.fd_are_bounds
  b_are_bounds : Binds K a.fd_are_bounds ["value", "most"] []
  g_are_bounds : mg "are_bounds" = some (.ref a.a_are_bounds)
  F_Steps_init : Fun K "__init__" "Steps.__init__" s_Steps_init a.a_Steps_init a.fd_Steps_init
  b_Steps_init : Binds K a.fd_Steps_init ["self", "most", "bounds"] []
  F_law_opened : Fun K "_law_opened" "_law_opened" s_law_opened a.a_law_opened a.fd_law_opened
  b_law_opened : Binds K a.fd_law_opened ["_law_script", "_law_k"] []
  g__law_opened : mg "_law_opened" = some (.ref a.a_law_opened)
  F_law_draw : Fun K "_law_draw" "_law_draw" s_law_draw a.a_law_draw a.fd_law_draw
  b_law_draw : Binds K a.fd_law_draw ["_law_pool", "_law_many"] []
  g__law_draw : mg "_law_draw" = some (.ref a.a_law_draw)
  F_law_bounds : Fun K "_law_bounds" "_law_bounds" s_law_bounds a.a_law_bounds a.fd_law_bounds
  b_law_bounds : Binds K a.fd_law_bounds ["_law_pool", "_law_top"] []
  g__law_bounds : mg "_law_bounds" = some (.ref a.a_law_bounds)
  F_law_tried : Fun K "_law_tried" "_law_tried" s_law_tried a.a_law_tried a.fd_law_tried
  b_law_tried : Binds K a.fd_law_tried ["_law_most", "_law_bounds_here"] []
  g__law_tried : mg "_law_tried" = some (.ref a.a_law_tried)
  F_law : Fun K "law" "law" s_law a.a_law a.fd_law
  b_law : Binds K a.fd_law ["_law_script"] []
  g_law : mg "law" = some (.ref a.a_law)
  c_GREATEST_ROOM : mg "GREATEST_ROOM" = some (.int 1000 a.tk_GREATEST_ROOM)
  c_MOST_BOUNDS : mg "MOST_BOUNDS" = some (.int 8 a.tk_MOST_BOUNDS)
  n_isinstance : mg "isinstance" = none
  n_int : mg "int" = none
  n_bool : mg "bool" = none
  n_list : mg "list" = none
  n_tuple : mg "tuple" = none
  n_len : mg "len" = none
  n_range : mg "range" = none
  n_max : mg "max" = none
  n_min : mg "min" = none
  n_sorted : mg "sorted" = none
end Rt
set_option maxHeartbeats 4000000
namespace Rt
open PySem L2
/-! ### a for over a list or a tuple, whichever it is -/
def SqE (K : PySem.W.Frag) (tp : Bool) (H : Hp) (p : Addr) (xs : List V) : Prop := if tp = true then SqT K H p xs else SqL K H p xs
def iSeq (K : PySem.W.Frag) (te : TE) : TI := fun σ H R => te σ H fun x H1 => ∃ p, x = .ref p ∧ (((∃ xs, SqL K H1 p xs) ∧ R (Itl K p) H1) ∨ ((∃ xs, SqT K H1 p xs) ∧ R (Itt K p) H1))
open PySem.Spec PyProof.Rows in
theorem pi_seq {X : Cx} {tg l : Expr} {tl : TE} (hl : PE X l tl) : PI X tg l (iSeq X.K tl) := by
  refine ⟨fun pins s σ H R I h => ?_⟩
  refine thn (hl.run pins s σ H _ I h) fun v s1 ⟨x, H1, I1, r1, q1⟩ => ?_
  obtain ⟨p, e, q⟩ := q1
  subst e
  cases r1
  rcases q with ⟨⟨xs, hq⟩, q⟩ | ⟨⟨xs, hq⟩, q⟩
  · obtain ⟨its, rv, pp, hz⟩ := I1.list hq
    refine wpAny_pyIter_list pp.isList ⟨s1.heap.objs.size, [s1.heap.objs.size], _, _, H1, rfl, I1.kept (t' := s1.toks) fun b o e => Heap.get?_push_of_some _ e, turn_list p _, ⟨_, Heap.get?_push_size _ rfl, rfl, rfl⟩, fun b hb => ?_, q⟩
    have e : b = s1.heap.objs.size := by simpa using hb
    exact e ▸ I1.fpOk (Nat.le_refl _) (I1.hok.fresh (Nat.le_refl _))
  · obtain ⟨its, rv, pp, hz⟩ := I1.tuple hq
    refine wpAny_pyIter_tuple (show s1.heap.IsTuple p its.toArray from pp) ⟨s1.heap.objs.size, [s1.heap.objs.size], _, _, H1, rfl, I1.kept (t' := s1.toks) fun b o e => Heap.get?_push_of_some _ e, turn_tuple p _, ⟨_, Heap.get?_push_size _ rfl, rfl, rfl⟩, fun b hb => ?_, q⟩
    have e : b = s1.heap.objs.size := by simpa using hb
    exact e ▸ I1.fpOk (Nat.le_refl _) (I1.hok.fresh (Nat.le_refl _))
theorem for_seq {K : PySem.W.Frag} {p : Addr} {xs : List V} {g : TG} {tb : TS} {D : Ends} {σ : St} {H : Hp} (tp : Bool) (Pv : Nat → St → Hp → Prop) (h0 : Pv 0 σ H) (hl : ∀ i σ H, i ≤ xs.length → Pv i σ H → SqE K tp H p xs)
    (hs : ∀ i x σ H, xs[i]? = some x → Pv i σ H → g x σ H fun σ2 H2 => tb { D with nx := Pv (i + 1), ct := Pv (i + 1), bk := D.nx } σ2 H2) (hd : ∀ σ H, Pv xs.length σ H → D.nx σ H) :
    ((∃ xs, SqL K H p xs) ∧ ∃ W : Nat → Nat → St → Hp → Prop, (∃ m, W 0 m σ H) ∧ ∀ i m σ H, W i m σ H →
      ((Itl K p).stop i H ∧ D.nx σ H) ∨ ((Itl K p).go i H ∧ ∃ N : St → Hp → Prop, (∀ σ' H', N σ' H' → ∃ m', m' < m ∧ W (i + 1) m' σ' H') ∧ ∀ x H', (Itl K p).yld i H x H' → g x σ H' fun σ2 H2 => tb { D with nx := N, ct := N, bk := D.nx } σ2 H2)) ∨
    ((∃ xs, SqT K H p xs) ∧ ∃ W : Nat → Nat → St → Hp → Prop, (∃ m, W 0 m σ H) ∧ ∀ i m σ H, W i m σ H →
      ((Itt K p).stop i H ∧ D.nx σ H) ∨ ((Itt K p).go i H ∧ ∃ N : St → Hp → Prop, (∀ σ' H', N σ' H' → ∃ m', m' < m ∧ W (i + 1) m' σ' H') ∧ ∀ x H', (Itt K p).yld i H x H' → g x σ H' fun σ2 H2 => tb { D with nx := N, ct := N, bk := D.nx } σ2 H2)) := by
  cases tp with
  | false => exact .inl ⟨⟨xs, hl 0 σ H (Nat.zero_le _) h0⟩, for_list (K := K) (a := p) (xs := xs) Pv h0 hl hs hd⟩
  | true => exact .inr ⟨⟨xs, hl 0 σ H (Nat.zero_le _) h0⟩, for_tup (K := K) (a := p) (xs := xs) Pv h0 hl hs hd⟩
/-! ### plain values -/
inductive Pl (H : Hp) : V → Prop
  | non : Pl H .non
  | bl (b : Bool) : Pl H (.bl b)
  | int (i : Int) : Pl H (.int i)
  | str (x : Str) : Pl H (.str x)
  | lst {p : Addr} {xs : List V} (e : H p = some (.lst xs)) : Pl H (.ref p)
  | tup {p : Addr} {xs : List V} (e : H p = some (.tup xs)) : Pl H (.ref p)
  | dK {p : Addr} {kvs : List (Key × V)} (e : H p = some (.dK kvs)) : Pl H (.ref p)
theorem Pl.mono {H H' : Hp} {v : V} (h : Pl H v) (s : Same H H') : Pl H' v := by
  cases h with
  | non => exact .non
  | bl b => exact .bl b
  | int i => exact .int i
  | str x => exact .str x
  | lst e => exact .lst (s _ _ e)
  | tup e => exact .tup (s _ _ e)
  | dK e => exact .dK (s _ _ e)
def inI (x lo hi : Int) : Bool := decide (lo ≤ x) && decide (x ≤ hi)
theorem inI_T {x lo hi : Int} (h : lo ≤ x ∧ x ≤ hi) : inI x lo hi = true := by
  unfold inI; rw [decide_eq_true h.1, decide_eq_true h.2]; rfl
theorem inI_iff {x lo hi : Int} : inI x lo hi = true ↔ lo ≤ x ∧ x ≤ hi := by
  unfold inI; rw [Bool.and_eq_true, decide_eq_true_eq, decide_eq_true_eq]
def inW (v : V) (lo hi : Int) : Bool := match v with
  | .int x => inI x lo hi
  | _ => false
theorem inW_int {v : V} {lo hi : Int} (h : inW v lo hi = true) : ∃ x, v = .int x ∧ lo ≤ x ∧ x ≤ hi := by
  cases v with
  | int x => exact ⟨x, rfl, inI_iff.mp h⟩
  | _ => cases h
/-- what the type of a plain value is asked -/
theorem Pl.ty {K : PySem.W.Frag} {H : Hp} {v : V} (h : Pl H v) : ∃ t : String, TyX K H v (.type t) ∧ ((∃ x, v = .int x) ∧ kitB t "int" = some true ∧ kitB t "bool" = some false ∨ (∀ lo hi, inW v lo hi = false) ∧ (kitB t "int" = some false ∨ kitB t "int" = some true ∧ kitB t "bool" = some true)) := by
  cases h with
  | non => exact ⟨_, .base .non, .inr ⟨fun _ _ => rfl, .inl (by decide +kernel)⟩⟩
  | bl b => exact ⟨_, .base (.bl b), .inr ⟨fun _ _ => rfl, .inr ⟨by decide +kernel, by decide +kernel⟩⟩⟩
  | int i => exact ⟨_, .base (.int i), .inl ⟨⟨i, rfl⟩, by decide +kernel, by decide +kernel⟩⟩
  | str x => exact ⟨_, .base (.str x), .inr ⟨fun _ _ => rfl, .inl (by decide +kernel)⟩⟩
  | lst e => exact ⟨_, .base (.lst e), .inr ⟨fun _ _ => rfl, .inl (by decide +kernel)⟩⟩
  | tup e => exact ⟨_, .base (.tup e), .inr ⟨fun _ _ => rfl, .inl (by decide +kernel)⟩⟩
  | dK e => exact ⟨_, .base (.dK e), .inr ⟨fun _ _ => rfl, .inl (by decide +kernel)⟩⟩
section
variable {P : Program} {w : World} {K : PySem.W.Frag} {mg : Str → Option Value} {base : Heap} {a : Ad}
theorem same_new {H : Hp} {p : Addr} {o : HO} (h : H p = none) : Same H (upd H p o) := fun b u e => by rw [upd_ne (ne_of_none e h)]; exact e
/-! ### is_integer -/
def sp_is_integer : Sp := fun vs H Q _ => ∃ (v : V) (lo hi : Int), vs = [v, .int lo, .int hi] ∧ Pl H v ∧ Q (.bl (inW v lo hi)) H
theorem ok_is_integer (T : Txt K mg a) : FnOk P w K mg base CX0 1 a.a_is_integer a.fd_is_integer ["value", "least", "greatest"] sp_is_integer := by
  refine T.F_is_integer.ok sc_is_integer (fun vs H Q E h => ?_) (fun cdv A outer s H vs Q E hr h => ?_)
  · obtain ⟨x, lo, hi, rfl, _⟩ := h
    rfl
  · obtain ⟨v, lo, hi, rfl, hv, k⟩ := h
    refine ⟨_, (pss_cons (ps_if (PW.pt (pw_or (pt_not (pt_val (pe_callB call_isi (by rfl) T.n_isinstance (by decide +kernel) (pa_cons (pv 0) (pa_cons (pe_bltn (v := .ty "int") (by rfl) T.n_int (by decide +kernel) rfl) pa_nil))))) (pw_or1 (pt_val (pe_callB call_isi (by rfl) T.n_isinstance (by decide +kernel) (pa_cons (pv 0) (pa_cons (pe_bltn (v := .ty "bool") (by rfl) T.n_bool (by decide +kernel) rfl) pa_nil)))))))
      (pss_one (ps_ret pe_bl))
      pss_nil)
      (pss_one (ps_ret (pe_chain op_le op_le (pv 1) (pv 0) (pv 2))))), ?_⟩
    obtain ⟨t, ty, ⟨⟨x, rfl⟩, k1, k2⟩ | ⟨no, k1 | ⟨k1, k2⟩⟩⟩ := hv.ty (K := K)
    · refine ⟨_, rfl, _, _, _, _, true, rfl, .ty "int", ty, kit_ty k1, _, rfl, ?_⟩
      refine iteF ?_
      refine ⟨_, rfl, _, _, _, _, false, rfl, .ty "bool", ty, kit_ty k2, _, rfl, ?_⟩
      refine iteF ?_
      refine ⟨_, rfl, _, rfl, _, _, rfl, rfl, _, rfl, ?_⟩
      have k' : Q (.bl (decide (lo ≤ x) && decide (x ≤ hi))) H := k
      by_cases c : lo ≤ x
      · rw [decide_eq_true c] at k' ⊢
        refine iteT ⟨_, rfl, _, _, rfl, rfl, k'⟩
      · rw [decide_eq_false c] at k' ⊢
        exact iteF k'
    · refine ⟨_, rfl, _, _, _, _, false, rfl, .ty "int", ty, kit_ty k1, _, rfl, ?_⟩
      refine iteT ?_
      rw [no] at k
      exact k
    · refine ⟨_, rfl, _, _, _, _, true, rfl, .ty "int", ty, kit_ty k1, _, rfl, ?_⟩
      refine iteF ?_
      refine ⟨_, rfl, _, _, _, _, true, rfl, .ty "bool", ty, kit_ty k2, _, rfl, ?_⟩
      refine iteT ?_
      rw [no] at k
      exact k
/-! ### are_integers -/
/-- the items of a value, none where it is no list or tuple -/
inductive Cont (H : Hp) : V → Option (List V) → Prop
  | non : Cont H .non none
  | bl (b : Bool) : Cont H (.bl b) none
  | int (i : Int) : Cont H (.int i) none
  | str (x : Str) : Cont H (.str x) none
  | dK {p : Addr} {kvs : List (Key × V)} (e : H p = some (.dK kvs)) : Cont H (.ref p) none
  | lst {p : Addr} {xs : List V} (e : H p = some (.lst xs)) (h : ∀ x ∈ xs, Pl H x) : Cont H (.ref p) (some xs)
  | tup {p : Addr} {xs : List V} (e : H p = some (.tup xs)) (h : ∀ x ∈ xs, Pl H x) : Cont H (.ref p) (some xs)
theorem Cont.mono {H H' : Hp} {v : V} {o : Option (List V)} (h : Cont H v o) (s : Same H H') : Cont H' v o := by
  cases h with
  | non => exact .non
  | bl b => exact .bl b
  | int i => exact .int i
  | str x => exact .str x
  | dK e => exact .dK (s _ _ e)
  | lst e h => exact .lst (s _ _ e) fun x hx => (h x hx).mono s
  | tup e h => exact .tup (s _ _ e) fun x hx => (h x hx).mono s
/-- by its type: no list or tuple; or one of the two, with its items -/
theorem Cont.ty {K : PySem.W.Frag} {H : Hp} {v : V} {o : Option (List V)} (h : Cont H v o) :
    (o = none ∧ ∃ t : String, TyX K H v (.type t) ∧ kitB t "list" = some false ∧ kitB t "tuple" = some false) ∨
    (∃ (p : Addr) (xs : List V) (tp : Bool), v = .ref p ∧ o = some xs ∧ (∀ x ∈ xs, Pl H x) ∧ H p = some (if tp = true then .tup xs else .lst xs)) := by
  cases h with
  | non => exact .inl ⟨rfl, _, .base .non, by decide +kernel, by decide +kernel⟩
  | bl b => exact .inl ⟨rfl, _, .base (.bl b), by decide +kernel, by decide +kernel⟩
  | int i => exact .inl ⟨rfl, _, .base (.int i), by decide +kernel, by decide +kernel⟩
  | str x => exact .inl ⟨rfl, _, .base (.str x), by decide +kernel, by decide +kernel⟩
  | dK e => exact .inl ⟨rfl, _, .base (.dK e), by decide +kernel, by decide +kernel⟩
  | lst e h => exact .inr ⟨_, _, false, rfl, rfl, h, by rw [if_neg Bool.false_ne_true]; exact e⟩
  | tup e h => exact .inr ⟨_, _, true, rfl, rfl, h, by rw [if_pos rfl]; exact e⟩
theorem sqe_of {tp : Bool} {H : Hp} {p : Addr} {xs : List V} (h : H p = some (if tp = true then .tup xs else .lst xs)) : SqE K tp H p xs := by
  cases tp with
  | false => exact SqL.of h
  | true => exact SqT.of h
theorem kit_lt {H : Hp} {tp : Bool} {p : Addr} {xs : List V} (h : H p = some (if tp = true then .tup xs else .lst xs)) : ∃ t, TyX K H (.ref p) t ∧ PySem.W.kitAny K t [.type "list", .type "tuple"] = some true := by
  cases tp with
  | false => exact ⟨_, .base (.lst h), kitAny_cons (b := true) (kit_ty (by decide +kernel)) (fun z => by cases z) (fun _ => rfl)⟩
  | true => exact ⟨_, .base (.tup h), kitAny_cons (b := false) (kit_ty (by decide +kernel)) (fun _ => kitAny_cons (b := true) (kit_ty (by decide +kernel)) (fun z => by cases z) (fun _ => rfl)) (fun z => by cases z)⟩
def allW (o : Option (List V)) (lo hi : Int) : Bool := match o with
  | none => false
  | some xs => xs.all fun v => inW v lo hi
def sp_are_integers : Sp := fun vs H Q _ => ∃ (v : V) (o : Option (List V)) (lo hi : Int), vs = [v, .int lo, .int hi] ∧ Cont H v o ∧ ∀ H', Same H H' → Q (.bl (allW o lo hi)) H'
theorem ok_are_integers (T : Txt K mg a) : FnOk P w K mg base CX0 2 a.a_are_integers a.fd_are_integers ["value", "least", "greatest"] sp_are_integers := by
  refine T.F_are_integers.ok sc_are_integers (fun vs H Q E h => ?_) (fun cdv A outer s H vs Q E hr h => ?_)
  · obtain ⟨v, o, lo, hi, rfl, _⟩ := h
    rfl
  · obtain ⟨v, o, lo, hi, rfl, hv, k⟩ := h
    refine ⟨_, (pss_cons (ps_if (pt_not (pt_val (pe_callB call_isiT (by rfl) T.n_isinstance (by decide +kernel) (pa_cons (pv 0) (pa_cons (pe_tup (pa_cons (pe_bltn (v := .ty "list") (by rfl) T.n_list (by decide +kernel) rfl) (pa_cons (pe_bltn (v := .ty "tuple") (by rfl) T.n_tuple (by decide +kernel) rfl) pa_nil))) pa_nil)))))
      (pss_one (ps_ret pe_bl))
      pss_nil)
      (pss_cons (ps_for PassesOwn.never rfl (pi_seq (pv 0)) (pg_name (i := 3) sc_are_integers.nd rfl (Or.inl rfl))
      (pss_one (ps_if (pt_not (pt_val (pe_call (ok_is_integer T) (hr.mono (by decide)) rfl T.g_is_integer T.F_is_integer.kp T.b_is_integer .nil pass0 (pa_cons (pv 3) (pa_cons (pv 1) (pa_cons (pv 2) pa_nil))))))
        (pss_one (ps_ret pe_bl))
        pss_nil)))
      (pss_one (ps_ret pe_bl)))), ?_⟩
    refine ⟨_, rfl, (by show 2 ≤ sizeLine; decide), fun t ht => ?_⟩
    have s0 : Same H (upd H t (.tup [.ty "list", .ty "tuple"])) := same_new ht
    have hv2 := hv.mono s0
    rcases hv2.ty (K := K) with ⟨rfl, ty, tyx, k1, k2⟩ | ⟨p, xs, tp, rfl, rfl, hpl, hp2⟩
    · refine ⟨_, t, _, .type ty, [.type "list", .type "tuple"], false, rfl, upd_same, .cons (.ty _) (.cons (.ty _) .nil), tyx, kitAny_cons (b := false) (kit_ty k1) (fun _ => kitAny_cons (b := false) (kit_ty k2) (fun _ => rfl) (fun z => by cases z)) (fun z => by cases z), _, rfl, ?_⟩
      exact iteT (k _ s0)
    · obtain ⟨tt, tyx, kit⟩ := kit_lt (K := K) hp2
      refine ⟨_, t, _, tt, [.type "list", .type "tuple"], true, rfl, upd_same, .cons (.ty _) (.cons (.ty _) .nil), tyx, kit, _, rfl, ?_⟩
      refine iteF ?_
      refine ⟨_, rfl, p, rfl, for_seq (K := K) (p := p) (xs := xs) tp (fun i σ H' => (∃ v : Option V, σ = [some (.ref p), some (.int lo), some (.int hi), v]) ∧ (xs.take i).all (fun v => inW v lo hi) = true ∧ Same (upd H t (.tup [.ty "list", .ty "tuple"])) H')
        ⟨⟨none, rfl⟩, rfl, Same.refl _⟩ (fun i σ H' _ h => sqe_of (h.2.2 _ _ hp2)) ?_ ?_⟩
      · rintro i y σ H' hk ⟨⟨v, rfl⟩, ha, s1⟩
        have py := hpl y (List.mem_of_getElem? hk)
        refine ⟨_, rfl, _, rfl, _, rfl, y, lo, hi, rfl, py.mono s1, _, rfl, ?_⟩
        have e1 : xs.take (i + 1) = xs.take i ++ [y] := by rw [List.take_add_one, hk]; rfl
        cases c : inW y lo hi with
        | true =>
          refine iteF ⟨⟨_, rfl⟩, ?_, s1⟩
          rw [e1, List.all_append, ha]
          show (inW y lo hi && true) = true
          rw [c]; rfl
        | false =>
          refine iteT ?_
          have e2 : allW (some xs) lo hi = false := by
            cases c2 : allW (some xs) lo hi with
            | false => rfl
            | true =>
              have := List.all_eq_true.mp c2 y (List.mem_of_getElem? hk)
              rw [c] at this; cases this
          rw [e2] at k
          exact k _ (s0.trans s1)
      · rintro σ H' ⟨⟨v, rfl⟩, ha, s1⟩
        rw [List.take_length] at ha
        have e2 : allW (some xs) lo hi = true := ha
        rw [e2] at k
        exact k _ (s0.trans s1)
end
end Rt
set_option maxHeartbeats 4000000
namespace Rt
open PySem L2
/-- the bounds of steps, as this file holds them -/
structure Good (ns : List Int) (m : Int) : Prop where
  most : 1 ≤ m
  top : m ≤ 1000
  one : 1 ≤ ns.length
  eight : ns.length ≤ 8
  lo : ∀ z ∈ ns, 1 ≤ z
  hi : ∀ z ∈ ns, z ≤ m
  asc : ns.Pairwise (· < ·)
theorem Good.lt {ns : List Int} {m : Int} (g : Good ns m) {i j : Nat} {x y : Int} (h1 : ns[i]? = some x) (h2 : ns[j]? = some y) (h : i < j) : x < y := by
  obtain ⟨q1, e1⟩ := List.getElem?_eq_some_iff.mp h1
  obtain ⟨q2, e2⟩ := List.getElem?_eq_some_iff.mp h2
  have := List.pairwise_iff_getElem.mp g.asc i j q1 q2 h
  rw [e1, e2] at this
  exact this
/-- it can be the bounds -/
def OkB (o : Option (List V)) (m : Int) : Prop := ∃ ns, o = some (ns.map V.int) ∧ Good ns m
theorem map_at {ns : List Int} {i : Nat} {y : V} (h : (ns.map V.int)[i]? = some y) : ∃ z, ns[i]? = some z ∧ y = V.int z := by
  rw [List.getElem?_map] at h
  cases e : ns[i]? with
  | none => rw [e] at h; cases h
  | some z => rw [e] at h; exact ⟨z, rfl, (Option.some.inj h).symm⟩
theorem at_map {ns : List Int} {i : Nat} {z : Int} (h : ns[i]? = some z) : (ns.map V.int)[i]? = some (V.int z) := by
  rw [List.getElem?_map, h]; rfl
theorem allW_ints {o : Option (List V)} {lo hi : Int} (h : allW o lo hi = true) : ∃ ns : List Int, o = some (ns.map V.int) ∧ ∀ z ∈ ns, lo ≤ z ∧ z ≤ hi := by
  cases o with
  | none => cases h
  | some xs =>
    have h2 : xs.all (fun v => inW v lo hi) = true := h
    clear h
    induction xs with
    | nil => exact ⟨[], rfl, fun z hz => by cases hz⟩
    | cons x r ih =>
      rw [List.all_cons, Bool.and_eq_true] at h2
      obtain ⟨z, rfl, hz⟩ := inW_int h2.1
      obtain ⟨ns, e, hn⟩ := ih h2.2
      refine ⟨z :: ns, ?_, fun y hy => ?_⟩
      · rw [Option.some.inj e]; rfl
      · rcases List.mem_cons.mp hy with rfl | hy
        · exact hz
        · exact hn y hy
theorem allW_good {ns : List Int} {m : Int} (g : Good ns m) : allW (some (ns.map V.int)) 1 m = true := by
  show (ns.map V.int).all (fun v => inW v 1 m) = true
  rw [List.all_eq_true]
  intro x hx
  obtain ⟨z, hz, rfl⟩ := List.mem_map.mp hx
  exact inI_T ⟨g.lo z hz, g.hi z hz⟩
theorem asc_of {ns : List Int} (h : ∀ i x y, ns[i]? = some x → ns[i + 1]? = some y → x < y) : ns.Pairwise (· < ·) := by
  induction ns with
  | nil => exact .nil
  | cons x r ih =>
    have hr : r.Pairwise (· < ·) := ih fun i a b h1 h2 => h (i + 1) a b h1 h2
    cases r with
    | nil => exact .cons (fun _ hy => by cases hy) hr
    | cons y t =>
      have hxy : x < y := h 0 x y rfl rfl
      refine .cons (fun z hz => ?_) hr
      rcases List.mem_cons.mp hz with rfl | hz
      · exact hxy
      · have := (List.pairwise_cons.mp hr).1 z hz
        omega
section
variable {P : Program} {w : World} {K : PySem.W.Frag} {mg : Str → Option Value} {base : Heap} {a : Ad}
def sp_are_bounds : Sp := fun vs H Q _ => ∃ (v : V) (o : Option (List V)) (m : Int) (r : Bool), vs = [v, .int m] ∧ Cont H v o ∧ 1 ≤ m ∧ m ≤ 1000 ∧ (r = true ↔ OkB o m) ∧ ∀ H', Same H H' → Q (.bl r) H'
theorem ok_are_bounds (T : Txt K mg a) : FnOk P w K mg base CX0 3 a.a_are_bounds a.fd_are_bounds ["value", "most"] sp_are_bounds := by
  refine T.F_are_bounds.ok sc_are_bounds (fun vs H Q E h => ?_) (fun cdv A outer s H vs Q E hr h => ?_)
  · obtain ⟨v, o, m, r, rfl, _⟩ := h
    rfl
  · obtain ⟨v, o, m, r, rfl, hv, m1, m2, hr', k⟩ := h
    refine ⟨_, (pss_cons (ps_if (PW.pt (pw_or (pt_not (pt_val (pe_call (ok_are_integers T) (hr.mono (by decide)) rfl T.g_are_integers T.F_are_integers.kp T.b_are_integers .nil pass0 (pa_cons (pv 0) (pa_cons pe_int (pa_cons (pv 1) pa_nil)))))) (pw_or1 (pt_not (pt_chain op_le op_le pe_int (pe_callB call_len_seq (by rfl) T.n_len PySem.boot_len (pa_cons (pv 0) pa_nil)) (pe_glob (v := .int 8) rfl T.c_MOST_BOUNDS ⟨_, rfl⟩))))))
      (pss_one (ps_ret pe_bl))
      pss_nil)
      (pss_cons (ps_for PassesOwn.never rfl (pi_range2 (by rfl) T.n_range (pa_cons pe_int (pa_cons (pe_callB call_len_seq (by rfl) T.n_len PySem.boot_len (pa_cons (pv 0) pa_nil)) pa_nil))) (pg_name (i := 2) sc_are_bounds.nd rfl (Or.inl rfl))
      (pss_one (ps_if (pt_cmpR op_ge (pe_ix ix_seq (pv 0) (pe_op op_sub (pv 2) pe_int) (fun _ _ => rfl)) (pe_ix ix_seq (pv 0) (pv 2) (fun _ _ => rfl)) (nomark _))
        (pss_one (ps_ret pe_bl))
        pss_nil)))
      (pss_one (ps_ret pe_bl)))), ?_⟩
    refine ⟨_, rfl, _, rfl, v, o, 1, m, rfl, hv, fun H1 s1 => ⟨_, rfl, ?_⟩⟩
    have hv1 := hv.mono s1
    cases c : allW o 1 m with
    | false =>
      refine iteT ?_
      have er : r = false := by
        cases r with
        | false => rfl
        | true =>
          obtain ⟨ns, e, g⟩ := hr'.mp rfl
          rw [e, allW_good g] at c
          cases c
      rw [er] at k
      exact k _ s1
    | true =>
      refine iteF ?_
      obtain ⟨ns, rfl, hns⟩ := allW_ints c
      rcases hv1.ty (K := K) with ⟨z, _⟩ | ⟨p, xs, tp, rfl, exs, hpl, hp1⟩
      · cases z
      have exs2 := Option.some.inj exs
      subst exs2
      have hlen : ∀ H' : Hp, Same H1 H' → SqL K H' p (ns.map V.int) ∨ SqT K H' p (ns.map V.int) := fun H' s' => by
        have := sqe_of (K := K) (s' _ _ hp1)
        cases tp with
        | false => exact .inl this
        | true => exact .inr this
      refine ⟨_, rfl, p, _, rfl, hlen _ (Same.refl _), _, _, rfl, rfl, _, rfl, ?_⟩
      have bad : ¬ (1 ≤ ns.length ∧ ns.length ≤ 8) → r = false := fun z => by
        cases r with
        | false => rfl
        | true =>
          obtain ⟨ms, e, g⟩ := hr'.mp rfl
          have e2 : (ns.map V.int).length = (ms.map V.int).length := by rw [Option.some.inj e]
          rw [List.length_map, List.length_map] at e2
          exact absurd ⟨by rw [e2]; exact g.one, by rw [e2]; exact g.eight⟩ z
      rw [List.length_map]
      by_cases l1 : (1 : Int) ≤ (ns.length : Int)
      case neg =>
        rw [decide_eq_false l1]
        refine iteF ⟨_, rfl, ?_⟩
        refine iteT ?_
        rw [bad fun z => by omega] at k
        exact k _ s1
      rw [decide_eq_true l1]
      refine iteT ?_
      refine ⟨_, _, rfl, rfl, _, rfl, ?_⟩
      by_cases l8 : (ns.length : Int) ≤ 8
      case neg =>
        rw [decide_eq_false l8]
        refine iteT ?_
        rw [bad fun z => by omega] at k
        exact k _ s1
      rw [decide_eq_true l8]
      refine iteF ?_
      refine ⟨_, rfl, p, _, rfl, hlen _ (Same.refl _), 1, _, rfl, ?_, for_range (lo := 1) (n := (((ns.map V.int).length : Int) - 1).toNat) (fun i σ H' => (∃ v : Option V, σ = [some (.ref p), some (.int m), v]) ∧ Same H1 H' ∧ ∀ j x y, j < i → ns[j]? = some x → ns[j + 1]? = some y → x < y)
        ⟨⟨none, rfl⟩, Same.refl _, fun j x y hj => absurd hj (Nat.not_lt_zero _)⟩ ?_ ?_⟩
      · rw [List.length_map]; omega
      · rintro i σ H' hi ⟨⟨v, rfl⟩, s2, hasc⟩
        have hi2 : i + 1 < ns.length := by rw [List.length_map] at hi; omega
        obtain ⟨x, hx⟩ : ∃ x, ns[i]? = some x := ⟨ns[i], by simp⟩
        obtain ⟨y, hy⟩ : ∃ y, ns[i + 1]? = some y := ⟨ns[i + 1], by simp⟩
        have ix : ∀ (i : Int) (z : V) (Q' : VK), atI (ns.map V.int) i = some z → Q' z H' → rIx K (.ref p) (.int i) H' Q' := fun i z Q' h1 h2 => by
          rcases hlen _ s2 with h | h
          · exact .inl ⟨p, _, i, z, rfl, rfl, h, h1, h2⟩
          · exact .inr (.inl ⟨p, _, i, z, rfl, rfl, h, h1, h2⟩)
        refine ⟨_, rfl, _, rfl, _, _, rfl, rfl, ix _ _ _ (at_of (show (1 : Int) + (i : Int) - 1 = (i : Int) by omega) (at_map hx)) ?_⟩
        refine ⟨_, rfl, _, rfl, ix _ _ _ (at_of (show (1 : Int) + (i : Int) = ((i + 1 : Nat) : Int) by omega) (at_map hy)) ?_⟩
        refine ⟨_, _, rfl, rfl, _, rfl, ?_⟩
        by_cases c2 : y ≤ x
        · rw [decide_eq_true c2]
          refine iteT ?_
          have er : r = false := by
            cases r with
            | false => rfl
            | true =>
              obtain ⟨ms, e, g⟩ := hr'.mp rfl
              have e3 : ns.map V.int = ms.map V.int := Option.some.inj e
              have e2 : ns = ms := List.map_inj_right (fun _ _ h => by injection h) |>.mp e3
              have := g.lt (e2 ▸ hx) (e2 ▸ hy) (Nat.lt_succ_self i)
              omega
          rw [er] at k
          exact k _ (s1.trans s2)
        · rw [decide_eq_false c2]
          refine iteF ⟨⟨_, rfl⟩, s2, fun j x' y' hj h1 h2 => ?_⟩
          by_cases q : j = i
          · subst q
            rw [hx] at h1; rw [hy] at h2
            cases h1; cases h2
            omega
          · exact hasc j x' y' (by omega) h1 h2
      · rintro σ H' ⟨⟨v, rfl⟩, s2, hasc⟩
        have er : r = true := hr'.mpr ⟨ns, rfl, m1, m2, by omega, by omega, fun z hz => (hns z hz).1, fun z hz => (hns z hz).2, asc_of fun i x y h1 h2 => by
          have hl := (List.getElem?_eq_some_iff.mp h2).1
          exact hasc i x y (by rw [List.length_map]; omega) h1 h2⟩
        rw [er] at k
        exact k _ (s1.trans s2)
/-! ### the fields of Steps -/
theorem mb_ : ¬ (("most" : Str) = "_bounds") := by decide +kernel
theorem bm_ : ¬ (("_bounds" : Str) = "most") := by decide +kernel
def sf (m : Int) (t : Addr) : List (Str × V) := putF "_bounds" (.ref t) (putF "most" (.int m) [])
theorem sf_most (m : Int) (t : Addr) : (sf m t).lookup ("most" : Str) = some (.int m) := by
  unfold sf
  rw [lookup_putF, if_neg mb_, lookup_putF, if_pos rfl]
theorem sf_bounds (m : Int) (t : Addr) : (sf m t).lookup ("_bounds" : Str) = some (.ref t) := by
  unfold sf
  rw [lookup_putF, if_pos rfl]
theorem sf_no (m : Int) (t : Addr) {x : Str} (h1 : ¬ x = "_bounds") (h2 : ¬ x = "most") : (sf m t).lookup x = none := by
  unfold sf
  rw [lookup_putF, if_neg h1, lookup_putF, if_neg h2]
  all_goals rfl
/-- steps stand at p -/
def StepsAt (C : Addr) (H : Hp) (p : Addr) (m : Int) (ns : List Int) : Prop := ∃ (dx t : Addr), H p = some (.ins C dx (sf m t)) ∧ H t = some (.tup (ns.map V.int))
theorem StepsAt.mono {C : Addr} {H H' : Hp} {p : Addr} {m : Int} {ns : List Int} (h : StepsAt C H p m ns) (s : Same H H') : StepsAt C H' p m ns := by
  obtain ⟨dx, t, h1, h2⟩ := h
  exact ⟨dx, t, s _ _ h1, s _ _ h2⟩
/-- all as it was but what stands at p -/
def But (p : Addr) (H H' : Hp) : Prop := ∀ b o, b ≠ p → H b = some o → H' b = some o
/-- Steps(mv, bv): a wrong greatest room; wrong bounds; good ones -/
def sp_Steps_init (C CE : Addr) : Sp := fun vs H Q E => ∃ (p dx : Addr) (mv bv : V) (o : Option (List V)), vs = [.ref p, mv, bv] ∧ H p = some (.ins C dx []) ∧ Pl H mv ∧ Cont H bv o ∧ bv ≠ .ref p ∧
  ((inW mv 1 1000 = false ∧ ∀ d, H d = none → E (.ref CE) (some d) (upd H d (.xd [("part", .str "most")]))) ∨
   (∃ m, mv = .int m ∧ 1 ≤ m ∧ m ≤ 1000 ∧ ¬ OkB o m ∧ ∀ H' d, Same H H' → H' d = none → E (.ref CE) (some d) (upd H' d (.xd [("part", .str "bounds")]))) ∨
   (∃ m ns, mv = .int m ∧ o = some (ns.map V.int) ∧ Good ns m ∧ ∀ H', But p H H' → StepsAt C H' p m ns → Q .non H'))
theorem ok_Steps_init (T : Txt K mg a) : FnOk P w K mg base (L2.CX P w) 4 a.a_Steps_init a.fd_Steps_init ["self", "most", "bounds"] (sp_Steps_init a.C_Steps a.C_BadSteps) := by
  refine T.F_Steps_init.okX sc_Steps_init (fun vs H Q E h => ?_) (fun cdv A outer s H vs Q E hr h => ?_)
  · obtain ⟨p, dx, l, m, ns, rfl, _⟩ := h
    rfl
  · obtain ⟨p, dx, mv, bv, o, rfl, hp, hm, hb, hne, h⟩ := h
    refine ⟨_, (pss_cons (ps_if (pt_not (pt_val (pe_call (ok_is_integer T) (hr.mono (by decide)) rfl T.g_is_integer T.F_is_integer.kp T.b_is_integer .nil pass0 (pa_cons (pv 1) (pa_cons pe_int (pa_cons (pe_glob (v := .int 1000) rfl T.c_GREATEST_ROOM ⟨_, rfl⟩) pa_nil))))))
      (pss_one (ps_raise_part rfl T.e_BadSteps hr (takes_of rfl rfl rfl rfl) (by exact (pa_cons pe_str pa_nil))))
      pss_nil)
      (pss_cons (ps_if (pt_not (pt_val (pe_call (ok_are_bounds T) (hr.mono (by decide)) rfl T.g_are_bounds T.F_are_bounds.kp T.b_are_bounds .nil pass0 (pa_cons (pv 2) (pa_cons (pv 1) pa_nil)))))
      (pss_one (ps_raise_part rfl T.e_BadSteps hr (takes_of rfl rfl rfl rfl) (by exact (pa_cons pe_str pa_nil))))
      pss_nil)
      (pss_cons (ps_fld (pv 0) (pv 1) rfl)
      (pss_one (ps_fld (pv 0) (pe_callTy call_tuple_of (by rfl) T.n_tuple (by decide +kernel) (pa_cons (pv 2) pa_nil)) rfl))))), ?_⟩
    refine ⟨_, rfl, mv, 1, 1000, rfl, hm, _, rfl, ?_⟩
    rcases h with ⟨c, k⟩ | ⟨m, rfl, m1, m2, nok, k⟩ | ⟨m, ns, rfl, rfl, g, k⟩
    · rw [c]
      refine iteT ⟨_, rfl, fun d hd => k d hd⟩
    · have e : inW (.int m) 1 1000 = true := inI_T ⟨m1, m2⟩
      rw [e]
      refine iteF ?_
      refine ⟨_, rfl, _, rfl, bv, o, m, false, rfl, hb, m1, m2, ⟨fun z => (by cases z), fun z => absurd z nok⟩, fun H1 s1 => ⟨_, rfl, ?_⟩⟩
      exact iteT ⟨_, rfl, fun d hd => k H1 d s1 hd⟩
    · have e : inW (.int m) 1 1000 = true := inI_T ⟨g.most, g.top⟩
      rw [e]
      refine iteF ?_
      refine ⟨_, rfl, _, rfl, bv, _, m, true, rfl, hb, g.most, g.top, ⟨fun _ => ⟨ns, rfl, g⟩, fun _ => rfl⟩, fun H1 s1 => ⟨_, rfl, ?_⟩⟩
      refine iteF ?_
      refine ⟨_, rfl, _, rfl, p, a.C_Steps, dx, [], rfl, s1 _ _ hp, T.cl_Steps, T.nf_Steps_most, (by show 0 < 1000; decide), ?_⟩
      have hp1 := s1 _ _ hp
      rcases (hb.mono s1).ty (K := K) with ⟨z, _⟩ | ⟨l, xs, tp, rfl, exs, hpl, hl1⟩
      · cases z
      have exs2 := Option.some.inj exs
      subst exs2
      have nlp : l ≠ p := fun q => hne (by rw [q])
      have fin : ∀ t H2, H2 t = some (.tup (ns.map V.int)) → t ≠ p → Same (upd H1 p (.ins a.C_Steps dx (putF "most" (.int m) []))) H2 → H2 p = some (.ins a.C_Steps dx (putF "most" (.int m) [])) →
          Q .non (upd H2 p (.ins a.C_Steps dx (putF "_bounds" (.ref t) (putF "most" (.int m) [])))) := fun t H2 ht ntp s2 hp2 => by
        refine k _ (fun b u nb e => ?_) ⟨dx, t, upd_same, ?_⟩
        · rw [upd_ne nb]
          exact s2 _ _ (by rw [upd_ne nb]; exact s1 _ _ e)
        · rw [upd_ne ntp]; exact ht
      cases tp with
      | false =>
        have hl2 : H1 l = some (.lst (ns.map V.int)) := hl1
        refine ⟨_, rfl, l, _, rfl, .inl ⟨SqL.of (by rw [upd_ne nlp]; exact hl2), fun t ht => ?_⟩⟩
        have ntp : t ≠ p := fun q => by rw [q, upd_same] at ht; cases ht
        refine ⟨_, rfl, p, a.C_Steps, dx, _, rfl, (by rw [upd_ne ntp.symm]; exact upd_same), T.cl_Steps, T.nf_Steps_bounds, (by show 1 < 1000; decide), ?_⟩
        exact fin t _ upd_same ntp (same_new ht) (by rw [upd_ne ntp.symm]; exact upd_same)
      | true =>
        have hl2 : H1 l = some (.tup (ns.map V.int)) := hl1
        refine ⟨_, rfl, l, _, rfl, .inr ⟨SqT.of (by rw [upd_ne nlp]; exact hl2), ?_⟩⟩
        refine ⟨_, rfl, p, a.C_Steps, dx, _, rfl, upd_same, T.cl_Steps, T.nf_Steps_bounds, (by show 1 < 1000; decide), ?_⟩
        exact fin l _ (by rw [upd_ne nlp]; exact hl2) nlp (Same.refl _) upd_same
end
end Rt
set_option maxHeartbeats 4000000
namespace Rt
open PySem L2
section
variable {P : Program} {w : World} {K : PySem.W.Frag} {mg : Str → Option Value} {base : Heap} {a : Ad}
/-! ### the pool -/
def PoolAt (H : Hp) (p : Addr) : Prop := ∃ (x y : Int), H p = some (.lst [.int x, .int y]) ∧ 0 ≤ x ∧ 0 ≤ y ∧ y < 2147483647
def sp_law_opened (K : PySem.W.Frag) : Sp := fun vs H Q _ => ∃ (s : Addr) (k : Int) (ns : List Int), vs = [.ref s, .int k] ∧ SqL K H s (ns.map V.int) ∧ 0 ≤ k ∧ k ≤ 63 ∧
  ∀ H' p, H p = none → Same H H' → PoolAt H' p → Q (.ref p) H'
theorem max_nonneg (c : Int) : 0 ≤ (if -1 - c > c then -1 - c else c) := by split <;> omega
theorem ok_law_opened (T : Txt K mg a) : FnOk P w K mg base CX0 1 a.a_law_opened a.fd_law_opened ["_law_script", "_law_k"] (sp_law_opened K) := by
  refine T.F_law_opened.ok sc_law_opened (fun vs H Q E h => ?_) (fun cdv A outer s H vs Q E hr h => ?_)
  · obtain ⟨p, k, ns, rfl, _⟩ := h
    rfl
  · obtain ⟨p, k, ns, rfl, hs, k0, k63, kk⟩ := h
    refine ⟨_, (pss_cons (ps_set (i := 2) sc_law_opened.nd rfl (Or.inl rfl) (pe_ifExp (pt_cmpR op_lt (pv 1) (pe_callB call_len_seq (by rfl) T.n_len PySem.boot_len (pa_cons (pv 0) pa_nil)) (nomark _)) (pe_ix (r := rIxL K) ix_list (pv 0) (pv 1) (fun _ _ => rfl)) pe_int))
      (pss_cons (ps_set (i := 3) sc_law_opened.nd rfl (Or.inl rfl) (pe_callB (call_max2 rfl) (by rfl) T.n_max (by decide +kernel) (pa_cons (pe_callTy call_int1 (by rfl) T.n_int (by decide +kernel) (pa_cons (pv 2) pa_nil)) (pa_cons (pe_callTy call_int1 (by rfl) T.n_int (by decide +kernel) (pa_cons (pe_op op_sub (pe_un un_neg pe_int) (pv 2)) pa_nil)) pa_nil))))
      (pss_one (ps_ret (pe_lst (pa_cons (pe_op op_mul (pv 3) (pe_callTy call_int1 (by rfl) T.n_int (by decide +kernel) (pa_cons (pe_cmpR op_ge (pv 3) (pe_op op_pow pe_int pe_int) (nomark _)) pa_nil))) (pa_cons (pe_op op_mod (pe_callTy call_int1 (by rfl) T.n_int (by decide +kernel) (pa_cons (pe_op op_mul (pe_op op_add (pe_op op_add (pe_op op_mod (pv 3) pe_int) (pe_op op_mul pe_int (pv 1))) pe_int) pe_int) pa_nil)) pe_int) pa_nil))))))), ?_⟩
    refine ⟨_, rfl, _, rfl, p, _, rfl, .inl hs, _, _, rfl, rfl, _, rfl, ?_⟩
    refine ite2 (fun c => ?_) (fun c => ?_)
    have c2 : k < (ns.length : Int) := by
      have := of_decide_eq_true c
      rw [List.length_map] at this
      exact this
    obtain ⟨z, hz⟩ : ∃ z, ns[k.toNat]? = some z := ⟨ns[k.toNat], by simp⟩
    refine ⟨_, rfl, _, rfl, p, _, _, _, rfl, rfl, hs, at_of (show k = ((k.toNat : Nat) : Int) by omega) (at_map hz), ?_⟩
    clear c2 hz
    rotate_left
    generalize hz : (5 : Int) = z
    clear hz
    all_goals clear c
    all_goals
      refine ⟨_, rfl, .inl ⟨_, rfl, _, rfl, _, rfl, _, _, rfl, rfl, .inl ⟨_, rfl, _, _, rfl, ?_⟩⟩⟩
      have g0 := max_nonneg z
      generalize (if -1 - z > z then -1 - z else z) = g at g0
      refine ⟨_, rfl, _, rfl, _, _, rfl, rfl, ⟨by decide, by decide, by decide⟩, _, _, rfl, rfl, .inr ⟨_, rfl, _, _, rfl, rfl, .inr ?_, ?_⟩⟩
      · split <;> decide
      have m0 := Int.emod_nonneg g (show (2147483629 : Int) ≠ 0 by decide)
      have m1 := Int.emod_lt_of_pos g (show (0 : Int) < 2147483629 by decide)
      refine ⟨_, rfl, _, _, rfl, rfl, (by show (0 : Int) < _; decide), _, rfl, _, _, rfl, rfl, .inl ⟨by decide, by decide⟩, _, _, rfl, rfl, _, _, rfl, rfl, _, _, rfl, rfl, .inl ⟨?_, ?_⟩, .inl ⟨_, rfl, _, _, rfl, rfl, (by show (0 : Int) < _; decide), ?_⟩⟩
      · omega
      · omega
      refine ⟨by show 2 ≤ sizeLine; decide, fun l hl => ?_⟩
      refine kk _ l hl (same_new hl) ⟨_, _, upd_same, ?_, ?_, ?_⟩
      · split
        · rw [Int.mul_one]; exact g0
        · rw [Int.mul_zero]; exact Int.le_refl 0
      · exact Int.emod_nonneg _ (by decide)
      · exact Int.emod_lt_of_pos _ (by decide)
/-! ### draw -/
def sp_law_draw : Sp := fun vs H Q _ => ∃ (p : Addr) (m : Int), vs = [.ref p, .int m] ∧ PoolAt H p ∧ 1 ≤ m ∧ m < 1073741824 ∧
  ∀ H' d, 0 ≤ d → d < m → But p H H' → PoolAt H' p → Q (.int d) H'
theorem ok_law_draw (T : Txt K mg a) : FnOk P w K mg base CX0 1 a.a_law_draw a.fd_law_draw ["_law_pool", "_law_many"] sp_law_draw := by
  refine T.F_law_draw.ok sc_law_draw (fun vs H Q E h => ?_) (fun cdv A outer s H vs Q E hr h => ?_)
  · obtain ⟨p, m, rfl, _⟩ := h
    rfl
  · obtain ⟨p, m, rfl, ⟨x, y, hp, x0, y0, y1⟩, m1, m2, k⟩ := h
    have hq := SqL.of (K := K) hp
    refine ⟨_, (pss_cons (ps_if (pt_cmpR op_gt (pe_ix (r := rIxL K) ix_list (pv 0) pe_int (fun _ _ => rfl)) pe_int (nomark _))
      (pss_cons (ps_set (i := 2) sc_law_draw.nd rfl (Or.inl rfl) (pe_op op_modN (pe_callTy call_int1 (by rfl) T.n_int (by decide +kernel) (pa_cons (pe_ix (r := rIxL K) ix_list (pv 0) pe_int (fun _ _ => rfl)) pa_nil)) (pv 1)))
        (pss_cons (ps_asg (pe_op op_fdivN (pe_ix (r := rIxL K) ix_list (pv 0) pe_int (fun _ _ => rfl)) (pv 1)) (pg_sub (pv 0) pe_int set_list))
        (pss_one (ps_ret (pv 2)))))
      pss_nil)
      (pss_cons (ps_asg (pe_op op_mod (pe_callTy call_int1 (by rfl) T.n_int (by decide +kernel) (pa_cons (pe_op op_add (pe_op op_mul (pe_ix (r := rIxL K) ix_list (pv 0) pe_int (fun _ _ => rfl)) pe_int) pe_int) pa_nil)) pe_int) (pg_sub (pv 0) pe_int set_list))
      (pss_one (ps_ret (pe_op op_modN (pe_op op_fdiv (pe_op op_mod (pe_callTy call_int1 (by rfl) T.n_int (by decide +kernel) (pa_cons (pe_op op_mul (pe_ix (r := rIxL K) ix_list (pv 0) pe_int (fun _ _ => rfl)) (pe_ix (r := rIxL K) ix_list (pv 0) pe_int (fun _ _ => rfl))) pa_nil)) pe_int) pe_int) (pv 1)))))), ?_⟩
    have a0 : ∀ x y : Int, atI [V.int x, V.int y] 0 = some (V.int x) := fun x y => at_of (j := 0) rfl rfl
    have a1 : ∀ x y : Int, atI [V.int x, V.int y] 1 = some (V.int y) := fun x y => at_of (j := 1) rfl rfl
    have but : ∀ o, But p H (upd H p o) := fun o b u nb e => by rw [upd_ne nb]; exact e
    have m3 : m ≠ 0 := by omega
    refine ⟨_, rfl, p, _, _, _, rfl, rfl, hq, a0 x y, _, _, rfl, rfl, _, rfl, ?_⟩
    refine ite2 (fun c => ?_) (fun c => ?_)
    · refine ⟨_, rfl, p, _, _, _, rfl, rfl, hq, a0 x y, .inl ⟨_, rfl, _, rfl, _, _, rfl, rfl, m3, ?_⟩⟩
      refine ⟨_, rfl, p, _, _, _, rfl, rfl, hq, a0 x y, _, rfl, _, _, rfl, rfl, ⟨m3, by omega⟩, _, rfl, p, _, _, 0, rfl, rfl, hp, rfl, ?_⟩
      refine ⟨_, rfl, ?_⟩
      refine k _ _ (Int.fmod_nonneg_of_pos _ (by omega)) (Int.fmod_lt_of_pos _ (by omega)) (but _) ⟨_, y, upd_same, ?_, y0, y1⟩
      exact Int.fdiv_nonneg x0 (by omega)
    · refine ⟨_, rfl, p, _, _, _, rfl, rfl, hq, a1 x y, _, _, rfl, rfl, .inl ⟨by omega, by omega⟩, _, _, rfl, rfl, .inl ⟨_, rfl, _, _, rfl, rfl, (by show (0 : Int) < _; decide), ?_⟩⟩
      have z0 := Int.emod_nonneg (y * 39373 + 7) (show (2147483647 : Int) ≠ 0 by decide)
      have z1 := Int.emod_lt_of_pos (y * 39373 + 7) (show (0 : Int) < 2147483647 by decide)
      obtain ⟨z, hz⟩ : ∃ z, z = (y * 39373 + 7) % 2147483647 := ⟨_, rfl⟩
      rw [← hz] at z0 z1
      refine ⟨_, rfl, p, _, _, 1, rfl, rfl, hp, rfl, ?_⟩
      have hq2 : SqL K (upd H p (.lst ([V.int x, V.int y].set 1 (V.int ((y * 39373 + 7) % 2147483647))))) p [.int x, .int z] := by rw [hz]; exact SqL.of upd_same
      refine ⟨_, rfl, p, _, _, _, rfl, rfl, hq2, a1 x z, _, rfl, p, _, _, _, rfl, rfl, hq2, a1 x z, _, _, rfl, rfl, .inl ⟨by omega, by omega⟩, .inl ⟨_, rfl, _, _, rfl, rfl, (by show (0 : Int) < _; decide), _, _, rfl, rfl, ⟨by decide, by decide⟩, _, rfl, _, _, rfl, rfl, m3, ?_⟩⟩
      exact k _ _ (Int.fmod_nonneg_of_pos _ (by omega)) (Int.fmod_lt_of_pos _ (by omega)) (but _) ⟨x, z, (by rw [hz]; exact upd_same), x0, z0, z1⟩
end
end Rt
set_option maxHeartbeats 4000000
namespace Rt
open PySem L2
/-! ### the plan: a dict of the greatest room and the bounds -/
def kMost : Key := Sum.inr ("most" : Str)
def kBounds : Key := Sum.inr ("bounds" : Str)
def planKv (m : Int) (l : Addr) : List (Key × V) := mergeK [] [(kMost, .int m), (kBounds, .ref l)]
theorem kmb : ¬ kBounds = kMost := by
  intro h
  have h2 : ("bounds" : Str) = ("most" : Str) := Sum.inr.inj h
  exact absurd h2 (by decide +kernel)
theorem plan_most (m : Int) (l : Addr) : valV (planKv m l) kMost = some (.int m) := by
  show valV (putK (putK [] kMost (.int m)) kBounds (.ref l)) kMost = _
  rw [valV_put, if_neg (fun z => kmb z.symm), valV_put, if_pos rfl]
theorem plan_bounds (m : Int) (l : Addr) : valV (planKv m l) kBounds = some (.ref l) := by
  show valV (putK (putK [] kMost (.int m)) kBounds (.ref l)) kBounds = _
  rw [valV_put, if_pos rfl]
def PlanAt (H : Hp) (d : Addr) (m : Int) (ns : List Int) : Prop := ∃ l, H d = some (.dK (planKv m l)) ∧ H l = some (.lst (ns.map V.int))
theorem PlanAt.mono {H H' : Hp} {d : Addr} {m : Int} {ns : List Int} (h : PlanAt H d m ns) (s : Same H H') : PlanAt H' d m ns := by
  obtain ⟨l, h1, h2⟩ := h
  exact ⟨l, s _ _ h1, s _ _ h2⟩
theorem But.trans {p : Addr} {H H1 H2 : Hp} (h1 : But p H H1) (h2 : But p H1 H2) : But p H H2 := fun b o nb e => h2 b o nb (h1 b o nb e)
theorem Same.but {p : Addr} {H H1 : Hp} (h1 : Same H H1) : But p H H1 := fun b o _ e => h1 b o e
theorem PoolAt.mono {H H' : Hp} {p : Addr} (h : PoolAt H p) (s : Same H H') : PoolAt H' p := by
  obtain ⟨x, y, h1, h2⟩ := h
  exact ⟨x, y, s _ _ h1, h2⟩
theorem But.free {p : Addr} {H H' : Hp} (e : But p H H') {l : Addr} (n : l ≠ p) (h : H' l = none) : H l = none := by
  cases q : H l with
  | none => rfl
  | some o => rw [e l o n q] at h; cases h
/-- the numbers 1 to m -/
def upTo (m : Int) : List Int := (List.range (m + 1 - 1).toNat).map fun i => 1 + ((i : Nat) : Int)
theorem upTo_len (m : Int) : (upTo m).length = m.toNat := by
  unfold upTo
  rw [List.length_map, List.length_range]
  omega
theorem upTo_mem {m z : Int} (h : z ∈ upTo m) : 1 ≤ z ∧ z ≤ m := by
  unfold upTo at h
  obtain ⟨i, hi, e⟩ := List.mem_map.mp h
  have := List.mem_range.mp hi
  omega
theorem upTo_nodup (m : Int) : (upTo m).Nodup := by
  unfold upTo
  unfold List.Nodup
  rw [List.pairwise_map]
  refine List.Pairwise.imp ?_ List.nodup_range
  intro x y h z
  omega
theorem rgV_upTo (m : Int) : rgV 1 (m + 1) = (upTo m).map V.int := by
  unfold rgV upTo
  rw [List.map_map]
  rfl
theorem erase_map {α β : Type} (f : α → β) : ∀ (l : List α) (k : Nat), (l.map f).eraseIdx k = (l.eraseIdx k).map f
  | [], k => by simp
  | a :: r, 0 => rfl
  | a :: r, k + 1 => by
    show f a :: (r.map f).eraseIdx k = f a :: (r.eraseIdx k).map f
    rw [erase_map f r k]
theorem perm_pop {xs ys : List Int} {k : Nat} {y : Int} (h : ys[k]? = some y) : ((xs ++ [y]) ++ ys.eraseIdx k).Perm (xs ++ ys) := by
  obtain ⟨hk, e⟩ := List.getElem?_eq_some_iff.mp h
  rw [List.append_assoc]
  refine List.Perm.append_left xs ?_
  show (y :: ys.eraseIdx k).Perm ys
  have e2 : ys = ys.take k ++ y :: ys.drop (k + 1) := by
    rw [← e, ← List.drop_eq_getElem_cons hk, List.take_append_drop]
  rw [List.eraseIdx_eq_take_drop_succ]
  conv => rhs; rw [e2]
  exact List.perm_middle.symm
theorem good_of {xs ys ns : List Int} {m : Int} (h : (xs ++ ys).Perm (upTo m)) (m1 : 1 ≤ m) (m2 : m ≤ 1000) (l1 : 1 ≤ xs.length) (l8 : xs.length ≤ 8) (hp : ns.Perm xs) (hs : ns.Pairwise (· ≤ ·)) : Good ns m := by
  have nd : (xs ++ ys).Nodup := (h.nodup_iff).mpr (upTo_nodup m)
  have ndx : xs.Nodup := (List.nodup_append.mp nd).1
  have ndn : ns.Nodup := (hp.nodup_iff).mpr ndx
  have mem : ∀ z ∈ ns, 1 ≤ z ∧ z ≤ m := fun z hz => upTo_mem (h.mem_iff.mp (List.mem_append_left _ (hp.mem_iff.mp hz)))
  refine ⟨m1, m2, by rw [hp.length_eq]; exact l1, by rw [hp.length_eq]; exact l8, fun z hz => (mem z hz).1, fun z hz => (mem z hz).2, ?_⟩
  have ndn' : ns.Pairwise (· ≠ ·) := ndn
  refine List.Pairwise.imp ?_ (List.Pairwise.and hs ndn')
  intro x y h
  have h1 := h.1
  have h2 := h.2
  omega
section
variable {P : Program} {w : World} {K : PySem.W.Frag} {mg : Str → Option Value} {base : Heap} {a : Ad}
def sp_law_bounds : Sp := fun vs H Q _ => ∃ (p : Addr) (top : Int), vs = [.ref p, .int top] ∧ PoolAt H p ∧ 1 ≤ top ∧ top ≤ 1000 ∧
  ∀ H' d m ns, But p H H' → PoolAt H' p → PlanAt H' d m ns → H d = none → m ≤ top → Good ns m → Q (.ref d) H'
theorem ok_law_bounds (T : Txt K mg a) : FnOk P w K mg base CX0 2 a.a_law_bounds a.fd_law_bounds ["_law_pool", "_law_top"] sp_law_bounds := by
  refine T.F_law_bounds.ok sc_law_bounds (fun vs H Q E h => ?_) (fun cdv A outer s H vs Q E hr h => ?_)
  · obtain ⟨p, m, rfl, _⟩ := h
    rfl
  · obtain ⟨p, top, rfl, hp, t1, t2, k⟩ := h
    refine ⟨_, (pss_cons (ps_set (i := 2) sc_law_bounds.nd rfl (Or.inl rfl) (pe_op op_add pe_int (pe_call (ok_law_draw T) (hr.mono (by decide)) rfl T.g__law_draw T.F_law_draw.kp T.b_law_draw .nil pass0 (pa_cons (pv 0) (pa_cons (pv 1) pa_nil)))))
      (pss_cons (ps_par (i := 3) (j := 4) (by rfl) sc_law_bounds.nd rfl rfl (by decide) rfl rfl (pa_cons (pe_listRg rfl (by rfl) T.n_list (prg_2 (by rfl) T.n_range pe_int (pe_op op_add (pv 2) pe_int))) (pa_cons (pe_lst pa_nil) pa_nil)) (by rfl))
      (pss_cons (ps_for PassesOwn.never rfl (pi_range1 (by rfl) T.n_range (pa_cons (pe_op op_add pe_int (pe_call (ok_law_draw T) (hr.mono (by decide)) rfl T.g__law_draw T.F_law_draw.kp T.b_law_draw .nil pass0 (pa_cons (pv 0) (pa_cons (pe_callB (call_min2 rfl) (by rfl) T.n_min (by decide +kernel) (pa_cons pe_int (pa_cons (pv 2) pa_nil))) pa_nil)))) pa_nil)) (pg_name (i := 5) sc_law_bounds.nd rfl (Or.inl rfl))
      (pss_one (ps_expr (pe_bm PySem.F.plainAttrs_list PySem.F.slot_list_append PySem.F.type_list_append mt_append (pv 4) (pa_cons (pe_bm PySem.F.plainAttrs_list PySem.F.slot_list_pop PySem.F.type_list_pop mt_popAt (pv 3) (pa_cons (pe_call (ok_law_draw T) (hr.mono (by decide)) rfl T.g__law_draw T.F_law_draw.kp T.b_law_draw .nil pass0 (pa_cons (pv 0) (pa_cons (pe_callB call_len_seq (by rfl) T.n_len PySem.boot_len (pa_cons (pv 3) pa_nil)) pa_nil))) pa_nil)) pa_nil)))))
      (pss_one (ps_ret (pe_disp (pps_cons pe_str (pv 2) (pps_cons pe_str (pe_callB cr_sorted (by rfl) T.n_sorted (by decide +kernel) (pa_cons (pe_lc (own := [("_law_one", 6)]) (g := gName 6) (tt := tYes) (by rfl) sc_law_bounds.nd (pi_list (pv 4)) (blkOk_by (own := [("_law_one", 6)]) (N := ["_law_pool", "_law_top", "_law_most", "_law_menu", "_law_bounds_here", "_law_step", "_law_one"]) (sc := defScope s_law_bounds) (by decide +kernel)) (fun _ _ _ _ _ => pg_name (i := 6) sc_law_bounds.nd rfl (Or.inl rfl)) (fun _ _ _ _ _ => pts_nil) (fun _ _ _ _ _ => (pe_callTy call_int1 (by rfl) T.n_int (by decide +kernel) (pa_cons (pv 6) pa_nil)))) pa_nil)) pps_nil)) (by rfl) (by rfl) (fun z => by cases z) (by decide))))))), ?_⟩
    refine ⟨_, rfl, _, rfl, p, top, rfl, hp, t1, by omega, fun H1 d d0 d1 b1 p1 => ⟨_, _, rfl, rfl, ?_⟩⟩
    obtain ⟨m, hm⟩ : ∃ m, m = 1 + d := ⟨_, rfl⟩
    show gName 2 (V.int (1 + d)) _ _ _
    rw [← hm]
    have m1 : 1 ≤ m := by omega
    have m2 : m ≤ top := by omega
    refine ⟨_, rfl, _, _, rfl, rfl, _, _, rfl, rfl, RgOk.of_le (by omega) (by omega) (by omega) (by omega), fun l hl => ?_⟩
    refine ⟨Nat.zero_le _, fun e he => ⟨_, _, rfl, ?_⟩⟩
    have nel : e ≠ l := fun q => by rw [q, upd_same] at he; cases he
    have he1 : H1 e = none := by rw [upd_ne nel] at he; exact he
    have s2 : Same H1 (upd (upd H1 l (.lst (rgV 1 (m + 1)))) e (.lst [])) := fun b o q => same_new he _ _ (same_new hl _ _ q)
    obtain ⟨x0, y0, q0, _⟩ := id p1
    have nlp : l ≠ p := fun q => by rw [q, q0] at hl; cases hl
    have nep : e ≠ p := fun q => by rw [q, q0] at he1; cases he1
    refine ⟨_, rfl, _, rfl, _, _, rfl, p, _, rfl, p1.mono s2, ?_, ?_, fun H3 d' d0' d1' b3 p3 => ?_⟩
    · split <;> omega
    · split <;> omega
    have hd8 : d' < 8 := by
      have : (if m < 8 then m else 8) ≤ 8 := by split <;> omega
      omega
    have hdm : d' < m := by
      have : (if m < 8 then m else 8) ≤ m := by split <;> omega
      omega
    have f3 : But p H H3 := But.trans b1 (But.trans (Same.but s2) b3)
    refine ⟨_, _, rfl, rfl, _, rfl, by omega, by omega, for_range (lo := 0) (n := (1 + d').toNat) (fun i σ H' => (∃ v : Option V, σ = [some (.ref p), some (.int top), some (.int m), some (.ref l), some (.ref e), v, none]) ∧ But p H H' ∧ PoolAt H' p ∧
      ∃ xs ys : List Int, H' e = some (.lst (xs.map V.int)) ∧ H' l = some (.lst (ys.map V.int)) ∧ xs.length = i ∧ (xs ++ ys).Perm (upTo m))
      ⟨⟨none, rfl⟩, f3, p3, [], upTo m, b3 _ _ nep upd_same, b3 _ _ nlp (by rw [upd_ne nel.symm, upd_same, rgV_upTo]), rfl, List.Perm.refl _⟩ ?_ ?_⟩
    · rintro i σ H' hi ⟨⟨v, rfl⟩, b4, p4, xs, ys, hx, hy, hxl, hpm⟩
      have hlen := hpm.length_eq
      rw [List.length_append, upTo_len] at hlen
      refine ⟨_, rfl, .inl ⟨rfl, _, SqL.of hx⟩, _, rfl, .inl ⟨rfl, _, SqL.of hy⟩, _, rfl, _, rfl, l, _, rfl, .inl (SqL.of hy), p, _, rfl, p4, ?_, ?_, fun H5 j j0 j1 b5 p5 => ?_⟩
      · rw [List.length_map]; omega
      · rw [List.length_map]; omega
      rw [List.length_map] at j1
      obtain ⟨y, hyk⟩ : ∃ y, ys[j.toNat]? = some y := ⟨ys[j.toNat]'(by omega), by simp⟩
      have hx5 := b5 _ _ nep hx
      have hy5 := b5 _ _ nlp hy
      refine ⟨l, _, j, j.toNat, _, rfl, rfl, hy5, by omega, by omega, ?_, at_map hyk, ?_⟩
      · exact PyProof.Rows.seqIndex_at j0 (by rw [List.length_map]; exact j1)
      refine ⟨e, _, _, rfl, rfl, (by rw [upd_ne nel]; exact hx5), (by rw [List.length_map]; exact Nat.lt_of_le_of_lt (show xs.length ≤ 8 by omega) (by decide)), ?_⟩
      obtain ⟨x5, y5, q5, _⟩ := id p5
      refine ⟨⟨_, rfl⟩, fun b o nb q => ?_, ?_, xs ++ [y], ys.eraseIdx j.toNat, ?_, ?_, ?_, (perm_pop hyk).trans hpm⟩
      · have q1 := b5 _ _ nb (b4 _ _ nb q)
        have nbe : b ≠ e := fun z => by rw [z] at q; rw [z] at nb; exact absurd (b1 _ _ nb q) (by rw [he1]; intro h; cases h)
        have nbl : b ≠ l := fun z => by rw [z] at q; rw [z] at nb; exact absurd (b1 _ _ nb q) (by rw [hl]; intro h; cases h)
        rw [upd_ne nbe, upd_ne nbl]
        exact q1
      · refine ⟨x5, y5, ?_, by assumption⟩
        rw [upd_ne nep.symm, upd_ne nlp.symm]
        exact q5
      · rw [upd_same, List.map_append]; rfl
      · rw [upd_ne nel.symm, upd_same]
        rw [erase_map]
      · rw [List.length_append, hxl]; rfl
    · rintro σ H' ⟨⟨v, rfl⟩, b4, p4, xs, ys, hx, hy, hxl, hpm⟩
      intro q hq
      have nqp : q ≠ p := fun z => by obtain ⟨_, _, h, _⟩ := p4; rw [z, h] at hq; cases hq
      have hq0 : H q = none := But.free b4 nqp hq
      have sq := same_new (o := .dK []) hq
      have xl : xs.length ≤ 8 := by omega
      refine ⟨_, rfl, _, rfl, e, rfl, ⟨_, SqL.of (sq _ _ hx)⟩, fun D hD => ?_⟩
      have nDq : D ≠ q := fun z => by rw [z, upd_same] at hD; cases hD
      have sD := same_new (o := .lst []) hD
      refine lc_list (K := K) (a := e) (xs := xs.map V.int) (fun i H2 => (∀ b o, b ≠ D → upd H' q (.dK []) b = some o → H2 b = some o) ∧ H2 D = some (.lst ((xs.take i).map V.int)))
        ⟨fun b o nb h => by rw [upd_ne nb]; exact h, by rw [upd_same]; rfl⟩ (fun i H2 _ h => SqL.of (h.1 _ _ (ne_of_none (sq _ _ hx) hD) (sq _ _ hx))) ?_ ?_
      · rintro i y H2 hk ⟨s2, hd2⟩
        obtain ⟨z, hz, rfl⟩ := map_at hk
        refine ⟨rfl, _, rfl, .inl ⟨_, rfl, _, hd2, ?_, fun b o nb h => ?_, ?_⟩⟩
        · rw [List.length_map, List.length_take]; exact Nat.lt_of_le_of_lt (show min i xs.length ≤ 8 by omega) (by decide)
        · rw [upd_ne nb]; exact s2 b o nb h
        · rw [upd_same, List.take_add_one, hz, List.map_append]; rfl
      · rintro H2 ⟨s2, hd2⟩
        rw [List.length_map, List.take_length] at hd2
        refine ⟨D, xs, rfl, SqL.of hd2, by omega, fun ns r hperm hsort hr' => ?_⟩
        have q2 := s2 _ _ nDq.symm upd_same
        have nrq : q ≠ r := ne_of_none q2 hr'
        have nrD : D ≠ r := ne_of_none hd2 hr'
        refine ⟨by rw [upd_ne nrq]; exact q2, [(kMost, .int m), (kBounds, .ref r)], rfl, (by show 2 ≤ 15; decide), ?_⟩
        have all : ∀ b o, H' b = some o → upd (upd H2 r (.lst (ns.map V.int))) q (.dK (mergeK [] [(kMost, .int m), (kBounds, .ref r)])) b = some o := fun b o h => by
          have h1 := sq _ _ h
          have nbq : b ≠ q := ne_of_none h hq
          have h2 := s2 _ _ (ne_of_none h1 hD) h1
          rw [upd_ne nbq, upd_ne (ne_of_none h2 hr')]
          exact h2
        refine k _ q m ns (But.trans b4 (Same.but all)) (p4.mono all) ⟨r, upd_same, by rw [upd_ne nrq.symm, upd_same]⟩ hq0 m2 (good_of hpm m1 (by omega) (by omega) xl hperm hsort)
end
end Rt
set_option maxHeartbeats 4000000
namespace PySem.W
open PySem PySem.Spec PySem.Calls PyProof.Rows
section
variable {prog : Program} {w : World} {A : Around} {E : Value → Shared → Prop} {s : Shared} {K : Frag} {x D : Addr} {ox : Obj} {od : Option Obj}
theorem kin_classO {Q : Option Value → Shared → Prop} (hga : findIn K (.ref D) "__getattribute__" = some (some (.builtin "BaseException.__getattribute__"))) (hgt : findIn K (.ref D) "__getattr__" = some none) (hsub : subIn K (.ref D) (.type "BaseException") = some true)
    (hf : findObj K D od "__class__" = some (.bind (.builtin "getset_descriptor.__get__") (.builtin "object.__class__"))) (hm : mroIn K D (.type "object") = some true)
    (X : K.In s.heap) (I : InstAt s.heap x ox D od) (h : Q (some (.ref D)) { s with toks := s.toks + 1 }) : wpAny (model prog w) A (getAttr? (.ref x) "__class__") Q E s := by
  obtain ⟨hp, g, d, t, os⟩ := s
  have L0 := I.type (M := model prog w)
  have L1 := looks_findIn (M := model prog w) X hga
  have L2 := looks_findIn (M := model prog w) X hgt
  have L3 := looks_find (M := model prog w) X I hf
  have sub : Looks (model prog w) hp (isInstance (.ref x) (.type "BaseException")) true := L0.andThen (looks_subIn X hsub)
  have hx0 : (false && onTheHeap (Value.builtin "BaseException.__getattribute__")) = false := rfl
  have hx2 : (Value.builtin "BaseException.__getattribute__" == Value.builtin "object.__getattribute__") = false := by decide +kernel
  have hx1 : (onTheHeap (Value.ref D) && Value.builtin "BaseException.__getattribute__" == Value.builtin "object.__getattribute__") = false := by rw [hx2]; rfl
  unfold getAttr? getAttrBy? getAttrBy
  refine wpAny_bind (wpAny_mkText (wpAny_bind (wpAny_attempt (wpAny_holding (wpAny_bind (L0.at (wpAny_bind (L1.at ?_))))))))
  show wpAny _ _ (if (onTheHeap (Value.ref D) && Value.builtin "BaseException.__getattribute__" == Value.builtin "object.__getattribute__") = true then _ else _) _ _ _
  rw [hx1, if_neg Bool.false_ne_true]
  unfold getAttrByItsOwn hookBefore
  refine wpAny_bind ?_
  rw [if_pos (show onTheHeap (Value.ref D) = true from rfl)]
  refine L2.at (wpAny_bind (wpAny_attempt (wpAny_holding ?_)))
  unfold callGetattribute
  rw [hx0, if_neg Bool.false_ne_true]
  unfold boundAndCalled
  rw [PySem.F.excAttr_ValueError.ga.bind (.ref x)]
  refine wpAny_bind (wpAny_pure ?_)
  show wpAny _ _ (call (.builtin "BaseException.__getattribute__") [.ref x, .str "__class__" t]) _ _ _
  refine wpAny_call (codeAny_call_builtin PySem.F.excAttr_ValueError.ga.plain PySem.F.entry_bexc_ga ?_)
  refine @check_slot (model prog w) _ _ ⟨hp, g, d, t + 1, os⟩ "BaseException.__getattribute__" "BaseException" "__getattribute__" (.ref x) [.str "__class__" t] [] _ (by decide +kernel) (by decide +kernel) sub (PySem.F.args_bexc_ga (.ref x) (.str "__class__" t)) ?_
  unfold Builtin.«object.__getattribute__»
  refine wpAny_bind (wpAny_of_eq (a := ((Value.ref x : Value), [Value.str "__class__" t])) (by first | rfl | (simp only [slotArgs]; rfl)) ?_)
  refine wpAny_bind (wpAny_pure (wpAny_bind (L0.at (wpAny_bind (L3.at ?_)))))
  show wpAny _ _ (holding [Value.builtin "object.__class__"] (call (.builtin "getset_descriptor.__get__") [.builtin "object.__class__", .ref x, .ref D]) >>= ret) _ _ _
  refine wpAny_bind (wpAny_holding (wpAny_call (class_get (s := ⟨hp, g, d, t + 1, os⟩) (ox := ox) (od := od) X I hm ?_)))
  refine wpAny_pure ?_
  show wpAny _ _ (handedOut (.ref D)) _ _ _
  rw [handedOut_of (v := .ref D) rfl]
  first
    | exact wpAny_pure (wpAny_pure h)
    | exact wpAny_pure h
    | exact wpAny_pure (wpAny_bind (wpAny_pure (wpAny_pure h)))
theorem kitx_excO (hga : findIn K (.ref D) "__getattribute__" = some (some (.builtin "BaseException.__getattribute__"))) (hgt : findIn K (.ref D) "__getattr__" = some none) (hsub : subIn K (.ref D) (.type "BaseException") = some true) (hdct : hasDictIn K D = true)
    (hf : findObj K D od "__class__" = some (.bind (.builtin "getset_descriptor.__get__") (.builtin "object.__class__"))) (hm : mroIn K D (.type "object") = some true) :
    KitX K (.ref x) (.ref D) (fun h => InstAt h x ox D od) where
  ty := fun _ _ _ I => I.type
  it := fun _ _ X _ => by
    obtain ⟨cdD, hcD, _⟩ := any_some hdct
    unfold clsIn at hcD
    split at hcD
    · rename_i c' d' cd' sl' ho
      intro A' Q' E' s' k q
      unfold isType loadHead
      exact wpAny_bind (wpAny_loadPart (k _ _ (X _ _ ho)) (wpAny_pure q))
    · cases hcD
  ne := fun h tp dd its n sl X htp => by
    obtain ⟨cdD, hcD, _⟩ := any_some hdct
    refine Bool.eq_false_iff.mpr fun q => ?_
    have e : D = tp := Value.ref.inj (beq_iff_eq.mp q)
    subst e
    unfold clsIn at hcD
    split at hcD
    · rename_i c' d' cd' sl' ho
      have z := (X _ _ ho).symm.trans htp
      cases z
    · cases hcD
  ca := fun X I k => kin_classO hga hgt hsub hf hm X I k
end
end PySem.W
namespace L2
open PySem PySem.Spec PyProof.Rows
/-- isinstance(e, c), e the error that the suite holds, with its own dict -/
theorem call_isEd {X : Cx} {p D dd : Addr} {oe : Obj} {pn : List (Addr × Obj)} (C : ExcC X.K D) (hz : Zc (.ref D) (some dd) oe) (hf : ∃ vs, oe.data = .fields vs) :
    CallR (X.suite p ((p, oe) :: pn)) (.builtin "isinstance") (fun xs H Q => ∃ (c : V) (cv : Value) (b : Bool), xs = [.ref p, c] ∧ (∃ fs, H dd = some (.xd fs)) ∧ (∀ u, RelV c u → u = cv) ∧ PySem.W.kitOne X.K (.ref D) cv = some b ∧ Q (.bl b) H) := by
  intro pins s σ H xs us Q I r h
  obtain ⟨c, cv, b, rfl, ⟨fs, hd⟩, hcv, e, q⟩ := h
  cases r with
  | cons rx rr =>
    cases rr with
    | cons rt rr =>
      cases rr
      cases rx
      have ec := hcv _ rt
      subst ec
      obtain ⟨hget, _⟩ := I.pin (p, oe) (List.mem_append.mpr (.inl List.mem_cons_self))
      obtain ⟨vs, hv⟩ := hf
      have hx : ObjOk X.prog X.w H s.heap dd (.xd fs) := I.hok dd _ hd
      obtain ⟨mA, hns, hr⟩ := hx
      obtain ⟨od, ho, hl⟩ := lookIn_ns hns
      have J : PySem.W.InstAt s.heap p oe D (some od) := by
        refine ⟨hget, hz.1, ?_, ?_⟩
        · unfold PySem.W.notCls; rw [hv] <;> rfl
        · rw [hz.2]; exact ho
      have hfo : PySem.W.findObj X.K D (some od) "__class__" = some (.bind (.builtin "getset_descriptor.__get__") (.builtin "object.__class__")) :=
        PySem.W.findObj_data (by obtain ⟨cd, hc, _⟩ := PySem.W.any_some C.hd; rw [hc]; rfl) C.ha C.hn C.ht
      exact PySem.W.kia_one (PySem.W.kitx_excO C.hg C.hk C.hs C.hd hfo C.hm) I.kIn J e (fun z => nomatch z) fun tk => ⟨.bl b, H, I.kept (t' := tk) fun _ _ z => z, rfl, q⟩
/-- X(e, ..) where what is raised is wished for at the caller's slots -/
def tMakeS (C : Addr) (sp : Sp) (E : L2.St → XK) (t : TA) : TE := fun σ H Q => t σ H fun vs H1 => ∀ x dx, H1 x = none → H1 dx = none → dx ≠ x → sp (.ref x :: vs) (upd (upd H1 dx (.own x)) x (.ins C dx [])) (fun v H2 => v = .non ∧ Q (.ref x) H2) (E σ)
theorem pe_makeS {X : Cx} {CX : CXT} {k : Nat} {f C : Addr} {fd : FuncData} {ps : List Str} {sp : Sp} {E : L2.St → XK} {x : Str} {p pos : Pos} {e : Expr} {es : List Expr} {t : TA} (M : Mk X.K C f) (F : FnOk X.prog X.w X.K X.mg X.base CX k f fd ps sp) (hr : Room (k + 1) X.A) (hg : Gl X x) (hm : X.mg x = some (.ref C)) (hb : Binds X.K fd ps [])
    (hx : ∀ σ, PassesAt CX X σ (E σ)) (ha : PA X (e :: es) t) (hdb : (x == ("__debug__" : Str)) = false := by decide) (he : starEach (e :: es) X.env = (false, eval e X.env) :: starEach es X.env := by rfl) (hpl : (backTo pos (starEach es X.env)).any (·.1) = false := by rfl) :
    PE X (.Call (.Name x p) (e :: es) [] pos) (tMakeS C sp E t) := by
  refine ⟨fun pins s σ H Q I h => ?_⟩
  refine wpAny_Call_Name_kw (ld_glob I hg hm ?_ hdb)
  refine PySem.W.callWith_K (h₀ := X.base) I.ok.mod.kin M.kp (thn (ha.run pos pins s σ H _ I h) fun us s1 ⟨vs, H1, I1, r, q⟩ => ⟨I1.kIn, ?_⟩) he hpl
  have hq := q (s1.heap.objs.size + 1) s1.heap.objs.size (I1.hok.fresh (Nat.le_succ _)) (I1.hok.fresh (Nat.le_refl _)) (Nat.ne_of_lt (Nat.lt_succ_self _))
  have I2 := Inv.made (C := C) I1
  have r2 : Vals (V.ref (s1.heap.objs.size + 1) :: vs) (Value.ref (s1.heap.objs.size + 1) :: us) := .cons rfl r
  have hl : (Value.ref (s1.heap.objs.size + 1) :: us ++ []).length = ps.length := by
    have e := r2.length
    rw [F.len _ _ _ _ hq] at e
    rw [List.append_nil]
    exact e.symm
  have hb2 := hb _ (Value.ref (s1.heap.objs.size + 1) :: us) I2.kIn hl
  rw [List.append_nil] at hb2
  refine wpAny_call (make_map (f := f) I1.kIn M.makes M.init (beq_iff_eq.mp M.fn) (codeAny_mono (F.run _ X.stack _ _ ⟨Value.ref (s1.heap.objs.size + 1) :: us, []⟩ (Value.ref (s1.heap.objs.size + 1) :: us) _ _ (E σ) (hr.make C us [])
    (I2.env0.make C us []) hb2 r2 hq) fun r s' hq' => ?_))
  cases r with
  | error e => exact hx σ pins _ _ e s' I2 hq'
  | ok fl =>
    cases fl with
    | ret u =>
      obtain ⟨v, H', I3, rv, ev, q3⟩ := I2.after hq'
      subst ev
      exact ⟨rv, ⟨V.ref (s1.heap.objs.size + 1), H', I3, rfl, q3⟩⟩
    | next => exact False.elim hq'
    | brk => exact False.elim hq'
    | cont => exact False.elim hq'
end L2
set_option maxHeartbeats 4000000
namespace Rt
open PySem L2
def rIsD (K : PySem.W.Frag) (D q : Addr) (cls : Value) (d : Option Addr) : List V → Hp → VK → Prop := fun xs H Q => ∃ (dd : Addr) (c : V) (cv : Value) (b : Bool), cls = .ref D ∧ d = some dd ∧ xs = [.ref q, c] ∧ (∃ fs, H dd = some (.xd fs)) ∧ (∀ u, RelV c u → u = cv) ∧ PySem.W.kitOne K (.ref D) cv = some b ∧ Q (.bl b) H
theorem call_isD {X : Cx} {q D : Addr} {cls : Value} {d : Option Addr} {oe : Obj} {pn : List (Addr × Obj)} (C : ExcC X.K D) (hz : Zc cls d oe) (hf : ∃ vs, oe.data = .fields vs) : CallR (X.suite q ((q, oe) :: pn)) (.builtin "isinstance") (rIsD X.K D q cls d) := by
  intro pins s σ H xs us Q I r h
  obtain ⟨dd, c, cv, b, rfl, rfl, h⟩ := h
  exact call_isEd C hz hf pins s σ H xs us Q I r ⟨c, cv, b, h⟩
theorem Cont.ne {H : Hp} {v : V} {o : Option (List V)} {x : Addr} (h : Cont H v o) (hx : H x = none) : v ≠ .ref x := by
  intro e
  subst e
  cases h with
  | dK e => rw [hx] at e; cases e
  | lst e _ => rw [hx] at e; cases e
  | tup e _ => rw [hx] at e; cases e
section
variable {P : Program} {w : World} {K : PySem.W.Frag} {mg : Str → Option Value} {base : Heap} {a : Ad}
def told (w : Str) : List V := [.str w, .bl true]
def sp_law_tried : Sp := fun vs H Q _ => ∃ (mv bv : V) (o : Option (List V)), vs = [mv, bv] ∧ Pl H mv ∧ Cont H bv o ∧
  ((inW mv 1 1000 = false ∧ ∀ H' p, Same H H' → H' p = some (.lst (told "most")) → Q (.ref p) H') ∨
   (∃ m, mv = .int m ∧ 1 ≤ m ∧ m ≤ 1000 ∧ ¬ OkB o m ∧ ∀ H' p, Same H H' → H' p = some (.lst (told "bounds")) → Q (.ref p) H') ∨
   (∃ m ns, mv = .int m ∧ o = some (ns.map V.int) ∧ Good ns m ∧ ∀ H', Same H H' → Q (.str "taken") H'))
theorem ok_law_tried (T : Txt K mg a) : FnOk P w K mg base CX0 6 a.a_law_tried a.fd_law_tried ["_law_most", "_law_bounds_here"] sp_law_tried := by
  refine T.F_law_tried.ok sc_law_tried (fun vs H Q E h => ?_) (fun cdv A outer s H vs Q E hr h => ?_)
  · obtain ⟨mv, bv, o, rfl, _⟩ := h
    rfl
  · obtain ⟨mv, bv, o, rfl, hm, hb, h⟩ := h
    refine ⟨_, (pss_cons (ps_try_as (i := 2) (tb := fun W => tDrop (tMakeS a.C_Steps (sp_Steps_init a.C_Steps a.C_BadSteps) (WE W) (tCons (tVar 0) (tCons (tVar 1) tNil))))
        (ts := fun q cls d => tRet (tLst (tCons (tBy_part a.C_BadSteps q cls d (tVar 2)) (tCons (tCB (rIsD K a.C_BadSteps q cls d) (tCons (tVar 2) (tCons (tC (.ref a.C_RoomError)) tNil))) tNil)))) (Wout := fun _ _ _ _ => False)
        rfl rfl sc_law_tried.nd rfl rfl ⟨rfl, by decide, Or.inl T.e_BadSteps.gC⟩ takes0
        (fun W pn xe tk _ => pss_one (ps_expr (by exact (pe_makeS T.mk_Steps (ok_Steps_init T) (hr.mono (by decide)) rfl T.g_Steps T.b_Steps_init (fun σ => passAt tk σ) (pa_cons (pv 0) (pa_cons (pv 1) pa_nil))))))
        (fun q oe cls d pn hz hf => pss_one (ps_ret (by exact (pe_lst (pa_cons (pe_by_part T.e_BadSteps hz hf (pv 2)) (pa_cons (pe_callB (call_isD T.x_BadSteps hz hf) (by rfl) T.n_isinstance (by decide +kernel) (pa_cons (pv 2) (pa_cons (pe_glob rfl T.g_RoomError rfl) pa_nil))) pa_nil)))))))
      (pss_one (ps_ret pe_str))), ?_⟩
    refine ⟨_, rfl, _, rfl, fun x dx nx ndx nex => ?_⟩
    have s0 : Same H (upd (upd H dx (.own x)) x (.ins a.C_Steps dx [])) := fun b u e => by
      rw [upd_ne (ne_of_none e nx), upd_ne (ne_of_none e ndx)]
      exact e
    have suite : ∀ (wd : Str) (H1 : Hp) (d q : Addr), Same H H1 → H1 d = none → (∀ H' p, Same H H' → H' p = some (.lst (told wd)) → Q (.ref p) H') →
        (tRet (tLst (tCons (tBy_part a.C_BadSteps q (.ref a.C_BadSteps) (some d) (tVar 2)) (tCons (tCB (rIsD K a.C_BadSteps q (.ref a.C_BadSteps) (some d)) (tCons (tVar 2) (tCons (tC (.ref a.C_RoomError)) tNil))) tNil)))) { nx := fun _ _ => False, rt := Q } [some mv, some bv, some (.ref q)] (upd H1 d (.xd [("part", .str wd)])) := fun wd H1 d q s1 hd k => by
      refine ⟨_, rfl, rfl, rfl, d, _, rfl, upd_same, _, rfl, d, _, _, true, rfl, rfl, rfl, ⟨_, upd_same⟩, fun u h => h, T.is_BadSteps_RoomError, (by show 2 ≤ sizeLine; decide), fun l hl => ?_⟩
      exact k _ l (s1.trans ((same_new hd).trans (same_new hl))) upd_same
    refine ⟨x, dx, mv, bv, o, rfl, upd_same, hm.mono s0, hb.mono s0, hb.ne nx, ?_⟩
    rcases h with ⟨c, k⟩ | ⟨m, rfl, m1, m2, nok, k⟩ | ⟨m, ns, rfl, rfl, g, k⟩
    · refine .inl ⟨c, fun d hd => ⟨true, T.e_BadSteps.te, fun _ q hq => ?_, fun z => by cases z⟩⟩
      exact suite "most" _ d q s0 hd k
    · refine .inr (.inl ⟨m, rfl, m1, m2, nok, fun H' d s' hd => ⟨true, T.e_BadSteps.te, fun _ q hq => ?_, fun z => by cases z⟩⟩)
      exact suite "bounds" _ d q (s0.trans s') hd k
    · refine .inr (.inr ⟨m, ns, rfl, rfl, g, fun H' b' st => ⟨rfl, ?_⟩⟩)
      exact k _ (fun b u e => b' b u (ne_of_none e nx) (s0 _ _ e))
end
end Rt
set_option maxHeartbeats 8000000
namespace Rt
open PySem L2
/-! ### values that bounds cannot be -/
def Bad (H : Hp) (m : Int) (v : V) : Prop := ∃ o, Cont H v o ∧ ¬ OkB o m
theorem Bad.mono {H H' : Hp} {m : Int} {v : V} (h : Bad H m v) (s : Same H H') : Bad H' m v := by
  obtain ⟨o, c, n⟩ := h
  exact ⟨o, c.mono s, n⟩
theorem ok_none {m : Int} : ¬ OkB none m := fun ⟨_, e, _⟩ => by cases e
theorem ints_inj {ns ms : List Int} (e : ns.map V.int = ms.map V.int) : ns = ms := (List.map_inj_right (fun _ _ h => by injection h)).mp e
theorem ok_ints {ns : List Int} {m : Int} (h : ¬ Good ns m) : ¬ OkB (some (ns.map V.int)) m := fun ⟨ms, e, g⟩ => by
  have e2 := ints_inj (Option.some.inj e)
  subst e2
  exact h g
theorem pl_ints (H : Hp) (ns : List Int) : ∀ x ∈ ns.map V.int, Pl H x := fun x hx => by
  obtain ⟨z, _, rfl⟩ := List.mem_map.mp hx
  exact .int z
theorem bad_ints {H : Hp} {p : Addr} {xs : List V} {ns : List Int} {m : Int} (q : H p = some (.lst xs)) (e : xs = ns.map V.int) (h : ¬ Good ns m) : Bad H m (.ref p) := by
  subst e
  exact ⟨_, .lst q (pl_ints H ns), ok_ints h⟩
theorem bad_mem {H : Hp} {p : Addr} {xs : List V} {m : Int} (q : H p = some (.lst xs)) (hp : ∀ x ∈ xs, Pl H x) {x : V} (hx : x ∈ xs) (hn : ∀ z, x ≠ .int z) : Bad H m (.ref p) :=
  ⟨_, .lst q hp, fun ⟨ms, e, _⟩ => by
    have e2 := Option.some.inj e
    rw [e2] at hx
    obtain ⟨z, _, e3⟩ := List.mem_map.mp hx
    exact hn z e3.symm⟩
/-! ### slices -/
theorem cut_from (xs : List V) (k : Nat) (h : k ≤ xs.length) : cutV xs (some (k : Int)) none = xs.drop k := by
  unfold cutV
  rw [HT.sIx_nat, HT.sIx_none, Nat.min_eq_left h, ← List.length_drop, List.take_length]
theorem cut_to (xs : List V) (k : Nat) (h : k ≤ xs.length) : cutV xs none (some (k : Int)) = xs.take k := by
  unfold cutV
  rw [HT.sIx_nat, HT.sIx_none, Nat.min_eq_left h]
  simp
theorem cut_mid (xs : List V) (j k : Nat) (h : k ≤ xs.length) (hj : j ≤ k) : cutV xs (some (j : Int)) (some (k : Int)) = (xs.drop j).take (k - j) := by
  unfold cutV
  rw [HT.sIx_nat, HT.sIx_nat, Nat.min_eq_left h, Nat.min_eq_left (Nat.le_trans hj h)]
theorem cut_last (xs : List V) (h : 1 ≤ xs.length) : cutV xs (some (-1)) none = xs.drop (xs.length - 1) := by
  unfold cutV
  have e : HT.sIx xs.length 0 (some (-1)) = xs.length - 1 := by
    show (if (-1 : Int) < 0 then ((-1 : Int) + (xs.length : Int)).toNat else min (-1 : Int).toNat xs.length) = _
    rw [if_pos (by decide)]
    omega
  rw [e, HT.sIx_none, ← List.length_drop, List.take_length]
theorem small2 {xs ys : List V} (h1 : xs.length ≤ 100) (h2 : ys.length ≤ 100) : xs.length + ys.length ≤ sizeLine := Nat.le_trans (Nat.add_le_add h1 h2) (by decide)
/-! ### lists that are no bounds -/
theorem no_dup {ns : List Int} {m : Int} (h1 : 1 ≤ ns.length) : ¬ Good (ns ++ ns.drop (ns.length - 1)) m := fun g => by
  obtain ⟨z, hz⟩ : ∃ z, ns[ns.length - 1]? = some z := ⟨ns[ns.length - 1], by simp⟩
  have a1 : (ns ++ ns.drop (ns.length - 1))[ns.length - 1]? = some z := by rw [List.getElem?_append_left (by omega)]; exact hz
  have a2 : (ns ++ ns.drop (ns.length - 1))[ns.length]? = some z := by
    rw [List.getElem?_append_right (Nat.le_refl _), Nat.sub_self, List.getElem?_drop]; exact hz
  have := g.lt a1 a2 (by omega)
  omega
theorem no_over {ns : List Int} {m : Int} : ¬ Good (ns ++ [m + 1]) m := fun g => by
  have := g.hi (m + 1) (by simp)
  omega
theorem no_low {ns : List Int} {m z : Int} (h : z < 1) : ¬ Good (z :: ns) m := fun g => by
  have := g.lo z (by simp)
  omega
theorem no_two {ns : List Int} {m x y : Int} (h0 : ns[0]? = some x) (h1 : ns[1]? = some y) (h : y ≤ x) : ¬ Good ns m := fun g => by
  have := g.lt h0 h1 (by omega)
  omega
theorem no_long {ns : List Int} {m : Int} (h : 8 < ns.length) : ¬ Good ns m := fun g => by
  have := g.eight
  omega
theorem no_empty {m : Int} : ¬ Good [] m := fun g => by
  have := g.one
  simp at this
section
variable {P : Program} {w : World} {K : PySem.W.Frag} {mg : Str → Option Value} {base : Heap} {a : Ad}
theorem dp_told (K : PySem.W.Frag) (H : Hp) (wd : Str) : DpAll K H (told wd) [PyData.str wd, PyData.bool true] := .cons (.str wd) (.cons (.bl true) .nil)
theorem rne_told {H : Hp} {p q : Addr} {wd : Str} {Q : VK} (hs : SeqAt.shaped (.list [PyData.str wd, PyData.bool true]) = true) (he : PyData.eqv (.list [PyData.str wd, PyData.bool true]) (.list [PyData.str wd, PyData.bool true]) = true) (h1 : H p = some (.lst (told wd))) (h2 : H q = some (.lst (told wd))) (h : Q (.bl false) H) : rNeD K (.ref p) (.ref q) H Q := by
  refine ⟨_, _, .lst (SqL.of h1) (dp_told K H wd), .lst (SqL.of h2) (dp_told K H wd), hs, hs, ?_⟩
  rw [he]
  exact h
def sp_law (K : PySem.W.Frag) : Sp := fun vs H Q _ => ∃ (s : Addr) (ns : List Int), vs = [.ref s] ∧ SqL K H s (ns.map V.int) ∧ ns.length ≤ 63 ∧ ∀ H', Q (.bl true) H'
theorem ok_law (T : Txt K mg a) : FnOk P w K mg base CX0 12 a.a_law a.fd_law ["_law_script"] (sp_law K) := by
  refine T.F_law.ok sc_law (fun vs H Q E h => ?_) (fun cdv A outer s H vs Q E hr h => ?_)
  · obtain ⟨p, ns, rfl, _⟩ := h
    rfl
  · obtain ⟨sc, scr, rfl, hs, h63, k⟩ := h
    refine ⟨_, (pss_cons (ps_if (PW.pt (pw_or (pt_cmpR op_ne (pe_call (ok_law_tried T) (hr.mono (by decide)) rfl T.g__law_tried T.F_law_tried.kp T.b_law_tried .nil pass0 (pa_cons pe_int (pa_cons (pe_lst (pa_cons pe_int (pa_cons pe_int (pa_cons pe_int (pa_cons pe_int (pa_cons pe_int (pa_cons pe_int (pa_cons pe_int (pa_cons pe_int pa_nil))))))))) pa_nil))) pe_str (nomark _)) (pw_or1 (pt_cmpR op_ne (pe_call (ok_law_tried T) (hr.mono (by decide)) rfl T.g__law_tried T.F_law_tried.kp T.b_law_tried .nil pass0 (pa_cons pe_int (pa_cons (pe_tup (pa_cons pe_int pa_nil)) pa_nil))) pe_str (nomark _)))))
      (pss_one (ps_ret pe_bl))
      pss_nil)
      (pss_cons (ps_for PassesOwn.never rfl (pi_range1 (by rfl) T.n_range (pa_cons (pe_callB (call_max2 rfl) (by rfl) T.n_max (by decide +kernel) (pa_cons pe_int (pa_cons (pe_callB (call_min2 rfl) (by rfl) T.n_min (by decide +kernel) (pa_cons (pe_callB call_len_seq (by rfl) T.n_len PySem.boot_len (pa_cons (pv 0) pa_nil)) (pa_cons pe_int pa_nil))) pa_nil))) pa_nil)) (pg_name (i := 1) sc_law.nd rfl (Or.inl rfl))
      (pss_cons (ps_set (i := 2) sc_law.nd rfl (Or.inl rfl) (pe_call (ok_law_opened T) (hr.mono (by decide)) rfl T.g__law_opened T.F_law_opened.kp T.b_law_opened .nil pass0 (pa_cons (pv 0) (pa_cons (pv 1) pa_nil))))
        (pss_cons (ps_set (i := 3) sc_law.nd rfl (Or.inl rfl) (pe_call (ok_law_bounds T) (hr.mono (by decide)) rfl T.g__law_bounds T.F_law_bounds.kp T.b_law_bounds .nil pass0 (pa_cons (pv 2) (pa_cons (pe_ix (r := rIxL K) ix_list (pe_lst (pa_cons pe_int (pa_cons pe_int (pa_cons pe_int pa_nil)))) (pe_call (ok_law_draw T) (hr.mono (by decide)) rfl T.g__law_draw T.F_law_draw.kp T.b_law_draw .nil pass0 (pa_cons (pv 2) (pa_cons pe_int pa_nil))) (fun _ _ => rfl)) pa_nil))))
        (pss_cons (ps_par (i := 4) (j := 5) (by rfl) sc_law.nd rfl rfl (by decide) rfl rfl (pa_cons (pe_dget (hu_of hr) (pv 3) pe_str (fun _ _ => rfl)) (pa_cons (pe_dget (hu_of hr) (pv 3) pe_str (fun _ _ => rfl)) pa_nil)) (by rfl))
        (pss_cons (ps_for PassesOwn.never rfl (pi_list (pe_lst (pa_cons pe_non (pa_cons pe_int (pa_cons (pe_un un_neg pe_int) (pa_cons pe_int (pa_cons pe_bl (pa_cons pe_str (pa_cons (pe_lst (pa_cons pe_int pa_nil)) (pa_cons (pe_op op_pow pe_int pe_int) pa_nil)))))))))) (pg_name (i := 6) sc_law.nd rfl (Or.inl rfl))
        (pss_one (ps_if (PW.pt (pw_or (pt_cmpR (op_neD hr.units) (pe_call (ok_law_tried T) (hr.mono (by decide)) rfl T.g__law_tried T.F_law_tried.kp T.b_law_tried .nil pass0 (pa_cons (pv 6) (pa_cons (pv 5) pa_nil))) (pe_lst (pa_cons pe_str (pa_cons pe_bl pa_nil))) (nomark _)) (pw_or1 (pt_cmpR (op_neD hr.units) (pe_call (ok_law_tried T) (hr.mono (by decide)) rfl T.g__law_tried T.F_law_tried.kp T.b_law_tried .nil pass0 (pa_cons (pv 6) (pa_cons pe_non pa_nil))) (pe_lst (pa_cons pe_str (pa_cons pe_bl pa_nil))) (nomark _)))))
          (pss_one (ps_ret pe_bl))
          pss_nil)))
        (pss_cons (ps_set (i := 7) sc_law.nd rfl (Or.inl rfl) (pe_lst (pa_cons pe_non (pa_cons pe_int (pa_cons pe_str (pa_cons (pe_lst pa_nil) (pa_cons (pe_tup pa_nil) (pa_cons (pe_disp (pps_cons pe_int pe_int pps_nil) (by rfl) (by rfl) (fun z => by cases z) (by decide)) (pa_cons (pe_op op_cat (pv 5) (pe_slice sl_list (pv 5) (po_some (pe_un un_neg pe_int)) po_none)) (pa_cons (pe_op op_cat (pv 5) (pe_lst (pa_cons (pe_op op_add (pv 4) pe_int) pa_nil))) (pa_cons (pe_op op_cat (pe_lst (pa_cons pe_int pa_nil)) (pv 5)) pa_nil)))))))))))
        (pss_cons (ps_set (i := 7) sc_law.nd rfl (Or.inl rfl) (pe_op op_cat (pv 7) (pe_lst (pa_cons (pe_op op_cat (pe_lst (pa_cons pe_non pa_nil)) (pv 5)) (pa_cons (pe_op op_cat (pe_lst (pa_cons (pe_un un_neg pe_int) pa_nil)) (pv 5)) (pa_cons (pe_op op_cat (pe_lst (pa_cons pe_bl pa_nil)) (pe_slice sl_list (pv 5) (po_some pe_int) po_none)) (pa_cons (pe_op op_cat (pe_slice sl_list (pv 5) (po_some pe_int) po_none) (pe_lst (pa_cons pe_str pa_nil))) (pa_cons (pe_lst (pa_cons (pv 5) pa_nil)) pa_nil))))))))
        (pss_cons (ps_expr (pe_bm PySem.F.plainAttrs_list PySem.F.slot_list_append PySem.F.type_list_append mt_append (pv 7) (pa_cons (pe_op op_rep (pe_slice sl_list (pv 5) po_none (po_some pe_int)) pe_int) pa_nil)))
        (pss_cons (ps_expr (pe_bm PySem.F.plainAttrs_list PySem.F.slot_list_append PySem.F.type_list_append mt_append (pv 7) (pa_cons (pe_lst (pa_cons pe_int (pa_cons pe_int (pa_cons pe_int (pa_cons pe_int (pa_cons pe_int (pa_cons pe_int (pa_cons pe_int (pa_cons pe_int (pa_cons pe_int pa_nil)))))))))) pa_nil)))
        (pss_cons (ps_if (pt_cmpR op_gt (pe_callB call_len_seq (by rfl) T.n_len PySem.boot_len (pa_cons (pv 5) pa_nil)) pe_int (nomark _))
        (pss_one (ps_set (i := 7) sc_law.nd rfl (Or.inl rfl) (pe_op op_cat (pv 7) (pe_lst (pa_cons (pe_revL (pv 5)) (pa_cons (pe_op op_cat (pe_op op_cat (pe_slice sl_list (pv 5) (po_some pe_int) (po_some pe_int)) (pe_slice sl_list (pv 5) po_none (po_some pe_int))) (pe_slice sl_list (pv 5) (po_some pe_int) po_none)) pa_nil))))))
        pss_nil)
        (pss_cons (ps_for PassesOwn.never rfl (pi_list (pv 7)) (pg_name (i := 6) sc_law.nd rfl (Or.inl rfl))
        (pss_one (ps_if (pt_cmpR (op_neD hr.units) (pe_call (ok_law_tried T) (hr.mono (by decide)) rfl T.g__law_tried T.F_law_tried.kp T.b_law_tried .nil pass0 (pa_cons (pv 4) (pa_cons (pv 6) pa_nil))) (pe_lst (pa_cons pe_str (pa_cons pe_bl pa_nil))) (nomark _))
          (pss_one (ps_ret pe_bl))
          pss_nil)))
        (pss_one (ps_if (pt_cmpR op_ne (pe_call (ok_law_tried T) (hr.mono (by decide)) rfl T.g__law_tried T.F_law_tried.kp T.b_law_tried .nil pass0 (pa_cons (pv 4) (pa_cons (pe_callTy call_tuple_of (by rfl) T.n_tuple (by decide +kernel) (pa_cons (pv 5) pa_nil)) pa_nil))) pe_str (nomark _))
        (pss_one (ps_ret pe_bl))
        pss_nil)))))))))))))
      (pss_one (ps_ret pe_bl)))), ?_⟩
    refine ⟨by show 8 ≤ sizeLine; decide, fun p1 h1 => ?_⟩
    generalize e1 : upd _ p1 _ = H1
    have q1 := (congrFun e1 p1).symm.trans upd_same
    have t1 : Same H H1 := by rw [← e1]; exact same_new h1
    clear e1
    refine ⟨_, _, _, rfl, .int _, .lst q1 (pl_ints H1 [1, 2, 3, 4, 5, 6, 7, 1000]), .inr (.inr ⟨1000, [1, 2, 3, 4, 5, 6, 7, 1000], rfl, rfl, ⟨by decide, by decide, by decide, by decide, by decide, by decide, by decide⟩, fun H2 t2 => ?_⟩)⟩
    refine ⟨rfl, _, rfl, iteNS rfl ?_⟩
    refine ⟨by show 1 ≤ sizeLine; decide, fun p3 h3 => ?_⟩
    generalize e3 : upd _ p3 _ = H3
    have q3 := (congrFun e3 p3).symm.trans upd_same
    have t3 : Same H2 H3 := by rw [← e3]; exact same_new h3
    clear e3
    refine ⟨_, _, _, rfl, .int _, .tup q3 (pl_ints H3 [1]), .inr (.inr ⟨1, [1], rfl, rfl, ⟨by decide, by decide, by decide, by decide, by decide, by decide, by decide⟩, fun H4 t4 => ?_⟩)⟩
    refine ⟨rfl, _, rfl, iteNS rfl ?_⟩
    have s04 : Same H H4 := t1.trans (t2.trans (t3.trans t4))
    refine ⟨_, rfl, sc, _, rfl, .inl (s04.seq hs), _, _, rfl, _, _, rfl, _, rfl, ?_, ?_, for_range (lo := 0) (n := _) (fun i σ H' => (∃ v1 v2 v3 v4 v5 v6 v7 : Option V, σ = [some (.ref sc), v1, v2, v3, v4, v5, v6, v7]) ∧ Same H H')
      ⟨⟨none, none, none, none, none, none, none, rfl⟩, s04⟩ ?_ ?_⟩
    · split <;> split <;> omega
    · rw [List.length_map]; split <;> split <;> omega
    · rintro i σ H0 hi ⟨⟨v1, v2, v3, v4, v5, v6, v7, rfl⟩, s0⟩
      have hi5 : i < 5 := by
        rw [List.length_map] at hi
        split at hi <;> split at hi <;> omega
      refine ⟨_, rfl, _, rfl, sc, _, scr, rfl, s0.seq hs, by omega, by omega, fun H5 p hp s5 pl5 => ?_⟩
      have hp0 : H p = none := Same.free s0 hp
      refine ⟨_, rfl, (by show 3 ≤ sizeLine; decide), fun p6 h6 => ?_⟩
      generalize e6 : upd _ p6 _ = H6
      have q6 := (congrFun e6 p6).symm.trans upd_same
      have t6 : Same H5 H6 := by rw [← e6]; exact same_new h6
      clear e6
      refine ⟨_, rfl, p, 3, rfl, pl5.mono t6, by decide, by decide, fun H7 d d0 d1 b7 pl7 => ?_⟩
      obtain ⟨top, htop, t1', t2'⟩ : ∃ top : Int, atI [V.int 8, V.int 40, V.int 1000] d = some (.int top) ∧ 1 ≤ top ∧ top ≤ 1000 := by
        rcases (show d = 0 ∨ d = 1 ∨ d = 2 by omega) with rfl | rfl | rfl
        · exact ⟨8, at_of (j := 0) rfl rfl, by decide, by decide⟩
        · exact ⟨40, at_of (j := 1) rfl rfl, by decide, by decide⟩
        · exact ⟨1000, at_of (j := 2) rfl rfl, by decide, by decide⟩
      have np6 : p6 ≠ p := fun z => by
        obtain ⟨_, _, e, _⟩ := pl5
        rw [z, e] at h6
        cases h6
      refine ⟨p6, _, d, _, rfl, rfl, SqL.of (b7 _ _ np6 q6), htop, ?_⟩
      refine ⟨p, top, rfl, pl7, t1', t2', fun H8 dp m ns b8 pl8 pln hdp hm g => ?_⟩
      have s08 : Same H H8 := fun b o e => b8 b o (ne_of_none e hp0) (b7 b o (ne_of_none e hp0) (t6 _ _ (s5 _ _ (s0 _ _ e))))
      obtain ⟨l, hdl, hl8⟩ := pln
      have g1 : DGet H8 dp (.str "most") (some (.int m)) := by rw [← plan_most m l]; exact DGet.k (k := kMost) hdl
      have g2 : DGet H8 dp (.str "bounds") (some (.ref l)) := by rw [← plan_bounds m l]; exact DGet.k (k := kBounds) hdl
      have m1 := g.most
      have m2 := g.top
      have n1 := g.one
      have n8 := g.eight
      have hlen : (ns.map V.int).length = ns.length := List.length_map _
      have cb : ∀ H', Same H8 H' → Cont H' (.ref l) (some (ns.map V.int)) := fun H' s' => .lst (s' _ _ hl8) (pl_ints H' ns)
      refine ⟨_, rfl, dp, _, rfl, g1, _, rfl, dp, _, rfl, g2, _, _, rfl, ?_⟩
      -- what the greatest room cannot be
      refine ⟨_, rfl, (by show 1 ≤ sizeLine; decide), fun p9 h9 => ?_⟩
      generalize e9 : upd _ p9 _ = H9
      have q9 := (congrFun e9 p9).symm.trans upd_same
      have t9 : Same H8 H9 := by rw [← e9]; exact same_new h9
      clear e9
      refine ⟨_, _, rfl, rfl, ⟨by decide, by decide, by decide⟩, (by show 8 ≤ sizeLine; decide), fun p10 h10 => ?_⟩
      generalize e10 : upd _ p10 _ = H10
      have q10 := (congrFun e10 p10).symm.trans upd_same
      have t10 : Same H9 H10 := by rw [← e10]; exact same_new h10
      clear e10
      have t8_10 : Same H8 H10 := t9.trans t10
      refine ⟨p10, rfl, ⟨_, SqL.of q10⟩, for_list (K := K) (a := p10) (fun _ σ H' => (∃ u6 u7 : Option V, σ = [some (.ref sc), some (.int (0 + (i : Int))), some (.ref p), some (.ref dp), some (.int m), some (.ref l), u6, u7]) ∧ Same H10 H') ⟨⟨_, _, rfl⟩, Same.refl _⟩ (fun _ σ H' _ h => SqL.of (h.2 _ _ q10)) ?_ ?_⟩
      · rintro j y σ H' hk ⟨⟨u6, u7, rfl⟩, s'⟩
        have hy : Pl H10 y ∧ inW y 1 1000 = false := by
          have hm := List.mem_of_getElem? hk
          simp only [List.mem_cons, List.not_mem_nil, or_false] at hm
          rcases hm with rfl | rfl | rfl | rfl | rfl | rfl | rfl | rfl
          · exact ⟨.non, rfl⟩
          · exact ⟨.int _, by decide⟩
          · exact ⟨.int _, by decide⟩
          · exact ⟨.int _, by decide⟩
          · exact ⟨.bl _, rfl⟩
          · exact ⟨.str _, rfl⟩
          · exact ⟨.lst (t10 _ _ q9), rfl⟩
          · exact ⟨.int _, by decide +kernel⟩
        refine ⟨_, rfl, _, rfl, y, _, _, rfl, hy.1.mono s', cb _ (t8_10.trans s'), .inl ⟨hy.2, fun H1' r1 t1 qr1 => ?_⟩⟩
        refine ⟨(by show 2 ≤ sizeLine; decide), fun e1 he1 => rne_told (wd := "most") (by decide +kernel) (by decide +kernel) (same_new he1 _ _ qr1) upd_same ⟨_, rfl, iteF ?_⟩⟩
        have s1' := t1.trans (same_new (o := .lst (told "most")) he1)
        refine ⟨_, rfl, y, _, _, rfl, hy.1.mono (s'.trans s1'), .non, .inl ⟨hy.2, fun H2' r2 t2 qr2 => ?_⟩⟩
        refine ⟨(by show 2 ≤ sizeLine; decide), fun e2 he2 => rne_told (wd := "most") (by decide +kernel) (by decide +kernel) (same_new he2 _ _ qr2) upd_same ⟨_, rfl, iteF ?_⟩⟩
        exact ⟨⟨_, _, rfl⟩, s'.trans (s1'.trans (t2.trans (same_new he2)))⟩
      rintro σ H11 ⟨⟨u6, u7, rfl⟩, t11⟩
      have s8_11 : Same H8 H11 := t8_10.trans t11
      have hl11 := s8_11 _ _ hl8
      -- what the bounds cannot be: the first row
      refine ⟨Nat.zero_le _, fun p12 h12 => ?_⟩
      generalize e12 : upd _ p12 _ = H12
      have q12 := (congrFun e12 p12).symm.trans upd_same
      have t12 : Same H11 H12 := by rw [← e12]; exact same_new h12
      clear e12
      refine ⟨Nat.zero_le _, fun p13 h13 => ?_⟩
      generalize e13 : upd _ p13 _ = H13
      have q13 := (congrFun e13 p13).symm.trans upd_same
      have t13 : Same H12 H13 := by rw [← e13]; exact same_new h13
      clear e13
      intro p14 h14
      refine ⟨upd_same, [((Sum.inl 1 : Key), V.int 1)], rfl, (by show 1 ≤ 15; decide), ?_⟩
      have e14a : upd (upd H13 p14 (.dK [])) p14 (.dK (mergeK [] [((Sum.inl 1 : Key), V.int 1)])) = upd H13 p14 (.dK (mergeK [] [((Sum.inl 1 : Key), V.int 1)])) := funext fun b => by
        by_cases z : b = p14
        · rw [z, upd_same, upd_same]
        · rw [upd_ne z, upd_ne z, upd_ne z]
      rw [e14a]
      generalize e14 : upd _ p14 _ = H14
      have q14 := (congrFun e14 p14).symm.trans upd_same
      have t14 : Same H13 H14 := by rw [← e14]; exact same_new h14
      clear e14
      have hl14 := t14 _ _ (t13 _ _ (t12 _ _ hl11))
      refine ⟨_, rfl, _, rfl, _, rfl, _, rfl, l, _, rfl, SqL.of hl14, fun p15 h15 => ?_⟩
      generalize e15 : upd _ p15 _ = H15
      have q15 := (congrFun e15 p15).symm.trans upd_same
      have t15 : Same H14 H15 := by rw [← e15]; exact same_new h15
      clear e15
      --REST
      have hl15 := t15 _ _ hl14
      refine ⟨l, p15, _, _, rfl, rfl, hl15, q15, ?_, fun p16 h16 => ?_⟩
      · refine small2 ?_ ?_ <;> first | (show 1 ≤ 100; decide) | (rw [hlen]; omega) | (refine Nat.le_trans (cutV_length _ _ _) ?_; rw [hlen]; omega)
      generalize e16 : upd _ p16 _ = H16
      have q16 := (congrFun e16 p16).symm.trans upd_same
      have t16 : Same H15 H16 := by rw [← e16]; exact same_new h16
      clear e16
      have hl16 := t16 _ _ hl15
      refine ⟨_, rfl, _, rfl, _, _, rfl, rfl, (by show 1 ≤ sizeLine; decide), fun p17 h17 => ?_⟩
      generalize e17 : upd _ p17 _ = H17
      have q17 := (congrFun e17 p17).symm.trans upd_same
      have t17 : Same H16 H17 := by rw [← e17]; exact same_new h17
      clear e17
      have hl17 := t17 _ _ hl16
      refine ⟨l, p17, _, _, rfl, rfl, hl17, q17, ?_, fun p18 h18 => ?_⟩
      · refine small2 ?_ ?_ <;> first | (show 1 ≤ 100; decide) | (rw [hlen]; omega) | (refine Nat.le_trans (cutV_length _ _ _) ?_; rw [hlen]; omega)
      generalize e18 : upd _ p18 _ = H18
      have q18 := (congrFun e18 p18).symm.trans upd_same
      have t18 : Same H17 H18 := by rw [← e18]; exact same_new h18
      clear e18
      have hl18 := t18 _ _ hl17
      refine ⟨(by show 1 ≤ sizeLine; decide), fun p19 h19 => ?_⟩
      generalize e19 : upd _ p19 _ = H19
      have q19 := (congrFun e19 p19).symm.trans upd_same
      have t19 : Same H18 H19 := by rw [← e19]; exact same_new h19
      clear e19
      have hl19 := t19 _ _ hl18
      refine ⟨_, rfl, p19, l, _, _, rfl, rfl, q19, hl19, ?_, fun p20 h20 => ?_⟩
      · refine small2 ?_ ?_ <;> first | (show 1 ≤ 100; decide) | (rw [hlen]; omega) | (refine Nat.le_trans (cutV_length _ _ _) ?_; rw [hlen]; omega)
      generalize e20 : upd _ p20 _ = H20
      have q20 := (congrFun e20 p20).symm.trans upd_same
      have t20 : Same H19 H20 := by rw [← e20]; exact same_new h20
      clear e20
      have hl20 := t20 _ _ hl19
      refine ⟨(by show 9 ≤ sizeLine; decide), fun p21 h21 => ?_⟩
      generalize e21 : upd _ p21 _ = H21
      have q21 := (congrFun e21 p21).symm.trans upd_same
      have t21 : Same H20 H21 := by rw [← e21]; exact same_new h21
      clear e21
      have hl21 := t21 _ _ hl20
      -- the second row
      refine ⟨_, rfl, (by show 1 ≤ sizeLine; decide), fun p22 h22 => ?_⟩
      generalize e22 : upd _ p22 _ = H22
      have q22 := (congrFun e22 p22).symm.trans upd_same
      have t22 : Same H21 H22 := by rw [← e22]; exact same_new h22
      clear e22
      have hl22 := t22 _ _ hl21
      refine ⟨_, rfl, p22, l, _, _, rfl, rfl, q22, hl22, ?_, fun p23 h23 => ?_⟩
      · refine small2 ?_ ?_ <;> first | (show 1 ≤ 100; decide) | (rw [hlen]; omega) | (refine Nat.le_trans (cutV_length _ _ _) ?_; rw [hlen]; omega)
      generalize e23 : upd _ p23 _ = H23
      have q23 := (congrFun e23 p23).symm.trans upd_same
      have t23 : Same H22 H23 := by rw [← e23]; exact same_new h23
      clear e23
      have hl23 := t23 _ _ hl22
      refine ⟨_, rfl, (by show 1 ≤ sizeLine; decide), fun p24 h24 => ?_⟩
      generalize e24 : upd _ p24 _ = H24
      have q24 := (congrFun e24 p24).symm.trans upd_same
      have t24 : Same H23 H24 := by rw [← e24]; exact same_new h24
      clear e24
      have hl24 := t24 _ _ hl23
      refine ⟨_, rfl, p24, l, _, _, rfl, rfl, q24, hl24, ?_, fun p25 h25 => ?_⟩
      · refine small2 ?_ ?_ <;> first | (show 1 ≤ 100; decide) | (rw [hlen]; omega) | (refine Nat.le_trans (cutV_length _ _ _) ?_; rw [hlen]; omega)
      generalize e25 : upd _ p25 _ = H25
      have q25 := (congrFun e25 p25).symm.trans upd_same
      have t25 : Same H24 H25 := by rw [← e25]; exact same_new h25
      clear e25
      have hl25 := t25 _ _ hl24
      refine ⟨(by show 1 ≤ sizeLine; decide), fun p26 h26 => ?_⟩
      generalize e26 : upd _ p26 _ = H26
      have q26 := (congrFun e26 p26).symm.trans upd_same
      have t26 : Same H25 H26 := by rw [← e26]; exact same_new h26
      clear e26
      have hl26 := t26 _ _ hl25
      refine ⟨_, rfl, _, rfl, l, _, rfl, SqL.of hl26, fun p27 h27 => ?_⟩
      generalize e27 : upd _ p27 _ = H27
      have q27 := (congrFun e27 p27).symm.trans upd_same
      have t27 : Same H26 H27 := by rw [← e27]; exact same_new h27
      clear e27
      have hl27 := t27 _ _ hl26
      refine ⟨p26, p27, _, _, rfl, rfl, (t27 _ _ q26), q27, ?_, fun p28 h28 => ?_⟩
      · refine small2 ?_ ?_ <;> first | (show 1 ≤ 100; decide) | (rw [hlen]; omega) | (refine Nat.le_trans (cutV_length _ _ _) ?_; rw [hlen]; omega)
      generalize e28 : upd _ p28 _ = H28
      have q28 := (congrFun e28 p28).symm.trans upd_same
      have t28 : Same H27 H28 := by rw [← e28]; exact same_new h28
      clear e28
      have hl28 := t28 _ _ hl27
      refine ⟨_, rfl, _, rfl, l, _, rfl, SqL.of hl28, fun p29 h29 => ?_⟩
      generalize e29 : upd _ p29 _ = H29
      have q29 := (congrFun e29 p29).symm.trans upd_same
      have t29 : Same H28 H29 := by rw [← e29]; exact same_new h29
      clear e29
      have hl29 := t29 _ _ hl28
      refine ⟨(by show 1 ≤ sizeLine; decide), fun p30 h30 => ?_⟩
      generalize e30 : upd _ p30 _ = H30
      have q30 := (congrFun e30 p30).symm.trans upd_same
      have t30 : Same H29 H30 := by rw [← e30]; exact same_new h30
      clear e30
      have hl30 := t30 _ _ hl29
      refine ⟨p29, p30, _, _, rfl, rfl, (t30 _ _ q29), q30, ?_, fun p31 h31 => ?_⟩
      · refine small2 ?_ ?_ <;> first | (show 1 ≤ 100; decide) | (rw [hlen]; omega) | (refine Nat.le_trans (cutV_length _ _ _) ?_; rw [hlen]; omega)
      generalize e31 : upd _ p31 _ = H31
      have q31 := (congrFun e31 p31).symm.trans upd_same
      have t31 : Same H30 H31 := by rw [← e31]; exact same_new h31
      clear e31
      have hl31 := t31 _ _ hl30
      refine ⟨_, rfl, (by show 1 ≤ sizeLine; decide), fun p32 h32 => ?_⟩
      generalize e32 : upd _ p32 _ = H32
      have q32 := (congrFun e32 p32).symm.trans upd_same
      have t32 : Same H31 H32 := by rw [← e32]; exact same_new h32
      clear e32
      have hl32 := t32 _ _ hl31
      refine ⟨(by show 5 ≤ sizeLine; decide), fun p33 h33 => ?_⟩
      generalize e33 : upd _ p33 _ = H33
      have q33 := (congrFun e33 p33).symm.trans upd_same
      have t33 : Same H32 H33 := by rw [← e33]; exact same_new h33
      clear e33
      have hl33 := t33 _ _ hl32
      have S33 : Same H33 H33 := Same.refl _
      have S32 : Same H32 H33 := t33.trans S33
      have S31 : Same H31 H33 := t32.trans S32
      have S30 : Same H30 H33 := t31.trans S31
      have S29 : Same H29 H33 := t30.trans S30
      have S28 : Same H28 H33 := t29.trans S29
      have S27 : Same H27 H33 := t28.trans S28
      have S26 : Same H26 H33 := t27.trans S27
      have S25 : Same H25 H33 := t26.trans S26
      have S24 : Same H24 H33 := t25.trans S25
      have S23 : Same H23 H33 := t24.trans S24
      have S22 : Same H22 H33 := t23.trans S23
      have S21 : Same H21 H33 := t22.trans S22
      have S20 : Same H20 H33 := t21.trans S21
      have S19 : Same H19 H33 := t20.trans S20
      have S18 : Same H18 H33 := t19.trans S19
      have S17 : Same H17 H33 := t18.trans S18
      have S16 : Same H16 H33 := t17.trans S17
      have S15 : Same H15 H33 := t16.trans S16
      have S14 : Same H14 H33 := t15.trans S15
      have S13 : Same H13 H33 := t14.trans S14
      have S12 : Same H12 H33 := t13.trans S13
      have S11 : Same H11 H33 := t12.trans S12
      have B33 : ∀ v ∈ [V.non, .int 5, .str "12", .ref p12, .ref p13, .ref p14, .ref p16, .ref p18, .ref p20] ++ [V.ref p23, .ref p25, .ref p28, .ref p31, .ref p32], Bad H33 m v := by
        intro v hv
        simp only [List.cons_append, List.nil_append, List.mem_cons, List.not_mem_nil, or_false] at hv
        rcases hv with rfl | rfl | rfl | rfl | rfl | rfl | rfl | rfl | rfl | rfl | rfl | rfl | rfl | rfl
        · exact ⟨none, .non, ok_none⟩
        · exact ⟨none, .int _, ok_none⟩
        · exact ⟨none, .str _, ok_none⟩
        · exact (bad_ints (ns := []) q12 rfl no_empty).mono S12
        · exact (show Bad H13 m (.ref p13) from ⟨some [], .tup q13 (fun x hx => by cases hx), ok_ints (ns := []) no_empty⟩).mono S13
        · exact (show Bad H14 m (.ref p14) from ⟨none, .dK q14, ok_none⟩).mono S14
        · refine (bad_ints (ns := ns ++ ns.drop (ns.length - 1)) q16 ?_ (no_dup n1)).mono S16
          rw [List.map_append, List.map_drop, ← hlen, ← cut_last _ (by rw [hlen]; exact n1)]
        · refine (bad_ints (ns := ns ++ [m + 1]) q18 ?_ no_over).mono S18
          rw [List.map_append]; rfl
        · exact (bad_ints (ns := 0 :: ns) q20 rfl (no_low (by decide))).mono S20
        · refine (bad_mem q23 (fun x hx => ?_) (x := .non) (by simp) (fun z h => by cases h)).mono S23
          rcases List.mem_append.mp hx with h | h
          · rw [List.mem_singleton.mp h]; exact .non
          · exact pl_ints _ _ x h
        · exact (bad_ints (ns := (-1) :: ns) q25 rfl (no_low (by decide))).mono S25
        · refine (bad_mem q28 (fun x hx => ?_) (x := .bl true) (by simp) (fun z h => by cases h)).mono S28
          rcases List.mem_append.mp hx with h | h
          · rw [List.mem_singleton.mp h]; exact .bl _
          · have e1 := cut_from (ns.map V.int) 1 (by rw [hlen]; exact n1)
            exact pl_ints _ _ x (List.mem_of_mem_drop (e1 ▸ h))
        · refine (bad_mem q31 (fun x hx => ?_) (x := .str "1") (by simp) (fun z h => by cases h)).mono S31
          rcases List.mem_append.mp hx with h | h
          · have e1 := cut_from (ns.map V.int) 1 (by rw [hlen]; exact n1)
            exact pl_ints _ _ x (List.mem_of_mem_drop (e1 ▸ h))
          · rw [List.mem_singleton.mp h]; exact .str _
        · refine (bad_mem q32 (fun x hx => ?_) (x := .ref l) (by simp) (fun z h => by cases h)).mono S32
          rw [List.mem_singleton.mp hx]; exact .lst hl32
      refine ⟨p21, p33, _, _, rfl, rfl, S21 _ _ q21, q33, (by show 14 ≤ sizeLine; decide), fun p34 h34 => ?_⟩
      generalize e34 : upd _ p34 _ = H34
      have q34 := (congrFun e34 p34).symm.trans upd_same
      have t34 : Same H33 H34 := by rw [← e34]; exact same_new h34
      clear e34
      have hl34 := t34 _ _ hl33
      -- wrong.append, twice
      refine ⟨_, rfl, .inl ⟨rfl, _, SqL.of q34⟩, _, rfl, _, rfl, l, _, rfl, SqL.of hl34, fun p35 h35 => ?_⟩
      generalize e35 : upd _ p35 _ = H35
      have q35 := (congrFun e35 p35).symm.trans upd_same
      have t35 : Same H34 H35 := by rw [← e35]; exact same_new h35
      clear e35
      have hl35 := t35 _ _ hl34
      refine ⟨p35, 2, _, rfl, rfl, q35, by decide, by decide, ?_, fun p36 h36 => ?_⟩
      · refine Nat.le_trans (Nat.mul_le_mul_right _ (cutV_length _ _ _)) ?_; rw [hlen]; exact Nat.le_trans (show ns.length * (2 : Int).toNat ≤ 16 by show ns.length * 2 ≤ 16; omega) (by decide)
      generalize e36 : upd _ p36 _ = H36
      have q36 := (congrFun e36 p36).symm.trans upd_same
      have t36 : Same H35 H36 := by rw [← e36]; exact same_new h36
      clear e36
      have hl36 := t36 _ _ hl35
      have q34_36 := t36 _ _ (t35 _ _ q34)
      refine ⟨p34, _, _, rfl, rfl, q34_36, (by show 14 < sizeLine; decide), ?_⟩
      generalize e37 : upd _ p34 _ = H37
      have q37 := (congrFun e37 p34).symm.trans upd_same
      have t37 : Same H33 H37 := by rw [← e37]; intro b o e; rw [upd_ne (ne_of_none e h34)]; exact t36 _ _ (t35 _ _ (t34 _ _ e))
      have n36 : p36 ≠ p34 := fun z => by rw [z, t35 _ _ q34] at h36; cases h36
      have r36 := ((congrFun e37 p36).symm.trans (upd_ne n36)).trans q36
      have hl37 := t37 _ _ hl33
      refine ⟨_, rfl, .inl ⟨rfl, _, SqL.of q37⟩, (by show 9 ≤ sizeLine; decide), fun p38 h38 => ?_⟩
      generalize e38 : upd _ p38 _ = H38
      have q38 := (congrFun e38 p38).symm.trans upd_same
      have t38 : Same H37 H38 := by rw [← e38]; exact same_new h38
      clear e38
      have hl38 := t38 _ _ hl37
      refine ⟨p34, _, _, rfl, rfl, t38 _ _ q37, (by show 15 < sizeLine; decide), ?_⟩
      generalize e39 : upd _ p34 _ = H39
      have q39 := (congrFun e39 p34).symm.trans upd_same
      have t39 : Same H33 H39 := by rw [← e39]; intro b o e; rw [upd_ne (ne_of_none e h34)]; exact t38 _ _ (t37 _ _ e)
      have n38 : p38 ≠ p34 := fun z => by rw [z, q37] at h38; cases h38
      have r36b := ((congrFun e39 p36).symm.trans (upd_ne n36)).trans (t38 _ _ r36)
      have r38 := ((congrFun e39 p38).symm.trans (upd_ne n38)).trans q38
      have hl39 := t39 _ _ hl33
      have B39 : ∀ v ∈ ([V.non, .int 5, .str "12", .ref p12, .ref p13, .ref p14, .ref p16, .ref p18, .ref p20] ++ [V.ref p23, .ref p25, .ref p28, .ref p31, .ref p32]) ++ [.ref p36] ++ [.ref p38], Bad H39 m v := by
        intro v hv
        rcases List.mem_append.mp hv with hv | hv
        · rcases List.mem_append.mp hv with hv | hv
          · exact (B33 v hv).mono t39
          · rw [List.mem_singleton.mp hv]
            obtain ⟨z, hz⟩ : ∃ z, ns[0]? = some z := ⟨ns[0], by simp⟩
            refine bad_ints (ns := [z, z]) r36b ?_ (no_two (x := z) (y := z) rfl rfl (Int.le_refl z))
            have e1 : cutV (ns.map V.int) none (some 1) = [V.int z] := by
              refine (cut_to (ns.map V.int) 1 (by rw [hlen]; exact n1)).trans ?_
              cases ns with
              | nil => cases hz
              | cons a r => cases hz; rfl
            rw [e1]; rfl
        · rw [List.mem_singleton.mp hv]
          exact bad_ints (ns := [1, 2, 3, 4, 5, 6, 7, 8, 9]) r38 rfl (no_long (by decide))
      have t8_39 : Same H8 H39 := s8_11.trans (S11.trans t39)
      refine ⟨_, rfl, l, _, rfl, .inl (SqL.of hl39), _, _, rfl, rfl, _, rfl, ?_⟩
      by_cases c2 : (1 : Int) < ((ns.map V.int).length : Nat)
      · rw [decide_eq_true c2]
        refine iteT ?_
        have n2 : 2 ≤ ns.length := by rw [hlen] at c2; omega
        obtain ⟨x0, hx0⟩ : ∃ z, ns[0]? = some z := ⟨ns[0], by simp⟩
        obtain ⟨x1, hx1⟩ : ∃ z, ns[1]? = some z := ⟨ns[1], by simp⟩
        have hx01 : x0 < x1 := g.lt hx0 hx1 (by decide)
        refine ⟨_, rfl, _, rfl, l, _, rfl, SqL.of hl39, fun p40 h40 => ?_⟩
        generalize e40 : upd _ p40 _ = H40
        have q40 := (congrFun e40 p40).symm.trans upd_same
        have t40 : Same H39 H40 := by rw [← e40]; exact same_new h40
        clear e40
        have hl40 := t40 _ _ hl39
        refine ⟨_, rfl, _, rfl, _, rfl, l, _, rfl, SqL.of hl40, fun p41 h41 => ?_⟩
        generalize e41 : upd _ p41 _ = H41
        have q41 := (congrFun e41 p41).symm.trans upd_same
        have t41 : Same H40 H41 := by rw [← e41]; exact same_new h41
        clear e41
        have hl41 := t41 _ _ hl40
        refine ⟨_, rfl, _, rfl, l, _, rfl, SqL.of hl41, fun p42 h42 => ?_⟩
        generalize e42 : upd _ p42 _ = H42
        have q42 := (congrFun e42 p42).symm.trans upd_same
        have t42 : Same H41 H42 := by rw [← e42]; exact same_new h42
        clear e42
        have hl42 := t42 _ _ hl41
        refine ⟨p41, p42, _, _, rfl, rfl, t42 _ _ q41, q42, ?_, fun p43 h43 => ?_⟩
        · refine small2 ?_ ?_ <;> (refine Nat.le_trans (cutV_length _ _ _) ?_; rw [hlen]; omega)
        generalize e43 : upd _ p43 _ = H43
        have q43 := (congrFun e43 p43).symm.trans upd_same
        have t43 : Same H42 H43 := by rw [← e43]; exact same_new h43
        clear e43
        have hl43 := t43 _ _ hl42
        refine ⟨_, rfl, _, rfl, l, _, rfl, SqL.of hl43, fun p44 h44 => ?_⟩
        generalize e44 : upd _ p44 _ = H44
        have q44 := (congrFun e44 p44).symm.trans upd_same
        have t44 : Same H43 H44 := by rw [← e44]; exact same_new h44
        clear e44
        have hl44 := t44 _ _ hl43
        refine ⟨p43, p44, _, _, rfl, rfl, t44 _ _ q43, q44, ?_, fun p45 h45 => ?_⟩
        · rw [List.length_append]
          have a1 := cutV_length (ns.map V.int) (some 1) (some 2)
          have a2 := cutV_length (ns.map V.int) none (some 1)
          have a3 := cutV_length (ns.map V.int) (some 2) none
          rw [hlen] at a1 a2 a3
          exact Nat.le_trans (Nat.add_le_add (Nat.add_le_add a1 a2) a3) (Nat.le_trans (show _ ≤ 24 by omega) (by decide))
        generalize e45 : upd _ p45 _ = H45
        have q45 := (congrFun e45 p45).symm.trans upd_same
        have t45 : Same H44 H45 := by rw [← e45]; exact same_new h45
        clear e45
        have hl45 := t45 _ _ hl44
        refine ⟨(by show 2 ≤ sizeLine; decide), fun p46 h46 => ?_⟩
        generalize e46 : upd _ p46 _ = H46
        have q46 := (congrFun e46 p46).symm.trans upd_same
        have t46 : Same H45 H46 := by rw [← e46]; exact same_new h46
        clear e46
        have hl46 := t46 _ _ hl45
        have t39_46 : Same H39 H46 := t40.trans (t41.trans (t42.trans (t43.trans (t44.trans (t45.trans t46)))))
        refine ⟨p34, p46, _, _, rfl, rfl, t39_46 _ _ q39, q46, (by show 18 ≤ sizeLine; decide), fun p47 h47 => ?_⟩
        generalize e47 : upd _ p47 _ = H47
        have q47 := (congrFun e47 p47).symm.trans upd_same
        have t47 : Same H46 H47 := by rw [← e47]; exact same_new h47
        clear e47
        have hl47 := t47 _ _ hl46
        have B47 : ∀ v ∈ (([V.non, .int 5, .str "12", .ref p12, .ref p13, .ref p14, .ref p16, .ref p18, .ref p20] ++ [V.ref p23, .ref p25, .ref p28, .ref p31, .ref p32]) ++ [.ref p36] ++ [.ref p38]) ++ [.ref p40, .ref p45], Bad H47 m v := by
          intro v hv
          rcases List.mem_append.mp hv with hv | hv
          · exact (B39 v hv).mono (t39_46.trans t47)
          · simp only [List.mem_cons, List.not_mem_nil, or_false] at hv
            rcases hv with rfl | rfl
            · refine (bad_ints (ns := ns.reverse) q40 (by rw [List.map_reverse]) ?_).mono (t41.trans (t42.trans (t43.trans (t44.trans (t45.trans (t46.trans t47))))))
              intro g'
              have a0 : ns.reverse[ns.length - 2]? = some x1 := by rw [List.getElem?_reverse (by omega)]; rw [show ns.length - 1 - (ns.length - 2) = 1 by omega]; exact hx1
              have a1 : ns.reverse[ns.length - 1]? = some x0 := by rw [List.getElem?_reverse (by omega)]; rw [show ns.length - 1 - (ns.length - 1) = 0 by omega]; exact hx0
              have := g'.lt a0 a1 (by omega)
              omega
            · refine (bad_ints (ns := x1 :: x0 :: ns.drop 2) q45 ?_ (no_two (x := x1) (y := x0) rfl rfl (by omega))).mono (t46.trans t47)
              have e1 : cutV (ns.map V.int) (some 1) (some 2) = [V.int x1] := by
                refine (cut_mid (ns.map V.int) 1 2 (by rw [hlen]; exact n2) (by decide)).trans ?_
                cases ns with
                | nil => cases hx0
                | cons a r => cases r with
                  | nil => cases hx1
                  | cons b t => cases hx1; rfl
              have e2 : cutV (ns.map V.int) none (some 1) = [V.int x0] := by
                refine (cut_to (ns.map V.int) 1 (by rw [hlen]; exact n1)).trans ?_
                cases ns with
                | nil => cases hx0
                | cons a r => cases hx0; rfl
              have e3 : cutV (ns.map V.int) (some 2) none = (ns.drop 2).map V.int := by
                exact (cut_from (ns.map V.int) 2 (by rw [hlen]; exact n2)).trans (by rw [List.map_drop])
              rw [e1, e2, e3]; rfl
        refine ⟨_, rfl, p47, rfl, ⟨_, SqL.of q47⟩, for_list (K := K) (a := p47) (fun _ σ H' => (∃ u6 : Option V, σ = [some (.ref sc), some (.int (0 + (i : Int))), some (.ref p), some (.ref dp), some (.int m), some (.ref l), u6, some (.ref p47)]) ∧ Same H47 H') ⟨⟨_, rfl⟩, Same.refl _⟩ (fun _ σ H' _ h => SqL.of (h.2 _ _ q47)) ?_ ?_⟩
        · rintro j y σ H' hk ⟨⟨u6, rfl⟩, s'⟩
          obtain ⟨o, co, no⟩ := (B47 y (List.mem_of_getElem? hk)).mono s'
          refine ⟨_, rfl, _, rfl, .int m, y, o, rfl, .int _, co, .inr (.inl ⟨m, rfl, m1, m2, no, fun H1' r1 t1 qr1 => ?_⟩)⟩
          refine ⟨(by show 2 ≤ sizeLine; decide), fun e1 he1 => rne_told (wd := "bounds") (by decide +kernel) (by decide +kernel) (same_new he1 _ _ qr1) upd_same ⟨_, rfl, iteF ?_⟩⟩
          exact ⟨⟨_, rfl⟩, s'.trans (t1.trans (same_new he1))⟩
        rintro σ H50 ⟨⟨u6, rfl⟩, t50⟩
        have hl50 := t50 _ _ hl47
        refine ⟨_, rfl, _, rfl, l, _, rfl, .inl ⟨SqL.of hl50, fun p51 h51 => ?_⟩⟩
        refine ⟨.int m, .ref p51, _, rfl, .int _, .tup upd_same (pl_ints _ ns), .inr (.inr ⟨m, ns, rfl, rfl, g, fun H52 t52 => ?_⟩)⟩
        refine ⟨rfl, _, rfl, iteNS rfl ?_⟩
        exact ⟨⟨_, _, _, _, _, _, _, rfl⟩, s08.trans ((t8_39.trans (t39_46.trans t47)).trans (t50.trans (Same.trans (same_new (o := .tup (ns.map V.int)) h51) t52)))⟩
      · rw [decide_eq_false c2]
        refine iteF ?_
        refine ⟨_, rfl, p34, rfl, ⟨_, SqL.of q39⟩, for_list (K := K) (a := p34) (fun _ σ H' => (∃ u6 : Option V, σ = [some (.ref sc), some (.int (0 + (i : Int))), some (.ref p), some (.ref dp), some (.int m), some (.ref l), u6, some (.ref p34)]) ∧ Same H39 H') ⟨⟨_, rfl⟩, Same.refl _⟩ (fun _ σ H' _ h => SqL.of (h.2 _ _ q39)) ?_ ?_⟩
        · rintro j y σ H' hk ⟨⟨u6, rfl⟩, s'⟩
          obtain ⟨o, co, no⟩ := (B39 y (List.mem_of_getElem? hk)).mono s'
          refine ⟨_, rfl, _, rfl, .int m, y, o, rfl, .int _, co, .inr (.inl ⟨m, rfl, m1, m2, no, fun H1' r1 t1 qr1 => ?_⟩)⟩
          refine ⟨(by show 2 ≤ sizeLine; decide), fun e1 he1 => rne_told (wd := "bounds") (by decide +kernel) (by decide +kernel) (same_new he1 _ _ qr1) upd_same ⟨_, rfl, iteF ?_⟩⟩
          exact ⟨⟨_, rfl⟩, s'.trans (t1.trans (same_new he1))⟩
        rintro σ H50 ⟨⟨u6, rfl⟩, t50⟩
        have hl50 := t50 _ _ hl39
        refine ⟨_, rfl, _, rfl, l, _, rfl, .inl ⟨SqL.of hl50, fun p51 h51 => ?_⟩⟩
        refine ⟨.int m, .ref p51, _, rfl, .int _, .tup upd_same (pl_ints _ ns), .inr (.inr ⟨m, ns, rfl, rfl, g, fun H52 t52 => ?_⟩)⟩
        refine ⟨rfl, _, rfl, iteNS rfl ?_⟩
        exact ⟨⟨_, _, _, _, _, _, _, rfl⟩, s08.trans (t8_39.trans (t50.trans (Same.trans (same_new (o := .tup (ns.map V.int)) h51) t52)))⟩
    · rintro σ H' ⟨_, s'⟩
      exact k _
end
end Rt
set_option maxHeartbeats 8000000
namespace Rt
open PySem L2
theorem exm_self {K : PySem.W.Frag} {S : Addr} (h1 : PySem.W.subIn K (.ref S) (.type "BaseException") = some true) (h2 : PySem.W.isClsIn K S = true) (h3 : PySem.W.typeIn K (.ref S) = some (.type "type")) (h4 : PySem.W.subIn K (.ref S) (.ref S) = some true) :
    PySem.W.exmOne K (.ref S) (.ref S) = some true := by
  have e1 : (PySem.W.subIn K (.ref S) (.type "BaseException") == some true) = true := by rw [h1] <;> rfl
  have e2 : ((PySem.W.clsIn K S).isSome && PySem.W.typeIn K (.ref S) == some (.type "type")) = true := by
    have h2' : (PySem.W.clsIn K S).isSome = true := h2
    rw [h2', h3] <;> rfl
  show (if (PySem.W.subIn K (.ref S) (.type "BaseException") == some true) = true then (if ((PySem.W.clsIn K S).isSome && PySem.W.typeIn K (.ref S) == some (.type "type")) = true then PySem.W.subIn K (.ref S) (.ref S) else none) else none) = some true
  rw [if_pos e1, if_pos e2]
  exact h4
theorem kit_refT {K : PySem.W.Frag} {B R : Addr} (h2 : PySem.W.isClsIn K R = true) (h3 : PySem.W.typeIn K (.ref R) = some (.type "type")) (h4 : PySem.W.subIn K (.ref B) (.ref R) = some true) : PySem.W.kitOne K (.ref B) (.ref R) = some true := by
  have e2 : ((PySem.W.clsIn K R).isSome && PySem.W.typeIn K (.ref R) == some (.type "type")) = true := by
    have h2' : (PySem.W.clsIn K R).isSome = true := h2
    rw [h2', h3] <;> rfl
  unfold PySem.W.kitOne
  by_cases c : (Value.ref B == Value.ref R) = true
  · rw [if_pos c]
  · rw [if_neg c]
    show (if ((PySem.W.clsIn K R).isSome && PySem.W.typeIn K (.ref R) == some (.type "type")) = true then PySem.W.subIn K (.ref B) (.ref R) else none) = some true
    rw [if_pos e2, h4]
theorem kit_refF {K : PySem.W.Frag} {B R : Addr} (h2 : PySem.W.isClsIn K R = true) (h3 : PySem.W.typeIn K (.ref R) = some (.type "type")) (h4 : PySem.W.subIn K (.ref B) (.ref R) = some false) (h5 : PySem.W.subIn K (.ref B) (.ref B) = some true) : PySem.W.kitOne K (.ref B) (.ref R) = some false := by
  have e2 : ((PySem.W.clsIn K R).isSome && PySem.W.typeIn K (.ref R) == some (.type "type")) = true := by
    have h2' : (PySem.W.clsIn K R).isSome = true := h2
    rw [h2', h3] <;> rfl
  unfold PySem.W.kitOne
  by_cases c : (Value.ref B == Value.ref R) = true
  · have e : Value.ref B = Value.ref R := beq_iff_eq.mp c
    rw [← e, h5] at h4
    cases h4
  · rw [if_neg c]
    show (if ((PySem.W.clsIn K R).isSome && PySem.W.typeIn K (.ref R) == some (.type "type")) = true then PySem.W.subIn K (.ref B) (.ref R) else none) = some false
    rw [if_pos e2, h4]

theorem all_mk {l : PySem.W.OpenLaw} {w : World} {K : PySem.W.Frag} {h : Heap} {mg : Str → Option Value} {fa C_Steps C_RoomError C_BadSteps i_BadSteps N_BadSteps f_is_integer f_are_integers f_are_bounds f_Steps_init f_law_opened f_law_draw f_law_bounds f_law_tried f_law : Addr} (X : K.In h) (G : h.Ns mainGlobals mg) (hfa : mg "law" = some (.ref fa))
    {od_is_integer an_is_integer od_are_integers an_are_integers od_are_bounds an_are_bounds od_Steps_init an_Steps_init od_law_opened an_law_opened od_law_draw an_law_draw od_law_bounds an_law_bounds od_law_tried an_law_tried od_law an_law : Option Addr} {sl_is_integer sl_are_integers sl_are_bounds sl_Steps_init sl_law_opened sl_law_draw sl_law_bounds sl_law_tried sl_law : Array (Option Value)} {oc_is_integer kV_is_integer dc_is_integer pm_is_integer cd_is_integer ct_is_integer oc_are_integers kV_are_integers dc_are_integers pm_are_integers cd_are_integers ct_are_integers oc_are_bounds kV_are_bounds dc_are_bounds pm_are_bounds cd_are_bounds ct_are_bounds oc_Steps_init kV_Steps_init dc_Steps_init pm_Steps_init cd_Steps_init ct_Steps_init oc_law_opened kV_law_opened dc_law_opened pm_law_opened cd_law_opened ct_law_opened oc_law_draw kV_law_draw dc_law_draw pm_law_draw cd_law_draw ct_law_draw oc_law_bounds kV_law_bounds dc_law_bounds pm_law_bounds cd_law_bounds ct_law_bounds oc_law_tried kV_law_tried dc_law_tried pm_law_tried cd_law_tried ct_law_tried oc_law kV_law dc_law pm_law cd_law ct_law : Value} {tk_GREATEST_ROOM tk_MOST_BOUNDS : Tok}
    {nm_BadSteps q_BadSteps : Str} {bs_BadSteps sub_BadSteps : List Value} {sn_BadSteps : List Str} {ab_BadSteps : Bool} {col_BadSteps : Option Bool} {dd_BadSteps od_BadSteps an_BadSteps : Option Addr}
    {m0_BadSteps m1_BadSteps m2_BadSteps m3_BadSteps m5_BadSteps : Option Value} {sl_BadSteps : Array (Option Value)} {oc_BadSteps dc_BadSteps pm_BadSteps cd_BadSteps ct_BadSteps : Value}
    (aC_Steps : PySem.W.nsIn K mainGlobals "Steps" = some (some (.ref C_Steps)))
    (aC_RoomError : PySem.W.nsIn K mainGlobals "RoomError" = some (some (.ref C_RoomError)))
    (aC_BadSteps : PySem.W.nsIn K mainGlobals "BadSteps" = some (some (.ref C_BadSteps)))
    (xL_BadSteps : K.lookup C_BadSteps = some (excClassObj nm_BadSteps q_BadSteps C_BadSteps N_BadSteps bs_BadSteps [.ref C_RoomError, .type "ValueError", .type "Exception", .type "BaseException", .type "object"] true sn_BadSteps sub_BadSteps ab_BadSteps col_BadSteps dd_BadSteps m0_BadSteps m1_BadSteps m2_BadSteps m3_BadSteps m5_BadSteps "ValueError.__new__"))
    (sa_BadSteps : PySem.W.findIn K (.ref C_BadSteps) "__setattr__" = some (some (.builtin "object.__setattr__")))
    (ga_BadSteps : PySem.W.findIn K (.ref C_BadSteps) "__getattribute__" = some (some (.builtin "BaseException.__getattribute__")))
    (gg_BadSteps : PySem.W.findIn K (.ref C_BadSteps) "__getattr__" = some none)
    (nb_BadSteps : PySem.W.findIn K (.ref C_BadSteps) "part" = some none)
    (a1_BadSteps : PySem.W.findIn K (.ref C_BadSteps) "__init__" = some (some (.ref i_BadSteps)))
    (t1_BadSteps : PySem.W.typeIn K (.ref i_BadSteps) = some (.type "function"))
    (l1_BadSteps : K.lookup i_BadSteps = some ⟨oc_BadSteps, od_BadSteps, .func (PySem.W.fnOf "__init__" "BadSteps.__init__" (PySem.ErrX_part.iA ⟨9, 17, 9, 21⟩ ⟨9, 23, 9, 27⟩) (PySem.ErrX_part.iB ⟨10, 8, 10, 12⟩ ⟨10, 8, 10, 17⟩ ⟨10, 20, 10, 24⟩ ⟨10, 8, 10, 24⟩) PySem.ErrX_part.iS .none .none dc_BadSteps pm_BadSteps an_BadSteps cd_BadSteps ct_BadSteps), sl_BadSteps⟩)
    (c1_BadSteps : PySem.W.codeIn K cd_BadSteps "BadSteps.__init__" = true)
    (kC_BadSteps : PySem.W.keepIn K (.ref C_BadSteps) = true)
    (eC_BadSteps : PySem.W.subIn K (.ref C_BadSteps) (.type "BaseException") = some true)
    (tC_BadSteps : PySem.W.typeIn K (.ref C_BadSteps) = some (.type "type"))
    (hC_BadSteps : PySem.W.hasDictIn K C_BadSteps = true)
    (iC_BadSteps : PySem.W.isClsIn K C_BadSteps = true)
    (sC_BadSteps : PySem.W.subIn K (.ref C_BadSteps) (.ref C_BadSteps) = some true)
    (ha_BadSteps : PySem.W.findIn K (.ref C_BadSteps) "__class__" = some (some (.builtin "object.__class__")))
    (hn_BadSteps : PySem.W.specialIn K (.builtin "object.__class__") "__get__" = some (some (.builtin "getset_descriptor.__get__")))
    (ht_BadSteps : PySem.W.takesIn K (.builtin "object.__class__") = some true)
    (hm_BadSteps : PySem.W.mroIn K C_BadSteps (.type "object") = some true)
    (su_BadSteps_RoomError : PySem.W.subIn K (.ref C_BadSteps) (.ref C_RoomError) = some true)
    (iC_RoomError : PySem.W.isClsIn K C_RoomError = true)
    (tC_RoomError : PySem.W.typeIn K (.ref C_RoomError) = some (.type "type"))
    (a_is_integer : PySem.W.nsIn K mainGlobals "is_integer" = some (some (.ref f_is_integer)))
    (l_is_integer : K.lookup f_is_integer = some ⟨oc_is_integer, od_is_integer, .func (PySem.W.fnOf "is_integer" "is_integer" (defArgs s_is_integer) (defBody s_is_integer) (defScope s_is_integer) .none kV_is_integer dc_is_integer pm_is_integer an_is_integer cd_is_integer ct_is_integer), sl_is_integer⟩)
    (c_is_integer : PySem.W.codeIn K cd_is_integer "is_integer" = true)
    (k_is_integer : PySem.W.keepIn K (.ref f_is_integer) = true)
    (a_are_integers : PySem.W.nsIn K mainGlobals "are_integers" = some (some (.ref f_are_integers)))
    (l_are_integers : K.lookup f_are_integers = some ⟨oc_are_integers, od_are_integers, .func (PySem.W.fnOf "are_integers" "are_integers" (defArgs s_are_integers) (defBody s_are_integers) (defScope s_are_integers) .none kV_are_integers dc_are_integers pm_are_integers an_are_integers cd_are_integers ct_are_integers), sl_are_integers⟩)
    (c_are_integers : PySem.W.codeIn K cd_are_integers "are_integers" = true)
    (k_are_integers : PySem.W.keepIn K (.ref f_are_integers) = true)
    (a_are_bounds : PySem.W.nsIn K mainGlobals "are_bounds" = some (some (.ref f_are_bounds)))
    (l_are_bounds : K.lookup f_are_bounds = some ⟨oc_are_bounds, od_are_bounds, .func (PySem.W.fnOf "are_bounds" "are_bounds" (defArgs s_are_bounds) (defBody s_are_bounds) (defScope s_are_bounds) .none kV_are_bounds dc_are_bounds pm_are_bounds an_are_bounds cd_are_bounds ct_are_bounds), sl_are_bounds⟩)
    (c_are_bounds : PySem.W.codeIn K cd_are_bounds "are_bounds" = true)
    (k_are_bounds : PySem.W.keepIn K (.ref f_are_bounds) = true)
    (a_Steps_init : PySem.W.findIn K (.ref C_Steps) "__init__" = some (some (.ref f_Steps_init)))
    (i_Steps_init : PySem.W.isFn K (.ref f_Steps_init) = true)
    (l_Steps_init : K.lookup f_Steps_init = some ⟨oc_Steps_init, od_Steps_init, .func (PySem.W.fnOf "__init__" "Steps.__init__" (defArgs s_Steps_init) (defBody s_Steps_init) (defScope s_Steps_init) .none kV_Steps_init dc_Steps_init pm_Steps_init an_Steps_init cd_Steps_init ct_Steps_init), sl_Steps_init⟩)
    (c_Steps_init : PySem.W.codeIn K cd_Steps_init "Steps.__init__" = true)
    (k_Steps_init : PySem.W.keepIn K (.ref f_Steps_init) = true)
    (a_law_opened : PySem.W.nsIn K mainGlobals "_law_opened" = some (some (.ref f_law_opened)))
    (l_law_opened : K.lookup f_law_opened = some ⟨oc_law_opened, od_law_opened, .func (PySem.W.fnOf "_law_opened" "_law_opened" (defArgs s_law_opened) (defBody s_law_opened) (defScope s_law_opened) .none kV_law_opened dc_law_opened pm_law_opened an_law_opened cd_law_opened ct_law_opened), sl_law_opened⟩)
    (c_law_opened : PySem.W.codeIn K cd_law_opened "_law_opened" = true)
    (k_law_opened : PySem.W.keepIn K (.ref f_law_opened) = true)
    (a_law_draw : PySem.W.nsIn K mainGlobals "_law_draw" = some (some (.ref f_law_draw)))
    (l_law_draw : K.lookup f_law_draw = some ⟨oc_law_draw, od_law_draw, .func (PySem.W.fnOf "_law_draw" "_law_draw" (defArgs s_law_draw) (defBody s_law_draw) (defScope s_law_draw) .none kV_law_draw dc_law_draw pm_law_draw an_law_draw cd_law_draw ct_law_draw), sl_law_draw⟩)
    (c_law_draw : PySem.W.codeIn K cd_law_draw "_law_draw" = true)
    (k_law_draw : PySem.W.keepIn K (.ref f_law_draw) = true)
    (a_law_bounds : PySem.W.nsIn K mainGlobals "_law_bounds" = some (some (.ref f_law_bounds)))
    (l_law_bounds : K.lookup f_law_bounds = some ⟨oc_law_bounds, od_law_bounds, .func (PySem.W.fnOf "_law_bounds" "_law_bounds" (defArgs s_law_bounds) (defBody s_law_bounds) (defScope s_law_bounds) .none kV_law_bounds dc_law_bounds pm_law_bounds an_law_bounds cd_law_bounds ct_law_bounds), sl_law_bounds⟩)
    (c_law_bounds : PySem.W.codeIn K cd_law_bounds "_law_bounds" = true)
    (k_law_bounds : PySem.W.keepIn K (.ref f_law_bounds) = true)
    (a_law_tried : PySem.W.nsIn K mainGlobals "_law_tried" = some (some (.ref f_law_tried)))
    (l_law_tried : K.lookup f_law_tried = some ⟨oc_law_tried, od_law_tried, .func (PySem.W.fnOf "_law_tried" "_law_tried" (defArgs s_law_tried) (defBody s_law_tried) (defScope s_law_tried) .none kV_law_tried dc_law_tried pm_law_tried an_law_tried cd_law_tried ct_law_tried), sl_law_tried⟩)
    (c_law_tried : PySem.W.codeIn K cd_law_tried "_law_tried" = true)
    (k_law_tried : PySem.W.keepIn K (.ref f_law_tried) = true)
    (a_law : PySem.W.nsIn K mainGlobals "law" = some (some (.ref f_law)))
    (l_law : K.lookup f_law = some ⟨oc_law, od_law, .func (PySem.W.fnOf "law" "law" (defArgs s_law) (defBody s_law) (defScope s_law) .none kV_law dc_law pm_law an_law cd_law ct_law), sl_law⟩)
    (c_law : PySem.W.codeIn K cd_law "law" = true)
    (k_law : PySem.W.keepIn K (.ref f_law) = true)
    (pg_Steps : PySem.W.plainGet K C_Steps Str.empty = true)
    (hd_Steps : PySem.W.hasDictIn K C_Steps = true)
    (po_Steps : PySem.W.plainOver K C_Steps = true)
    (sa_Steps : PySem.W.findIn K (.ref C_Steps) "__setattr__" = some (some (.builtin "object.__setattr__")))
    (mk_Steps : PySem.W.makesIn K C_Steps = true)
    (kc_Steps : PySem.W.keepIn K (.ref C_Steps) = true)
    (nf_Steps_most : PySem.W.findIn K (.ref C_Steps) "most" = some none)
    (nf_Steps_bounds : PySem.W.findIn K (.ref C_Steps) "_bounds" = some none)
    (cc_GREATEST_ROOM : PySem.W.nsIn K mainGlobals "GREATEST_ROOM" = some (some (.int 1000 tk_GREATEST_ROOM)))
    (cc_MOST_BOUNDS : PySem.W.nsIn K mainGlobals "MOST_BOUNDS" = some (some (.int 8 tk_MOST_BOUNDS)))
    (z_isinstance : PySem.W.nsIn K mainGlobals "isinstance" = some none)
    (z_int : PySem.W.nsIn K mainGlobals "int" = some none)
    (z_bool : PySem.W.nsIn K mainGlobals "bool" = some none)
    (z_list : PySem.W.nsIn K mainGlobals "list" = some none)
    (z_tuple : PySem.W.nsIn K mainGlobals "tuple" = some none)
    (z_len : PySem.W.nsIn K mainGlobals "len" = some none)
    (z_range : PySem.W.nsIn K mainGlobals "range" = some none)
    (z_max : PySem.W.nsIn K mainGlobals "max" = some none)
    (z_min : PySem.W.nsIn K mainGlobals "min" = some none)
    (z_sorted : PySem.W.nsIn K mainGlobals "sorted" = some none)
    : ∃ fd : FuncData, (∀ (s : Shared) (v : Value), BindsTo s fd ⟨[v], []⟩ [("_law_script", v)]) ∧ ∀ base : Heap, K.In base → base.Ns mainGlobals mg → FnOk l.prog w K mg base CX0 12 fa fd ["_law_script"] (sp_law K) := by
  have e := hfa.symm.trans (PySem.W.mg_of X G a_law)
  cases e
  have F_is_integer := fun_mk (st := s_is_integer) l_is_integer c_is_integer k_is_integer
  have b_is_integer := F_is_integer.binds (ps := ["value", "least", "greatest"]) fun _ _ _ _ _ _ us hl => match us, hl with | [_, _, _], _ => rfl
  have F_are_integers := fun_mk (st := s_are_integers) l_are_integers c_are_integers k_are_integers
  have b_are_integers := F_are_integers.binds (ps := ["value", "least", "greatest"]) fun _ _ _ _ _ _ us hl => match us, hl with | [_, _, _], _ => rfl
  have F_are_bounds := fun_mk (st := s_are_bounds) l_are_bounds c_are_bounds k_are_bounds
  have b_are_bounds := F_are_bounds.binds (ps := ["value", "most"]) fun _ _ _ _ _ _ us hl => match us, hl with | [_, _], _ => rfl
  have F_Steps_init := fun_mk (st := s_Steps_init) l_Steps_init c_Steps_init k_Steps_init
  have b_Steps_init := F_Steps_init.binds (ps := ["self", "most", "bounds"]) fun _ _ _ _ _ _ us hl => match us, hl with | [_, _, _], _ => rfl
  have F_law_opened := fun_mk (st := s_law_opened) l_law_opened c_law_opened k_law_opened
  have b_law_opened := F_law_opened.binds (ps := ["_law_script", "_law_k"]) fun _ _ _ _ _ _ us hl => match us, hl with | [_, _], _ => rfl
  have F_law_draw := fun_mk (st := s_law_draw) l_law_draw c_law_draw k_law_draw
  have b_law_draw := F_law_draw.binds (ps := ["_law_pool", "_law_many"]) fun _ _ _ _ _ _ us hl => match us, hl with | [_, _], _ => rfl
  have F_law_bounds := fun_mk (st := s_law_bounds) l_law_bounds c_law_bounds k_law_bounds
  have b_law_bounds := F_law_bounds.binds (ps := ["_law_pool", "_law_top"]) fun _ _ _ _ _ _ us hl => match us, hl with | [_, _], _ => rfl
  have F_law_tried := fun_mk (st := s_law_tried) l_law_tried c_law_tried k_law_tried
  have b_law_tried := F_law_tried.binds (ps := ["_law_most", "_law_bounds_here"]) fun _ _ _ _ _ _ us hl => match us, hl with | [_, _], _ => rfl
  have F_law := fun_mk (st := s_law) l_law c_law k_law
  have b_law := F_law.binds (ps := ["_law_script"]) fun _ _ _ _ _ _ us hl => match us, hl with | [_], _ => rfl
  have T : Txt K mg { C_Steps := C_Steps, C_RoomError := C_RoomError, C_BadSteps := C_BadSteps, i_BadSteps := i_BadSteps, a_is_integer := f_is_integer, fd_is_integer := _, a_are_integers := f_are_integers, fd_are_integers := _, a_are_bounds := f_are_bounds, fd_are_bounds := _, a_Steps_init := f_Steps_init, fd_Steps_init := _, a_law_opened := f_law_opened, fd_law_opened := _, a_law_draw := f_law_draw, fd_law_draw := _, a_law_bounds := f_law_bounds, fd_law_bounds := _, a_law_tried := f_law_tried, fd_law_tried := _, a_law := fa, fd_law := _, tk_GREATEST_ROOM := tk_GREATEST_ROOM, tk_MOST_BOUNDS := tk_MOST_BOUNDS } := { g_RoomError := PySem.W.mg_of X G aC_RoomError, e_BadSteps := { gC := PySem.W.mg_of X G aC_BadSteps, cls := ⟨nm_BadSteps, q_BadSteps, N_BadSteps, bs_BadSteps, _, sn_BadSteps, sub_BadSteps, ab_BadSteps, col_BadSteps, dd_BadSteps, m0_BadSteps, m1_BadSteps, m2_BadSteps, m3_BadSteps, m5_BadSteps, xL_BadSteps, rfl⟩, sa := sa_BadSteps, ga := ga_BadSteps, gg := gg_BadSteps, noN := nb_BadSteps, iC := a1_BadSteps, tC := t1_BadSteps, kC := kC_BadSteps, exC := eC_BadSteps, tyC := tC_BadSteps, hdC := hC_BadSteps, te := exm_self eC_BadSteps iC_BadSteps tC_BadSteps sC_BadSteps, fn := ⟨_, _, _, _, _, _, _, _, _, _, _, _, _, _, l1_BadSteps, c1_BadSteps⟩ }, x_BadSteps := ⟨ga_BadSteps, gg_BadSteps, eC_BadSteps, hC_BadSteps, ha_BadSteps, hn_BadSteps, ht_BadSteps, hm_BadSteps⟩, is_BadSteps_RoomError := kit_refT iC_RoomError tC_RoomError su_BadSteps_RoomError, cl_Steps := ⟨pg_Steps, hd_Steps, po_Steps, sa_Steps⟩, g_Steps := PySem.W.mg_of X G aC_Steps, nf_Steps_most := nf_Steps_most, nf_Steps_bounds := nf_Steps_bounds, mk_Steps := ⟨mk_Steps, a_Steps_init, i_Steps_init, kc_Steps⟩, F_is_integer := F_is_integer, b_is_integer := b_is_integer, g_is_integer := PySem.W.mg_of X G a_is_integer, F_are_integers := F_are_integers, b_are_integers := b_are_integers, g_are_integers := PySem.W.mg_of X G a_are_integers, F_are_bounds := F_are_bounds, b_are_bounds := b_are_bounds, g_are_bounds := PySem.W.mg_of X G a_are_bounds, F_Steps_init := F_Steps_init, b_Steps_init := b_Steps_init, F_law_opened := F_law_opened, b_law_opened := b_law_opened, g__law_opened := PySem.W.mg_of X G a_law_opened, F_law_draw := F_law_draw, b_law_draw := b_law_draw, g__law_draw := PySem.W.mg_of X G a_law_draw, F_law_bounds := F_law_bounds, b_law_bounds := b_law_bounds, g__law_bounds := PySem.W.mg_of X G a_law_bounds, F_law_tried := F_law_tried, b_law_tried := b_law_tried, g__law_tried := PySem.W.mg_of X G a_law_tried, F_law := F_law, b_law := b_law, g_law := PySem.W.mg_of X G a_law, c_GREATEST_ROOM := PySem.W.mg_of X G cc_GREATEST_ROOM, c_MOST_BOUNDS := PySem.W.mg_of X G cc_MOST_BOUNDS, n_isinstance := PySem.W.mg_none_of X G z_isinstance, n_int := PySem.W.mg_none_of X G z_int, n_bool := PySem.W.mg_none_of X G z_bool, n_list := PySem.W.mg_none_of X G z_list, n_tuple := PySem.W.mg_none_of X G z_tuple, n_len := PySem.W.mg_none_of X G z_len, n_range := PySem.W.mg_none_of X G z_range, n_max := PySem.W.mg_none_of X G z_max, n_min := PySem.W.mg_none_of X G z_min, n_sorted := PySem.W.mg_none_of X G z_sorted }
  exact ⟨PySem.W.fnOf "law" "law" (defArgs s_law) (defBody s_law) (defScope s_law) .none kV_law dc_law pm_law an_law cd_law ct_law, fun s v => .of_eq rfl, fun base _ _ => ok_law T⟩
theorem walk {l : PySem.W.OpenLaw} {q : Program} {loose : List Str} {XP : (Str → Option Value) → Heap → Prop} {YP : World → Heap → Prop} {d : DefRec} {K : Params → PySem.W.Frag} (hn : l.most = some 63) (hdf : d.params.defaults = [])
    (hY : ∀ (w : World) (h : Heap), YP w h → (K w.params).In h)
    (F : ∀ (w : World) (mg : Str → Option Value) (fa : Addr) (h : Heap), (K w.params).In h → h.Ns mainGlobals mg → mg d.name = some (.ref fa) →
      ∃ fd : FuncData, (∀ (s : Shared) (u : Value), BindsTo s fd ⟨[u], []⟩ [("_law_script", u)]) ∧ ∀ base : Heap, (K w.params).In base → base.Ns mainGlobals mg → FnOk l.prog w (K w.params) mg base CX0 12 fa fd ["_law_script"] (sp_law (K w.params))) :
    PySem.W.WalkO q loose XP YP l.row.toRowW d [] (fun f vs => PySem.call f vs) :=
  L2.walk_of (n := 63) (k := 12) (x := "_law_script") (CX := fun _ => CX0) (sp := fun w => sp_law (K w.params)) hn (by decide) hdf ⟨rfl, by decide, by decide⟩ hY F (fun _ _ a ns hl _ hS => ⟨a, ns, rfl, hS, hl, fun _ => rfl⟩) fun _ _ _ _ _ z => z
end Rt
open PySem PySem.W PyProof.Rows in
set_option maxRecDepth 100000 in
set_option maxHeartbeats 0 in
theorem PySem.Challenge.cw_roomtold_k03_steps_refused_holds : PySem.Challenge.rw_roomtold_k03_steps_refused.Holds := by
  w_on; o_law; k_head; (case hw => w_witness2)
  k_fill
  refine Rt.walk (l := PySem.Challenge.rw_roomtold_k03_steps_refused) rfl rfl (fun w h Y => PySem.W.kIn_of Y) ?F
  case F =>
    intro w mg fa h KX G hmg
    refine' Rt.all_mk KX G hmg ?aC_Steps ?aC_RoomError ?aC_BadSteps ?xL_BadSteps ?sa_BadSteps ?ga_BadSteps ?gg_BadSteps ?nb_BadSteps ?a1_BadSteps ?t1_BadSteps ?l1_BadSteps ?c1_BadSteps ?kC_BadSteps ?eC_BadSteps ?tC_BadSteps ?hC_BadSteps ?iC_BadSteps ?sC_BadSteps ?ha_BadSteps ?hn_BadSteps ?ht_BadSteps ?hm_BadSteps ?su_BadSteps_RoomError ?iC_RoomError ?tC_RoomError ?a_is_integer ?l_is_integer ?c_is_integer ?k_is_integer ?a_are_integers ?l_are_integers ?c_are_integers ?k_are_integers ?a_are_bounds ?l_are_bounds ?c_are_bounds ?k_are_bounds ?a_Steps_init ?i_Steps_init ?l_Steps_init ?c_Steps_init ?k_Steps_init ?a_law_opened ?l_law_opened ?c_law_opened ?k_law_opened ?a_law_draw ?l_law_draw ?c_law_draw ?k_law_draw ?a_law_bounds ?l_law_bounds ?c_law_bounds ?k_law_bounds ?a_law_tried ?l_law_tried ?c_law_tried ?k_law_tried ?a_law ?l_law ?c_law ?k_law ?pg_Steps ?hd_Steps ?po_Steps ?sa_Steps ?mk_Steps ?kc_Steps ?nf_Steps_most ?nf_Steps_bounds ?cc_GREATEST_ROOM ?cc_MOST_BOUNDS ?z_isinstance ?z_int ?z_bool ?z_list ?z_tuple ?z_len ?z_range ?z_max ?z_min ?z_sorted
    (case aC_Steps => k_is)
    (case aC_RoomError => k_is)
    (case aC_BadSteps => k_is)
    (case xL_BadSteps => k_is)
    (case sa_BadSteps => k_is)
    (case ga_BadSteps => k_is)
    (case gg_BadSteps => k_is)
    (case nb_BadSteps => k_is)
    (case a1_BadSteps => k_is)
    (case t1_BadSteps => k_is)
    (case l1_BadSteps => k_is)
    (case c1_BadSteps => k_is)
    (case kC_BadSteps => k_is)
    (case eC_BadSteps => k_is)
    (case tC_BadSteps => k_is)
    (case hC_BadSteps => k_is)
    (case iC_BadSteps => k_is)
    (case sC_BadSteps => k_is)
    (case ha_BadSteps => k_is)
    (case hn_BadSteps => k_is)
    (case ht_BadSteps => k_is)
    (case hm_BadSteps => k_is)
    (case su_BadSteps_RoomError => k_is)
    (case iC_RoomError => k_is)
    (case tC_RoomError => k_is)
    (case a_is_integer => k_is)
    (case l_is_integer => k_is)
    (case c_is_integer => k_is)
    (case k_is_integer => k_is)
    (case a_are_integers => k_is)
    (case l_are_integers => k_is)
    (case c_are_integers => k_is)
    (case k_are_integers => k_is)
    (case a_are_bounds => k_is)
    (case l_are_bounds => k_is)
    (case c_are_bounds => k_is)
    (case k_are_bounds => k_is)
    (case a_Steps_init => k_is)
    (case i_Steps_init => k_is)
    (case l_Steps_init => k_is)
    (case c_Steps_init => k_is)
    (case k_Steps_init => k_is)
    (case a_law_opened => k_is)
    (case l_law_opened => k_is)
    (case c_law_opened => k_is)
    (case k_law_opened => k_is)
    (case a_law_draw => k_is)
    (case l_law_draw => k_is)
    (case c_law_draw => k_is)
    (case k_law_draw => k_is)
    (case a_law_bounds => k_is)
    (case l_law_bounds => k_is)
    (case c_law_bounds => k_is)
    (case k_law_bounds => k_is)
    (case a_law_tried => k_is)
    (case l_law_tried => k_is)
    (case c_law_tried => k_is)
    (case k_law_tried => k_is)
    (case a_law => k_is)
    (case l_law => k_is)
    (case c_law => k_is)
    (case k_law => k_is)
    (case pg_Steps => k_is)
    (case hd_Steps => k_is)
    (case po_Steps => k_is)
    (case sa_Steps => k_is)
    (case mk_Steps => k_is)
    (case kc_Steps => k_is)
    (case nf_Steps_most => k_is)
    (case nf_Steps_bounds => k_is)
    (case cc_GREATEST_ROOM => k_is)
    (case cc_MOST_BOUNDS => k_is)
    (case z_isinstance => k_is)
    (case z_int => k_is)
    (case z_bool => k_is)
    (case z_list => k_is)
    (case z_tuple => k_is)
    (case z_len => k_is)
    (case z_range => k_is)
    (case z_max => k_is)
    (case z_min => k_is)
    (case z_sorted => k_is)
