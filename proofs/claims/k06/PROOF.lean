import PyProof.Rows.All
import Wide.All
import OpenK.AllK
import Wide.FinOn
import HandS.ForMost
import HandS.IsInst
import HandS.Conv
import HandS.Style
import HandS.Property
import PyProof.InstNe
import PyProof.ReprRoads
import PyProof.ReprLen
import HandS.ForExc
import HandS.ExcIs
import HandS.EndTab
import HandS.CallRecv
import KE.KNestM
import KE.OsGo
import HandS.ExcOwn
import PyProof.EqAt
import PyProof.EqKinds
import PyProof.TupleCall
import KE.KEqSeq
import KE.KSortedM
import PySem.Challenge.RW_roomtold_k06_trees_told
set_option Elab.async false
set_option linter.all false
set_option maxRecDepth 100000
set_option maxHeartbeats 4000000
namespace PySem.W
open PySem PySem.Spec PySem.Calls PyProof.Rows
section
variable {prog : Program} {w : World} {A : Around} {E : Value → Shared → Prop} {s : Shared} {K : Frag} {x y C L f : Addr} {h₀ : Heap} {m : Str → Option Value} {ox : Obj} {od : Option Obj}
theorem ifBound_ne {M : Model} {args : List Value} {Q : Option Value → Shared → Prop} (X : K.In s.heap) (I : InstAt s.heap x ox C od) (hs : findIn K (.ref C) "__ne__" = some (some (.builtin "object.__ne__")))
    (h : wpAny M A (call (.builtin "object.__ne__") (.ref x :: args)) (fun v => Q (some v)) E s) : wpAny M A (callSpecialIfBound? (.ref x) "__ne__" args) Q E s := by
  simp only [callSpecialIfBound?, bindSpecialIfBound?]
  refine wpAny_holding (wpAny_bind (wpAny_bind (wpAny_bind (I.type.here ((looks_findIn X hs).here ?_)))))
  refine wpAny_bind (wpAny_askSetting (wpAny_ite ?_))
  have fin : wpAny M A (call (.builtin "object.__ne__") ([.ref x] ++ args) >>= fun v => pure (some v)) Q E s := wpAny_bind (wpAny_mono h (fun v s' h' => wpAny_pure h') fun _ _ h' => h')
  split
  · exact wpAny_bind (wpAny_of_eq (PySem.F.cmp_object.ne.bind _) (wpAny_pure (by exact fin)))
  · exact wpAny_tryCatch (wpAny_bind (wpAny_of_eq (PySem.F.cmp_object.ne.bind _) (wpAny_pure (by exact fin))))
theorem objNe_own {b : Value} (X : K.In s.heap) (I : InstAt s.heap x ox C od) (he : findIn K (.ref C) "__eq__" = some (some (.ref f))) (hf : isFn K (.ref f) = true) (hu : A.units < cLine) {Q : Fin → Shared → Prop}
    (hcall : wpAny (model prog w) A (call (.ref f) [.ref x, b]) (fun v s' => ∃ r, v = .bool r ∧ Q (.done (.ret (.bool (!r)))) s') E s) :
    wpAny (model prog w) A (Builtin.«object.__ne__» ⟨[.ref x, b], []⟩) Q E s := by
  unfold Builtin.«object.__ne__»
  repeat (first
    | with_reducible refine wpAny_cRoomFor hu ?_
    | (refine wpAny_bind (m := callSpecialIfBound? (.ref x) (Str.ofString "__eq__") [b])
        (ifBound_K X I he hf (wpAny_mono hcall (fun r s' hr => by
          obtain ⟨b, rfl, hq⟩ := hr
          repeat (first | exact hq | exact wpAny_pure hq | exact wpAny_truthy_bool hq | (refine wpAny_bind (m := truthy (.bool _)) (wpAny_truthy_bool ?_)) | wp_step)) fun _ _ e => e)))
    | wp_step)
theorem rc_ne_own {b : Value} {Q : Value → Shared → Prop} (hu : A.units + 1 < cLine) (F : Fr h₀ L s.heap m) (X₀ : K.In h₀) (I : InstAt s.heap x ox C od) (hb : Looks (model prog w) s.heap (typeOf b) (.ref C))
    (hne : findIn K (.ref C) "__ne__" = some (some (.builtin "object.__ne__"))) (he : findIn K (.ref C) "__eq__" = some (some (.ref f))) (hf : isFn K (.ref f) = true) (hm : mroIn K C (.type "object") = some true)
    (h : wpAny (model prog w) A.in1 (call (.ref f) [.ref x, b]) (fun v s' => ∃ r, v = .bool r ∧ Q (.bool (!r)) s') E s) : wpAny (model prog w) A (richCompare .NotEq (.ref x) b) Q E s := by
  have X := X₀.keeps F.keep
  have one : wpAny (model prog w) A (tryCompare (.ref x) (cmpInfo .NotEq).2.1 b) (fun r s' => ∃ v, r = some v ∧ Q v s') E s := by
    show wpAny (model prog w) A (tryCompare (.ref x) "__ne__" b) _ _ _
    simp only [tryCompare]
    refine wpAny_bind (ifBound_ne X I hne (wpAny_call (codeAny_call_builtin PySem.F.cmp_object.ne.plain PySem.F.cmpEntry_ne
      (check_slot PySem.F.cmpKind_ne PySem.F.cmpSplit_ne (I.type.andThen (looks_mroIn X hm)) (PySem.F.cmpArgs_ne _ _)
        (objNe_own (A := A.in1) X I he hf hu (wpAny_mono h (fun v s' hv => ?_) fun _ _ e => e))))))
    obtain ⟨r, rfl, hq⟩ := hv
    first | exact ⟨r, rfl, wpAny_pure ⟨_, rfl, hq⟩⟩ | exact ⟨r, rfl, wpAny_pure (wpAny_pure ⟨_, rfl, hq⟩)⟩ | exact ⟨r, rfl, ⟨_, rfl, hq⟩⟩
  unfold richCompare
  simp only [oneThing_ref]
  refine wpAny_holding (wpAny_bind (wpAny_cRoomFor (Nat.lt_of_succ_lt hu) ?_))
  refine wpAny_bind (I.type.here (wpAny_bind (hb.here ?_)))
  rw [show (Value.ref C != Value.ref C) = false from by simp]
  simp only [Bool.false_eq_true, if_false, Bool.false_and]
  refine wpAny_bind (wpAny_pure ?_)
  simp only [Bool.false_eq_true, if_false]
  refine wpAny_bind (wpAny_mono one (fun r s' z => ?_) fun _ _ e => e)
  obtain ⟨v, rfl, hq⟩ := z
  exact wpAny_pure hq
end
end PySem.W
namespace L2
open PySem PySem.Spec PyProof.Rows
/-! ### own special methods, called by len, by a subscript, by == and != -/
section
variable {X : Cx} {CX : CXT} {k : Nat} {f C : Addr} {fd : FuncData} {ps : List Str} {sp : Sp} {E : XK}
theorem run_at {A : Around} (hA : A.frames = X.A.frames) {pins : List (Addr × Obj)} {σ : L2.St} {H : Hp} {s : Shared} {Q : VK} {us : List Value} {vs : List V} (F : FnOk X.prog X.w X.K X.mg X.base CX k f fd ps sp) (hr : Room k A) (hb : Binds X.K fd ps []) (hx : Passes CX X E)
    (I : Inv X pins σ H s) (r : Vals vs us) (h : sp vs H Q E) : wpAny (model X.prog X.w) A (call (.ref f) us) (EP X pins σ Q) X.xe s := by
  have hl : us.length = ps.length := by rw [← r.length]; exact F.len _ _ _ _ h
  have e0 : Env0 X.prog X.w X.K X.mg X.base A X.stack s H := by
    have e := I.env0
    exact ⟨by rw [hA]; exact e.frames, e.mod, e.bs, e.bsz, e.funs, e.frf, e.hok, e.bare⟩
  have hb2 := hb s us I.kIn (by rw [List.append_nil]; exact hl)
  rw [List.append_nil] at hb2
  refine wpAny_call (codeAny_mono (F.run A X.stack s H ⟨us, []⟩ us vs Q E hr e0 hb2 r h) fun r s' hq => ?_)
  cases r with
  | error e => exact hx pins σ H s e s' I hq
  | ok fl =>
    cases fl with
    | ret u => exact I.after hq
    | next => exact False.elim hq
    | brk => exact False.elim hq
    | cont => exact False.elim hq
def rLenOwn (C : Addr) (sp : Sp) (E : XK) : List V → Hp → VK → Prop := fun xs H Q => ∃ p dx fs, xs = [.ref p] ∧ H p = some (.ins C dx fs) ∧ sp [.ref p] H (fun v H' => ∃ n : Int, v = .int n ∧ 0 ≤ n ∧ n < 2 ^ 63 ∧ Q (.int n) H') E
theorem call_lenOwn (F : FnOk X.prog X.w X.K X.mg X.base CX k f fd ps sp) (hr : Room (k + 1) X.A) (hs : PySem.W.findIn X.K (.ref C) "__len__" = some (some (.ref f))) (hf : PySem.W.isFn X.K (.ref f) = true) (hb : Binds X.K fd ps []) (hx : Passes CX X E) :
    CallR X (.builtin "len") (rLenOwn C sp E) := by
  intro pins s σ H xs us Q I r h
  obtain ⟨p, dx, fs, rfl, hp, h⟩ := h
  obtain ⟨u, rfl, ru⟩ := vals1 r
  cases ru
  obtain ⟨mA, J, _⟩ := ins_get I.hok hp
  obtain ⟨od, J, _⟩ := J.look
  obtain ⟨m, hF⟩ := I.fr
  refine PySem.W.len_K hF I.ok.mod.kin J hs hf (wpAny_mono (run_at (A := X.A.in1) (vs := [.ref p]) rfl F hr.in1 hb hx I (.cons rfl .nil) h) (fun v s' z => ?_) fun _ _ z => z)
  obtain ⟨x, H', I', rx, n, ex, n0, n1, q⟩ := z
  subst ex
  obtain ⟨t, rfl⟩ := rx
  exact ⟨⟨n0, n1⟩, .int n, H', I'.tok _, ⟨_, rfl⟩, q⟩
def rSubOwn (C : Addr) (sp : Sp) (E : XK) : R2 := fun x y H Q => ∃ p dx fs, x = .ref p ∧ H p = some (.ins C dx fs) ∧ sp [.ref p, y] H Q E
theorem pe_subOwn {va vb : Expr} {ta tb : TE} {pos : Pos} (F : FnOk X.prog X.w X.K X.mg X.base CX k f fd ps sp) (hr : Room (k + 1) X.A) (hs : PySem.W.findIn X.K (.ref C) "__getitem__" = some (some (.ref f))) (hf : PySem.W.isFn X.K (.ref f) = true) (hfn : PySem.W.fnIn X.K f = true) (hb : Binds X.K fd ps []) (hx : Passes CX X E)
    (ha : PE X va ta) (hb' : PE X vb tb) (hsl : ∀ o i, subscripted vb true o i = runValue (.builtin "lifetime.subscript" ⟨[o, i], []⟩)) : PE X (.Subscript va vb pos) (tOp (rSubOwn C sp E) ta tb) := by
  refine ⟨fun pins s σ H Q I h => ?_⟩
  refine Subscript_ (binT ha hb' I h fun v u s2 x y H2 I2 rx ry q => ?_)
  obtain ⟨p, dx, fs, rfl, hp, q⟩ := q
  cases rx
  obtain ⟨mA, J, _⟩ := ins_get I2.hok hp
  obtain ⟨od, J, _⟩ := J.look
  obtain ⟨m, hF⟩ := I2.fr
  exact PySem.W.sub_K hF I2.ok.mod.kin J hs hfn hf (run_at (A := X.A.in1) (vs := [.ref p, y]) rfl F hr.in1 hb hx I2 (.cons rfl (.cons ry .nil)) q) (hsl _ _)
def rEqOwn (C : Addr) (sp : Sp) (E : XK) : R2 := fun x y H Q => ∃ p q dx dy fs gs, x = .ref p ∧ y = .ref q ∧ H p = some (.ins C dx fs) ∧ H q = some (.ins C dy gs) ∧ sp [.ref p, .ref q] H (fun v H' => ∃ r : Bool, v = .bl r ∧ Q (.bl r) H') E
def rNeOwn (C : Addr) (sp : Sp) (E : XK) : R2 := fun x y H Q => ∃ p q dx dy fs gs, x = .ref p ∧ y = .ref q ∧ H p = some (.ins C dx fs) ∧ H q = some (.ins C dy gs) ∧ sp [.ref p, .ref q] H (fun v H' => ∃ r : Bool, v = .bl r ∧ Q (.bl (!r)) H') E
theorem op_eqOwn (F : FnOk X.prog X.w X.K X.mg X.base CX k f fd ps sp) (hr : Room k X.A) (hs : PySem.W.findIn X.K (.ref C) "__eq__" = some (some (.ref f))) (hf : PySem.W.isFn X.K (.ref f) = true) (hb : Binds X.K fd ps []) (hx : Passes CX X E) :
    OpR X (compareOp .Eq) (rEqOwn C sp E) := by
  intro pins s σ H x y v u Q I rx ry h
  obtain ⟨p, q, dx, dy, fs, gs, rfl, rfl, hp, hq, h⟩ := h
  cases rx
  cases ry
  obtain ⟨mA, J, _⟩ := ins_get I.hok hp
  obtain ⟨mB, J', _⟩ := ins_get I.hok hq
  obtain ⟨od, J, _⟩ := J.look
  obtain ⟨od', J', _⟩ := J'.look
  obtain ⟨m, hF⟩ := I.fr
  show wpAny (model X.prog X.w) X.A (richCompare .Eq _ _) (EP X pins σ Q) X.xe s
  refine PySem.W.cmp_K (op := .Eq) (tb := .ref C) hr.units0 hF I.ok.mod.kin J J'.type (by simp [PySem.W.notFirst]) hs hf (wpAny_mono (run_at (vs := [.ref p, .ref q]) rfl F hr hb hx I (.cons rfl (.cons rfl .nil)) h) (fun v s' z => ?_) fun _ _ z => z)
  obtain ⟨x, H', I', rx, r, ex, qq⟩ := z
  subst ex
  cases rx
  exact ⟨.bl r, H', I', rfl, qq⟩
theorem op_neOwn (F : FnOk X.prog X.w X.K X.mg X.base CX k f fd ps sp) (hr : Room (k + 1) X.A) (hs : PySem.W.findIn X.K (.ref C) "__eq__" = some (some (.ref f))) (hf : PySem.W.isFn X.K (.ref f) = true)
    (hne : PySem.W.findIn X.K (.ref C) "__ne__" = some (some (.builtin "object.__ne__"))) (hm : PySem.W.mroIn X.K C (.type "object") = some true) (hb : Binds X.K fd ps []) (hx : Passes CX X E) :
    OpR X (compareOp .NotEq) (rNeOwn C sp E) := by
  intro pins s σ H x y v u Q I rx ry h
  obtain ⟨p, q, dx, dy, fs, gs, rfl, rfl, hp, hq, h⟩ := h
  cases rx
  cases ry
  obtain ⟨mA, J, _⟩ := ins_get I.hok hp
  obtain ⟨mB, J', _⟩ := ins_get I.hok hq
  obtain ⟨od, J, _⟩ := J.look
  obtain ⟨od', J', _⟩ := J'.look
  obtain ⟨m, hF⟩ := I.fr
  show wpAny (model X.prog X.w) X.A (richCompare .NotEq _ _) (EP X pins σ Q) X.xe s
  refine PySem.W.rc_ne_own hr.in1.units0 hF I.ok.mod.kin J J'.type hne hs hf hm (wpAny_mono (run_at (A := X.A.in1) (vs := [.ref p, .ref q]) rfl F hr.in1 hb hx I (.cons rfl (.cons rfl .nil)) h) (fun v s' z => ?_) fun _ _ z => z)
  obtain ⟨x, H', I', rx, r, ex, qq⟩ := z
  subst ex
  cases rx
  exact ⟨r, rfl, .bl (!r), H', I', rfl, qq⟩
end
end L2
set_option maxHeartbeats 4000000
namespace L2
open PySem PySem.Spec PyProof.Rows
/-! ### a def that is known to run where no repr is under way: its promise, the law's end -/
structure FnOkG (P : Program) (w : World) (K : PySem.W.Frag) (mg : Str → Option Value) (base : Heap) (CX : CXT) (k : Nat) (f : Addr) (fd : FuncData) (ps : List Str) (sp : Sp) : Prop where
  len : ∀ vs H Q E, sp vs H Q E → vs.length = ps.length
  run : ∀ (A : Around) (outer : List Env) (s : Shared) (H : Hp) (args : Args) (us : List Value) (vs : List V) (Q : VK) (E : XK), A.guards = some [] → Room k A → Env0 P w K mg base A outer s H → BindsTo s fd args (ps.zip us) → Vals vs us → sp vs H Q E →
    codeAny (model P w) A (.call (.ref f) args) (CR CX outer P w H s Q E) s
theorem fn_ofG {CX : CXT} {P : Program} {w : World} {K : PySem.W.Frag} {mg : Str → Option Value} {base : Heap} {k : Nat} {f : Addr} {name qual : Str} {params : Arguments} {body : List Stmt} {scope : Scope} {dV kV doc pm cdv ct oc : Value} {an od : Option Addr}
    {osl : Array (Option Value)} {N ps : List Str} {sp : Sp} (lk : K.lookup f = some ⟨oc, od, .func (PySem.W.fnOf name qual params body scope dV kV doc pm an cdv ct), osl⟩) (hcd : PySem.W.codeIn K cdv qual = true) (S : FnScope N ps scope)
    (len : ∀ vs H Q E, sp vs H Q E → vs.length = ps.length)
    (hbody : ∀ (A : Around) (outer : List Env) (s : Shared) (H : Hp) (vs : List V) (Q : VK) (E : XK), A.guards = some [] → Room k (A.deeper (envOfC qual scope s.heap.objs.size f cdv)) → sp vs H Q E →
      ∃ t, PSs (cxOf CX P w K mg base N qual scope f cdv A outer s H E) body t ∧ t { nx := fun _ H' => Q .non H', rt := Q } (start N vs) H) :
    FnOkG P w K mg base CX (k + 1) f (PySem.W.fnOf name qual params body scope dV kV doc pm an cdv ct) ps sp := by
  refine ⟨len, fun A outer s H args us vs Q E hgd hr e0 hb r hsp => ?_⟩
  have hl := len _ _ _ _ hsp
  have KX : K.In s.heap := e0.mod.kin.keeps fun b o e => (e0.bs b o e).1
  have lim : s.heap.NoLimit := e0.mod.nolimit.keeps fun b o e => (e0.bs b o e).1
  have hkind : ∀ y ∈ ps.zip us, scope.names.lookup y.1 = some .local ∨ (scope.names.lookup y.1 = some .cell ∧ ((cellsFrom (s.heap.objs.size + 1) scope.names []).lookup y.1).isSome = true) := fun ⟨n, v⟩ hy => by
    rcases S.par n (List.of_mem_zip hy).1 with q | q
    · exact .inl q
    · exact .inr ⟨q, PySem.W.cellsFrom_some _ _ _ (.inl q)⟩
  refine codeAny_call_function hr.depth (KX _ _ lk) rfl S.co S.gen rfl (PySem.W.codeRec_of KX hcd) (hb _ _ _ _ ?_)
  refine wpAny_newFunctionEnv_cells S.kind hkind fun env he s1 x => ?_
  subst he
  refine ⟨lim.keeps x.toInCall.keep, codeAny_func ?_⟩
  obtain ⟨t, ht, hq⟩ := hbody A outer s H vs Q E hgd (hr.deeper _) hsp
  have I : Inv (cxOf CX P w K mg base N qual scope f cdv A outer s H E) [] (start N vs) H s1 := inv_start S hr.hd e0 hl r x
  refine wpAny_mono (ht.run [] s1 (start N vs) H _ I hq) (fun fl s' hs => ?_) fun e s' hs => hs
  have fin : ∀ {σ' : L2.St} {H' : Hp} {v : V} {u : Value}, Inv (cxOf CX P w K mg base N qual scope f cdv A outer s H E) [] σ' H' s' → RelV v u → Q v H' → CE outer P w H s Q u s' :=
    fun {σ' H' v u} J rv q => ⟨v, H', J.os, J.bare, J.base, J.hok, rv, q⟩
  cases fl with
  | ret u =>
    obtain ⟨v, σ', H', J, rv, q⟩ := hs
    exact fin J rv q
  | next =>
    obtain ⟨σ', H', J, q⟩ := hs
    exact fin (v := V.non) (u := Value.none) J rfl q
  | brk =>
    obtain ⟨_, _, _, z⟩ := hs
    exact False.elim z
  | cont =>
    obtain ⟨_, _, _, z⟩ := hs
    exact False.elim z
theorem Fun.okG {P : Program} {w : World} {K : PySem.W.Frag} {mg : Str → Option Value} {base : Heap} {x qual : Str} {st : Stmt} {f : Addr} {fd : FuncData} {N ps : List Str} {k : Nat} {sp : Sp} (F : Fun K x qual st f fd) (S : FnScope N ps (defScope st)) (len : ∀ vs H Q E, sp vs H Q E → vs.length = ps.length)
    (hbody : ∀ (cdv : Value) (A : Around) (outer : List Env) (s : Shared) (H : Hp) (vs : List V) (Q : VK) (E : XK), (A.deeper (envOfC qual (defScope st) s.heap.objs.size f cdv)).guards = some [] → Room k (A.deeper (envOfC qual (defScope st) s.heap.objs.size f cdv)) → sp vs H Q E →
      ∃ t, PSs (cxOf CX0 P w K mg base N qual (defScope st) f cdv A outer s H E).nox (defBody st) t ∧ t { nx := fun _ H' => Q .non H', rt := Q } (start N vs) H) : FnOkG P w K mg base CX0 (k + 1) f fd ps sp := by
  obtain ⟨oc, od, kV, doc, pm, an, cdv, ct, osl, rfl, lk, hcd⟩ := F.ex
  refine fn_ofG lk hcd S len fun A outer s H vs Q E hgd hr hsp => ?_
  obtain ⟨t, h, q⟩ := hbody cdv A outer s H vs Q E hgd hr hsp
  exact ⟨t, h.nox, q⟩
theorem law_callG {P : Program} {w : World} {K : PySem.W.Frag} {mg mb : Str → Option Value} {CX : CXT} {k : Nat} {fa a : Addr} {fd : FuncData} {x : Str} {sp : Sp} {s₁ : Shared} {vs : List Value} {ns : List Int}
    (inK : K.In s₁.heap) (gNs : s₁.heap.Ns mainGlobals mg) (blt : s₁.heap.Ns builtinsNs mb) (bAll : ∀ x : Str, x ≠ "__name__" → mb x = bootBuiltins x) (noLim : s₁.heap.NoLimit) (noGen : s₁.gens = #[])
    (atS : s₁.heap.get? a = some { cls := .type "list", data := .seq vs.toArray }) (intsH : IntsAre vs ns) (lenH : ns.length ≤ sizeLine) (roomH : Room k callerA)
    (F : ∀ base : Heap, K.In base → base.Ns mainGlobals mg → FnOkG P w K mg base CX k fa fd [x] sp) (bnd : ∀ (s : Shared) (u : Value), BindsTo s fd ⟨[u], []⟩ [(x, u)])
    (prom : ∀ H : Hp, Only H → SqL K H a (ns.map V.int) → sp [.ref a] H (fun v _ => v = .bl true) fun _ _ _ => False)
    (noOut : ∀ H e s', CX [] H s₁ (fun _ _ _ => False) e s' → False) :
    codeAny (model P w) callerA (.call (.ref fa) ⟨[.ref a], []⟩) (fun r s' => r = .ok (.ret (.bool true)) ∧ OldK s₁.heap s'.heap ∧ s'.os = s₁.os ∧ AllBare s'.gens) s₁ := by
  have valsR := vals_ints intsH
  have lenW := intsH.length
  -- from an abstract heap in which nothing but the script may be tracked
  have heart : ∀ H : Hp, Only H → SqL K H a (ns.map V.int) → HOk P w H s₁.heap → (∀ b, H b ≠ none → b = a) → (H a ≠ none → K.lookup a = none) →
      codeAny (model P w) callerA (.call (.ref fa) ⟨[.ref a], []⟩) (fun r s' => r = .ok (.ret (.bool true)) ∧ OldK s₁.heap s'.heap ∧ s'.os = s₁.os ∧ AllBare s'.gens) s₁ := by
    intro H onl sq okH atA kA
    have ofBase : ∀ {b : Addr} {o : Obj}, s₁.heap.get? b = some o → H b = none → (hidT s₁.heap H).get? b = some o := fun e n => hidT_get e n
    have offA : ∀ {b : Addr} {o : Obj} {es : Array DictEntry} {ep : Nat}, s₁.heap.get? b = some o → o.data = .dict es ep → H b = none := fun {b o es ep} e d => by
      cases q : H b with
      | none => rfl
      | some u =>
        have e' : b = a := atA b (by rw [q]; simp)
        subst e'
        rw [atS] at e; cases e
        have d' : Data.seq vs.toArray _ = Data.dict es ep := d
        cases d'
    have keepNs : ∀ {b : Addr} {m : Str → Option Value}, s₁.heap.Ns b m → (hidT s₁.heap H).Ns b m := fun {b m} ⟨o, es, ep, e, d, r⟩ => ⟨o, es, ep, ofBase e (offA e d), d, r⟩
    have inB : K.In (hidT s₁.heap H) := fun b o e => ofBase (inK b o e) (by
      cases q : H b with
      | none => rfl
      | some u =>
        have e' : b = a := atA b (by rw [q]; simp)
        subst e'
        rw [kA (by rw [q]; simp)] at e; cases e)
    have modB : Mod K mg (hidT s₁.heap H) := ⟨inB, keepNs gNs, ⟨mb, keepNs blt, bAll⟩, let ⟨mc, h1, h2⟩ := noLim; ⟨mc, keepNs h1, h2⟩⟩
    have start0 : Env0 P w K mg (hidT s₁.heap H) callerA [] s₁ H := ⟨rfl, modB, fun b o e => of_hidT e, Nat.le_of_eq (hidT_size _ _), trivial, fun b blt => absurd (show b ∈ ([] : List Addr) from blt) (by simp), okH, .of_eq noGen⟩
    refine codeAny_mono ((F _ inB (keepNs gNs)).run callerA [] s₁ H ⟨[.ref a], []⟩ [.ref a] [.ref a] _ _ rfl roomH start0 (bnd s₁ (.ref a)) (.cons rfl .nil) (prom H onl sq)) fun r s' h => ?_
    cases r with
    | error e => exact (noOut H e s' h).elim
    | ok fl =>
      cases fl with
      | next => exact False.elim h
      | brk => exact False.elim h
      | cont => exact False.elim h
      | ret u =>
        obtain ⟨v, H', os, bare, un, hok', r', q⟩ := h
        have q' : v = .bl true := q
        subst q'
        obtain rfl : u = Value.bool true := r'
        refine ⟨rfl, OldK.of_keep fun b o e => ?_, os, bare⟩
        cases q : H b with
        | none => exact un.keep b o e q (by intro z; exact absurd (show b ∈ ([] : List Addr) from z) (by simp)) (by simp)
        | some u =>
          rcases onl b with z | ⟨ob, xs, z⟩
          · rw [q] at z; cases z
          · have z2 := un.frzs b ob _ z
            obtain ⟨e1, _⟩ := okH b _ z
            obtain ⟨e2, _⟩ := hok' b _ z2
            rw [e] at e1; cases e1
            exact e2
  cases hk : K.lookup a with
  | some o =>
    -- the script is one of the module's own objects
    have e := inK a o hk
    rw [atS] at e
    cases e
    refine heart (fun _ => none) (fun _ => .inl rfl) (.inr ⟨_, vs.toArray, _, hk, rfl, rfl, rfl, by rw [List.size_toArray, lenW]; exact lenH, by simpa using valsR⟩) (fun b u z => by have z' : (none : Option HO) = some u := z; cases z') (fun b z => absurd rfl z) fun z => absurd rfl z
  | none =>
    refine heart (fun b => if b = a then some (.frz { cls := .type "list", data := .seq vs.toArray } (.lst (ns.map V.int))) else none) (fun b => ?_) (.inl (.inr ⟨{ cls := .type "list", data := .seq vs.toArray }, if_pos rfl⟩)) (fun b u z => ?_) (fun b z => ?_) fun _ => hk
    · by_cases blt : b = a
      · exact .inr ⟨_, _, if_pos blt⟩
      · exact .inl (if_neg blt)
    · by_cases blt : b = a
      · have z' := (if_pos blt).symm.trans z
        cases z'
        subst blt
        exact ⟨atS, by rw [List.length_map]; exact lenH, vs, _, valsR, atS⟩
      · have z' := (if_neg blt).symm.trans z
        cases z'
    · by_cases blt : b = a
      · exact blt
      · exact absurd (if_neg blt) z
theorem walk_ofG {l : PySem.W.OpenLaw} {n k : Nat} {q : Program} {loose : List Str} {XP : (Str → Option Value) → Heap → Prop} {YP : World → Heap → Prop} {d : DefRec} {K : Params → PySem.W.Frag} {sp : PySem.W.Frag → Sp} {x : Str}
    (hn : l.most = some n) (hn2 : n ≤ sizeLine) (hdf : d.params.defaults = []) (hr : Room k callerA) (hY : ∀ (w : World) (h : Heap), YP w h → (K w.params).In h)
    (F : ∀ (w : World) (mg : Str → Option Value) (fa : Addr) (h : Heap), (K w.params).In h → h.Ns mainGlobals mg → mg d.name = some (.ref fa) →
      ∃ fd : FuncData, (∀ (s : Shared) (u : Value), BindsTo s fd ⟨[u], []⟩ [(x, u)]) ∧ ∀ base : Heap, (K w.params).In base → base.Ns mainGlobals mg → FnOkG l.prog w (K w.params) mg base CX0 k fa fd [x] (sp (K w.params)))
    (hsp : ∀ (K : PySem.W.Frag) (H : Hp) (a : Addr) (ns : List Int), ns.length ≤ n → Only H → SqL K H a (ns.map V.int) → sp K [.ref a] H (fun v _ => v = .bl true) fun _ _ _ => False) :
    PySem.W.WalkO q loose XP YP l.row.toRowW d [] (fun f vs => PySem.call f vs) := by
  refine Att.attach_call hn hdf fun w s₀ s₁ mg mb fa o pm cd doc a vs ns G Y ho hd hcd hmg hobj hints hlen hg => ?_
  have inK := hY w _ Y
  obtain ⟨fd, bnd, hF⟩ := F w mg fa _ inK G.T.g hmg
  exact law_callG inK G.T.g G.T.b G.T.builtins G.T.nolimit hg hobj hints (Nat.le_trans hlen hn2) hr hF bnd (fun H onl sq => hsp (K w.params) H a ns hlen onl sq) fun H e s' z => z
/-! ### repr of data -/
structure rShow (K : PySem.W.Frag) (xs : List V) (H : Hp) (Q : VK) : Prop where
  ex : ∃ v d, xs = [v] ∧ Dp K H v d ∧ d.showable = true ∧ d.hasDict = false ∧ d.depth ≤ 90 ∧ d.shown.length ≤ sizeLine ∧ Q (.str d.shown) H
theorem call_reprD {X : Cx} (hgd : X.A.guards = some []) (hu : X.A.units + 100 < cLine) : CallR X (.builtin "repr") (rShow X.K) := by
  intro pins s σ H xs us Q I r h
  obtain ⟨v, d, rfl, hd, hsh, hnd, hdp, hsz, q⟩ := h.ex
  obtain ⟨u, rfl, ru⟩ := vals1 r
  obtain ⟨as, R⟩ := Dp.reads I d v u hd ru
  cases hd with
  | non =>
    cases ru
    have e : PyData.shown .none = ("None" : Str) := by simp only [PyData.shown]
    rw [e] at q
    exact PySem.P.repr_of_none ⟨.str "None", H, I.tok _, ⟨_, rfl⟩, q⟩
  | bl b =>
    cases ru
    refine PySem.P.repr_of_bool ⟨.str (if b then "True" else "False"), H, I.tok _, ⟨_, rfl⟩, ?_⟩
    have e : PyData.shown (.bool b) = (if b then "True" else "False" : Str) := by simp only [PyData.shown]
    rw [e] at q
    exact q
  | int i =>
    obtain ⟨t, rfl⟩ := ru
    have e : PyData.shown (.int i) = (toString i : Str) := by simp only [PyData.shown]
    rw [e] at q
    exact PySem.P.repr_of_int (by simpa [PyData.showable] using hsh) ⟨.str (toString i), H, I.tok _, ⟨_, rfl⟩, q⟩
  | str x =>
    obtain ⟨t, rfl⟩ := ru
    have e : PyData.shown (.str x) = reprText x := by simp only [PyData.shown]
    rw [e] at q hsz
    exact PySem.P.repr_of_str ⟨.str (reprText x), H, I.tok _, ⟨_, rfl⟩, q⟩ hsz
  | lst h1 h2 =>
    cases ru
    refine repr_of_reads' R hsh (PyData.noDict_hsm hnd) hgd (by omega) (fun _ _ e => e) (fun h' u tk hk => ?_) hsz
    exact ⟨.str _, H, I.kept (t' := tk) hk, ⟨_, rfl⟩, q⟩
  | tup h1 h2 =>
    cases ru
    refine repr_of_reads' R hsh (PyData.noDict_hsm hnd) hgd (by omega) (fun _ _ e => e) (fun h' u tk hk => ?_) hsz
    exact ⟨.str _, H, I.kept (t' := tk) hk, ⟨_, rfl⟩, q⟩
end L2
set_option maxHeartbeats 4000000
namespace L2
open PySem PySem.Spec PyProof.Rows
/-! ### a static method read off its class and called -/
structure CStat (K : PySem.W.Frag) (C : Addr) (m : Str) (p g : Addr) : Prop where
  ty : PySem.W.typeIn K (.ref C) = some (.type "type")
  rd : PySem.W.readsIn K C (.type "type") = true
  ga : PySem.W.specialIn K (.ref C) "__getattribute__" = some (some (.builtin "type.__getattribute__"))
  at_ : PySem.W.findCls K (.ref C) (.type "type") m = some (.get (.builtin "staticmethod.__get__") (.ref p) .none (.ref C))
  rc : ∃ rest, PySem.W.recIn K p "staticmethod" = some (.ref g :: rest)
  kp : PySem.W.keepIn K (.ref g) = true
def tStat (C : Addr) (sp : Sp) (dvs : List V) (E : XK) (ta : TE) (t : TA) : TE := fun σ H Q => ta σ H fun x H1 => x = .ref C ∧ t σ H1 fun vs H2 => sp (vs ++ dvs) H2 Q E
section
variable {X : Cx} {CX : CXT} {k : Nat} {C p g : Addr} {fd : FuncData} {ps : List Str} {sp : Sp} {dvs : List V} {ds : List Value} {E : XK} {o e : Expr} {es : List Expr} {m : Str} {pos apos : Pos} {ta : TE} {t : TA}
theorem pe_static {pl : Sem Bool} (he : PE X o ta) (c : CStat X.K C m p g) (F : FnOk X.prog X.w X.K X.mg X.base CX k g fd ps sp) (hr : Room k X.A) (hb : Binds X.K fd ps ds) (hd : Vals dvs ds) (hx : Passes CX X E) (ha : PA X (e :: es) t)
    (hst : starEach (e :: es) X.env = (false, eval e X.env) :: starEach es X.env := by rfl) (hpl : (backTo pos (starEach es X.env)).any (·.1) = false := by rfl)
    (ht : eval (.Call (.Attribute o m apos) (e :: es) [] pos) X.env = (do
      let ov ← eval o X.env
      standAt apos.atName
      let (f, first) ← holding [ov] (getMethod ov m pl)
      callWith pos f first (backTo pos (starEach (e :: es) X.env)) (backToKw pos (keywordEach [] X.env))) := by rfl) :
    PE X (.Call (.Attribute o m apos) (e :: es) [] pos) (tStat C sp dvs E ta t) := by
  refine ⟨fun pins s σ H Q I h => ?_⟩
  refine PySem.W.methodCall_KW (pl := pl) (thn (he.run pins s σ H _ I h) fun u s1 ⟨x, H1, I1, rx, ex, q⟩ => ?_) ht
  subst ex
  obtain rfl : u = Value.ref C := rx
  obtain ⟨rest, hp⟩ := c.rc
  refine PySem.W.method_cls I1.kIn c.ga (PySem.W.cls_bind I1.kIn c.rd c.at_ ?_)
  refine wpAny_call (PySem.W.sm_get (s := { s1 with toks := s1.toks + 1 }) I1.kIn hp (PySem.W.handed_on rfl ?_))
  have I2 : Inv X pins σ H1 { s1 with toks := s1.toks + 1 } := I1.tok _
  refine PySem.W.callWith_K (first := []) (h₀ := X.base) I1.ok.mod.kin c.kp (thn (ha.run pos pins _ σ H1 _ I2 q) fun us s2 ⟨vs, H2, I3, r, q2⟩ => ⟨I3.kIn, ?_⟩) hst hpl
  exact run_fn F hr hb hd hx I3 r q2
end
end L2
set_option maxHeartbeats 4000000
namespace L2
open PySem PySem.Spec PyProof.Rows
/-! ### several clauses 'except x as n', one behind the other -/
/-- the ends of a suite behind which the name in slot i goes -/
def endsGo (i : Nat) (D : Ends) : Ends := { nx := fun σ' H' => D.nx (σ'.set i none) H', rt := D.rt, bk := fun σ' H' => D.bk (σ'.set i none) H', ct := fun σ' H' => D.ct (σ'.set i none) H' }
def wAsM (K : PySem.W.Frag) (i : Nat) (Wout : WX) (D : Ends) : List (Value × (Addr → Value → Option Addr → TS)) → WX
  | [] => Wout
  | (c, ts) :: more => fun cls d σ H => ∃ b, PySem.W.exmOne K cls c = some b ∧ (b = true → ∀ q, H q = none → ts q cls d (endsGo i D) (σ.set i (some (.ref q))) H) ∧ (b = false → wAsM K i Wout D more cls d σ H)
inductive HdsAs (X : Cx) (n : Str) : List ExceptHandler → List (Value × (Addr → Value → Option Addr → TS)) → Prop
  | nil : HdsAs X n [] []
  | cons {x : Str} {c : Value} {ts : Addr → Value → Option Addr → TS} {st : Stmt} {sts : List Stmt} {np hp : Pos} {hds : List ExceptHandler} {l : List (Value × (Addr → Value → Option Addr → TS))} (named : Names X x c)
      (body : ∀ (q : Addr) (oe : Obj) (cls : Value) (d : Option Addr) (pn : List (Addr × Obj)), Zc cls d oe → (∃ vs, oe.data = .fields vs) → PSs (X.suite q ((q, oe) :: pn)) (st :: sts) (ts q cls d)) (more : HdsAs X n hds l) :
      HdsAs X n (.ExceptHandler (some (.Name x np)) (some n) (st :: sts) hp :: hds) ((c, ts) :: l)
section
variable {X : Cx} {n : Str} {i : Nat} {body : List Stmt} {h₀ : ExceptHandler} {hds : List ExceptHandler} {l : List (Value × (Addr → Value → Option Addr → TS))} {pos : Pos} {tb : WX → TS} {Wout : WX}
theorem ps_try_asM (stk : X.stack = X.env :: X.outer) (hf : X.env.frame = some X.env.locals) (nd : X.N.Nodup) (at_ : X.N[i]? = some n) (isl : X.env.kindOf n = some .local) (tk : Takes X Wout)
    (hb : ∀ (W : WX) (pn : List (Addr × Obj)) (xe : Value → Shared → Prop), Takes (X.tr pn xe) W → PassesOwn (model X.prog X.w) X.A X.env xe → PSs (X.tr pn xe) body (tb W))
    (all : HdsAs X n (h₀ :: hds) l) : PS X (.Try body (h₀ :: hds) [] [] pos) (fun D σ H => tb (wAsM X.K i Wout D l) D σ H) := by
  refine ⟨fun pins s σ H D inv h => ?_⟩
  have ok := inv.ok
  have frms : X.A.frames = some (X.env :: X.outer) := by rw [ok.frames, stk]
  have isLoc : Loc X.env.scope n := .inl isl
  refine wpAny_Try_except ?_
  refine wpAny_mono ((hb (wAsM X.K i Wout D l) (X.pn ++ pins) (fun e s₁ => wpAny (model X.prog X.w) X.A (noteFrame e X.env) (fun _ s₂ => wpAny (model X.prog X.w) X.A (setFlight e none) (fun _ s₃ =>
    wpAny (model X.prog X.w) X.A (handleBy e X.env (h₀ :: hds)) (SP X pins D) X.xe s₃) X.xe s₂) X.xe s₁) (fun u s' caught => ?_) PassesOwn.looking).run [] s σ H D (inv.toTry _) h) (fun f s1 done => ?_) (fun e s1 he => he)
  · obtain ⟨q, B, sI, pins', σ', H', cls, d, rfl, inv', nb, up, sky, nq, os, ag, wish⟩ := caught
    have invB : Inv X pins σ' H' sI := inv'.ofTry ok
    have sky2 : Sky B (X.env :: X.outer) q (Zc cls d) X.env.locals s'.heap := by rw [← stk]; exact sky
    show wpAny (model X.prog X.w) X.A (noteFrame (.ref q) X.env) _ _ _
    refine Sky.land Zc.steady frms hf sky2 fun h3 fl3 up3 => ?_
    have inv3 : Inv X pins σ' H' { s' with heap := h3 } := invB.landed nb fl3.1 (up.trans up3) os ag
    obtain ⟨oe3, vs3, he3, hz3, hd3⟩ := fl3.there
    have offF : q ∉ frs (X.env :: X.outer) := fun mem => by
      obtain ⟨_, o', e', no⟩ := fl3.2.2.1.mem mem
      rw [he3] at e'; cases e'
      exact no _ hd3
    have offL : q ≠ X.env.locals := fun z => offF (List.mem_filterMap.mpr ⟨X.env, List.mem_cons_self, by rw [hf, z]⟩)
    have offS : q ∉ X.fs := fun mem => by
      obtain ⟨e, he, z⟩ := List.mem_filterMap.mp mem
      exact offF (List.mem_filterMap.mpr ⟨e, List.mem_cons_of_mem _ he, z⟩)
    have invS := inv3.suite he3 hd3 nq offL offS
    have go : ∀ {hs : List ExceptHandler} {ls : List (Value × (Addr → Value → Option Addr → TS))}, HdsAs X n hs ls → wAsM X.K i Wout D ls cls d σ' H' →
        wpAny (model X.prog X.w) X.A (handleBy (.ref q) X.env hs) (SP X pins D) X.xe { s' with heap := h3 } := by
      intro hs ls ok2
      induction ok2 with
      | nil =>
        intro wish
        refine wpAny_handleBy_nil ?_
        obtain ⟨k1, k2, k3, oe, vs, T, oT, ts', he, hz, hd, h1, hr⟩ := id fl3
        unfold PySem.passOn
        refine wpAny_bind (wpAny_field he hd h1 ?_)
        rw [if_neg (show ¬ ((Value.ref T == Value.none) = true) from by simp)]
        have out : wpAny (model X.prog X.w) X.A (setFlight (.ref q) X.env.frame) (fun _ s4 => wpAny (model X.prog X.w) X.A (throw (.ref q) : Sem Flow) (SP X pins D) X.xe s4) X.xe { s' with heap := h3 } := by
          rw [hf]
          refine HandSPX.setFlight_upZ fl3 fun h4 hh4 up4 => wpAny_throw (tk _ _ ?_)
          exact ⟨q, B, sI, pins, σ', H', cls, d, rfl, invB, nb, (up.trans up3).trans up4, .inr (.inr (by rw [stk]; exact hh4)), nq, os, ag, wish⟩
        first
          | exact wpAny_bind (wpAny_pure (wpAny_bind out))
          | exact wpAny_bind out
      | @cons x c ts st sts np hp hds2 l2 named suite more ih =>
        intro wish
        obtain ⟨b, hb1, yes, no⟩ := wish
        refine wpAny_handleBy_cons (codeAny_handlers_test ?_) (by intro z; cases z)
        have LT : PySem.W.Looks (model X.prog X.w) h3 (typeOf (.ref q)) cls := fun A Q E s k z => wpAny_typeOf_ref (k _ _ he3) (by rw [hz3.1]; exact z)
        have LM := PySem.W.exm_one (M := model X.prog X.w) (inv3.kIn) LT hb1
        have named2 : ∀ {Q : Value → Shared → Prop} {E : Value → Shared → Prop}, Q c { s' with heap := h3 } → wpAny (model X.prog X.w) (X.A.mark (some (.ref q))) (eval (.Name x np) X.env) Q E { s' with heap := h3 } := fun {Q E} z => by
          obtain ⟨hg, hdbg, hm | ⟨hm, hv, hnn⟩⟩ := named
          · exact ld_glob (X := X.suite q ((q, oe3) :: (X.pn ++ pins))) invS hg hm z hdbg
          · exact ld_blt (X := X.suite q ((q, oe3) :: (X.pn ++ pins))) invS hg hm hv z hnn hdbg
        refine named2 (LM.here ?_)
        cases b with
        | true =>
          refine codeAny_handlers_suite_as ?_
          refine HandSPX.lands_againZ fl3 fun h4 fl4 up4 => ?_
          have inv4 : Inv X pins σ' H' { s' with heap := h4 } := invB.landed nb fl4.1 ((up.trans up3).trans up4) os ag
          obtain ⟨oe4, vs4, he4, hz4, hd4⟩ := fl4.there
          have invS4 := inv4.suite he4 hd4 nq offL offS
          refine store_ok (X := X.suite q ((q, oe4) :: (X.pn ++ pins))) (v := .ref q) invS4 nd at_ isLoc rfl (fun s5 inv5 => ?_) (.inr isl)
          refine wpAny_mono ((suite q oe4 cls d (X.pn ++ pins) hz4 ⟨_, hd4⟩).run [] s5 _ H' _ inv5 (yes rfl q nq)) (fun f s6 done => ?_) (fun _ _ z => False.elim z)
          have goes : ∀ {σ6 : St} {H6 : Hp} {Q : Shared → Prop}, Inv (X.suite q ((q, oe4) :: (X.pn ++ pins))) [] σ6 H6 s6 → (∀ s7, Inv X pins (σ6.set i none) H6 s7 → Q s7) →
              wpAny (model X.prog X.w) X.A (do bindName X.env n .none; unbindBehindTheSuite X.env n hp) (fun _ s7 => Q s7) X.xe s6 := fun {σ6 H6 Q} inv6 hq => gone_ok (inv6.unsuite ok) nd at_ isl hq
          cases f with
          | next =>
            obtain ⟨σ6, H6, inv6, q6⟩ := done
            exact goes inv6 fun s7 inv7 => ⟨_, _, inv7, q6⟩
          | brk =>
            obtain ⟨σ6, H6, inv6, q6⟩ := done
            exact goes inv6 fun s7 inv7 => ⟨_, _, inv7, q6⟩
          | cont =>
            obtain ⟨σ6, H6, inv6, q6⟩ := done
            exact goes inv6 fun s7 inv7 => ⟨_, _, inv7, q6⟩
          | ret u =>
            obtain ⟨v6, σ6, H6, inv6, r6, q6⟩ := done
            exact goes inv6 fun s7 inv7 => ⟨_, _, _, inv7, r6, q6⟩
        | false =>
          show wpAny _ X.A (handleBy (.ref q) X.env hds2) _ _ _
          exact ih (no rfl)
    exact go all wish
  · cases f with
    | next =>
      obtain ⟨σ', H', inv', z⟩ := done
      exact wpAny_execs_nil ⟨σ', H', inv'.ofTry ok, z⟩
    | brk =>
      obtain ⟨σ', H', inv', z⟩ := done
      exact ⟨σ', H', inv'.ofTry ok, z⟩
    | cont =>
      obtain ⟨σ', H', inv', z⟩ := done
      exact ⟨σ', H', inv'.ofTry ok, z⟩
    | ret u =>
      obtain ⟨v, σ', H', inv', r, z⟩ := done
      exact ⟨v, σ', H', inv'.ofTry ok, r, z⟩
end
end L2
set_option maxHeartbeats 4000000
namespace L2
open PySem PySem.Spec PyProof.Rows LamX
/-! ### the end of a law that says repr and makes lambdas -/
theorem law_callTG {P : Program} {w : World} {K : PySem.W.Frag} {mg mb : Str → Option Value} {CX : CXT} {k : Nat} {fa a : Addr} {cs : List (Addr × Addr)} {fd : FuncData} {x : Str} {sp : Sp} {s₁ : Shared} {vs : List Value} {ns : List Int}
    (inK : K.In s₁.heap) (gNs : s₁.heap.Ns mainGlobals mg) (blt : s₁.heap.Ns builtinsNs mb) (bAll : ∀ x : Str, x ≠ "__name__" → mb x = bootBuiltins x) (noLim : s₁.heap.NoLimit) (noGen : s₁.gens = #[])
    (tabs : ∀ p ∈ cs, s₁.heap.get? p.2 = some { cls := .none, data := .fields #[] }) (offK : ∀ p ∈ cs, K.lookup p.2 = none) (heads : ∀ p ∈ cs, PySem.W.CodeHd s₁.heap p.1 p.2)
    (bmain : ∃ (bm : Addr) (ob : Obj), mg "__builtins__" = some (.ref bm) ∧ bm ≠ builtinsNs ∧ s₁.heap.get? bm = some ob ∧ ob.cls = .type "module" ∧ ob.dict = some builtinsNs ∧ ob.data = .plain)
    (atS : s₁.heap.get? a = some { cls := .type "list", data := .seq vs.toArray }) (intsH : IntsAre vs ns) (lenH : ns.length ≤ sizeLine) (roomH : Room k callerA)
    (F : ∀ base : Heap, K.In base → base.Ns mainGlobals mg → (∀ p ∈ cs, TabB base mg p.1 p.2) → FnOkG P w K mg base CX k fa fd [x] sp) (bnd : ∀ (s : Shared) (u : Value), BindsTo s fd ⟨[u], []⟩ [(x, u)])
    (prom : ∀ H : Hp, (∀ p ∈ cs, H p.2 = some (.tbl #[])) → SqL K H a (ns.map V.int) → sp [.ref a] H (fun v _ => v = .bl true) fun _ _ _ => False)
    (noOut : ∀ H e s', CX [] H s₁ (fun _ _ _ => False) e s' → False) :
    codeAny (model P w) callerA (.call (.ref fa) ⟨[.ref a], []⟩) (fun r s' => r = .ok (.ret (.bool true)) ∧ OldK s₁.heap s'.heap ∧ s'.os = s₁.os ∧ AllBare s'.gens) s₁ := by
  have valsR := vals_ints intsH
  have lenW := intsH.length
  have tabAt : ∀ b : Addr, b ∈ cs.map (·.2) → s₁.heap.get? b = some { cls := .none, data := .fields #[] } := fun b hb => by
    obtain ⟨p, hp, rfl⟩ := List.mem_map.mp hb
    exact tabs p hp
  have notTab : a ∉ cs.map (·.2) := fun z => by
    have q := tabAt a z
    rw [atS] at q
    have z' : Data.seq vs.toArray _ = Data.fields #[] := congrArg Obj.data (Option.some.inj q)
    cases z'
  have inTab : ∀ p ∈ cs, p.2 ∈ cs.map (·.2) := fun p hp => List.mem_map.mpr ⟨p, hp, rfl⟩
  have heart : ∀ H : Hp, (∀ p ∈ cs, H p.2 = some (.tbl #[])) → (∀ b, H b = none ∨ b ∈ cs.map (·.2) ∨ ∃ o xs, H b = some (.frz o (.lst xs))) → SqL K H a (ns.map V.int) → HOk P w H s₁.heap → (∀ b, H b ≠ none → b = a ∨ b ∈ cs.map (·.2)) → (H a ≠ none → K.lookup a = none) →
      codeAny (model P w) callerA (.call (.ref fa) ⟨[.ref a], []⟩) (fun r s' => r = .ok (.ret (.bool true)) ∧ OldK s₁.heap s'.heap ∧ s'.os = s₁.os ∧ AllBare s'.gens) s₁ := by
    intro H tblH onl sq okH atA kA
    have ofBase : ∀ {b : Addr} {o : Obj}, s₁.heap.get? b = some o → H b = none → (hidT s₁.heap H).get? b = some o := fun e n => hidT_get e n
    have off : ∀ {b : Addr} {o : Obj}, s₁.heap.get? b = some o → (∀ vs n, o.data ≠ .seq vs n) → o.data ≠ .fields #[] → H b = none := fun {b o} e n1 n2 => by
      cases q : H b with
      | none => rfl
      | some u =>
        rcases atA b (by rw [q]; simp) with e' | e'
        · rw [e', atS] at e
          cases e
          exact (n1 _ _ rfl).elim
        · rw [tabAt b e'] at e
          cases e
          exact (n2 rfl).elim
    have offD : ∀ {b : Addr} {o : Obj} {es : Array DictEntry} {ep : Nat}, s₁.heap.get? b = some o → o.data = .dict es ep → H b = none := fun {b o es ep} e d =>
      off e (fun vs n z => by rw [d] at z; cases z) fun z => by rw [d] at z; cases z
    have keepNs : ∀ {b : Addr} {m : Str → Option Value}, s₁.heap.Ns b m → (hidT s₁.heap H).Ns b m := fun {b m} ⟨o, es, ep, e, d, r⟩ => ⟨o, es, ep, ofBase e (offD e d), d, r⟩
    have inB : K.In (hidT s₁.heap H) := fun b o e => ofBase (inK b o e) (by
      cases q : H b with
      | none => rfl
      | some u =>
        rcases atA b (by rw [q]; simp) with e' | e'
        · rw [e'] at e q
          rw [kA (by rw [q]; simp)] at e
          cases e
        · obtain ⟨p, hp, ep⟩ := List.mem_map.mp e'
          rw [← ep, offK p hp] at e
          cases e)
    have modB : Mod K mg (hidT s₁.heap H) := ⟨inB, keepNs gNs, ⟨mb, keepNs blt, bAll⟩, let ⟨mc, h1, h2⟩ := noLim; ⟨mc, keepNs h1, h2⟩⟩
    have tb : ∀ p ∈ cs, TabB (hidT s₁.heap H) mg p.1 p.2 := fun p hp => by
      have tp := tabs p hp
      refine ⟨?_, ?_, fun z => ?_⟩
      · obtain ⟨o, us, file, tf, flags, tg, inF, text, tt, e1, r1, r2, r3, r4⟩ := heads p hp
        refine ⟨o, us, file, tf, flags, tg, inF, text, tt, ofBase e1 (off e1 (fun vs n z => by rw [r2] at z; cases z) fun z => ?_), r1, r2, r3, r4⟩
        rw [r2] at z
        cases z
        simp at r3
      · obtain ⟨bm, ob, b1, b2, b3, b4, b5, b6⟩ := bmain
        have nG : bm ≠ mainGlobals := fun q => by
          obtain ⟨o, es, ep, e, hd, _⟩ := gNs
          rw [q, e] at b3
          cases b3
          rw [hd] at b6
          cases b6
        have nP : bm ≠ p.2 := fun q => by
          rw [q, tp] at b3
          cases b3
          cases b6
        exact ⟨bm, ob, b1, b2, nG, nP, ofBase b3 (off b3 (fun vs n z => by rw [b6] at z; cases z) fun z => by rw [b6] at z; cases z), b4, b5, b6⟩
      · obtain ⟨o, es, ep, e, hd, _⟩ := gNs
        rw [z, tp] at e
        cases e
        cases hd
    have start0 : Env0 P w K mg (hidT s₁.heap H) callerA [] s₁ H := ⟨rfl, modB, fun b o e => of_hidT e, Nat.le_of_eq (hidT_size _ _), trivial, fun b hb => absurd (show b ∈ ([] : List Addr) from hb) (by simp), okH, .of_eq noGen⟩
    refine codeAny_mono ((F _ inB (keepNs gNs) tb).run callerA [] s₁ H ⟨[.ref a], []⟩ [.ref a] [.ref a] _ _ rfl roomH start0 (bnd s₁ (.ref a)) (.cons rfl .nil) (prom H tblH sq)) fun r s' h => ?_
    cases r with
    | error e => exact (noOut H e s' h).elim
    | ok fl =>
      cases fl with
      | next => exact False.elim h
      | brk => exact False.elim h
      | cont => exact False.elim h
      | ret u =>
        obtain ⟨v, H', os, bare, un, hok', r', q⟩ := h
        have q' : v = .bl true := q
        subst q'
        obtain rfl : u = Value.bool true := r'
        have old : ∀ b o, b ∉ cs.map (·.2) → s₁.heap.get? b = some o → s'.heap.get? b = some o := fun b o nb e => by
          cases q : H b with
          | none => exact un.keep b o e q (by intro z; exact absurd (show b ∈ ([] : List Addr) from z) (by simp)) (by simp)
          | some u =>
            rcases onl b with z | z | ⟨ob, xs, z⟩
            · rw [q] at z; cases z
            · exact absurd z nb
            · have z2 := un.frzs b ob _ z
              obtain ⟨e1, _⟩ := okH b _ z
              obtain ⟨e2, _⟩ := hok' b _ z2
              rw [e] at e1; cases e1
              exact e2
        have more : ∀ p ∈ cs, ∃ ps : Array Value, s'.heap.get? p.2 = some { cls := .none, data := .fields ps } := fun p hp => by
          obtain ⟨ps, z⟩ := un.tbls p.2 #[] (tblH p hp)
          exact ⟨_, hok' p.2 _ z⟩
        refine ⟨rfl, ⟨fun b o e => ?_, fun b o e => ?_⟩, os, bare⟩
        · by_cases hb : b ∈ cs.map (·.2)
          · obtain ⟨p, hp, rfl⟩ := List.mem_map.mp hb
            obtain ⟨ps, hm⟩ := more p hp
            rw [tabs p hp] at e
            cases e
            exact .inr (.inl ⟨((heads p hp).tab (tabs p hp)).isCodeTable, rfl, #[], ps, rfl, by rw [Array.empty_append]; exact hm⟩)
          · exact .inl (old b o hb e)
        · by_cases hb : b ∈ cs.map (·.2)
          · obtain ⟨p, hp, rfl⟩ := List.mem_map.mp hb
            obtain ⟨ps, hm⟩ := more p hp
            exact ⟨_, hm⟩
          · exact ⟨o, old b o hb e⟩
  cases hk : K.lookup a with
  | some o =>
    have e := inK a o hk
    rw [atS] at e
    cases e
    refine heart (fun b => if b ∈ cs.map (·.2) then some (.tbl #[]) else none) (fun p hp => if_pos (inTab p hp)) (fun b => ?_) (.inr ⟨_, vs.toArray, _, hk, rfl, rfl, rfl, by rw [List.size_toArray, lenW]; exact lenH, by simpa using valsR⟩) (fun b u z => ?_) (fun b z => ?_) fun z => absurd (show (if a ∈ cs.map (·.2) then some (HO.tbl #[]) else none) = none from if_neg notTab) z
    · by_cases hb : b ∈ cs.map (·.2)
      · exact .inr (.inl hb)
      · exact .inl (if_neg hb)
    · by_cases hb : b ∈ cs.map (·.2)
      · have z' := (if_pos hb).symm.trans z
        cases z'
        exact tabAt b hb
      · have z' := (if_neg hb).symm.trans z
        cases z'
    · by_cases hb : b ∈ cs.map (·.2)
      · exact .inr hb
      · exact absurd (if_neg hb) z
  | none =>
    refine heart (fun b => if b = a then some (.frz { cls := .type "list", data := .seq vs.toArray } (.lst (ns.map V.int))) else if b ∈ cs.map (·.2) then some (.tbl #[]) else none) (fun p hp => (if_neg (show ¬ p.2 = a from fun z => notTab (by rw [← z]; exact inTab p hp))).trans (if_pos (inTab p hp))) (fun b => ?_)
      (.inl (.inr ⟨{ cls := .type "list", data := .seq vs.toArray }, if_pos rfl⟩)) (fun b u z => ?_) (fun b z => ?_) fun _ => hk
    · by_cases hb : b = a
      · exact .inr (.inr ⟨_, _, if_pos hb⟩)
      · by_cases hb2 : b ∈ cs.map (·.2)
        · exact .inr (.inl hb2)
        · exact .inl ((if_neg hb).trans (if_neg hb2))
    · by_cases hb : b = a
      · have z' := (if_pos hb).symm.trans z
        cases z'
        rw [hb]
        exact ⟨atS, by rw [List.length_map]; exact lenH, vs, _, valsR, atS⟩
      · have z1 := (if_neg hb).symm.trans z
        by_cases hb2 : b ∈ cs.map (·.2)
        · have z' := (if_pos hb2).symm.trans z1
          cases z'
          exact tabAt b hb2
        · have z' := (if_neg hb2).symm.trans z1
          cases z'
    · by_cases hb : b = a
      · exact .inl hb
      · by_cases hb2 : b ∈ cs.map (·.2)
        · exact .inr hb2
        · exact absurd ((if_neg hb).trans (if_neg hb2)) z
/-- the law's promise at the head's heap h, its tables told -/
def LawAtG (l : PySem.W.OpenLaw) (w : World) (K : PySem.W.Frag) (k n : Nat) (x : Str) (mg : Str → Option Value) (fa : Addr) (h : Heap) : Prop :=
  ∃ (fd : FuncData) (cs : List (Addr × Addr)) (sp : Sp), (∀ p ∈ cs, h.get? p.2 = some { cls := .none, data := .fields #[] }) ∧ (∀ p ∈ cs, K.lookup p.2 = none) ∧ (∀ p ∈ cs, PySem.W.CodeHd h p.1 p.2) ∧ (∀ (s : Shared) (u : Value), BindsTo s fd ⟨[u], []⟩ [(x, u)]) ∧
    (∀ (H : Hp) (a : Addr) (ns : List Int), ns.length ≤ n → (∀ p ∈ cs, H p.2 = some (.tbl #[])) → SqL K H a (ns.map V.int) → sp [.ref a] H (fun v _ => v = .bl true) fun _ _ _ => False) ∧
    ∀ base : Heap, K.In base → base.Ns mainGlobals mg → (∀ p ∈ cs, TabB base mg p.1 p.2) → FnOkG l.prog w K mg base CX0 k fa fd [x] sp
theorem walk_ofTG {l : PySem.W.OpenLaw} {n k : Nat} {q : Program} {loose : List Str} {XP : (Str → Option Value) → Heap → Prop} {YP : World → Heap → Prop} {d : DefRec} {K : Params → PySem.W.Frag} {x : Str}
    (hn : l.most = some n) (hn2 : n ≤ sizeLine) (hdf : d.params.defaults = []) (hr : Room k callerA) (hY : ∀ (w : World) (h : Heap), YP w h → (K w.params).In h)
    (F : ∀ (w : World) (mg : Str → Option Value) (fa : Addr) (h : Heap), YP w h → (K w.params).In h → h.Ns mainGlobals mg → mg d.name = some (.ref fa) → LawAtG l w (K w.params) k n x mg fa h) :
    PySem.W.WalkO q loose XP YP l.row.toRowW d [] (fun f vs => PySem.call f vs) := by
  refine Att.attach_call hn hdf fun w s₀ s₁ mg mb fa o pm cd doc a vs ns G Y ho hd hcd hmg hobj hints hlen hg => ?_
  have inK := hY w _ Y
  obtain ⟨fd, cs, sp, hT, nT, C, bnd, prom, hF⟩ := F w mg fa _ Y inK G.T.g hmg
  exact law_callTG inK G.T.g G.T.b G.T.builtins G.T.nolimit hg hT nT C G.T.bmain hobj hints (Nat.le_trans hlen hn2) hr hF bnd (fun H hH hS => prom H a ns hlen hH hS) fun H e s' z => z
end L2
set_option maxHeartbeats 4000000
namespace L2
open PySem PySem.Spec PyProof.Rows LamX
/-! ### a lambda handed to a def that calls it within its own try: what is raised is wished for at the slots of the call -/
section
variable {X : Cx} {pins : List (Addr × Obj)} {σ : L2.St} {H HZ : Hp} {s s1 : Shared}
theorem pe_actS {CXg : CXT} {Eg : XK} {Ng : List Str} {qg : Str} {sg : Scope} {g f c' : Addr} {cdg pm ctv : Value} {params : Arguments} {body : Expr} {scope : Scope} {k i : Nat} {a : Str} {pn : List (Addr × Obj)} {xe : Value → Shared → Prop} {W : WX} {tb : XK → TE} {p1 p2 : Pos}
    (inv : Inv X pins σ H s) (L : LamS X.env.scope scope) (hf : s.heap.get? f = some (PySem.W.kla_obj "<lambda>" (X.env.qual ++ "<lambda>") params body scope (cloFrom X.env.cells scope.names []) pm c' ctv)) (hfn : H f = none) (hfr : f ∉ frs X.stack)
    (hbind : bindArgs (PySem.W.kla_fn "<lambda>" (X.env.qual ++ "<lambda>") params body scope (cloFrom X.env.cells scope.names []) pm (.ref c') ctv) ⟨[], []⟩ = pure [])
    (tk : Takes ((cxOf CXg X.prog X.w X.K X.mg X.base Ng qg sg g cdg X.A X.stack s H Eg).tr pn xe) W) (hr : Room (k + 1) (X.A.deeper (envOfC qg sg s.heap.objs.size g cdg)))
    (hbody : ∀ (A : Around) (outer : List Env) (s : Shared) (H : Hp) (E : XK), Room k (A.deeper (lamEnv X scope s.heap.objs.size f c')) → PE (lamCx X A outer s H E scope f c') body (tb E))
    (hN : Ng[i]? = some a) (hv : Vis sg a) (hd : (a == ("__debug__" : Str)) = false := by decide) (hcd : (a == ("__classdict__" : Str)) = false := by decide) :
    PE ((cxOf CXg X.prog X.w X.K X.mg X.base Ng qg sg g cdg X.A X.stack s H Eg).tr pn xe) (.Call (.Name a p1) [] [] p2)
      (fun σZ HZ Q => σZ[i]? = some (some (.ref f)) ∧ HZ c' = some (CodeO c' (X.env.qual ++ "<lambda>")) ∧ ∃ Ech : XK, (∀ cls d H', Ech cls d H' → W cls d σZ H') ∧ tb Ech σ HZ Q) := by
  refine ⟨fun pinsZ sZ σZ HZ Q invZ h => ?_⟩
  obtain ⟨hs, hc, Ech, hW, ht⟩ := h
  refine wpAny_Call_Name_kw (thn ((pe_var (pos := p1) (i := i) hN hv hd hcd).run pinsZ sZ σZ HZ (fun v H1 => v = .ref f ∧ H1 = HZ) invZ ⟨.ref f, hs, rfl, rfl⟩) fun u s1 ⟨v, H1, inv1, r1, q1⟩ => ?_)
  obtain ⟨rfl, rfl⟩ := q1
  obtain rfl : u = Value.ref f := r1
  have of1 : s1.heap.get? f = some (PySem.W.kla_obj "<lambda>" (X.env.qual ++ "<lambda>") params body scope (cloFrom X.env.cells scope.names []) pm c' ctv) := inv1.base.keep f _ hf hfn hfr (fun z => nomatch (show f ∈ ([] : List Addr) from z))
  refine PySem.W.callWith_F0 ⟨_, _, _, _, of1⟩ ?_
  have un : Un (frs X.stack) [] H H1 s.heap s1.heap := inv1.base
  obtain ⟨⟨oc, vs, t, hoc, hdc, hvc⟩, _, _⟩ := inv1.hok c' _ hc
  have rc : codeAny (model X.prog X.w) (X.A.deeper (envOfC qg sg s.heap.objs.size g cdg)) (.call (.ref f) ⟨[], []⟩) (CR (L2.CX X.prog X.w) (envOfC qg sg s.heap.objs.size g cdg :: X.stack) X.prog X.w H1 s1 Q Ech) s1 := by
    refine PySem.W.kla_callFunE hr.depth of1 rfl L.co L.gen rfl ⟨c', oc, vs, t, rfl, hoc, hdc, hvc⟩ ?_
    rw [hbind]
    refine wpAny_pure (wpAny_newFunctionEnv (fun y hy => (L.own y hy).2) (fun y hy => absurd hy (by simp)) (fun h₁ hns hsb => ⟨inv1.nolimit.fresh _ hsb, ?_⟩) L.kind)
    show codeAny _ _ (.expr body (lamEnv X scope s1.heap.objs.size f c')) _ _
    have kp : ∀ b o, s1.heap.get? b = some o → h₁.get? b = some o := fun b o e => hsb.extBut b o (Nat.ne_of_lt (Heap.lt_size e)) (Heap.get?_push_of_some _ e)
    have invL : Inv (lamCx X (X.A.deeper (envOfC qg sg s.heap.objs.size g cdg)) (envOfC qg sg s.heap.objs.size g cdg :: X.stack) s1 H1 Ech scope f c') [] σ H1 { s1 with heap := h₁, toks := s1.toks + ([] : List (Str × Value)).length } :=
      lam_start2 inv L inv1.env0 hr.hd un hns kp
    refine PySem.W.kla_codeExpr (wpAny_mono ((hbody _ _ s1 H1 _ (hr.deeper _)).run [] _ _ H1 Q invL ht) (fun v s' hq => ?_) fun e s' hq => hq)
    obtain ⟨w', H', inv', rv, q⟩ := hq
    exact ⟨w', H', inv'.os, inv'.bare, inv'.base, inv'.hok, rv, q⟩
  have hx : PassesAt (L2.CX X.prog X.w) ((cxOf CXg X.prog X.w X.K X.mg X.base Ng qg sg g cdg X.A X.stack s H Eg).tr pn xe) σZ Ech := fun _ _ _ e s' I c => tk e s' (XE.of_call I hW c)
  refine wpAny_call (codeAny_mono rc fun r s' hq => ?_)
  cases r with
  | error e => exact hx pinsZ H1 s1 e s' inv1 hq
  | ok fl =>
    cases fl with
    | ret u => exact inv1.after hq
    | next => exact False.elim hq
    | brk => exact False.elim hq
    | cont => exact False.elim hq
/-- the def that calls what it got; TT: what it makes of the lambda's reading -/
def GivesS (X : Cx) (Ng : List Str) (x : Str) (sg : Scope) (g : Addr) (cdg : Value) (bg : List Stmt) (a : Str) (q : Str) (kk : Nat) (TT : (XK → Hp → VK → Prop) → Hp → VK → Prop) : Prop :=
  ∀ (f c' : Addr) (s : Shared) (H : Hp) (Q : VK) (tl : XK → Hp → VK → Prop), Room kk (X.A.deeper (envOfC x sg s.heap.objs.size g cdg)) →
    (∀ (W : WX) (pn : List (Addr × Obj)) (xe : Value → Shared → Prop) (p1 p2 : Pos), Takes ((cxOf C8.CX0 X.prog X.w X.K X.mg X.base Ng x sg g cdg X.A X.stack s H C8.E0).tr pn xe) W →
      PE ((cxOf C8.CX0 X.prog X.w X.K X.mg X.base Ng x sg g cdg X.A X.stack s H C8.E0).tr pn xe) (.Call (.Name a p1) [] [] p2) (fun σZ HZ Q => σZ[0]? = some (some (.ref f)) ∧ HZ c' = some (CodeO c' q) ∧ ∃ Ech : XK, (∀ cls d H', Ech cls d H' → W cls d σZ H') ∧ tl Ech HZ Q)) →
    H c' = some (CodeO c' q) → TT tl H Q →
    ∃ t, PSs (cxOf C8.CX0 X.prog X.w X.K X.mg X.base Ng x sg g cdg X.A X.stack s H C8.E0).nox bg t ∧ t { nx := fun _ H' => Q .non H', rt := Q } (L2.start Ng [.ref f]) H
end
section
variable {X : Cx}
/-- x(lambda: body) -/
theorem pe_lamcallS {T : List (Addr × Str)} {TT : (XK → Hp → VK → Prop) → Hp → VK → Prop} {x a : Str} {g c P : Addr} {k : Nat} {st : Stmt} {fd : FuncData} {Ng : List Str}
    {params : Arguments} {body : Expr} {scope : Scope} {t : XK → TE} {p lpos pos : Pos} (hg : Gl X x) (hm : X.mg x = some (.ref g)) (hk : PySem.W.keepIn X.K (.ref g) = true)
    (F : Fun X.K x x st g fd) (hb : L2.Binds X.K fd [a] []) (Sg : FnScope Ng [a] (defScope st)) (hNg : Ng[0]? = some a) (hva : Vis (defScope st) a)
    (hG : ∀ cdv, GivesS X Ng x (defScope st) g cdv (defBody st) a (X.env.qual ++ "<lambda>") (k + 1) TT)
    (TB : TabB X.base X.mg c P) (hcode : X.env.code = .ref c) (hmT : (P, X.env.qual ++ "<lambda>") ∈ T) (hu : ∀ p ∈ T, p.1 = P → p.2 = X.env.qual ++ "<lambda>") (hr : Room (k + 2) X.A) (L : LamS X.env.scope scope) (hdef : defaultsOf params X.env = ([], []))
    (hbind : ∀ (q : Str) (cl : List (Str × Addr)) (pm cv ctv : Value), bindArgs (PySem.W.kla_fn "<lambda>" q params body scope cl pm cv ctv) ⟨[], []⟩ = pure [])
    (hbody : ∀ (A : Around) (outer : List Env) (s : Shared) (H : Hp) (E : XK) (f c' : Addr), Room k (A.deeper (lamEnv X scope s.heap.objs.size f c')) → PE (lamCx X A outer s H E scope f c') body (t E))
    (hdb : (x == ("__debug__" : Str)) = false := by decide) (hd : (a == ("__debug__" : Str)) = false := by decide) (hcd : (a == ("__classdict__" : Str)) = false := by decide) :
    PE X (.Call (.Name x p) [.Lambda params body scope lpos] [] pos) (tLam T TT t) := by
  refine ⟨fun pins s σ H Q inv h => ?_⟩
  obtain ⟨hT, h⟩ := h
  obtain ⟨oc, od, kV, doc, pm, an, cdv, ct, osl, rfl, lk, hcg⟩ := F.ex
  refine wpAny_Call_Name_kw (ld_glob inv hg hm ?_ hdb)
  refine PySem.W.callWith_K (h₀ := X.base) inv.ok.mod.kin hk ?_ (by rfl) (by rfl)
  show wpAny _ _ (spliced ((false, eval (.Lambda params body scope lpos) X.env) :: backTo pos (starEach [] X.env))) _ _ s
  refine Calls.spliced_cons (lam_make2 inv TB hcode hmT hu hT hdef (L.has inv.ok) fun f c' pm' ctv H1 s' inv1 eN T1 hf hfn hfr hco => ?_)
  refine Calls.spliced_nil ⟨inv1.kIn, ?_⟩
  have rc : codeAny (model X.prog X.w) X.A (.call (.ref g) ⟨[.ref f], []⟩) (CR C8.CX0 X.stack X.prog X.w H1 s' Q C8.E0) s' := by
    refine run_ofS (N := Ng) (ps := [a]) (us := [.ref f]) (vs := [.ref f]) lk hcg Sg hr inv1.env0 (hb s' [.ref f] inv1.kIn rfl) (.cons rfl .nil) rfl fun hr' => ?_
    obtain ⟨t', ht', hq'⟩ := hG cdv f c' s' H1 Q (fun E H' Q' => t E σ H' Q') hr' (fun W pn xe p1 p2 tk => pe_actS (i := 0) inv1 L hf hfn hfr (hbind _ _ _ _ _) tk hr' (fun A outer s H E hr2 => hbody A outer s H E f c' hr2) hNg hva hd hcd) hco (h H1 eN T1)
    exact ⟨t', ht'.nox, hq'⟩
  refine wpAny_call (codeAny_mono rc fun r s2 hq => ?_)
  cases r with
  | error e => exact (show False from hq).elim
  | ok fl =>
    cases fl with
    | ret u => exact inv1.after hq
    | next => exact False.elim hq
    | brk => exact False.elim hq
    | cont => exact False.elim hq
theorem passes_lam {A : Around} {outer : List Env} {s : Shared} {H : Hp} {E : XK} {scope : Scope} {f c' : Addr} : Passes (L2.CX X.prog X.w) (lamCx X A outer s H E scope f c') E :=
  passes_call (takes_of rfl rfl rfl rfl) (fun _ _ _ _ h => h)
end
/-! ### a def whose code object is known -/
structure FunL (K : PySem.W.Frag) (x qual : Str) (st : Stmt) (f : Addr) (fd : FuncData) (cdv : Value) : Prop where
  ex : ∃ (oc : Value) (od : Option Addr) (kV doc pm : Value) (an : Option Addr) (ct : Value) (osl : Array (Option Value)), fd = PySem.W.fnOf x qual (defArgs st) (defBody st) (defScope st) .none kV doc pm an cdv ct ∧
    K.lookup f = some ⟨oc, od, .func fd, osl⟩ ∧ PySem.W.codeIn K cdv qual = true
theorem FunL.okG {P : Program} {w : World} {K : PySem.W.Frag} {mg : Str → Option Value} {base : Heap} {x qual : Str} {st : Stmt} {f : Addr} {fd : FuncData} {cdv : Value} {N ps : List Str} {k : Nat} {sp : Sp} (F : FunL K x qual st f fd cdv) (S : FnScope N ps (defScope st)) (len : ∀ vs H Q E, sp vs H Q E → vs.length = ps.length)
    (hbody : ∀ (A : Around) (outer : List Env) (s : Shared) (H : Hp) (vs : List V) (Q : VK) (E : XK), (A.deeper (envOfC qual (defScope st) s.heap.objs.size f cdv)).guards = some [] → Room k (A.deeper (envOfC qual (defScope st) s.heap.objs.size f cdv)) → sp vs H Q E →
      ∃ t, PSs (cxOf CX0 P w K mg base N qual (defScope st) f cdv A outer s H E).nox (defBody st) t ∧ t { nx := fun _ H' => Q .non H', rt := Q } (start N vs) H) : FnOkG P w K mg base CX0 (k + 1) f fd ps sp := by
  obtain ⟨oc, od, kV, doc, pm, an, ct, osl, rfl, lk, hcd⟩ := F.ex
  refine fn_ofG lk hcd S len fun A outer s H vs Q E hgd hr hsp => ?_
  obtain ⟨t, h, q⟩ := hbody A outer s H vs Q E hgd hr hsp
  exact ⟨t, h.nox, q⟩
theorem exm_ref {K : PySem.W.Frag} {C B : Addr} {b : Bool} (h1 : PySem.W.subIn K (.ref B) (.type "BaseException") = some true) (h2 : PySem.W.isClsIn K B = true) (h3 : PySem.W.typeIn K (.ref B) = some (.type "type")) (h4 : PySem.W.subIn K (.ref C) (.ref B) = some b) :
    PySem.W.exmOne K (.ref C) (.ref B) = some b := by
  have e1 : (PySem.W.subIn K (.ref B) (.type "BaseException") == some true) = true := by rw [h1] <;> rfl
  have e2 : ((PySem.W.clsIn K B).isSome && PySem.W.typeIn K (.ref B) == some (.type "type")) = true := by
    have h2' : (PySem.W.clsIn K B).isSome = true := h2
    rw [h2', h3] <;> rfl
  show (if (PySem.W.subIn K (.ref B) (.type "BaseException") == some true) = true then (if ((PySem.W.clsIn K B).isSome && PySem.W.typeIn K (.ref B) == some (.type "type")) = true then PySem.W.subIn K (.ref C) (.ref B) else none) else none) = some b
  rw [if_pos e1, if_pos e2]
  exact h4
end L2
set_option maxHeartbeats 4000000
namespace L2
open PySem PySem.Spec PyProof.Rows
/-! ### repr of data, or of a dict of ints -/
inductive KvD : List (Key × V) → List (PyData × PyData) → Prop
  | nil : KvD [] []
  | cons (k v : Int) {r : List (Key × V)} {ds : List (PyData × PyData)} (h : KvD r ds) : KvD ((Sum.inl k, V.int v) :: r) ((.int k, .int v) :: ds)
theorem kvd_reads {P : Program} {w : World} {h : Heap} : ∀ {kvs : List (Key × V)} {ds : List (PyData × PyData)} {vs : List (Key × Value)} {es : List DictEntry}, KvD kvs ds → KV kvs vs → Pairs (mixKind P w) es vs →
    ReadsAll h (es.map (·.key)) (ds.map (·.1)) [] ∧ ReadsAll h (es.map (·.val)) (ds.map (·.2)) []
  | _, _, _, _, .nil, kv, pr => by
    cases kv
    cases pr
    exact ⟨.nil, .nil⟩
  | _, _, _, _, .cons k v d, kv, pr => by
    cases kv with
    | cons h1 t1 =>
      cases pr with
      | cons a b t2 =>
        obtain ⟨i1, i2⟩ := kvd_reads (h := h) d t1 t2
        obtain ⟨ek, rv⟩ := h1
        obtain ⟨tv, ev⟩ := rv
        rw [← ek] at a
        obtain ⟨tk, eq⟩ := Value.isInt_shape (show Value.isInt k _ = true from a)
        refine ⟨?_, ?_⟩
        · rw [List.map_cons, List.map_cons, eq]
          exact ReadsAll.cons (as := []) (bs := []) (.int k tk) i1
        · rw [List.map_cons, List.map_cons, b, ev]
          exact ReadsAll.cons (as := []) (bs := []) (.int v tv) i2
structure rShowX (K : PySem.W.Frag) (xs : List V) (H : Hp) (Q : VK) : Prop where
  ex : rShow K xs H Q ∨ ∃ (p : Addr) (kvs : List (Key × V)) (ds : List (PyData × PyData)), xs = [.ref p] ∧ H p = some (.dK kvs) ∧ KvD kvs ds ∧ (PyData.dict ds).showable = true ∧ (PyData.dict ds).depth ≤ 90 ∧ (PyData.dict ds).shown.length ≤ sizeLine ∧ Q (.str (PyData.dict ds).shown) H
theorem call_reprX {X : Cx} (hgd : X.A.guards = some []) (hu : X.A.units + 100 < cLine) : CallR X (.builtin "repr") (rShowX X.K) := by
  intro pins s σ H xs us Q I r h
  rcases h.ex with h | ⟨p, kvs, ds, rfl, hp, kd, sh, dp, sz, q⟩
  · exact call_reprD hgd hu pins s σ H xs us Q I r h
  obtain ⟨u, rfl, ru⟩ := vals1 r
  obtain rfl : u = Value.ref p := ru
  obtain ⟨_, hsys, vs, kv, o, es, ep, ho, ⟨hc, hx⟩, hd, _, pr, _⟩ := (show ObjOk X.prog X.w H s.heap p (.dK kvs) from I.hok p _ hp)
  obtain ⟨r1, r2⟩ := kvd_reads (h := s.heap) kd kv pr
  have R : Reads s.heap (.ref p) (.dict ds) (p :: [] ++ []) := Reads.dict ho hc hd (by simpa using r1) (by simpa using r2)
  refine repr_of_reads' R sh (fun _ z => ?_) hgd (by omega) (fun _ _ e => e) (fun h' u tk hk => ⟨.str _, H, I.kept (t' := tk) hk, ⟨_, rfl⟩, q⟩) sz
  have e : sysModules = p := by simpa using z
  rw [e] at hsys
  simp at hsys
end L2
set_option maxHeartbeats 4000000
namespace L2
open PySem PySem.Spec PyProof.Rows
/-! ### a call of a def that says repr, where no repr is under way; an own == with a list -/
section
variable {X : Cx} {CX : CXT} {k : Nat} {f C : Addr} {fd : FuncData} {ps : List Str} {sp : Sp} {dvs : List V} {ds : List Value} {E : XK} {x : Str} {p pos : Pos} {e : Expr} {es : List Expr} {t : TA}
theorem run_fnG {pins : List (Addr × Obj)} {σ : L2.St} {H : Hp} {s : Shared} {Q : VK} {us : List Value} {vs : List V} (F : FnOkG X.prog X.w X.K X.mg X.base CX k f fd ps sp) (hgd : X.A.guards = some []) (hr : Room k X.A) (hb : Binds X.K fd ps ds) (hd : Vals dvs ds) (hx : Passes CX X E)
    (I : Inv X pins σ H s) (r : Vals vs us) (h : sp (vs ++ dvs) H Q E) : wpAny (model X.prog X.w) X.A (call (.ref f) us) (EP X pins σ Q) X.xe s := by
  have r2 : Vals (vs ++ dvs) (us ++ ds) := r.append hd
  have hl : (us ++ ds).length = ps.length := by rw [← r2.length]; exact F.len _ _ _ _ h
  refine wpAny_call (codeAny_mono (F.run X.A X.stack s H ⟨us, []⟩ (us ++ ds) (vs ++ dvs) Q E hgd hr I.env0 (hb s us I.kIn hl) r2 h) fun r s' hq => ?_)
  cases r with
  | error e => exact hx pins σ H s e s' I hq
  | ok fl =>
    cases fl with
    | ret u => exact I.after hq
    | next => exact False.elim hq
    | brk => exact False.elim hq
    | cont => exact False.elim hq
theorem pe_callG (F : FnOkG X.prog X.w X.K X.mg X.base CX k f fd ps sp) (hgd : X.A.guards = some []) (hr : Room k X.A) (hg : Gl X x) (hm : X.mg x = some (.ref f)) (hk : PySem.W.keepIn X.K (.ref f) = true) (hb : Binds X.K fd ps ds) (hd : Vals dvs ds) (hx : Passes CX X E)
    (ha : PA X (e :: es) t) (hdb : (x == ("__debug__" : Str)) = false := by decide) (he : starEach (e :: es) X.env = (false, eval e X.env) :: starEach es X.env := by rfl) (hpl : (backTo pos (starEach es X.env)).any (·.1) = false := by rfl) :
    PE X (.Call (.Name x p) (e :: es) [] pos) (tCall sp dvs E t) := by
  refine ⟨fun pins s σ H Q I h => ?_⟩
  refine wpAny_Call_Name_kw (ld_glob I hg hm ?_ hdb)
  refine PySem.W.callWith_K (h₀ := X.base) I.ok.mod.kin hk (thn (ha.run pos pins s σ H _ I h) fun us s1 ⟨vs, H1, I1, r, q⟩ => ⟨I1.kIn, ?_⟩) he hpl
  exact run_fnG F hgd hr hb hd hx I1 r q
def rEqL (C : Addr) (sp : Sp) (E : XK) : R2 := fun x y H Q => ∃ p q dx fs, x = .ref p ∧ y = .ref q ∧ H p = some (.ins C dx fs) ∧ ((∃ xs, H q = some (.lst xs)) ∨ (∃ kvs, H q = some (.dK kvs))) ∧ sp [.ref p, .ref q] H (fun v H' => ∃ r : Bool, v = .bl r ∧ Q (.bl r) H') E
theorem op_eqOwnL (F : FnOk X.prog X.w X.K X.mg X.base CX k f fd ps sp) (hr : Room k X.A) (hs : PySem.W.findIn X.K (.ref C) "__eq__" = some (some (.ref f))) (hf : PySem.W.isFn X.K (.ref f) = true) (hl : PySem.W.subIn X.K (.type "list") (.ref C) = some false) (hd : PySem.W.subIn X.K (.type "dict") (.ref C) = some false)
    (hb : Binds X.K fd ps []) (hx : Passes CX X E) : OpR X (compareOp .Eq) (rEqL C sp E) := by
  intro pins s σ H x y v u Q I rx ry h
  obtain ⟨p, q, dx, fs, rfl, rfl, hp, hq, h⟩ := h
  cases rx
  cases ry
  obtain ⟨mA, J, _⟩ := ins_get I.hok hp
  obtain ⟨od, J, _⟩ := J.look
  obtain ⟨m, hF⟩ := I.fr
  have fin : ∀ tb : Value, PySem.W.Looks (model X.prog X.w) s.heap (typeOf (.ref q)) tb → PySem.W.notFirst X.K C tb = true → wpAny (model X.prog X.w) X.A (compareOp .Eq (.ref p) (.ref q)) (EP X pins σ Q) X.xe s := fun tb lt nf => by
    show wpAny (model X.prog X.w) X.A (richCompare .Eq _ _) (EP X pins σ Q) X.xe s
    refine PySem.W.cmp_K (op := .Eq) (tb := tb) hr.units0 hF I.ok.mod.kin J lt nf hs hf (wpAny_mono (run_at (vs := [.ref p, .ref q]) rfl F hr hb hx I (.cons rfl (.cons rfl .nil)) h) (fun v s' z => ?_) fun _ _ z => z)
    obtain ⟨x, H', I', rx, r, ex, qq⟩ := z
    subst ex
    cases rx
    exact ⟨.bl r, H', I', rfl, qq⟩
  rcases hq with ⟨xs, hq⟩ | ⟨kvs, hq⟩
  · obtain ⟨_, its, c, _, e⟩ := (show ObjOk X.prog X.w H s.heap q (.lst xs) from I.hok q _ hq)
    exact fin (.type "list") (fun A Q E s k z => wpAny_typeOf_ref (k _ _ e) z) (by unfold PySem.W.notFirst; rw [hl]; rfl)
  · obtain ⟨_, _, vs, kv, o, es, ep, ho, ⟨hc, _⟩, _⟩ := (show ObjOk X.prog X.w H s.heap q (.dK kvs) from I.hok q _ hq)
    exact fin (.type "dict") (fun A Q E s k z => wpAny_typeOf_ref (k _ _ ho) (by rw [hc]; exact z)) (by unfold PySem.W.notFirst; rw [hd]; rfl)
end
end L2
set_option maxHeartbeats 2000000
namespace PySem
namespace ErrX_part
open PySem.W PySem.Calls PyProof.Rows PySem.HandSPX
/-! ### the text of __init__ -/
def iA (p1 p2 : Pos) : Arguments := { posonlyargs := [], args := [{ arg := "self", annotation := none, pos := p1 }, { arg := "part", annotation := none, pos := p2 }], vararg := none, kwonlyargs := [], kw_defaults := [], kwarg := none, defaults := [] }
def iB (q1 q2 q3 q4 : Pos) : List Stmt := [.Assign [.Attribute (.Name "self" q1) "part" q2] (.Name "part" q3) q4]
def iS : Scope := { kind := .function, names := [(PySem.Str.ofString "self", .local), (PySem.Str.ofString "part", .local)], isGenerator := false, isCoroutine := false, more := [] }
/-- what the written part says of Low, at C, and of its __init__, at fI -/
structure ErrTxt (K : Frag) (mg : Str → Option Value) (nx qn : Str) (C fI : Addr) : Prop where
  gC : mg nx = some (.ref C)
  cls : ∃ nm q N bs bm sn sub ab col dd k0 k1 k2 k3 k5, K.lookup C = some (excClassObj nm q C N bs bm true sn sub ab col dd k0 k1 k2 k3 k5 "ValueError.__new__") ∧ refsVE bm = true
  sa : findIn K (.ref C) "__setattr__" = some (some (.builtin "object.__setattr__"))
  ga : findIn K (.ref C) "__getattribute__" = some (some (.builtin "BaseException.__getattribute__"))
  gg : findIn K (.ref C) "__getattr__" = some none
  noN : findIn K (.ref C) "part" = some none
  iC : findIn K (.ref C) "__init__" = some (some (.ref fI))
  tC : typeIn K (.ref fI) = some (.type "function")
  kC : keepIn K (.ref C) = true
  exC : subIn K (.ref C) (.type "BaseException") = some true
  tyC : typeIn K (.ref C) = some (.type "type")
  hdC : hasDictIn K C = true
  te : exmOne K (.ref C) (.ref C) = some true
  fn : ∃ (oc : Value) (od : Option Addr) (doc pm : Value) (an : Option Addr) (cdv ct : Value) (osl : Array (Option Value)) (p1 p2 q1 q2 q3 q4 : Pos),
    K.lookup fI = some ⟨oc, od, .func (fnOf "__init__" qn (iA p1 p2) (iB q1 q2 q3 q4) iS .none .none doc pm an cdv ct), osl⟩ ∧ codeIn K cdv qn = true
theorem one_size (v : Value) : [v].length ≤ sizeLine := by
  rw [sizeLine_eq]
  exact (by decide : 1 ≤ 16777216)
theorem kept_but {K : Frag} {h h' : Heap} {x : Addr} (X : K.In h) (hx : K.lookup x = none) (k : ∀ b o, b ≠ x → h.get? b = some o → h'.get? b = some o) : K.In h' := fun a o e =>
  k a o (fun z => by rw [z, hx] at e; cases e) (X a o e)
theorem ldC {M : Model} {s : Shared} {name : Str} {scope : Scope} {L a : Addr} {cd : Value} {m : Str → Option Value} {x : Str} {pos : Pos} {v : Value} {Q : Value → Shared → Prop} {A : Around} {E : Value → Shared → Prop} (hn : s.heap.Ns L m) (hv : m x = some v) (h : Q v s)
    (hk : scope.kind = .function := by rfl) (hl : (envOfC name scope L a cd).kindOf x = some .local := by rfl) (hd : (x == ("__debug__" : Str)) = false := by decide) :
    wpAny M A (eval (.Name x pos) (envOfC name scope L a cd)) Q E s := wpAny_Name (wpAny_loadName_local hk hl hn hv h) hd
/-- what __init__ leaves of a fresh exception at x -/
structure InitEnd (h h' : Heap) (x C dx t1 : Addr) (v : Value) : Prop where
  keep : ∀ b o, b ≠ x → h.get? b = some o → h'.get? b = some o
  obj : h'.get? x = some { cls := .ref C, dict := some dx, data := .fields #[.ref t1, .none, .none, .none, .bool false, .none] }
  dbig : h.objs.size ≤ dx
  dne : dx ≠ x
  ns : h'.Ns1 dx (fun y => if y = "part" then some v else none)
/-- a made Low -/
structure OwnMade (h h' : Heap) (e C d : Addr) (v : Value) : Prop where
  keep : ∀ b o, h.get? b = some o → h'.get? b = some o
  new : h.objs.size ≤ e
  obj : ∃ oe vs, h'.get? e = some oe ∧ oe.cls = .ref C ∧ oe.dict = some d ∧ oe.data = .fields vs ∧ vs[1]? = some .none
  dbig : h.objs.size ≤ d
  dne : d ≠ e
  ns : h'.Ns1 d (fun y => if y = "part" then some v else none)
section
variable {prog : Program} {w : World} {A : Around} {E : Value → Shared → Prop} {R : Result → Shared → Prop} {s : Shared} {K : Frag} {mg : Str → Option Value} {nx qn : Str} {C fI : Addr}
theorem low_init (T : ErrTxt K mg nx qn C fI) {x t0 : Addr} {v : Value} (X : K.In s.heap) (hlim : s.heap.NoLimit) (hx : s.heap.get? x = some (excO C t0)) (hnx : K.lookup x = none) (hroom : A.depth < recursionLimit)
    (hq : ∀ h' tk dx, InitEnd s.heap h' x C dx t0 v → R (.ok (.ret .none)) { s with heap := h', toks := tk }) :
    codeAny (model prog w) A (.call (.ref fI) ⟨[.ref x, v], []⟩) R s := by
  obtain ⟨oc, od, doc, pm, an, cdv, ct, osl, p1, p2, q1, q2, q3, q4, ho, hcd⟩ := T.fn
  obtain ⟨nm, q, N, bs, bm, sn, sub, ab, col, dd, k0, k1, k2, k3, k5, hC, hbm⟩ := T.cls
  have hcl : clsIn K C = some { name := nm, bases := bs, mro := .ref C :: bm, ns := N, qualname := q, hasDict := true, slotNames := sn, subclasses := sub, abstract := ab, collection := col, hasDel := false } := by unfold clsIn; rw [hC] <;> rfl
  refine Att.call_fn (binds := [("self", .ref x), ("part", v)]) X hlim ho hcd hroom (BindsTo.of_eq (by first | rfl | with_unfolding_all rfl)) (by first | rfl | decide | with_unfolding_all rfl) (fun s₁ IC => ?_) rfl rfl rfl
  obtain ⟨h₁, tk₁, rfl⟩ := IC.toInCall.same
  have k : ∀ b o, s.heap.get? b = some o → h₁.get? b = some o := IC.toInCall.keep
  have hn := IC.toInCall.ns
  have hxL : s.heap.objs.size ≠ x := Nat.ne_of_gt (Heap.lt_size hx)
  have X₁ : K.In h₁ := X.keeps k
  have hx₁ := k _ _ hx
  -- self.by = by
  show wpAny _ _ (execs _ _) _ _ _
  refine wpAny_execs_cons (plainObj_wpAny_Assign_Attribute ?_)
  refine ldC (v := v) hn (by first | rfl | with_unfolding_all rfl | kernel_rfl) (ldC (v := .ref x) hn (by first | rfl | with_unfolding_all rfl | kernel_rfl) ?_)
  refine set_plain X₁ (ox := excO C t0) (od := none) ⟨hx₁, rfl, rfl, trivial⟩ T.sa ?_
  refine exc_osa X₁ hx₁ hcl (show refsVE (.ref C :: bm) = true from hbm) rfl T.noN (fun h₃ tk₃ dx k₃ dn dne hx₃ hn₃ => ?_)
  show wpAny _ _ (execs _ _) _ _ _
  have z : s.heap.objs.size < h₁.objs.size := hn.lt
  exact wpAny_execs_nil (hq h₃ tk₃ dx ⟨fun b o hb e => k₃ b o hb (k b o e), hx₃, Nat.le_of_lt (Nat.lt_of_lt_of_le z dn), dne, hn₃⟩)
theorem low_made (T : ErrTxt K mg nx qn C fI) {v : Value} (X : K.In s.heap) (hlim : s.heap.NoLimit) (hroom : A.depth + 1 < recursionLimit)
    (hq : ∀ h' tk e d, OwnMade s.heap h' e C d v → R (.ok (.ret (.ref e))) { s with heap := h', toks := tk }) :
    codeAny (model prog w) A (.call (.ref C) ⟨[v], []⟩) R s := by
  obtain ⟨nm, q, N, bs, bm, sn, sub, ab, col, dd, k0, k1, k2, k3, k5, hC, hbm⟩ := T.cls
  obtain ⟨hp, g, dr, tk, os⟩ := s
  have k : ∀ b o, hp.get? b = some o → ((hp.push (kdv_tup [v])).push (excO C hp.objs.size)).get? b = some o := fun b o e => Heap.get?_push_of_some _ (Heap.get?_push_of_some _ e)
  have hget : ((hp.push (kdv_tup [v])).push (excO C hp.objs.size)).get? (hp.objs.size + 1) = some (excO C hp.objs.size) := by heap_get
  have hnx : K.lookup (hp.objs.size + 1) = none := by
    cases e : K.lookup (hp.objs.size + 1) with
    | none => rfl
    | some o =>
      have z : hp.get? (hp.objs.size + 1) = some o := X _ _ e
      exact absurd (Nat.lt_of_succ_lt (Heap.lt_size z)) (Nat.lt_irrefl _)
  refine call_own F.excBase_ValueError (fun X => refsVE_contains X bm hbm) (X _ _ hC) (looks_findIn X T.iC) (fun self => bind_fn X self T.tC) (one_size v) ?_
  refine low_init (s := ⟨(hp.push (kdv_tup [v])).push (excO C hp.objs.size), g, dr, tk, os⟩) T (X.keeps k) (hlim.keeps k) hget hnx ?_ fun h' tk' dx ⟨k', hx, dn, dne, hns⟩ => ?_
  · show A.depth + 1 < recursionLimit
    exact hroom
  · have old : ∀ b o, hp.get? b = some o → h'.get? b = some o := fun b o e => k' b o (Nat.ne_of_lt (Nat.lt_succ_of_lt (Heap.lt_size e))) (k b o e)
    have z : hp.objs.size + 1 + 1 ≤ dx := by
      first
        | (simpa only [Heap.size_push] using dn)
        | exact dn
        | (have q := dn; rw [Heap.size_push, Heap.size_push] at q; exact q)
    exact ⟨rfl, hq h' tk' (hp.objs.size + 1) dx ⟨old, Nat.le_succ _, ⟨_, _, hx, rfl, rfl, rfl, rfl⟩, Nat.le_trans (Nat.le_trans (Nat.le_succ _) (Nat.le_succ _)) z, dne, hns⟩⟩
end
end ErrX_part
end PySem
namespace L2
open PySem PySem.Spec PyProof.Rows
theorem relO_part {v : V} {v' : Value} (r : RelV v v') (f : Str) : RelO (List.lookup f [(("part" : Str), v)]) (if f = "part" then some v' else none) := by
  by_cases hw : f = "part"
  · subst hw
    rw [if_pos rfl]
    have q : List.lookup ("part" : Str) [(("part" : Str), v)] = some v := by simp [List.lookup]
    rw [q]
    exact r
  · rw [if_neg hw]
    have qw : (f == ("part" : Str)) = false := by simpa using hw
    have q2 : List.lookup f [(("part" : Str), v)] = none := by simp [List.lookup, qw]
    rw [q2]
    trivial
section
variable {X : Cx} {nx qn : Str} {C fI : Addr}
/-- Low(e) -/
def tMk_part (C : Addr) (ta : TA) : St → Hp → XK → Prop := fun σ H Q => ta σ H fun vs H1 => ∃ v, vs = [v] ∧ ∀ d, H1 d = none → Q (.ref C) (some d) (upd H1 d (.xd [(("part" : Str), v)]))
theorem pmk_part {a : Expr} {ta : TA} {p pos : Pos} {k : Nat} (T : PySem.ErrX_part.ErrTxt X.K X.mg nx qn C fI) (hr : Room k X.A) (ha : PA X [a] ta) (hg : Gl X nx := by rfl) (hdb : (nx == ("__debug__" : Str)) = false := by decide)
    (he : starEach (a :: []) X.env = (false, eval a X.env) :: starEach [] X.env := by rfl) (hpl : (backTo pos (starEach [] X.env)).any (·.1) = false := by rfl) :
    PMk X (.Call (.Name nx p) [a] [] pos) (tMk_part C ta) := by
  intro pins s σ H Q I h
  refine wpAny_Call_Name_kw (ld_glob I hg T.gC ?_ hdb)
  refine PySem.W.callWith_K (h₀ := X.base) I.ok.mod.kin T.kC (thn (ha.run pos pins s σ H _ I h) fun us s1 hh => ?_) he hpl
  obtain ⟨vs, H1, I1, r1, v, ev, q1⟩ := hh
  subst ev
  refine ⟨I1.kIn, ?_⟩
  cases r1 with
  | cons rv rn =>
    rename_i v' us'
    cases rn
    show wpAny _ _ (call (.ref C) [v']) _ _ _
    have hlim := I1.nolimit
    obtain ⟨hp, g, dr, tk, os⟩ := s1
    refine wpAny_call (PySem.ErrX_part.low_made T I1.kIn hlim (by have := hr.dp; omega) fun h' tk' e d M => ?_)
    show MkP X pins σ Q (.ref e) ⟨h', g, dr, tk', os⟩
    obtain ⟨oe, fv, hoe, hc, hd, hdat, h1⟩ := M.obj
    have hns := M.ns
    obtain ⟨G', g1, g2⟩ := restrict h' fun b => decide (b ≠ e)
    have gk : ∀ b, b ≠ e → G'.get? b = h'.get? b := fun b hb => g1 b (decide_eq_true hb)
    have ge : G'.get? e = none := g2 e (by simp)
    have old : ∀ b o, hp.get? b = some o → G'.get? b = some o := fun b o q => (gk b (Nat.ne_of_lt (Nat.lt_of_lt_of_le (Heap.lt_size q) M.new))).trans (M.keep b o q)
    have ob : ObjOk X.prog X.w (upd H1 d (.xd [(("part" : Str), v)])) G' d (.xd [(("part" : Str), v)]) :=
      ⟨_, hns.at (fun o q => (gk d M.dne).trans q), fun f => relO_part rv f⟩
    have J : Inv X pins σ (upd H1 d (.xd [(("part" : Str), v)])) ⟨G', g, dr, tk', os⟩ := I1.laid (t' := tk') old M.dbig ob
    refine ⟨e, oe, fv, ⟨G', g, dr, tk', os⟩, _, .ref C, some d, rfl, J, fun b o q => ?_, ge, hoe, ⟨hc, hd⟩, hdat, h1, ?_, rfl, I1.bare, raises_own T.exC T.tyC, q1 d (I1.hok.fresh M.dbig)⟩
    · by_cases hb : b = e
      · have q' : G'.get? b = some o := q
        rw [hb, ge] at q'; cases q'
      · exact (gk b hb).symm.trans q
    · rw [upd_ne (Ne.symm M.dne)]
      exact I1.hok.fresh M.new
/-- raise Low(e) -/
def tRaise_part (C : Addr) (W : WX) (ta : TA) : TS := fun _ σ H => tMk_part C ta σ H fun cls d H' => W cls d σ H'
theorem ps_raise_part {a : Expr} {ta : TA} {W : WX} {p pos pos2 : Pos} {k : Nat} (hc : X.calm = true) (T : PySem.ErrX_part.ErrTxt X.K X.mg nx qn C fI) (hr : Room k X.A) (tk : Takes X W) (ha : PA X [a] ta) (hg : Gl X nx := by rfl) (hdb : (nx == ("__debug__" : Str)) = false := by decide)
    (he : starEach (a :: []) X.env = (false, eval a X.env) :: starEach [] X.env := by rfl) (hpl : (backTo pos (starEach [] X.env)).any (·.1) = false := by rfl) :
    PS X (.Raise (some (.Call (.Name nx p) [a] [] pos)) none pos2) (tRaise_part C W ta) := ps_raise hc tk (pmk_part T hr ha hg hdb he hpl)
/-- low.by, low the exception that the suite holds (at a; its class cls, its dict d) -/
def tBy_part (C : Addr) (a : Addr) (cls : Value) (d : Option Addr) (te : TE) : TE := fun σ H Q => te σ H fun x H1 => x = .ref a ∧ cls = .ref C ∧ ∃ (dd : Addr) (v : V), d = some dd ∧ H1 dd = some (.xd [(("part" : Str), v)]) ∧ Q v H1
theorem pe_by_part {a : Addr} {oe : Obj} {cls : Value} {d : Option Addr} {pn : List (Addr × Obj)} {e : Expr} {te : TE} {pos : Pos} (T : PySem.ErrX_part.ErrTxt X.K X.mg nx qn C fI) (hz : Zc cls d oe) (hf : ∃ vs, oe.data = .fields vs) (he : PE (X.suite a ((a, oe) :: pn)) e te)
    (hb : attributeBase e "part" X.env (eval e X.env) = eval e X.env := by rfl) :
    PE (X.suite a ((a, oe) :: pn)) (.Attribute e "part" pos) (tBy_part C a cls d te) := by
  refine ⟨fun pins s σ H Q I h => ?_⟩
  refine attr_of hb (thn (he.run pins s σ H _ I h) fun u s1 hh => ?_)
  obtain ⟨x, H1, I1, rx, ex, ec, dd, v, ed, ea, q⟩ := hh
  subst ex
  obtain rfl : u = Value.ref a := rx
  subst ec
  subst ed
  obtain ⟨ha, _⟩ := I1.pin (a, oe) (List.mem_append_left _ List.mem_cons_self)
  obtain ⟨vs, hd⟩ := hf
  have hx : ObjOk X.prog X.w H1 s1.heap dd (.xd [(("part" : Str), v)]) := I1.hok dd _ ea
  obtain ⟨mA, hns, hr⟩ := hx
  obtain ⟨od, ho, hl⟩ := lookIn_ns hns
  have l : List.lookup ("part" : Str) [(("part" : Str), v)] = some v := by simp [List.lookup]
  obtain ⟨u, hu, ru⟩ := RelO.some_of (v := v) (o := mA "part") (by rw [← l]; exact hr "part")
  have J : PySem.W.InstAt s1.heap a oe C (some od) := ⟨ha, hz.1, by unfold PySem.W.notCls; rw [hd] <;> rfl, by rw [hz.2]; exact ho⟩
  exact HandSPX.exc_get I1.kIn J T.ga T.gg T.exC (PySem.W.findObj_own T.hdC T.noN rfl (by rw [hl, hu])) (handed_of ru) ⟨v, H1, I1.tok _, ru, q⟩
end
end L2
set_option maxHeartbeats 2000000
namespace PySem
namespace ErrX_number
open PySem.W PySem.Calls PyProof.Rows PySem.HandSPX
/-! ### the text of __init__ -/
def iA (p1 p2 : Pos) : Arguments := { posonlyargs := [], args := [{ arg := "self", annotation := none, pos := p1 }, { arg := "number", annotation := none, pos := p2 }], vararg := none, kwonlyargs := [], kw_defaults := [], kwarg := none, defaults := [] }
def iB (q1 q2 q3 q4 : Pos) : List Stmt := [.Assign [.Attribute (.Name "self" q1) "number" q2] (.Name "number" q3) q4]
def iS : Scope := { kind := .function, names := [(PySem.Str.ofString "self", .local), (PySem.Str.ofString "number", .local)], isGenerator := false, isCoroutine := false, more := [] }
/-- what the written part says of Low, at C, and of its __init__, at fI -/
structure ErrTxt (K : Frag) (mg : Str → Option Value) (nx qn : Str) (C fI : Addr) : Prop where
  gC : mg nx = some (.ref C)
  cls : ∃ nm q N bs bm sn sub ab col dd k0 k1 k2 k3 k5, K.lookup C = some (excClassObj nm q C N bs bm true sn sub ab col dd k0 k1 k2 k3 k5 "ValueError.__new__") ∧ refsVE bm = true
  sa : findIn K (.ref C) "__setattr__" = some (some (.builtin "object.__setattr__"))
  ga : findIn K (.ref C) "__getattribute__" = some (some (.builtin "BaseException.__getattribute__"))
  gg : findIn K (.ref C) "__getattr__" = some none
  noN : findIn K (.ref C) "number" = some none
  iC : findIn K (.ref C) "__init__" = some (some (.ref fI))
  tC : typeIn K (.ref fI) = some (.type "function")
  kC : keepIn K (.ref C) = true
  exC : subIn K (.ref C) (.type "BaseException") = some true
  tyC : typeIn K (.ref C) = some (.type "type")
  hdC : hasDictIn K C = true
  te : exmOne K (.ref C) (.ref C) = some true
  fn : ∃ (oc : Value) (od : Option Addr) (doc pm : Value) (an : Option Addr) (cdv ct : Value) (osl : Array (Option Value)) (p1 p2 q1 q2 q3 q4 : Pos),
    K.lookup fI = some ⟨oc, od, .func (fnOf "__init__" qn (iA p1 p2) (iB q1 q2 q3 q4) iS .none .none doc pm an cdv ct), osl⟩ ∧ codeIn K cdv qn = true
theorem one_size (v : Value) : [v].length ≤ sizeLine := by
  rw [sizeLine_eq]
  exact (by decide : 1 ≤ 16777216)
theorem kept_but {K : Frag} {h h' : Heap} {x : Addr} (X : K.In h) (hx : K.lookup x = none) (k : ∀ b o, b ≠ x → h.get? b = some o → h'.get? b = some o) : K.In h' := fun a o e =>
  k a o (fun z => by rw [z, hx] at e; cases e) (X a o e)
theorem ldC {M : Model} {s : Shared} {name : Str} {scope : Scope} {L a : Addr} {cd : Value} {m : Str → Option Value} {x : Str} {pos : Pos} {v : Value} {Q : Value → Shared → Prop} {A : Around} {E : Value → Shared → Prop} (hn : s.heap.Ns L m) (hv : m x = some v) (h : Q v s)
    (hk : scope.kind = .function := by rfl) (hl : (envOfC name scope L a cd).kindOf x = some .local := by rfl) (hd : (x == ("__debug__" : Str)) = false := by decide) :
    wpAny M A (eval (.Name x pos) (envOfC name scope L a cd)) Q E s := wpAny_Name (wpAny_loadName_local hk hl hn hv h) hd
/-- what __init__ leaves of a fresh exception at x -/
structure InitEnd (h h' : Heap) (x C dx t1 : Addr) (v : Value) : Prop where
  keep : ∀ b o, b ≠ x → h.get? b = some o → h'.get? b = some o
  obj : h'.get? x = some { cls := .ref C, dict := some dx, data := .fields #[.ref t1, .none, .none, .none, .bool false, .none] }
  dbig : h.objs.size ≤ dx
  dne : dx ≠ x
  ns : h'.Ns1 dx (fun y => if y = "number" then some v else none)
/-- a made Low -/
structure OwnMade (h h' : Heap) (e C d : Addr) (v : Value) : Prop where
  keep : ∀ b o, h.get? b = some o → h'.get? b = some o
  new : h.objs.size ≤ e
  obj : ∃ oe vs, h'.get? e = some oe ∧ oe.cls = .ref C ∧ oe.dict = some d ∧ oe.data = .fields vs ∧ vs[1]? = some .none
  dbig : h.objs.size ≤ d
  dne : d ≠ e
  ns : h'.Ns1 d (fun y => if y = "number" then some v else none)
section
variable {prog : Program} {w : World} {A : Around} {E : Value → Shared → Prop} {R : Result → Shared → Prop} {s : Shared} {K : Frag} {mg : Str → Option Value} {nx qn : Str} {C fI : Addr}
theorem low_init (T : ErrTxt K mg nx qn C fI) {x t0 : Addr} {v : Value} (X : K.In s.heap) (hlim : s.heap.NoLimit) (hx : s.heap.get? x = some (excO C t0)) (hnx : K.lookup x = none) (hroom : A.depth < recursionLimit)
    (hq : ∀ h' tk dx, InitEnd s.heap h' x C dx t0 v → R (.ok (.ret .none)) { s with heap := h', toks := tk }) :
    codeAny (model prog w) A (.call (.ref fI) ⟨[.ref x, v], []⟩) R s := by
  obtain ⟨oc, od, doc, pm, an, cdv, ct, osl, p1, p2, q1, q2, q3, q4, ho, hcd⟩ := T.fn
  obtain ⟨nm, q, N, bs, bm, sn, sub, ab, col, dd, k0, k1, k2, k3, k5, hC, hbm⟩ := T.cls
  have hcl : clsIn K C = some { name := nm, bases := bs, mro := .ref C :: bm, ns := N, qualname := q, hasDict := true, slotNames := sn, subclasses := sub, abstract := ab, collection := col, hasDel := false } := by unfold clsIn; rw [hC] <;> rfl
  refine Att.call_fn (binds := [("self", .ref x), ("number", v)]) X hlim ho hcd hroom (BindsTo.of_eq (by first | rfl | with_unfolding_all rfl)) (by first | rfl | decide | with_unfolding_all rfl) (fun s₁ IC => ?_) rfl rfl rfl
  obtain ⟨h₁, tk₁, rfl⟩ := IC.toInCall.same
  have k : ∀ b o, s.heap.get? b = some o → h₁.get? b = some o := IC.toInCall.keep
  have hn := IC.toInCall.ns
  have hxL : s.heap.objs.size ≠ x := Nat.ne_of_gt (Heap.lt_size hx)
  have X₁ : K.In h₁ := X.keeps k
  have hx₁ := k _ _ hx
  -- self.by = by
  show wpAny _ _ (execs _ _) _ _ _
  refine wpAny_execs_cons (plainObj_wpAny_Assign_Attribute ?_)
  refine ldC (v := v) hn (by first | rfl | with_unfolding_all rfl | kernel_rfl) (ldC (v := .ref x) hn (by first | rfl | with_unfolding_all rfl | kernel_rfl) ?_)
  refine set_plain X₁ (ox := excO C t0) (od := none) ⟨hx₁, rfl, rfl, trivial⟩ T.sa ?_
  refine exc_osa X₁ hx₁ hcl (show refsVE (.ref C :: bm) = true from hbm) rfl T.noN (fun h₃ tk₃ dx k₃ dn dne hx₃ hn₃ => ?_)
  show wpAny _ _ (execs _ _) _ _ _
  have z : s.heap.objs.size < h₁.objs.size := hn.lt
  exact wpAny_execs_nil (hq h₃ tk₃ dx ⟨fun b o hb e => k₃ b o hb (k b o e), hx₃, Nat.le_of_lt (Nat.lt_of_lt_of_le z dn), dne, hn₃⟩)
theorem low_made (T : ErrTxt K mg nx qn C fI) {v : Value} (X : K.In s.heap) (hlim : s.heap.NoLimit) (hroom : A.depth + 1 < recursionLimit)
    (hq : ∀ h' tk e d, OwnMade s.heap h' e C d v → R (.ok (.ret (.ref e))) { s with heap := h', toks := tk }) :
    codeAny (model prog w) A (.call (.ref C) ⟨[v], []⟩) R s := by
  obtain ⟨nm, q, N, bs, bm, sn, sub, ab, col, dd, k0, k1, k2, k3, k5, hC, hbm⟩ := T.cls
  obtain ⟨hp, g, dr, tk, os⟩ := s
  have k : ∀ b o, hp.get? b = some o → ((hp.push (kdv_tup [v])).push (excO C hp.objs.size)).get? b = some o := fun b o e => Heap.get?_push_of_some _ (Heap.get?_push_of_some _ e)
  have hget : ((hp.push (kdv_tup [v])).push (excO C hp.objs.size)).get? (hp.objs.size + 1) = some (excO C hp.objs.size) := by heap_get
  have hnx : K.lookup (hp.objs.size + 1) = none := by
    cases e : K.lookup (hp.objs.size + 1) with
    | none => rfl
    | some o =>
      have z : hp.get? (hp.objs.size + 1) = some o := X _ _ e
      exact absurd (Nat.lt_of_succ_lt (Heap.lt_size z)) (Nat.lt_irrefl _)
  refine call_own F.excBase_ValueError (fun X => refsVE_contains X bm hbm) (X _ _ hC) (looks_findIn X T.iC) (fun self => bind_fn X self T.tC) (one_size v) ?_
  refine low_init (s := ⟨(hp.push (kdv_tup [v])).push (excO C hp.objs.size), g, dr, tk, os⟩) T (X.keeps k) (hlim.keeps k) hget hnx ?_ fun h' tk' dx ⟨k', hx, dn, dne, hns⟩ => ?_
  · show A.depth + 1 < recursionLimit
    exact hroom
  · have old : ∀ b o, hp.get? b = some o → h'.get? b = some o := fun b o e => k' b o (Nat.ne_of_lt (Nat.lt_succ_of_lt (Heap.lt_size e))) (k b o e)
    have z : hp.objs.size + 1 + 1 ≤ dx := by
      first
        | (simpa only [Heap.size_push] using dn)
        | exact dn
        | (have q := dn; rw [Heap.size_push, Heap.size_push] at q; exact q)
    exact ⟨rfl, hq h' tk' (hp.objs.size + 1) dx ⟨old, Nat.le_succ _, ⟨_, _, hx, rfl, rfl, rfl, rfl⟩, Nat.le_trans (Nat.le_trans (Nat.le_succ _) (Nat.le_succ _)) z, dne, hns⟩⟩
end
end ErrX_number
end PySem
namespace L2
open PySem PySem.Spec PyProof.Rows
theorem relO_number {v : V} {v' : Value} (r : RelV v v') (f : Str) : RelO (List.lookup f [(("number" : Str), v)]) (if f = "number" then some v' else none) := by
  by_cases hw : f = "number"
  · subst hw
    rw [if_pos rfl]
    have q : List.lookup ("number" : Str) [(("number" : Str), v)] = some v := by simp [List.lookup]
    rw [q]
    exact r
  · rw [if_neg hw]
    have qw : (f == ("number" : Str)) = false := by simpa using hw
    have q2 : List.lookup f [(("number" : Str), v)] = none := by simp [List.lookup, qw]
    rw [q2]
    trivial
section
variable {X : Cx} {nx qn : Str} {C fI : Addr}
/-- Low(e) -/
def tMk_number (C : Addr) (ta : TA) : St → Hp → XK → Prop := fun σ H Q => ta σ H fun vs H1 => ∃ v, vs = [v] ∧ ∀ d, H1 d = none → Q (.ref C) (some d) (upd H1 d (.xd [(("number" : Str), v)]))
theorem pmk_number {a : Expr} {ta : TA} {p pos : Pos} {k : Nat} (T : PySem.ErrX_number.ErrTxt X.K X.mg nx qn C fI) (hr : Room k X.A) (ha : PA X [a] ta) (hg : Gl X nx := by rfl) (hdb : (nx == ("__debug__" : Str)) = false := by decide)
    (he : starEach (a :: []) X.env = (false, eval a X.env) :: starEach [] X.env := by rfl) (hpl : (backTo pos (starEach [] X.env)).any (·.1) = false := by rfl) :
    PMk X (.Call (.Name nx p) [a] [] pos) (tMk_number C ta) := by
  intro pins s σ H Q I h
  refine wpAny_Call_Name_kw (ld_glob I hg T.gC ?_ hdb)
  refine PySem.W.callWith_K (h₀ := X.base) I.ok.mod.kin T.kC (thn (ha.run pos pins s σ H _ I h) fun us s1 hh => ?_) he hpl
  obtain ⟨vs, H1, I1, r1, v, ev, q1⟩ := hh
  subst ev
  refine ⟨I1.kIn, ?_⟩
  cases r1 with
  | cons rv rn =>
    rename_i v' us'
    cases rn
    show wpAny _ _ (call (.ref C) [v']) _ _ _
    have hlim := I1.nolimit
    obtain ⟨hp, g, dr, tk, os⟩ := s1
    refine wpAny_call (PySem.ErrX_number.low_made T I1.kIn hlim (by have := hr.dp; omega) fun h' tk' e d M => ?_)
    show MkP X pins σ Q (.ref e) ⟨h', g, dr, tk', os⟩
    obtain ⟨oe, fv, hoe, hc, hd, hdat, h1⟩ := M.obj
    have hns := M.ns
    obtain ⟨G', g1, g2⟩ := restrict h' fun b => decide (b ≠ e)
    have gk : ∀ b, b ≠ e → G'.get? b = h'.get? b := fun b hb => g1 b (decide_eq_true hb)
    have ge : G'.get? e = none := g2 e (by simp)
    have old : ∀ b o, hp.get? b = some o → G'.get? b = some o := fun b o q => (gk b (Nat.ne_of_lt (Nat.lt_of_lt_of_le (Heap.lt_size q) M.new))).trans (M.keep b o q)
    have ob : ObjOk X.prog X.w (upd H1 d (.xd [(("number" : Str), v)])) G' d (.xd [(("number" : Str), v)]) :=
      ⟨_, hns.at (fun o q => (gk d M.dne).trans q), fun f => relO_number rv f⟩
    have J : Inv X pins σ (upd H1 d (.xd [(("number" : Str), v)])) ⟨G', g, dr, tk', os⟩ := I1.laid (t' := tk') old M.dbig ob
    refine ⟨e, oe, fv, ⟨G', g, dr, tk', os⟩, _, .ref C, some d, rfl, J, fun b o q => ?_, ge, hoe, ⟨hc, hd⟩, hdat, h1, ?_, rfl, I1.bare, raises_own T.exC T.tyC, q1 d (I1.hok.fresh M.dbig)⟩
    · by_cases hb : b = e
      · have q' : G'.get? b = some o := q
        rw [hb, ge] at q'; cases q'
      · exact (gk b hb).symm.trans q
    · rw [upd_ne (Ne.symm M.dne)]
      exact I1.hok.fresh M.new
/-- raise Low(e) -/
def tRaise_number (C : Addr) (W : WX) (ta : TA) : TS := fun _ σ H => tMk_number C ta σ H fun cls d H' => W cls d σ H'
theorem ps_raise_number {a : Expr} {ta : TA} {W : WX} {p pos pos2 : Pos} {k : Nat} (hc : X.calm = true) (T : PySem.ErrX_number.ErrTxt X.K X.mg nx qn C fI) (hr : Room k X.A) (tk : Takes X W) (ha : PA X [a] ta) (hg : Gl X nx := by rfl) (hdb : (nx == ("__debug__" : Str)) = false := by decide)
    (he : starEach (a :: []) X.env = (false, eval a X.env) :: starEach [] X.env := by rfl) (hpl : (backTo pos (starEach [] X.env)).any (·.1) = false := by rfl) :
    PS X (.Raise (some (.Call (.Name nx p) [a] [] pos)) none pos2) (tRaise_number C W ta) := ps_raise hc tk (pmk_number T hr ha hg hdb he hpl)
/-- low.by, low the exception that the suite holds (at a; its class cls, its dict d) -/
def tBy_number (C : Addr) (a : Addr) (cls : Value) (d : Option Addr) (te : TE) : TE := fun σ H Q => te σ H fun x H1 => x = .ref a ∧ cls = .ref C ∧ ∃ (dd : Addr) (v : V), d = some dd ∧ H1 dd = some (.xd [(("number" : Str), v)]) ∧ Q v H1
theorem pe_by_number {a : Addr} {oe : Obj} {cls : Value} {d : Option Addr} {pn : List (Addr × Obj)} {e : Expr} {te : TE} {pos : Pos} (T : PySem.ErrX_number.ErrTxt X.K X.mg nx qn C fI) (hz : Zc cls d oe) (hf : ∃ vs, oe.data = .fields vs) (he : PE (X.suite a ((a, oe) :: pn)) e te)
    (hb : attributeBase e "number" X.env (eval e X.env) = eval e X.env := by rfl) :
    PE (X.suite a ((a, oe) :: pn)) (.Attribute e "number" pos) (tBy_number C a cls d te) := by
  refine ⟨fun pins s σ H Q I h => ?_⟩
  refine attr_of hb (thn (he.run pins s σ H _ I h) fun u s1 hh => ?_)
  obtain ⟨x, H1, I1, rx, ex, ec, dd, v, ed, ea, q⟩ := hh
  subst ex
  obtain rfl : u = Value.ref a := rx
  subst ec
  subst ed
  obtain ⟨ha, _⟩ := I1.pin (a, oe) (List.mem_append_left _ List.mem_cons_self)
  obtain ⟨vs, hd⟩ := hf
  have hx : ObjOk X.prog X.w H1 s1.heap dd (.xd [(("number" : Str), v)]) := I1.hok dd _ ea
  obtain ⟨mA, hns, hr⟩ := hx
  obtain ⟨od, ho, hl⟩ := lookIn_ns hns
  have l : List.lookup ("number" : Str) [(("number" : Str), v)] = some v := by simp [List.lookup]
  obtain ⟨u, hu, ru⟩ := RelO.some_of (v := v) (o := mA "number") (by rw [← l]; exact hr "number")
  have J : PySem.W.InstAt s1.heap a oe C (some od) := ⟨ha, hz.1, by unfold PySem.W.notCls; rw [hd] <;> rfl, by rw [hz.2]; exact ho⟩
  exact HandSPX.exc_get I1.kIn J T.ga T.gg T.exC (PySem.W.findObj_own T.hdC T.noN rfl (by rw [hl, hu])) (handed_of ru) ⟨v, H1, I1.tok _, ru, q⟩
end
end L2
set_option maxHeartbeats 2000000
namespace PySem
namespace ErrX_value
open PySem.W PySem.Calls PyProof.Rows PySem.HandSPX
/-! ### the text of __init__ -/
def iA (p1 p2 : Pos) : Arguments := { posonlyargs := [], args := [{ arg := "self", annotation := none, pos := p1 }, { arg := "value", annotation := none, pos := p2 }], vararg := none, kwonlyargs := [], kw_defaults := [], kwarg := none, defaults := [] }
def iB (q1 q2 q3 q4 : Pos) : List Stmt := [.Assign [.Attribute (.Name "self" q1) "value" q2] (.Name "value" q3) q4]
def iS : Scope := { kind := .function, names := [(PySem.Str.ofString "self", .local), (PySem.Str.ofString "value", .local)], isGenerator := false, isCoroutine := false, more := [] }
/-- what the written part says of Low, at C, and of its __init__, at fI -/
structure ErrTxt (K : Frag) (mg : Str → Option Value) (nx qn : Str) (C fI : Addr) : Prop where
  gC : mg nx = some (.ref C)
  cls : ∃ nm q N bs bm sn sub ab col dd k0 k1 k2 k3 k5, K.lookup C = some (excClassObj nm q C N bs bm true sn sub ab col dd k0 k1 k2 k3 k5 "ValueError.__new__") ∧ refsVE bm = true
  sa : findIn K (.ref C) "__setattr__" = some (some (.builtin "object.__setattr__"))
  ga : findIn K (.ref C) "__getattribute__" = some (some (.builtin "BaseException.__getattribute__"))
  gg : findIn K (.ref C) "__getattr__" = some none
  noN : findIn K (.ref C) "value" = some none
  iC : findIn K (.ref C) "__init__" = some (some (.ref fI))
  tC : typeIn K (.ref fI) = some (.type "function")
  kC : keepIn K (.ref C) = true
  exC : subIn K (.ref C) (.type "BaseException") = some true
  tyC : typeIn K (.ref C) = some (.type "type")
  hdC : hasDictIn K C = true
  te : exmOne K (.ref C) (.ref C) = some true
  fn : ∃ (oc : Value) (od : Option Addr) (doc pm : Value) (an : Option Addr) (cdv ct : Value) (osl : Array (Option Value)) (p1 p2 q1 q2 q3 q4 : Pos),
    K.lookup fI = some ⟨oc, od, .func (fnOf "__init__" qn (iA p1 p2) (iB q1 q2 q3 q4) iS .none .none doc pm an cdv ct), osl⟩ ∧ codeIn K cdv qn = true
theorem one_size (v : Value) : [v].length ≤ sizeLine := by
  rw [sizeLine_eq]
  exact (by decide : 1 ≤ 16777216)
theorem kept_but {K : Frag} {h h' : Heap} {x : Addr} (X : K.In h) (hx : K.lookup x = none) (k : ∀ b o, b ≠ x → h.get? b = some o → h'.get? b = some o) : K.In h' := fun a o e =>
  k a o (fun z => by rw [z, hx] at e; cases e) (X a o e)
theorem ldC {M : Model} {s : Shared} {name : Str} {scope : Scope} {L a : Addr} {cd : Value} {m : Str → Option Value} {x : Str} {pos : Pos} {v : Value} {Q : Value → Shared → Prop} {A : Around} {E : Value → Shared → Prop} (hn : s.heap.Ns L m) (hv : m x = some v) (h : Q v s)
    (hk : scope.kind = .function := by rfl) (hl : (envOfC name scope L a cd).kindOf x = some .local := by rfl) (hd : (x == ("__debug__" : Str)) = false := by decide) :
    wpAny M A (eval (.Name x pos) (envOfC name scope L a cd)) Q E s := wpAny_Name (wpAny_loadName_local hk hl hn hv h) hd
/-- what __init__ leaves of a fresh exception at x -/
structure InitEnd (h h' : Heap) (x C dx t1 : Addr) (v : Value) : Prop where
  keep : ∀ b o, b ≠ x → h.get? b = some o → h'.get? b = some o
  obj : h'.get? x = some { cls := .ref C, dict := some dx, data := .fields #[.ref t1, .none, .none, .none, .bool false, .none] }
  dbig : h.objs.size ≤ dx
  dne : dx ≠ x
  ns : h'.Ns1 dx (fun y => if y = "value" then some v else none)
/-- a made Low -/
structure OwnMade (h h' : Heap) (e C d : Addr) (v : Value) : Prop where
  keep : ∀ b o, h.get? b = some o → h'.get? b = some o
  new : h.objs.size ≤ e
  obj : ∃ oe vs, h'.get? e = some oe ∧ oe.cls = .ref C ∧ oe.dict = some d ∧ oe.data = .fields vs ∧ vs[1]? = some .none
  dbig : h.objs.size ≤ d
  dne : d ≠ e
  ns : h'.Ns1 d (fun y => if y = "value" then some v else none)
section
variable {prog : Program} {w : World} {A : Around} {E : Value → Shared → Prop} {R : Result → Shared → Prop} {s : Shared} {K : Frag} {mg : Str → Option Value} {nx qn : Str} {C fI : Addr}
theorem low_init (T : ErrTxt K mg nx qn C fI) {x t0 : Addr} {v : Value} (X : K.In s.heap) (hlim : s.heap.NoLimit) (hx : s.heap.get? x = some (excO C t0)) (hnx : K.lookup x = none) (hroom : A.depth < recursionLimit)
    (hq : ∀ h' tk dx, InitEnd s.heap h' x C dx t0 v → R (.ok (.ret .none)) { s with heap := h', toks := tk }) :
    codeAny (model prog w) A (.call (.ref fI) ⟨[.ref x, v], []⟩) R s := by
  obtain ⟨oc, od, doc, pm, an, cdv, ct, osl, p1, p2, q1, q2, q3, q4, ho, hcd⟩ := T.fn
  obtain ⟨nm, q, N, bs, bm, sn, sub, ab, col, dd, k0, k1, k2, k3, k5, hC, hbm⟩ := T.cls
  have hcl : clsIn K C = some { name := nm, bases := bs, mro := .ref C :: bm, ns := N, qualname := q, hasDict := true, slotNames := sn, subclasses := sub, abstract := ab, collection := col, hasDel := false } := by unfold clsIn; rw [hC] <;> rfl
  refine Att.call_fn (binds := [("self", .ref x), ("value", v)]) X hlim ho hcd hroom (BindsTo.of_eq (by first | rfl | with_unfolding_all rfl)) (by first | rfl | decide | with_unfolding_all rfl) (fun s₁ IC => ?_) rfl rfl rfl
  obtain ⟨h₁, tk₁, rfl⟩ := IC.toInCall.same
  have k : ∀ b o, s.heap.get? b = some o → h₁.get? b = some o := IC.toInCall.keep
  have hn := IC.toInCall.ns
  have hxL : s.heap.objs.size ≠ x := Nat.ne_of_gt (Heap.lt_size hx)
  have X₁ : K.In h₁ := X.keeps k
  have hx₁ := k _ _ hx
  -- self.by = by
  show wpAny _ _ (execs _ _) _ _ _
  refine wpAny_execs_cons (plainObj_wpAny_Assign_Attribute ?_)
  refine ldC (v := v) hn (by first | rfl | with_unfolding_all rfl | kernel_rfl) (ldC (v := .ref x) hn (by first | rfl | with_unfolding_all rfl | kernel_rfl) ?_)
  refine set_plain X₁ (ox := excO C t0) (od := none) ⟨hx₁, rfl, rfl, trivial⟩ T.sa ?_
  refine exc_osa X₁ hx₁ hcl (show refsVE (.ref C :: bm) = true from hbm) rfl T.noN (fun h₃ tk₃ dx k₃ dn dne hx₃ hn₃ => ?_)
  show wpAny _ _ (execs _ _) _ _ _
  have z : s.heap.objs.size < h₁.objs.size := hn.lt
  exact wpAny_execs_nil (hq h₃ tk₃ dx ⟨fun b o hb e => k₃ b o hb (k b o e), hx₃, Nat.le_of_lt (Nat.lt_of_lt_of_le z dn), dne, hn₃⟩)
theorem low_made (T : ErrTxt K mg nx qn C fI) {v : Value} (X : K.In s.heap) (hlim : s.heap.NoLimit) (hroom : A.depth + 1 < recursionLimit)
    (hq : ∀ h' tk e d, OwnMade s.heap h' e C d v → R (.ok (.ret (.ref e))) { s with heap := h', toks := tk }) :
    codeAny (model prog w) A (.call (.ref C) ⟨[v], []⟩) R s := by
  obtain ⟨nm, q, N, bs, bm, sn, sub, ab, col, dd, k0, k1, k2, k3, k5, hC, hbm⟩ := T.cls
  obtain ⟨hp, g, dr, tk, os⟩ := s
  have k : ∀ b o, hp.get? b = some o → ((hp.push (kdv_tup [v])).push (excO C hp.objs.size)).get? b = some o := fun b o e => Heap.get?_push_of_some _ (Heap.get?_push_of_some _ e)
  have hget : ((hp.push (kdv_tup [v])).push (excO C hp.objs.size)).get? (hp.objs.size + 1) = some (excO C hp.objs.size) := by heap_get
  have hnx : K.lookup (hp.objs.size + 1) = none := by
    cases e : K.lookup (hp.objs.size + 1) with
    | none => rfl
    | some o =>
      have z : hp.get? (hp.objs.size + 1) = some o := X _ _ e
      exact absurd (Nat.lt_of_succ_lt (Heap.lt_size z)) (Nat.lt_irrefl _)
  refine call_own F.excBase_ValueError (fun X => refsVE_contains X bm hbm) (X _ _ hC) (looks_findIn X T.iC) (fun self => bind_fn X self T.tC) (one_size v) ?_
  refine low_init (s := ⟨(hp.push (kdv_tup [v])).push (excO C hp.objs.size), g, dr, tk, os⟩) T (X.keeps k) (hlim.keeps k) hget hnx ?_ fun h' tk' dx ⟨k', hx, dn, dne, hns⟩ => ?_
  · show A.depth + 1 < recursionLimit
    exact hroom
  · have old : ∀ b o, hp.get? b = some o → h'.get? b = some o := fun b o e => k' b o (Nat.ne_of_lt (Nat.lt_succ_of_lt (Heap.lt_size e))) (k b o e)
    have z : hp.objs.size + 1 + 1 ≤ dx := by
      first
        | (simpa only [Heap.size_push] using dn)
        | exact dn
        | (have q := dn; rw [Heap.size_push, Heap.size_push] at q; exact q)
    exact ⟨rfl, hq h' tk' (hp.objs.size + 1) dx ⟨old, Nat.le_succ _, ⟨_, _, hx, rfl, rfl, rfl, rfl⟩, Nat.le_trans (Nat.le_trans (Nat.le_succ _) (Nat.le_succ _)) z, dne, hns⟩⟩
end
end ErrX_value
end PySem
namespace L2
open PySem PySem.Spec PyProof.Rows
theorem relO_value {v : V} {v' : Value} (r : RelV v v') (f : Str) : RelO (List.lookup f [(("value" : Str), v)]) (if f = "value" then some v' else none) := by
  by_cases hw : f = "value"
  · subst hw
    rw [if_pos rfl]
    have q : List.lookup ("value" : Str) [(("value" : Str), v)] = some v := by simp [List.lookup]
    rw [q]
    exact r
  · rw [if_neg hw]
    have qw : (f == ("value" : Str)) = false := by simpa using hw
    have q2 : List.lookup f [(("value" : Str), v)] = none := by simp [List.lookup, qw]
    rw [q2]
    trivial
section
variable {X : Cx} {nx qn : Str} {C fI : Addr}
/-- Low(e) -/
def tMk_value (C : Addr) (ta : TA) : St → Hp → XK → Prop := fun σ H Q => ta σ H fun vs H1 => ∃ v, vs = [v] ∧ ∀ d, H1 d = none → Q (.ref C) (some d) (upd H1 d (.xd [(("value" : Str), v)]))
theorem pmk_value {a : Expr} {ta : TA} {p pos : Pos} {k : Nat} (T : PySem.ErrX_value.ErrTxt X.K X.mg nx qn C fI) (hr : Room k X.A) (ha : PA X [a] ta) (hg : Gl X nx := by rfl) (hdb : (nx == ("__debug__" : Str)) = false := by decide)
    (he : starEach (a :: []) X.env = (false, eval a X.env) :: starEach [] X.env := by rfl) (hpl : (backTo pos (starEach [] X.env)).any (·.1) = false := by rfl) :
    PMk X (.Call (.Name nx p) [a] [] pos) (tMk_value C ta) := by
  intro pins s σ H Q I h
  refine wpAny_Call_Name_kw (ld_glob I hg T.gC ?_ hdb)
  refine PySem.W.callWith_K (h₀ := X.base) I.ok.mod.kin T.kC (thn (ha.run pos pins s σ H _ I h) fun us s1 hh => ?_) he hpl
  obtain ⟨vs, H1, I1, r1, v, ev, q1⟩ := hh
  subst ev
  refine ⟨I1.kIn, ?_⟩
  cases r1 with
  | cons rv rn =>
    rename_i v' us'
    cases rn
    show wpAny _ _ (call (.ref C) [v']) _ _ _
    have hlim := I1.nolimit
    obtain ⟨hp, g, dr, tk, os⟩ := s1
    refine wpAny_call (PySem.ErrX_value.low_made T I1.kIn hlim (by have := hr.dp; omega) fun h' tk' e d M => ?_)
    show MkP X pins σ Q (.ref e) ⟨h', g, dr, tk', os⟩
    obtain ⟨oe, fv, hoe, hc, hd, hdat, h1⟩ := M.obj
    have hns := M.ns
    obtain ⟨G', g1, g2⟩ := restrict h' fun b => decide (b ≠ e)
    have gk : ∀ b, b ≠ e → G'.get? b = h'.get? b := fun b hb => g1 b (decide_eq_true hb)
    have ge : G'.get? e = none := g2 e (by simp)
    have old : ∀ b o, hp.get? b = some o → G'.get? b = some o := fun b o q => (gk b (Nat.ne_of_lt (Nat.lt_of_lt_of_le (Heap.lt_size q) M.new))).trans (M.keep b o q)
    have ob : ObjOk X.prog X.w (upd H1 d (.xd [(("value" : Str), v)])) G' d (.xd [(("value" : Str), v)]) :=
      ⟨_, hns.at (fun o q => (gk d M.dne).trans q), fun f => relO_value rv f⟩
    have J : Inv X pins σ (upd H1 d (.xd [(("value" : Str), v)])) ⟨G', g, dr, tk', os⟩ := I1.laid (t' := tk') old M.dbig ob
    refine ⟨e, oe, fv, ⟨G', g, dr, tk', os⟩, _, .ref C, some d, rfl, J, fun b o q => ?_, ge, hoe, ⟨hc, hd⟩, hdat, h1, ?_, rfl, I1.bare, raises_own T.exC T.tyC, q1 d (I1.hok.fresh M.dbig)⟩
    · by_cases hb : b = e
      · have q' : G'.get? b = some o := q
        rw [hb, ge] at q'; cases q'
      · exact (gk b hb).symm.trans q
    · rw [upd_ne (Ne.symm M.dne)]
      exact I1.hok.fresh M.new
/-- raise Low(e) -/
def tRaise_value (C : Addr) (W : WX) (ta : TA) : TS := fun _ σ H => tMk_value C ta σ H fun cls d H' => W cls d σ H'
theorem ps_raise_value {a : Expr} {ta : TA} {W : WX} {p pos pos2 : Pos} {k : Nat} (hc : X.calm = true) (T : PySem.ErrX_value.ErrTxt X.K X.mg nx qn C fI) (hr : Room k X.A) (tk : Takes X W) (ha : PA X [a] ta) (hg : Gl X nx := by rfl) (hdb : (nx == ("__debug__" : Str)) = false := by decide)
    (he : starEach (a :: []) X.env = (false, eval a X.env) :: starEach [] X.env := by rfl) (hpl : (backTo pos (starEach [] X.env)).any (·.1) = false := by rfl) :
    PS X (.Raise (some (.Call (.Name nx p) [a] [] pos)) none pos2) (tRaise_value C W ta) := ps_raise hc tk (pmk_value T hr ha hg hdb he hpl)
/-- low.by, low the exception that the suite holds (at a; its class cls, its dict d) -/
def tBy_value (C : Addr) (a : Addr) (cls : Value) (d : Option Addr) (te : TE) : TE := fun σ H Q => te σ H fun x H1 => x = .ref a ∧ cls = .ref C ∧ ∃ (dd : Addr) (v : V), d = some dd ∧ H1 dd = some (.xd [(("value" : Str), v)]) ∧ Q v H1
theorem pe_by_value {a : Addr} {oe : Obj} {cls : Value} {d : Option Addr} {pn : List (Addr × Obj)} {e : Expr} {te : TE} {pos : Pos} (T : PySem.ErrX_value.ErrTxt X.K X.mg nx qn C fI) (hz : Zc cls d oe) (hf : ∃ vs, oe.data = .fields vs) (he : PE (X.suite a ((a, oe) :: pn)) e te)
    (hb : attributeBase e "value" X.env (eval e X.env) = eval e X.env := by rfl) :
    PE (X.suite a ((a, oe) :: pn)) (.Attribute e "value" pos) (tBy_value C a cls d te) := by
  refine ⟨fun pins s σ H Q I h => ?_⟩
  refine attr_of hb (thn (he.run pins s σ H _ I h) fun u s1 hh => ?_)
  obtain ⟨x, H1, I1, rx, ex, ec, dd, v, ed, ea, q⟩ := hh
  subst ex
  obtain rfl : u = Value.ref a := rx
  subst ec
  subst ed
  obtain ⟨ha, _⟩ := I1.pin (a, oe) (List.mem_append_left _ List.mem_cons_self)
  obtain ⟨vs, hd⟩ := hf
  have hx : ObjOk X.prog X.w H1 s1.heap dd (.xd [(("value" : Str), v)]) := I1.hok dd _ ea
  obtain ⟨mA, hns, hr⟩ := hx
  obtain ⟨od, ho, hl⟩ := lookIn_ns hns
  have l : List.lookup ("value" : Str) [(("value" : Str), v)] = some v := by simp [List.lookup]
  obtain ⟨u, hu, ru⟩ := RelO.some_of (v := v) (o := mA "value") (by rw [← l]; exact hr "value")
  have J : PySem.W.InstAt s1.heap a oe C (some od) := ⟨ha, hz.1, by unfold PySem.W.notCls; rw [hd] <;> rfl, by rw [hz.2]; exact ho⟩
  exact HandSPX.exc_get I1.kIn J T.ga T.gg T.exC (PySem.W.findObj_own T.hdC T.noN rfl (by rw [hl, hu])) (handed_of ru) ⟨v, H1, I1.tok _, ru, q⟩
end
end L2
namespace L2
theorem kit_tyF {K : PySem.W.Frag} {R : PySem.Addr} {t : String} (h2 : PySem.W.isClsIn K R = true) (h3 : PySem.W.typeIn K (.ref R) = some (.type "type")) (h4 : PySem.W.subIn K (.type t) (.ref R) = some false) : PySem.W.kitOne K (.type t) (.ref R) = some false := by
  have e2 : ((PySem.W.clsIn K R).isSome && PySem.W.typeIn K (.ref R) == some (.type "type")) = true := by
    have h2' : (PySem.W.clsIn K R).isSome = true := h2
    rw [h2', h3] <;> rfl
  unfold PySem.W.kitOne
  by_cases c : (PySem.Value.type t == PySem.Value.ref R) = true
  · have e : PySem.Value.type t = PySem.Value.ref R := beq_iff_eq.mp c
    cases e
  · rw [if_neg c]
    show (if ((PySem.W.clsIn K R).isSome && PySem.W.typeIn K (.ref R) == some (.type "type")) = true then PySem.W.subIn K (.type t) (.ref R) else none) = some false
    rw [if_pos e2, h4]
end L2
namespace Rt
open PySem L2
theorem exm_self {K : PySem.W.Frag} {S : Addr} (h1 : PySem.W.subIn K (.ref S) (.type "BaseException") = some true) (h2 : PySem.W.isClsIn K S = true) (h3 : PySem.W.typeIn K (.ref S) = some (.type "type")) (h4 : PySem.W.subIn K (.ref S) (.ref S) = some true) :
    PySem.W.exmOne K (.ref S) (.ref S) = some true := by
  have e1 : (PySem.W.subIn K (.ref S) (.type "BaseException") == some true) = true := by rw [h1] <;> rfl
  have e2 : ((PySem.W.clsIn K S).isSome && PySem.W.typeIn K (.ref S) == some (.type "type")) = true := by
    have h2' : (PySem.W.clsIn K S).isSome = true := h2
    rw [h2', h3] <;> rfl
  show (if (PySem.W.subIn K (.ref S) (.type "BaseException") == some true) = true then (if ((PySem.W.clsIn K S).isSome && PySem.W.typeIn K (.ref S) == some (.type "type")) = true then PySem.W.subIn K (.ref S) (.ref S) else none) else none) = some true
  rw [if_pos e1, if_pos e2]
  exact h4
def topS (i : Nat) : Stmt := PySem.Challenge.pw_roomtold_k06_trees_told.main.body.getD i (.Pass ⟨0, 0, 0, 0⟩)
abbrev s_is_integer : Stmt := (topS 11)
theorem sc_is_integer : FnScope ["value", "least", "greatest"] ["value", "least", "greatest"] (defScope s_is_integer) := ⟨rfl, rfl, rfl, by decide +kernel, rfl, by decide +kernel, by decide +kernel⟩
abbrev s_are_integers : Stmt := (topS 12)
theorem sc_are_integers : FnScope ["value", "least", "greatest", "number"] ["value", "least", "greatest"] (defScope s_are_integers) := ⟨rfl, rfl, rfl, by decide +kernel, rfl, by decide +kernel, by decide +kernel⟩
abbrev s_are_told : Stmt := (topS 16)
theorem sc_are_told : FnScope ["value", "classes"] ["value", "classes"] (defScope s_are_told) := ⟨rfl, rfl, rfl, by decide +kernel, rfl, by decide +kernel, by decide +kernel⟩
abbrev s_Tree_init : Stmt := (inClass (topS 17) 0)
theorem sc_Tree_init : FnScope ["self", "classes", "told"] ["self", "classes", "told"] (defScope s_Tree_init) := ⟨rfl, rfl, rfl, by decide +kernel, rfl, by decide +kernel, by decide +kernel⟩
abbrev s_Tree_told : Stmt := (inClass (topS 17) 3)
theorem sc_Tree_told : FnScope ["self"] ["self"] (defScope s_Tree_told) := ⟨rfl, rfl, rfl, by decide +kernel, rfl, by decide +kernel, by decide +kernel⟩
abbrev s_Tree_len : Stmt := (inClass (topS 17) 5)
theorem sc_Tree_len : FnScope ["self"] ["self"] (defScope s_Tree_len) := ⟨rfl, rfl, rfl, by decide +kernel, rfl, by decide +kernel, by decide +kernel⟩
abbrev s_Tree_getitem : Stmt := (inClass (topS 17) 6)
theorem sc_Tree_getitem : FnScope ["self", "node"] ["self", "node"] (defScope s_Tree_getitem) := ⟨rfl, rfl, rfl, by decide +kernel, rfl, by decide +kernel, by decide +kernel⟩
abbrev s_Tree_leaf : Stmt := (inClass (topS 17) 8)
theorem sc_Tree_leaf : FnScope ["self", "page"] ["self", "page"] (defScope s_Tree_leaf) := ⟨rfl, rfl, rfl, by decide +kernel, rfl, by decide +kernel, by decide +kernel⟩
abbrev s_Tree_way : Stmt := (inClass (topS 17) 9)
theorem sc_Tree_way : FnScope ["self", "page", "node", "upward"] ["self", "page"] (defScope s_Tree_way) := ⟨rfl, rfl, rfl, by decide +kernel, rfl, by decide +kernel, by decide +kernel⟩
abbrev s_Tree_greater : Stmt := (inClass (topS 17) 10)
theorem sc_Tree_greater : FnScope ["self", "node"] ["self", "node"] (defScope s_Tree_greater) := ⟨rfl, rfl, rfl, by decide +kernel, rfl, by decide +kernel, by decide +kernel⟩
abbrev s_Tree_with_told : Stmt := (inClass (topS 17) 14)
theorem sc_Tree_with_told : FnScope ["self", "node", "told", "row"] ["self", "node", "told"] (defScope s_Tree_with_told) := ⟨rfl, rfl, rfl, by decide +kernel, rfl, by decide +kernel, by decide +kernel⟩
abbrev s_Tree_eq : Stmt := (inClass (topS 17) 15)
theorem sc_Tree_eq : FnScope ["self", "other"] ["self", "other"] (defScope s_Tree_eq) := ⟨rfl, rfl, rfl, by decide +kernel, rfl, by decide +kernel, by decide +kernel⟩
abbrev s_law_opened : Stmt := (topS 19)
theorem sc_law_opened : FnScope ["_law_script", "_law_k", "_law_cell", "_law_great"] ["_law_script", "_law_k"] (defScope s_law_opened) := ⟨rfl, rfl, rfl, by decide +kernel, rfl, by decide +kernel, by decide +kernel⟩
abbrev s_law_draw : Stmt := (topS 20)
theorem sc_law_draw : FnScope ["_law_pool", "_law_many", "_law_digit"] ["_law_pool", "_law_many"] (defScope s_law_draw) := ⟨rfl, rfl, rfl, by decide +kernel, rfl, by decide +kernel, by decide +kernel⟩
abbrev s_law_told : Stmt := (topS 21)
theorem sc_law_told : FnScope ["_law_pool", "_law_classes", "_law_pages_here", "_law_kind", "_law_row", "_law_node"] ["_law_pool", "_law_classes", "_law_pages_here"] (defScope s_law_told) := ⟨rfl, rfl, rfl, by decide +kernel, rfl, by decide +kernel, by decide +kernel⟩
abbrev s_law_pages : Stmt := (topS 22)
theorem sc_law_pages : FnScope ["_law_pool", "_law_many"] ["_law_pool", "_law_many"] (defScope s_law_pages) := ⟨rfl, rfl, rfl, by decide +kernel, rfl, by decide +kernel, by decide +kernel⟩
abbrev s_law_way : Stmt := (topS 23)
theorem sc_law_way : FnScope ["_law_pages_here", "_law_page", "_law_way_here", "_law_step"] ["_law_pages_here", "_law_page"] (defScope s_law_way) := ⟨rfl, rfl, rfl, by decide +kernel, rfl, by decide +kernel, by decide +kernel⟩
abbrev s_law_greater : Stmt := (topS 24)
theorem sc_law_greater : FnScope ["_law_row", "_law_node"] ["_law_row", "_law_node"] (defScope s_law_greater) := ⟨rfl, rfl, rfl, by decide +kernel, rfl, by decide +kernel, by decide +kernel⟩
abbrev s_law_refused : Stmt := (topS 25)
theorem sc_law_refused : FnScope ["_law_call", "e"] ["_law_call"] (defScope s_law_refused) := ⟨rfl, rfl, rfl, by decide +kernel, rfl, by decide +kernel, by decide +kernel⟩
abbrev s_law_tree_right : Stmt := (topS 26)
theorem sc_law_tree_right : FnScope ["_law_tree", "_law_classes", "_law_row", "_law_pages_here", "_law_node", "_law_page"] ["_law_tree", "_law_classes", "_law_row"] (defScope s_law_tree_right) := ⟨rfl, rfl, rfl, by decide +kernel, rfl, by decide +kernel, by decide +kernel⟩
abbrev s_law_refusals : Stmt := (topS 27)
theorem sc_law_refusals : FnScope ["_law_tree", "_law_classes", "_law_pages_here", "_law_odd"] ["_law_tree", "_law_classes", "_law_pages_here"] (defScope s_law_refusals) := ⟨rfl, rfl, rfl, by decide +kernel, rfl, by decide +kernel, by decide +kernel⟩
abbrev s_law : Stmt := (topS 28)
theorem sc_law : FnScope ["_law_script", "_law_k", "_law_pool", "_law_classes", "_law_pages_here", "_law_row", "_law_given", "_law_tree", "_law_other", "_law_node", "_law_told_here", "_law_later"] ["_law_script"] (defScope s_law) := ⟨rfl, rfl, rfl, by decide +kernel, rfl, by decide +kernel, by decide +kernel⟩

structure Ad where
  C_Tree : Addr
  C_RoomError : Addr
  C_BadPage : Addr
  i_BadPage : Addr
  C_BadNode : Addr
  i_BadNode : Addr
  C_BadClass : Addr
  i_BadClass : Addr
  C_BadSize : Addr
  i_BadSize : Addr
  C_BadRooms : Addr
  i_BadRooms : Addr
  C_BadTree : Addr
  i_BadTree : Addr
  C_BadArgument : Addr
  i_BadArgument : Addr
  a_is_integer : Addr
  fd_is_integer : FuncData
  a_are_integers : Addr
  fd_are_integers : FuncData
  a_are_told : Addr
  fd_are_told : FuncData
  a_Tree_init : Addr
  fd_Tree_init : FuncData
  a_Tree_told : Addr
  fd_Tree_told : FuncData
  a_Tree_len : Addr
  fd_Tree_len : FuncData
  a_Tree_getitem : Addr
  fd_Tree_getitem : FuncData
  a_Tree_leaf : Addr
  fd_Tree_leaf : FuncData
  a_Tree_way : Addr
  fd_Tree_way : FuncData
  a_Tree_greater : Addr
  fd_Tree_greater : FuncData
  a_Tree_with_told : Addr
  fd_Tree_with_told : FuncData
  a_Tree_eq : Addr
  fd_Tree_eq : FuncData
  a_law_opened : Addr
  fd_law_opened : FuncData
  a_law_draw : Addr
  fd_law_draw : FuncData
  a_law_told : Addr
  fd_law_told : FuncData
  a_law_pages : Addr
  fd_law_pages : FuncData
  a_law_way : Addr
  fd_law_way : FuncData
  a_law_greater : Addr
  fd_law_greater : FuncData
  a_law_refused : Addr
  fd_law_refused : FuncData
  a_law_tree_right : Addr
  fd_law_tree_right : FuncData
  a_law_refusals : Addr
  fd_law_refusals : FuncData
  a_law : Addr
  fd_law : FuncData
  pp_Tree_told : Addr
  c_lam : Addr
  P_lam : Addr
  t_NODES : Addr
  tk_MOST_CLASSES : Tok
structure Txt (K : PySem.W.Frag) (mg : Str → Option Value) (a : Ad) : Prop where
  cl_Tree : Cls K a.C_Tree
  g_Tree : mg "Tree" = some (.ref a.C_Tree)
  nf_Tree_classes : NoAttr K a.C_Tree "classes"
  nf_Tree_told : NoAttr K a.C_Tree "_told"
  mk_Tree : Mk K a.C_Tree a.a_Tree_init
  m_Tree_len : Meth K a.C_Tree "__len__" a.a_Tree_len
  m_Tree_getitem : Meth K a.C_Tree "__getitem__" a.a_Tree_getitem
  m_Tree_leaf : Meth K a.C_Tree "leaf" a.a_Tree_leaf
  m_Tree_way : Meth K a.C_Tree "way" a.a_Tree_way
  m_Tree_greater : Meth K a.C_Tree "greater" a.a_Tree_greater
  m_Tree_with_told : Meth K a.C_Tree "with_told" a.a_Tree_with_told
  m_Tree_eq : Meth K a.C_Tree "__eq__" a.a_Tree_eq
  p_Tree_told : PropOf K a.C_Tree "told" a.pp_Tree_told a.a_Tree_told
  kf_Tree_list : PySem.W.kitOne K (.type "list") (.ref a.C_Tree) = some false
  ksb_Tree_list : PySem.W.subIn K (.type "list") (.ref a.C_Tree) = some false
  kf_Tree_dict : PySem.W.kitOne K (.type "dict") (.ref a.C_Tree) = some false
  ksb_Tree_dict : PySem.W.subIn K (.type "dict") (.ref a.C_Tree) = some false
  fn_Tree_getitem : PySem.W.fnIn K a.a_Tree_getitem = true
  ne_Tree : PySem.W.findIn K (.ref a.C_Tree) "__ne__" = some (some (.builtin "object.__ne__"))
  hm_Tree : PySem.W.mroIn K a.C_Tree (.type "object") = some true
  ha_Tree : PySem.W.findIn K (.ref a.C_Tree) "__class__" = some (some (.builtin "object.__class__"))
  hn_Tree : PySem.W.specialIn K (.builtin "object.__class__") "__get__" = some (some (.builtin "getset_descriptor.__get__"))
  ht_Tree : PySem.W.takesIn K (.builtin "object.__class__") = some true
  g_RoomError : mg "RoomError" = some (.ref a.C_RoomError)
  e_BadPage : PySem.ErrX_number.ErrTxt K mg "BadPage" "BadPage.__init__" a.C_BadPage a.i_BadPage
  e_BadNode : PySem.ErrX_number.ErrTxt K mg "BadNode" "BadNode.__init__" a.C_BadNode a.i_BadNode
  m_BadNode_BadPage : PySem.W.exmOne K (.ref a.C_BadNode) (.ref a.C_BadPage) = some false
  e_BadClass : PySem.ErrX_value.ErrTxt K mg "BadClass" "BadClass.__init__" a.C_BadClass a.i_BadClass
  m_BadClass_BadPage : PySem.W.exmOne K (.ref a.C_BadClass) (.ref a.C_BadPage) = some false
  m_BadClass_BadNode : PySem.W.exmOne K (.ref a.C_BadClass) (.ref a.C_BadNode) = some false
  e_BadSize : PySem.ErrX_value.ErrTxt K mg "BadSize" "BadSize.__init__" a.C_BadSize a.i_BadSize
  e_BadRooms : PySem.ErrX_value.ErrTxt K mg "BadRooms" "BadRooms.__init__" a.C_BadRooms a.i_BadRooms
  e_BadTree : PySem.ErrX_part.ErrTxt K mg "BadTree" "BadTree.__init__" a.C_BadTree a.i_BadTree
  e_BadArgument : PySem.ErrX_value.ErrTxt K mg "BadArgument" "BadArgument.__init__" a.C_BadArgument a.i_BadArgument
  F_is_integer : Fun K "is_integer" "is_integer" s_is_integer a.a_is_integer a.fd_is_integer
  b_is_integer : Binds K a.fd_is_integer ["value", "least", "greatest"] []
  g_is_integer : mg "is_integer" = some (.ref a.a_is_integer)
  F_are_integers : Fun K "are_integers" "are_integers" s_are_integers a.a_are_integers a.fd_are_integers
  b_are_integers : Binds K a.fd_are_integers ["value", "least", "greatest"] []
  g_are_integers : mg "are_integers" = some (.ref a.a_are_integers)
  F_are_told : Fun K "are_told" "are_told" s_are_told a.a_are_told a.fd_are_told
  b_are_told : Binds K a.fd_are_told ["value", "classes"] []
  g_are_told : mg "are_told" = some (.ref a.a_are_told)
  F_Tree_init : Fun K "__init__" "Tree.__init__" s_Tree_init a.a_Tree_init a.fd_Tree_init
  b_Tree_init : Binds K a.fd_Tree_init ["self", "classes", "told"] []
  F_Tree_told : Fun K "told" "Tree.told" s_Tree_told a.a_Tree_told a.fd_Tree_told
  b_Tree_told : Binds K a.fd_Tree_told ["self"] []
  F_Tree_len : Fun K "__len__" "Tree.__len__" s_Tree_len a.a_Tree_len a.fd_Tree_len
  b_Tree_len : Binds K a.fd_Tree_len ["self"] []
  F_Tree_getitem : Fun K "__getitem__" "Tree.__getitem__" s_Tree_getitem a.a_Tree_getitem a.fd_Tree_getitem
  b_Tree_getitem : Binds K a.fd_Tree_getitem ["self", "node"] []
  F_Tree_leaf : Fun K "leaf" "Tree.leaf" s_Tree_leaf a.a_Tree_leaf a.fd_Tree_leaf
  b_Tree_leaf : Binds K a.fd_Tree_leaf ["self", "page"] []
  F_Tree_way : Fun K "way" "Tree.way" s_Tree_way a.a_Tree_way a.fd_Tree_way
  b_Tree_way : Binds K a.fd_Tree_way ["self", "page"] []
  F_Tree_greater : Fun K "greater" "Tree.greater" s_Tree_greater a.a_Tree_greater a.fd_Tree_greater
  b_Tree_greater : Binds K a.fd_Tree_greater ["self", "node"] []
  F_Tree_with_told : Fun K "with_told" "Tree.with_told" s_Tree_with_told a.a_Tree_with_told a.fd_Tree_with_told
  b_Tree_with_told : Binds K a.fd_Tree_with_told ["self", "node", "told"] []
  F_Tree_eq : Fun K "__eq__" "Tree.__eq__" s_Tree_eq a.a_Tree_eq a.fd_Tree_eq
  b_Tree_eq : Binds K a.fd_Tree_eq ["self", "other"] []
  F_law_opened : Fun K "_law_opened" "_law_opened" s_law_opened a.a_law_opened a.fd_law_opened
  b_law_opened : Binds K a.fd_law_opened ["_law_script", "_law_k"] []
  g__law_opened : mg "_law_opened" = some (.ref a.a_law_opened)
  F_law_draw : Fun K "_law_draw" "_law_draw" s_law_draw a.a_law_draw a.fd_law_draw
  b_law_draw : Binds K a.fd_law_draw ["_law_pool", "_law_many"] []
  g__law_draw : mg "_law_draw" = some (.ref a.a_law_draw)
  F_law_told : Fun K "_law_told" "_law_told" s_law_told a.a_law_told a.fd_law_told
  b_law_told : Binds K a.fd_law_told ["_law_pool", "_law_classes", "_law_pages_here"] []
  g__law_told : mg "_law_told" = some (.ref a.a_law_told)
  F_law_pages : Fun K "_law_pages" "_law_pages" s_law_pages a.a_law_pages a.fd_law_pages
  b_law_pages : Binds K a.fd_law_pages ["_law_pool", "_law_many"] []
  g__law_pages : mg "_law_pages" = some (.ref a.a_law_pages)
  F_law_way : Fun K "_law_way" "_law_way" s_law_way a.a_law_way a.fd_law_way
  b_law_way : Binds K a.fd_law_way ["_law_pages_here", "_law_page"] []
  g__law_way : mg "_law_way" = some (.ref a.a_law_way)
  F_law_greater : Fun K "_law_greater" "_law_greater" s_law_greater a.a_law_greater a.fd_law_greater
  b_law_greater : Binds K a.fd_law_greater ["_law_row", "_law_node"] []
  g__law_greater : mg "_law_greater" = some (.ref a.a_law_greater)
  F_law_refused : Fun K "_law_refused" "_law_refused" s_law_refused a.a_law_refused a.fd_law_refused
  b_law_refused : Binds K a.fd_law_refused ["_law_call"] []
  g__law_refused : mg "_law_refused" = some (.ref a.a_law_refused)
  F_law_tree_right : Fun K "_law_tree_right" "_law_tree_right" s_law_tree_right a.a_law_tree_right a.fd_law_tree_right
  b_law_tree_right : Binds K a.fd_law_tree_right ["_law_tree", "_law_classes", "_law_row"] []
  g__law_tree_right : mg "_law_tree_right" = some (.ref a.a_law_tree_right)
  F_law_refusals : Fun K "_law_refusals" "_law_refusals" s_law_refusals a.a_law_refusals a.fd_law_refusals
  b_law_refusals : Binds K a.fd_law_refusals ["_law_tree", "_law_classes", "_law_pages_here"] []
  g__law_refusals : mg "_law_refusals" = some (.ref a.a_law_refusals)
  F_law : Fun K "law" "law" s_law a.a_law a.fd_law
  b_law : Binds K a.fd_law ["_law_script"] []
  g_law : mg "law" = some (.ref a.a_law)
  g_NODES : mg "NODES" = some (.ref a.t_NODES)
  q_NODES : ∀ H, SqT K H a.t_NODES (([3, 7, 15, 31, 63] : List Int).map V.int)
  c_MOST_CLASSES : mg "MOST_CLASSES" = some (.int 8 a.tk_MOST_CLASSES)
  n_isinstance : mg "isinstance" = none
  n_int : mg "int" = none
  n_bool : mg "bool" = none
  n_list : mg "list" = none
  n_tuple : mg "tuple" = none
  n_len : mg "len" = none
  n_range : mg "range" = none
  n_max : mg "max" = none
  n_min : mg "min" = none
  n_repr : mg "repr" = none
end Rt
set_option maxHeartbeats 4000000
namespace Rt
open PySem L2
/-! ### a for over a list or a tuple, whichever it is -/
def SqE (K : PySem.W.Frag) (tp : Bool) (H : Hp) (p : Addr) (xs : List V) : Prop := if tp = true then SqT K H p xs else SqL K H p xs
def iSeq (K : PySem.W.Frag) (te : TE) : TI := fun σ H R => te σ H fun x H1 => ∃ p, x = .ref p ∧ (((∃ xs, SqL K H1 p xs) ∧ R (Itl K p) H1) ∨ ((∃ xs, SqT K H1 p xs) ∧ R (Itt K p) H1))
open PySem.Spec PyProof.Rows in
theorem pi_seq {X : Cx} {tg l : Expr} {tl : TE} (hl : PE X l tl) : PI X tg l (iSeq X.K tl) := by
  refine ⟨fun pins s σ H R I h => ?_⟩
  refine thn (hl.run pins s σ H _ I h) fun v s1 ⟨x, H1, I1, r1, q1⟩ => ?_
  obtain ⟨p, e, q⟩ := q1
  subst e
  cases r1
  rcases q with ⟨⟨xs, hq⟩, q⟩ | ⟨⟨xs, hq⟩, q⟩
  · obtain ⟨its, rv, pp, hz⟩ := I1.list hq
    refine wpAny_pyIter_list pp.isList ⟨s1.heap.objs.size, [s1.heap.objs.size], _, _, H1, rfl, I1.kept (t' := s1.toks) fun b o e => Heap.get?_push_of_some _ e, turn_list p _, ⟨_, Heap.get?_push_size _ rfl, rfl, rfl⟩, fun b hb => ?_, q⟩
    have e : b = s1.heap.objs.size := by simpa using hb
    exact e ▸ I1.fpOk (Nat.le_refl _) (I1.hok.fresh (Nat.le_refl _))
  · obtain ⟨its, rv, pp, hz⟩ := I1.tuple hq
    refine wpAny_pyIter_tuple (show s1.heap.IsTuple p its.toArray from pp) ⟨s1.heap.objs.size, [s1.heap.objs.size], _, _, H1, rfl, I1.kept (t' := s1.toks) fun b o e => Heap.get?_push_of_some _ e, turn_tuple p _, ⟨_, Heap.get?_push_size _ rfl, rfl, rfl⟩, fun b hb => ?_, q⟩
    have e : b = s1.heap.objs.size := by simpa using hb
    exact e ▸ I1.fpOk (Nat.le_refl _) (I1.hok.fresh (Nat.le_refl _))
theorem for_seq {K : PySem.W.Frag} {p : Addr} {xs : List V} {g : TG} {tb : TS} {D : Ends} {σ : St} {H : Hp} (tp : Bool) (Pv : Nat → St → Hp → Prop) (h0 : Pv 0 σ H) (hl : ∀ i σ H, i ≤ xs.length → Pv i σ H → SqE K tp H p xs)
    (hs : ∀ i x σ H, xs[i]? = some x → Pv i σ H → g x σ H fun σ2 H2 => tb { D with nx := Pv (i + 1), ct := Pv (i + 1), bk := D.nx } σ2 H2) (hd : ∀ σ H, Pv xs.length σ H → D.nx σ H) :
    ((∃ xs, SqL K H p xs) ∧ ∃ W : Nat → Nat → St → Hp → Prop, (∃ m, W 0 m σ H) ∧ ∀ i m σ H, W i m σ H →
      ((Itl K p).stop i H ∧ D.nx σ H) ∨ ((Itl K p).go i H ∧ ∃ N : St → Hp → Prop, (∀ σ' H', N σ' H' → ∃ m', m' < m ∧ W (i + 1) m' σ' H') ∧ ∀ x H', (Itl K p).yld i H x H' → g x σ H' fun σ2 H2 => tb { D with nx := N, ct := N, bk := D.nx } σ2 H2)) ∨
    ((∃ xs, SqT K H p xs) ∧ ∃ W : Nat → Nat → St → Hp → Prop, (∃ m, W 0 m σ H) ∧ ∀ i m σ H, W i m σ H →
      ((Itt K p).stop i H ∧ D.nx σ H) ∨ ((Itt K p).go i H ∧ ∃ N : St → Hp → Prop, (∀ σ' H', N σ' H' → ∃ m', m' < m ∧ W (i + 1) m' σ' H') ∧ ∀ x H', (Itt K p).yld i H x H' → g x σ H' fun σ2 H2 => tb { D with nx := N, ct := N, bk := D.nx } σ2 H2)) := by
  cases tp with
  | false => exact .inl ⟨⟨xs, hl 0 σ H (Nat.zero_le _) h0⟩, for_list (K := K) (a := p) (xs := xs) Pv h0 hl hs hd⟩
  | true => exact .inr ⟨⟨xs, hl 0 σ H (Nat.zero_le _) h0⟩, for_tup (K := K) (a := p) (xs := xs) Pv h0 hl hs hd⟩
/-! ### plain values -/
inductive Pl (H : Hp) : V → Prop
  | non : Pl H .non
  | bl (b : Bool) : Pl H (.bl b)
  | int (i : Int) : Pl H (.int i)
  | str (x : Str) : Pl H (.str x)
  | lst {p : Addr} {xs : List V} (e : H p = some (.lst xs)) : Pl H (.ref p)
  | tup {p : Addr} {xs : List V} (e : H p = some (.tup xs)) : Pl H (.ref p)
  | dK {p : Addr} {kvs : List (Key × V)} (e : H p = some (.dK kvs)) : Pl H (.ref p)
theorem Pl.mono {H H' : Hp} {v : V} (h : Pl H v) (s : Same H H') : Pl H' v := by
  cases h with
  | non => exact .non
  | bl b => exact .bl b
  | int i => exact .int i
  | str x => exact .str x
  | lst e => exact .lst (s _ _ e)
  | tup e => exact .tup (s _ _ e)
  | dK e => exact .dK (s _ _ e)
def inI (x lo hi : Int) : Bool := decide (lo ≤ x) && decide (x ≤ hi)
theorem inI_T {x lo hi : Int} (h : lo ≤ x ∧ x ≤ hi) : inI x lo hi = true := by
  unfold inI; rw [decide_eq_true h.1, decide_eq_true h.2]; rfl
theorem inI_iff {x lo hi : Int} : inI x lo hi = true ↔ lo ≤ x ∧ x ≤ hi := by
  unfold inI; rw [Bool.and_eq_true, decide_eq_true_eq, decide_eq_true_eq]
def inW (v : V) (lo hi : Int) : Bool := match v with
  | .int x => inI x lo hi
  | _ => false
theorem inW_int {v : V} {lo hi : Int} (h : inW v lo hi = true) : ∃ x, v = .int x ∧ lo ≤ x ∧ x ≤ hi := by
  cases v with
  | int x => exact ⟨x, rfl, inI_iff.mp h⟩
  | _ => cases h
/-- what the type of a plain value is asked -/
theorem Pl.ty {K : PySem.W.Frag} {H : Hp} {v : V} (h : Pl H v) : ∃ t : String, TyX K H v (.type t) ∧ ((∃ x, v = .int x) ∧ kitB t "int" = some true ∧ kitB t "bool" = some false ∨ (∀ lo hi, inW v lo hi = false) ∧ (kitB t "int" = some false ∨ kitB t "int" = some true ∧ kitB t "bool" = some true)) := by
  cases h with
  | non => exact ⟨_, .base .non, .inr ⟨fun _ _ => rfl, .inl (by decide +kernel)⟩⟩
  | bl b => exact ⟨_, .base (.bl b), .inr ⟨fun _ _ => rfl, .inr ⟨by decide +kernel, by decide +kernel⟩⟩⟩
  | int i => exact ⟨_, .base (.int i), .inl ⟨⟨i, rfl⟩, by decide +kernel, by decide +kernel⟩⟩
  | str x => exact ⟨_, .base (.str x), .inr ⟨fun _ _ => rfl, .inl (by decide +kernel)⟩⟩
  | lst e => exact ⟨_, .base (.lst e), .inr ⟨fun _ _ => rfl, .inl (by decide +kernel)⟩⟩
  | tup e => exact ⟨_, .base (.tup e), .inr ⟨fun _ _ => rfl, .inl (by decide +kernel)⟩⟩
  | dK e => exact ⟨_, .base (.dK e), .inr ⟨fun _ _ => rfl, .inl (by decide +kernel)⟩⟩
section
variable {P : Program} {w : World} {K : PySem.W.Frag} {mg : Str → Option Value} {base : Heap} {a : Ad}
theorem same_new {H : Hp} {p : Addr} {o : HO} (h : H p = none) : Same H (upd H p o) := fun b u e => by rw [upd_ne (ne_of_none e h)]; exact e
/-! ### is_integer -/
def sp_is_integer : Sp := fun vs H Q _ => ∃ (v : V) (lo hi : Int), vs = [v, .int lo, .int hi] ∧ Pl H v ∧ Q (.bl (inW v lo hi)) H
theorem ok_is_integer (T : Txt K mg a) : FnOk P w K mg base CX0 1 a.a_is_integer a.fd_is_integer ["value", "least", "greatest"] sp_is_integer := by
  refine T.F_is_integer.ok sc_is_integer (fun vs H Q E h => ?_) (fun cdv A outer s H vs Q E hr h => ?_)
  · obtain ⟨x, lo, hi, rfl, _⟩ := h
    rfl
  · obtain ⟨v, lo, hi, rfl, hv, k⟩ := h
    refine ⟨_, (pss_cons (ps_if (PW.pt (pw_or (pt_not (pt_val (pe_callB call_isi (by rfl) T.n_isinstance (by decide +kernel) (pa_cons (pv 0) (pa_cons (pe_bltn (v := .ty "int") (by rfl) T.n_int (by decide +kernel) rfl) pa_nil))))) (pw_or1 (pt_val (pe_callB call_isi (by rfl) T.n_isinstance (by decide +kernel) (pa_cons (pv 0) (pa_cons (pe_bltn (v := .ty "bool") (by rfl) T.n_bool (by decide +kernel) rfl) pa_nil)))))))
      (pss_one (ps_ret pe_bl))
      pss_nil)
      (pss_one (ps_ret (pe_chain op_le op_le (pv 1) (pv 0) (pv 2))))), ?_⟩
    obtain ⟨t, ty, ⟨⟨x, rfl⟩, k1, k2⟩ | ⟨no, k1 | ⟨k1, k2⟩⟩⟩ := hv.ty (K := K)
    · refine ⟨_, rfl, _, _, _, _, true, rfl, .ty "int", ty, kit_ty k1, _, rfl, ?_⟩
      refine iteF ?_
      refine ⟨_, rfl, _, _, _, _, false, rfl, .ty "bool", ty, kit_ty k2, _, rfl, ?_⟩
      refine iteF ?_
      refine ⟨_, rfl, _, rfl, _, _, rfl, rfl, _, rfl, ?_⟩
      have k' : Q (.bl (decide (lo ≤ x) && decide (x ≤ hi))) H := k
      by_cases c : lo ≤ x
      · rw [decide_eq_true c] at k' ⊢
        refine iteT ⟨_, rfl, _, _, rfl, rfl, k'⟩
      · rw [decide_eq_false c] at k' ⊢
        exact iteF k'
    · refine ⟨_, rfl, _, _, _, _, false, rfl, .ty "int", ty, kit_ty k1, _, rfl, ?_⟩
      refine iteT ?_
      rw [no] at k
      exact k
    · refine ⟨_, rfl, _, _, _, _, true, rfl, .ty "int", ty, kit_ty k1, _, rfl, ?_⟩
      refine iteF ?_
      refine ⟨_, rfl, _, _, _, _, true, rfl, .ty "bool", ty, kit_ty k2, _, rfl, ?_⟩
      refine iteT ?_
      rw [no] at k
      exact k
/-! ### are_integers -/
/-- the items of a value, none where it is no list or tuple -/
inductive Cont (H : Hp) : V → Option (List V) → Prop
  | non : Cont H .non none
  | bl (b : Bool) : Cont H (.bl b) none
  | int (i : Int) : Cont H (.int i) none
  | str (x : Str) : Cont H (.str x) none
  | dK {p : Addr} {kvs : List (Key × V)} (e : H p = some (.dK kvs)) : Cont H (.ref p) none
  | lst {p : Addr} {xs : List V} (e : H p = some (.lst xs)) (h : ∀ x ∈ xs, Pl H x) : Cont H (.ref p) (some xs)
  | tup {p : Addr} {xs : List V} (e : H p = some (.tup xs)) (h : ∀ x ∈ xs, Pl H x) : Cont H (.ref p) (some xs)
theorem Cont.mono {H H' : Hp} {v : V} {o : Option (List V)} (h : Cont H v o) (s : Same H H') : Cont H' v o := by
  cases h with
  | non => exact .non
  | bl b => exact .bl b
  | int i => exact .int i
  | str x => exact .str x
  | dK e => exact .dK (s _ _ e)
  | lst e h => exact .lst (s _ _ e) fun x hx => (h x hx).mono s
  | tup e h => exact .tup (s _ _ e) fun x hx => (h x hx).mono s
/-- by its type: no list or tuple; or one of the two, with its items -/
theorem Cont.ty {K : PySem.W.Frag} {H : Hp} {v : V} {o : Option (List V)} (h : Cont H v o) :
    (o = none ∧ ∃ t : String, TyX K H v (.type t) ∧ kitB t "list" = some false ∧ kitB t "tuple" = some false) ∨
    (∃ (p : Addr) (xs : List V) (tp : Bool), v = .ref p ∧ o = some xs ∧ (∀ x ∈ xs, Pl H x) ∧ H p = some (if tp = true then .tup xs else .lst xs)) := by
  cases h with
  | non => exact .inl ⟨rfl, _, .base .non, by decide +kernel, by decide +kernel⟩
  | bl b => exact .inl ⟨rfl, _, .base (.bl b), by decide +kernel, by decide +kernel⟩
  | int i => exact .inl ⟨rfl, _, .base (.int i), by decide +kernel, by decide +kernel⟩
  | str x => exact .inl ⟨rfl, _, .base (.str x), by decide +kernel, by decide +kernel⟩
  | dK e => exact .inl ⟨rfl, _, .base (.dK e), by decide +kernel, by decide +kernel⟩
  | lst e h => exact .inr ⟨_, _, false, rfl, rfl, h, by rw [if_neg Bool.false_ne_true]; exact e⟩
  | tup e h => exact .inr ⟨_, _, true, rfl, rfl, h, by rw [if_pos rfl]; exact e⟩
theorem sqe_of {tp : Bool} {H : Hp} {p : Addr} {xs : List V} (h : H p = some (if tp = true then .tup xs else .lst xs)) : SqE K tp H p xs := by
  cases tp with
  | false => exact SqL.of h
  | true => exact SqT.of h
theorem kit_lt {H : Hp} {tp : Bool} {p : Addr} {xs : List V} (h : H p = some (if tp = true then .tup xs else .lst xs)) : ∃ t, TyX K H (.ref p) t ∧ PySem.W.kitAny K t [.type "list", .type "tuple"] = some true := by
  cases tp with
  | false => exact ⟨_, .base (.lst h), kitAny_cons (b := true) (kit_ty (by decide +kernel)) (fun z => by cases z) (fun _ => rfl)⟩
  | true => exact ⟨_, .base (.tup h), kitAny_cons (b := false) (kit_ty (by decide +kernel)) (fun _ => kitAny_cons (b := true) (kit_ty (by decide +kernel)) (fun z => by cases z) (fun _ => rfl)) (fun z => by cases z)⟩
def allW (o : Option (List V)) (lo hi : Int) : Bool := match o with
  | none => false
  | some xs => xs.all fun v => inW v lo hi
def sp_are_integers : Sp := fun vs H Q _ => ∃ (v : V) (o : Option (List V)) (lo hi : Int), vs = [v, .int lo, .int hi] ∧ Cont H v o ∧ ∀ H', Same H H' → Q (.bl (allW o lo hi)) H'
theorem ok_are_integers (T : Txt K mg a) : FnOk P w K mg base CX0 2 a.a_are_integers a.fd_are_integers ["value", "least", "greatest"] sp_are_integers := by
  refine T.F_are_integers.ok sc_are_integers (fun vs H Q E h => ?_) (fun cdv A outer s H vs Q E hr h => ?_)
  · obtain ⟨v, o, lo, hi, rfl, _⟩ := h
    rfl
  · obtain ⟨v, o, lo, hi, rfl, hv, k⟩ := h
    refine ⟨_, (pss_cons (ps_if (pt_not (pt_val (pe_callB call_isiT (by rfl) T.n_isinstance (by decide +kernel) (pa_cons (pv 0) (pa_cons (pe_tup (pa_cons (pe_bltn (v := .ty "list") (by rfl) T.n_list (by decide +kernel) rfl) (pa_cons (pe_bltn (v := .ty "tuple") (by rfl) T.n_tuple (by decide +kernel) rfl) pa_nil))) pa_nil)))))
      (pss_one (ps_ret pe_bl))
      pss_nil)
      (pss_cons (ps_for PassesOwn.never rfl (pi_seq (pv 0)) (pg_name (i := 3) sc_are_integers.nd rfl (Or.inl rfl))
      (pss_one (ps_if (pt_not (pt_val (pe_call (ok_is_integer T) (hr.mono (by decide)) rfl T.g_is_integer T.F_is_integer.kp T.b_is_integer .nil pass0 (pa_cons (pv 3) (pa_cons (pv 1) (pa_cons (pv 2) pa_nil))))))
        (pss_one (ps_ret pe_bl))
        pss_nil)))
      (pss_one (ps_ret pe_bl)))), ?_⟩
    refine ⟨_, rfl, (by show 2 ≤ sizeLine; decide), fun t ht => ?_⟩
    have s0 : Same H (upd H t (.tup [.ty "list", .ty "tuple"])) := same_new ht
    have hv2 := hv.mono s0
    rcases hv2.ty (K := K) with ⟨rfl, ty, tyx, k1, k2⟩ | ⟨p, xs, tp, rfl, rfl, hpl, hp2⟩
    · refine ⟨_, t, _, .type ty, [.type "list", .type "tuple"], false, rfl, upd_same, .cons (.ty _) (.cons (.ty _) .nil), tyx, kitAny_cons (b := false) (kit_ty k1) (fun _ => kitAny_cons (b := false) (kit_ty k2) (fun _ => rfl) (fun z => by cases z)) (fun z => by cases z), _, rfl, ?_⟩
      exact iteT (k _ s0)
    · obtain ⟨tt, tyx, kit⟩ := kit_lt (K := K) hp2
      refine ⟨_, t, _, tt, [.type "list", .type "tuple"], true, rfl, upd_same, .cons (.ty _) (.cons (.ty _) .nil), tyx, kit, _, rfl, ?_⟩
      refine iteF ?_
      refine ⟨_, rfl, p, rfl, for_seq (K := K) (p := p) (xs := xs) tp (fun i σ H' => (∃ v : Option V, σ = [some (.ref p), some (.int lo), some (.int hi), v]) ∧ (xs.take i).all (fun v => inW v lo hi) = true ∧ Same (upd H t (.tup [.ty "list", .ty "tuple"])) H')
        ⟨⟨none, rfl⟩, rfl, Same.refl _⟩ (fun i σ H' _ h => sqe_of (h.2.2 _ _ hp2)) ?_ ?_⟩
      · rintro i y σ H' hk ⟨⟨v, rfl⟩, ha, s1⟩
        have py := hpl y (List.mem_of_getElem? hk)
        refine ⟨_, rfl, _, rfl, _, rfl, y, lo, hi, rfl, py.mono s1, _, rfl, ?_⟩
        have e1 : xs.take (i + 1) = xs.take i ++ [y] := by rw [List.take_add_one, hk]; rfl
        cases c : inW y lo hi with
        | true =>
          refine iteF ⟨⟨_, rfl⟩, ?_, s1⟩
          rw [e1, List.all_append, ha]
          show (inW y lo hi && true) = true
          rw [c]; rfl
        | false =>
          refine iteT ?_
          have e2 : allW (some xs) lo hi = false := by
            cases c2 : allW (some xs) lo hi with
            | false => rfl
            | true =>
              have := List.all_eq_true.mp c2 y (List.mem_of_getElem? hk)
              rw [c] at this; cases this
          rw [e2] at k
          exact k _ (s0.trans s1)
      · rintro σ H' ⟨⟨v, rfl⟩, ha, s1⟩
        rw [List.take_length] at ha
        have e2 : allW (some xs) lo hi = true := ha
        rw [e2] at k
        exact k _ (s0.trans s1)
end
end Rt
namespace Rt
open PySem L2

theorem rep_of {k : Nat} {A : Around} (hr : Room k A) : A.units + 100 < cLine := by have := hr.un; omega
/-- repr of v is x -/
structure Shown (K : PySem.W.Frag) (H : Hp) (v : V) (x : Str) : Prop where
  say : ∀ {Q : VK}, Q (.str x) H → rShowX K [v] H Q
/-- what an error of the class cls, with the dict at d, is told as -/
def EDue (K : PySem.W.Frag) (a : Ad) (cls : Value) (d : Option Addr) (H : Hp) (res : List V) : Prop :=
  (cls = .ref a.C_BadPage ∧ ∃ dd v x, d = some dd ∧ H dd = some (.xd [(("number" : Str), v)]) ∧ Shown K H v x ∧ res = [.str "page", .str x]) ∨
  (cls = .ref a.C_BadNode ∧ ∃ dd v x, d = some dd ∧ H dd = some (.xd [(("number" : Str), v)]) ∧ Shown K H v x ∧ res = [.str "node", .str x]) ∨
  (cls = .ref a.C_BadClass ∧ ∃ dd v x, d = some dd ∧ H dd = some (.xd [(("value" : Str), v)]) ∧ Shown K H v x ∧ res = [.str "class", .str x])
/-- try: call() / except ..: [word, field] / return ['none'] -/
def TRef (K : PySem.W.Frag) (a : Ad) : (XK → Hp → VK → Prop) → Hp → VK → Prop := fun tl H Q =>
  ∃ Ech : XK, (∀ cls d H', Ech cls d H' → ∃ res, EDue K a cls d H' res ∧ ∀ p, H' p = none → Q (.ref p) (upd H' p (.lst res))) ∧ tl Ech H fun _ H1 => tLst (tCons (tC (.str "none")) tNil) [] H1 Q
set_option maxHeartbeats 4000000 in
theorem refused_gives {X : Cx} {K : PySem.W.Frag} {mg : Str → Option Value} {a : Ad} {cdg : Value} {q : Str} {kk : Nat} (T : Txt K mg a) (hgd : X.A.guards = some []) (hK : X.K = K := by rfl) (hM : X.mg = mg := by rfl) :
    GivesS X ["_law_call", "e"] "_law_refused" (defScope s_law_refused) a.a_law_refused cdg (defBody s_law_refused) "_law_call" q kk (TRef K a) := by
  subst hK hM
  intro f c' s H Q tl hr act hc h
  obtain ⟨Ech, hE, h⟩ := h
  have hu := rep_of hr
  refine ⟨_, (pss_cons (ps_try_asM (i := 1) (n := "e") (tb := fun W => tDrop fun σZ HZ Q => σZ[0]? = some (some (.ref f)) ∧ HZ c' = some (LamX.CodeO c' q) ∧ ∃ Ech : XK, (∀ cls d H', Ech cls d H' → W cls d σZ H') ∧ tl Ech HZ Q)
      (l := [(.ref a.C_BadPage, fun q cls d => tRet (tLst (tCons (tC (.str "page")) (tCons (tCB (rShowX X.K) (tCons (tBy_number a.C_BadPage q cls d (tVar 1)) tNil)) tNil)))), (.ref a.C_BadNode, fun q cls d => tRet (tLst (tCons (tC (.str "node")) (tCons (tCB (rShowX X.K) (tCons (tBy_number a.C_BadNode q cls d (tVar 1)) tNil)) tNil)))), (.ref a.C_BadClass, fun q cls d => tRet (tLst (tCons (tC (.str "class")) (tCons (tCB (rShowX X.K) (tCons (tBy_value a.C_BadClass q cls d (tVar 1)) tNil)) tNil)))), (.ref a.C_BadSize, fun q cls d => tRet (tLst (tCons (tC (.str "size")) (tCons (tCB (rShowX X.K) (tCons (tBy_value a.C_BadSize q cls d (tVar 1)) tNil)) tNil)))), (.ref a.C_BadRooms, fun q cls d => tRet (tLst (tCons (tC (.str "rooms")) (tCons (tCB (rShowX X.K) (tCons (tBy_value a.C_BadRooms q cls d (tVar 1)) tNil)) tNil)))), (.ref a.C_BadTree, fun q cls d => tRet (tLst (tCons (tC (.str "tree")) (tCons (tBy_part a.C_BadTree q cls d (tVar 1)) tNil)))), (.ref a.C_BadArgument, fun q cls d => tRet (tLst (tCons (tC (.str "argument")) (tCons (tCB (rShowX X.K) (tCons (tBy_value a.C_BadArgument q cls d (tVar 1)) tNil)) tNil))))])
      (Wout := fun _ _ _ _ => False) rfl rfl sc_law_refused.nd rfl rfl LamX.takes0 (fun W pn xe tk _ => pss_one (ps_expr (act W pn xe _ _ tk)))
      (.cons ⟨rfl, by decide, .inl T.e_BadPage.gC⟩ (fun q oe cls d pn hz hf => pss_one (ps_ret (by exact (pe_lst (pa_cons pe_str (pa_cons (pe_callB (call_reprX hgd hu) (by rfl) T.n_repr (by decide +kernel) (pa_cons (pe_by_number T.e_BadPage hz hf (pv 1)) pa_nil)) pa_nil))))))
        (.cons ⟨rfl, by decide, .inl T.e_BadNode.gC⟩ (fun q oe cls d pn hz hf => pss_one (ps_ret (by exact (pe_lst (pa_cons pe_str (pa_cons (pe_callB (call_reprX hgd hu) (by rfl) T.n_repr (by decide +kernel) (pa_cons (pe_by_number T.e_BadNode hz hf (pv 1)) pa_nil)) pa_nil))))))
        (.cons ⟨rfl, by decide, .inl T.e_BadClass.gC⟩ (fun q oe cls d pn hz hf => pss_one (ps_ret (by exact (pe_lst (pa_cons pe_str (pa_cons (pe_callB (call_reprX hgd hu) (by rfl) T.n_repr (by decide +kernel) (pa_cons (pe_by_value T.e_BadClass hz hf (pv 1)) pa_nil)) pa_nil))))))
        (.cons ⟨rfl, by decide, .inl T.e_BadSize.gC⟩ (fun q oe cls d pn hz hf => pss_one (ps_ret (by exact (pe_lst (pa_cons pe_str (pa_cons (pe_callB (call_reprX hgd hu) (by rfl) T.n_repr (by decide +kernel) (pa_cons (pe_by_value T.e_BadSize hz hf (pv 1)) pa_nil)) pa_nil))))))
        (.cons ⟨rfl, by decide, .inl T.e_BadRooms.gC⟩ (fun q oe cls d pn hz hf => pss_one (ps_ret (by exact (pe_lst (pa_cons pe_str (pa_cons (pe_callB (call_reprX hgd hu) (by rfl) T.n_repr (by decide +kernel) (pa_cons (pe_by_value T.e_BadRooms hz hf (pv 1)) pa_nil)) pa_nil))))))
        (.cons ⟨rfl, by decide, .inl T.e_BadTree.gC⟩ (fun q oe cls d pn hz hf => pss_one (ps_ret (by exact (pe_lst (pa_cons pe_str (pa_cons (pe_by_part T.e_BadTree hz hf (pv 1)) pa_nil))))))
        (.cons ⟨rfl, by decide, .inl T.e_BadArgument.gC⟩ (fun q oe cls d pn hz hf => pss_one (ps_ret (by exact (pe_lst (pa_cons pe_str (pa_cons (pe_callB (call_reprX hgd hu) (by rfl) T.n_repr (by decide +kernel) (pa_cons (pe_by_value T.e_BadArgument hz hf (pv 1)) pa_nil)) pa_nil))))))
        .nil))))))))
    (pss_one (ps_ret (pe_lst (pa_cons pe_str pa_nil))))), ?_⟩
  refine ⟨rfl, hc, Ech, fun cls d H' hx => ?_, h⟩
  obtain ⟨res, due, hres⟩ := hE cls d H' hx
  rcases due with ⟨rfl, dd, v, x, rfl, hdd, hsh, rfl⟩ | ⟨rfl, dd, v, x, rfl, hdd, hsh, rfl⟩ | ⟨rfl, dd, v, x, rfl, hdd, hsh, rfl⟩
  · refine ⟨true, T.e_BadPage.te, fun _ q hq => ?_, (fun z => by cases z)⟩
    exact ⟨_, rfl, rfl, rfl, dd, v, rfl, hdd, hsh.say ⟨(by show 2 ≤ sizeLine; decide), hres⟩⟩
  · refine ⟨false, T.m_BadNode_BadPage, (fun z => by cases z), fun _ => ⟨true, T.e_BadNode.te, fun _ q hq => ?_, (fun z => by cases z)⟩⟩
    exact ⟨_, rfl, rfl, rfl, dd, v, rfl, hdd, hsh.say ⟨(by show 2 ≤ sizeLine; decide), hres⟩⟩
  · refine ⟨false, T.m_BadClass_BadPage, (fun z => by cases z), fun _ => ⟨false, T.m_BadClass_BadNode, (fun z => by cases z), fun _ => ⟨true, T.e_BadClass.te, fun _ q hq => ?_, (fun z => by cases z)⟩⟩⟩
    exact ⟨_, rfl, rfl, rfl, dd, v, rfl, hdd, hsh.say ⟨(by show 2 ≤ sizeLine; decide), hres⟩⟩
end Rt
set_option maxHeartbeats 4000000
namespace Rt
open PySem L2
/-! ### trees -/
theorem ct_ : ¬ (("classes" : Str) = "_told") := by decide +kernel
def tf (c : Int) (t : Addr) : List (Str × V) := putF "_told" (.ref t) (putF "classes" (.int c) [])
theorem tf_classes (c : Int) (t : Addr) : (tf c t).lookup ("classes" : Str) = some (.int c) := by
  unfold tf
  rw [lookup_putF, if_neg ct_, lookup_putF, if_pos rfl]
theorem tf_told (c : Int) (t : Addr) : (tf c t).lookup ("_told" : Str) = some (.ref t) := by
  unfold tf
  rw [lookup_putF, if_pos rfl]
theorem tf_no (c : Int) (t : Addr) {x : Str} (h1 : ¬ x = "_told") (h2 : ¬ x = "classes") : (tf c t).lookup x = none := by
  unfold tf
  rw [lookup_putF, if_neg h1, lookup_putF, if_neg h2]
  all_goals rfl
/-- told classes of a tree with n pages -/
structure Told (c : Int) (ts : List Int) (n : Nat) : Prop where
  c1 : 1 ≤ c
  c8 : c ≤ 8
  lo : ∀ z ∈ ts, 0 ≤ z
  hi : ∀ z ∈ ts, z ≤ c
  num : n = 2 ∨ n = 4 ∨ n = 8 ∨ n = 16 ∨ n = 32
  len : ts.length + 1 = 2 * n
theorem Told.n2 {c : Int} {ts : List Int} {n : Nat} (g : Told c ts n) : 2 ≤ n ∧ n ≤ 32 := by
  rcases g.num with h | h | h | h | h <;> omega
def TreeAt (C : Addr) (H : Hp) (p : Addr) (c : Int) (ts : List Int) : Prop := ∃ (dx t : Addr), H p = some (.ins C dx (tf c t)) ∧ H t = some (.tup (ts.map V.int))
theorem TreeAt.mono {C : Addr} {H H' : Hp} {p : Addr} {c : Int} {ts : List Int} (h : TreeAt C H p c ts) (s : Same H H') : TreeAt C H' p c ts := by
  obtain ⟨dx, t, h1, h2⟩ := h
  exact ⟨dx, t, s _ _ h1, s _ _ h2⟩
/-- all as it was but what stands at p -/
def But (p : Addr) (H H' : Hp) : Prop := ∀ b o, b ≠ p → H b = some o → H' b = some o
theorem map_at {ns : List Int} {i : Nat} {y : V} (h : (ns.map V.int)[i]? = some y) : ∃ z, ns[i]? = some z ∧ y = V.int z := by
  rw [List.getElem?_map] at h
  cases e : ns[i]? with
  | none => rw [e] at h; cases h
  | some z => rw [e] at h; exact ⟨z, rfl, (Option.some.inj h).symm⟩
theorem at_map {ns : List Int} {i : Nat} {z : Int} (h : ns[i]? = some z) : (ns.map V.int)[i]? = some (V.int z) := by
  rw [List.getElem?_map, h]; rfl
/-- what node k is told -/
def val (ts : List Int) (k : Nat) : Int := ts.getD (k - 1) 0
theorem val_at {ts : List Int} {k : Nat} (h1 : 1 ≤ k) (h2 : k ≤ ts.length) : ts[k - 1]? = some (val ts k) := by
  unfold val
  rw [List.getD_eq_getElem?_getD]
  have : k - 1 < ts.length := by omega
  rw [List.getElem?_eq_getElem this]; rfl
theorem allW_told {c : Int} {ts : List Int} {n : Nat} (g : Told c ts n) : allW (some (ts.map V.int)) 0 c = true := by
  show (ts.map V.int).all (fun v => inW v 0 c) = true
  rw [List.all_eq_true]
  intro x hx
  obtain ⟨z, hz, rfl⟩ := List.mem_map.mp hx
  exact inI_T ⟨g.lo z hz, g.hi z hz⟩
theorem pl_ints (H : Hp) (ns : List Int) : ∀ x ∈ ns.map V.int, Pl H x := fun x hx => by
  obtain ⟨z, _, rfl⟩ := List.mem_map.mp hx
  exact .int z
section
variable {P : Program} {w : World} {K : PySem.W.Frag} {mg : Str → Option Value} {base : Heap} {a : Ad}
theorem cont_of {H : Hp} {l : Addr} {ns : List Int} {tp : Bool} (h : H l = some (if tp = true then .tup (ns.map V.int) else .lst (ns.map V.int))) : Cont H (.ref l) (some (ns.map V.int)) := by
  cases tp with
  | false => exact .lst h (pl_ints H ns)
  | true => exact .tup h (pl_ints H ns)
theorem seq_or {H : Hp} {l : Addr} {xs : List V} {tp : Bool} (h : H l = some (if tp = true then .tup xs else .lst xs)) : SqL K H l xs ∨ SqT K H l xs := by
  cases tp with
  | false => exact .inl (SqL.of h)
  | true => exact .inr (SqT.of h)
def sp_are_told : Sp := fun vs H Q _ => ∃ (l : Addr) (c : Int) (ts : List Int) (n : Nat) (tp : Bool), vs = [.ref l, .int c] ∧ H l = some (if tp = true then .tup (ts.map V.int) else .lst (ts.map V.int)) ∧ Told c ts n ∧ ∀ H', Same H H' → Q (.bl true) H'
theorem ok_are_told (T : Txt K mg a) : FnOk P w K mg base CX0 3 a.a_are_told a.fd_are_told ["value", "classes"] sp_are_told := by
  refine T.F_are_told.ok sc_are_told (fun vs H Q E h => ?_) (fun cdv A outer s H vs Q E hr h => ?_)
  · obtain ⟨l, c, ts, n, tp, rfl, _⟩ := h
    rfl
  · obtain ⟨l, c, ts, n, tp, rfl, hl, g, k⟩ := h
    refine ⟨_, (pss_one (ps_ret (pe_and (pe_call (ok_are_integers T) (hr.mono (by decide)) rfl T.g_are_integers T.F_are_integers.kp T.b_are_integers .nil pass0 (pa_cons (pv 0) (pa_cons pe_int (pa_cons (pv 1) pa_nil)))) (pe_one (pe_cmpR op_in_seq (pe_callB call_len_seq (by rfl) T.n_len PySem.boot_len (pa_cons (pv 0) pa_nil)) (pe_glob (v := .ref a.t_NODES) rfl T.g_NODES rfl) (by rfl)))))), ?_⟩
    refine ⟨_, rfl, _, rfl, .ref l, some (ts.map V.int), 0, c, rfl, cont_of hl, fun H1 s1 => ⟨_, rfl, ?_⟩⟩
    rw [allW_told g]
    refine iteT ?_
    refine ⟨_, rfl, l, _, rfl, seq_or (s1 _ _ hl), a.t_NODES, _, rfl, .inr (T.q_NODES _), rfl, (by decide), ?_⟩
    have e : inV (V.int ((ts.map V.int).length : Nat)) (([3, 7, 15, 31, 63] : List Int).map V.int) = true := by
      rw [List.length_map]
      have := g.len
      rcases g.num with h | h | h | h | h
      · rw [show ts.length = 3 by omega]; decide
      · rw [show ts.length = 7 by omega]; decide
      · rw [show ts.length = 15 by omega]; decide
      · rw [show ts.length = 31 by omega]; decide
      · rw [show ts.length = 63 by omega]; decide
    rw [e]
    exact k _ s1
def sp_Tree_init (C : Addr) : Sp := fun vs H Q _ => ∃ (p dx l : Addr) (c : Int) (ts : List Int) (n : Nat) (tp : Bool), vs = [.ref p, .int c, .ref l] ∧ H p = some (.ins C dx []) ∧ H l = some (if tp = true then .tup (ts.map V.int) else .lst (ts.map V.int)) ∧ Told c ts n ∧
  ∀ H', But p H H' → TreeAt C H' p c ts → Q .non H'
theorem ok_Tree_init (T : Txt K mg a) : FnOk P w K mg base CX0 4 a.a_Tree_init a.fd_Tree_init ["self", "classes", "told"] (sp_Tree_init a.C_Tree) := by
  refine T.F_Tree_init.ok sc_Tree_init (fun vs H Q E h => ?_) (fun cdv A outer s H vs Q E hr h => ?_)
  · obtain ⟨p, dx, l, c, ts, n, tp, rfl, _⟩ := h
    rfl
  · obtain ⟨p, dx, l, c, ts, n, tp, rfl, hp, hl, g, k⟩ := h
    have c1 := g.c1
    have c8 := g.c8
    refine ⟨_, (pss_cons (ps_if (pt_not (pt_val (pe_call (ok_is_integer T) (hr.mono (by decide)) rfl T.g_is_integer T.F_is_integer.kp T.b_is_integer .nil pass0 (pa_cons (pv 1) (pa_cons pe_int (pa_cons (pe_glob (v := .int 8) rfl T.c_MOST_CLASSES ⟨_, rfl⟩) pa_nil))))))
      (pss_one ps_never)
      pss_nil)
      (pss_cons (ps_if (pt_not (pt_val (pe_call (ok_are_told T) (hr.mono (by decide)) rfl T.g_are_told T.F_are_told.kp T.b_are_told .nil pass0 (pa_cons (pv 2) (pa_cons (pv 1) pa_nil)))))
      (pss_one ps_never)
      pss_nil)
      (pss_cons (ps_fld (pv 0) (pv 1) rfl)
      (pss_one (ps_fld (pv 0) (pe_callTy call_tuple_of (by rfl) T.n_tuple (by decide +kernel) (pa_cons (pv 2) pa_nil)) rfl))))), ?_⟩
    refine ⟨_, rfl, .int c, 1, 8, rfl, .int c, _, rfl, ?_⟩
    have e : inW (.int c) 1 8 = true := inI_T ⟨c1, c8⟩
    rw [e]
    refine iteF ?_
    refine ⟨_, rfl, _, rfl, l, c, ts, n, tp, rfl, hl, g, fun H1 s1 => ⟨_, rfl, ?_⟩⟩
    refine iteF ?_
    refine ⟨_, rfl, _, rfl, p, a.C_Tree, dx, [], rfl, s1 _ _ hp, T.cl_Tree, T.nf_Tree_classes, (by show 0 < 1000; decide), ?_⟩
    have hl1 := s1 _ _ hl
    have hp1 := s1 _ _ hp
    have nlp : l ≠ p := ne_of hl1 hp1 (by cases tp <;> (intro q; cases q))
    refine ⟨_, rfl, l, ts.map V.int, rfl, ?_⟩
    cases tp with
    | false =>
      refine .inl ⟨SqL.of (by rw [upd_ne nlp]; exact hl1), fun t ht => ?_⟩
      have ntp : t ≠ p := fun q => by rw [q, upd_same] at ht; cases ht
      have ht1 : H1 t = none := by rw [upd_ne ntp] at ht; exact ht
      refine ⟨_, rfl, p, a.C_Tree, dx, _, rfl, (by rw [upd_ne ntp.symm]; exact upd_same), T.cl_Tree, T.nf_Tree_told, (by show 1 < 1000; decide), ?_⟩
      refine k _ (fun b o nb e => ?_) ⟨dx, t, upd_same, ?_⟩
      · rw [upd_ne nb, upd_ne (ne_of_none (s1 _ _ e) ht1), upd_ne nb]
        exact s1 _ _ e
      · rw [upd_ne ntp, upd_same]
    | true =>
      refine .inr ⟨SqT.of (by rw [upd_ne nlp]; exact hl1), ?_⟩
      refine ⟨_, rfl, p, a.C_Tree, dx, _, rfl, upd_same, T.cl_Tree, T.nf_Tree_told, (by show 1 < 1000; decide), ?_⟩
      refine k _ (fun b o nb e => ?_) ⟨dx, l, upd_same, ?_⟩
      · rw [upd_ne nb, upd_ne nb]
        exact s1 _ _ e
      · rw [upd_ne nlp, upd_ne nlp]; exact hl1
def sp_Tree_told (C : Addr) : Sp := fun vs H Q _ => ∃ (p : Addr) (c : Int) (ts : List Int), vs = [.ref p] ∧ TreeAt C H p c ts ∧ ∀ H' l, Same H H' → H l = none → H' l = some (.lst (ts.map V.int)) → Q (.ref l) H'
theorem ok_Tree_told (T : Txt K mg a) : FnOk P w K mg base CX0 1 a.a_Tree_told a.fd_Tree_told ["self"] (sp_Tree_told a.C_Tree) := by
  refine T.F_Tree_told.ok sc_Tree_told (fun vs H Q E h => ?_) (fun cdv A outer s H vs Q E hr h => ?_)
  · obtain ⟨p, c, ts, rfl, _⟩ := h
    rfl
  · obtain ⟨p, c, ts, rfl, ⟨dx, t, hp, ht⟩, k⟩ := h
    refine ⟨_, (pss_one (ps_ret (pe_callTy call_list_of (by rfl) T.n_list (by decide +kernel) (pa_cons (pe_fld (pv 0) rfl) pa_nil)))), ?_⟩
    refine ⟨_, rfl, p, a.C_Tree, dx, _, _, rfl, hp, T.cl_Tree, T.nf_Tree_told, tf_told _ _, t, _, rfl, .inr (SqT.of ht), fun l hl => ?_⟩
    exact k _ l (same_new hl) hl upd_same
def sp_Tree_len (C : Addr) : Sp := fun vs H Q _ => ∃ (p : Addr) (c : Int) (ts : List Int) (n : Nat), vs = [.ref p] ∧ TreeAt C H p c ts ∧ Told c ts n ∧ ∀ H', Same H H' → Q (.int (n : Nat)) H'
theorem ok_Tree_len (T : Txt K mg a) : FnOk P w K mg base CX0 1 a.a_Tree_len a.fd_Tree_len ["self"] (sp_Tree_len a.C_Tree) := by
  refine T.F_Tree_len.ok sc_Tree_len (fun vs H Q E h => ?_) (fun cdv A outer s H vs Q E hr h => ?_)
  · obtain ⟨p, c, ts, n, rfl, _⟩ := h
    rfl
  · obtain ⟨p, c, ts, n, rfl, ⟨dx, t, hp, ht⟩, g, k⟩ := h
    have hlen := g.len
    have n2 := g.n2
    have hml : (ts.map V.int).length = ts.length := List.length_map _
    refine ⟨_, (pss_one (ps_ret (pe_callB call_len_seq (by rfl) T.n_len PySem.boot_len (pa_cons (pe_slice sl_tup (pe_fld (pv 0) rfl) (po_some (pe_op op_fdiv (pe_callB call_len_seq (by rfl) T.n_len PySem.boot_len (pa_cons (pe_fld (pv 0) rfl) pa_nil)) pe_int)) po_none) pa_nil)))), ?_⟩
    refine ⟨_, rfl, p, a.C_Tree, dx, _, _, rfl, hp, T.cl_Tree, T.nf_Tree_told, tf_told _ _, _, rfl, p, a.C_Tree, dx, _, _, rfl, hp, T.cl_Tree, T.nf_Tree_told, tf_told _ _, t, _, rfl, .inr (SqT.of ht), _, _, rfl, rfl, ⟨by decide, by decide⟩, _, rfl, t, _, rfl, SqT.of ht, ?_⟩
    have eh : ((ts.map V.int).length : Int) / 2 = ((n - 1 : Nat) : Int) := by rw [hml]; omega
    refine ⟨fun z => ?_, fun q hq => ?_⟩
    · have z1 := z.1
      rw [eh, HT.sIx_nat, hml] at z1
      omega
    · refine ⟨q, _, rfl, .inr (SqT.of upd_same), ?_⟩
      have e : (cutV (ts.map V.int) (some (((ts.map V.int).length : Int) / 2)) none).length = n := by
        unfold cutV
        rw [eh, HT.sIx_nat, HT.sIx_none, List.length_take, List.length_drop, hml]
        omega
      have k2 := k _ (same_new (o := .tup (cutV (ts.map V.int) (some (((ts.map V.int).length : Int) / 2)) none)) hq)
      rw [← e] at k2
      exact k2
def sp_Tree_getitem (C : Addr) : Sp := fun vs H Q _ => ∃ (p : Addr) (c : Int) (ts : List Int) (n j : Nat), vs = [.ref p, .int (j : Nat)] ∧ TreeAt C H p c ts ∧ Told c ts n ∧ 1 ≤ j ∧ j ≤ ts.length ∧ Q (.int (val ts j)) H
theorem ok_Tree_getitem (T : Txt K mg a) : FnOk P w K mg base CX0 2 a.a_Tree_getitem a.fd_Tree_getitem ["self", "node"] (sp_Tree_getitem a.C_Tree) := by
  refine T.F_Tree_getitem.ok sc_Tree_getitem (fun vs H Q E h => ?_) (fun cdv A outer s H vs Q E hr h => ?_)
  · obtain ⟨p, c, ts, n, j, rfl, _⟩ := h
    rfl
  · obtain ⟨p, c, ts, n, j, rfl, ⟨dx, t, hp, ht⟩, g, j1, j2, k⟩ := h
    have hml : (ts.map V.int).length = ts.length := List.length_map _
    refine ⟨_, (pss_cons (ps_if (pt_not (pt_val (pe_call (ok_is_integer T) (hr.mono (by decide)) rfl T.g_is_integer T.F_is_integer.kp T.b_is_integer .nil pass0 (pa_cons (pv 1) (pa_cons pe_int (pa_cons (pe_callB call_len_seq (by rfl) T.n_len PySem.boot_len (pa_cons (pe_fld (pv 0) rfl) pa_nil)) pa_nil))))))
      (pss_one ps_never)
      pss_nil)
      (pss_one (ps_ret (pe_ix ix_tup (pe_fld (pv 0) rfl) (pe_op op_sub (pv 1) pe_int) (fun _ _ => rfl))))), ?_⟩
    refine ⟨_, rfl, _, rfl, p, a.C_Tree, dx, _, _, rfl, hp, T.cl_Tree, T.nf_Tree_told, tf_told _ _, t, _, rfl, .inr (SqT.of ht), _, _, _, rfl, .int _, _, rfl, ?_⟩
    have e : inW (.int (j : Nat)) 1 ((ts.map V.int).length : Nat) = true := inI_T ⟨by omega, by rw [hml]; omega⟩
    rw [e]
    refine iteF ?_
    refine ⟨_, rfl, p, a.C_Tree, dx, _, _, rfl, hp, T.cl_Tree, T.nf_Tree_told, tf_told _ _, _, rfl, _, _, rfl, rfl, t, _, _, _, rfl, rfl, SqT.of ht, at_of (j := j - 1) (by omega) (at_map (val_at j1 j2)), k⟩
def sp_Tree_leaf (C : Addr) : Sp := fun vs H Q _ => ∃ (p : Addr) (c : Int) (ts : List Int) (n j : Nat), vs = [.ref p, .int (j : Nat)] ∧ TreeAt C H p c ts ∧ Told c ts n ∧ j < n ∧ ∀ H', Same H H' → Q (.int ((j + n : Nat) : Int)) H'
theorem ok_Tree_leaf (T : Txt K mg a) : FnOk P w K mg base CX0 4 a.a_Tree_leaf a.fd_Tree_leaf ["self", "page"] (sp_Tree_leaf a.C_Tree) := by
  refine T.F_Tree_leaf.ok sc_Tree_leaf (fun vs H Q E h => ?_) (fun cdv A outer s H vs Q E hr h => ?_)
  · obtain ⟨p, c, ts, n, j, rfl, _⟩ := h
    rfl
  · obtain ⟨p, c, ts, n, j, rfl, ht, g, j2, k⟩ := h
    obtain ⟨dx, t, hp, _⟩ := id ht
    refine ⟨_, (pss_cons (ps_if (pt_not (pt_val (pe_call (ok_is_integer T) (hr.mono (by decide)) rfl T.g_is_integer T.F_is_integer.kp T.b_is_integer .nil pass0 (pa_cons (pv 1) (pa_cons pe_int (pa_cons (pe_op op_sub (pe_callB (call_lenOwn (ok_Tree_len T) (hr.mono (by decide)) T.m_Tree_len.at_ T.m_Tree_len.fn T.b_Tree_len pass0) (by rfl) T.n_len PySem.boot_len (pa_cons (pv 0) pa_nil)) pe_int) pa_nil))))))
      (pss_one ps_never)
      pss_nil)
      (pss_one (ps_ret (pe_op op_add (pv 1) (pe_callB (call_lenOwn (ok_Tree_len T) (hr.mono (by decide)) T.m_Tree_len.at_ T.m_Tree_len.fn T.b_Tree_len pass0) (by rfl) T.n_len PySem.boot_len (pa_cons (pv 0) pa_nil)))))), ?_⟩
    refine ⟨_, rfl, _, rfl, p, dx, _, rfl, hp, p, c, ts, n, rfl, ht, g, fun H1 s1 => ⟨_, rfl, by omega, by have := g.n2; omega, ?_⟩⟩
    refine ⟨_, _, rfl, rfl, _, _, _, rfl, .int _, _, rfl, ?_⟩
    have e : inW (.int (j : Nat)) 0 ((n : Int) - 1) = true := inI_T ⟨by omega, by omega⟩
    rw [e]
    refine iteF ?_
    refine ⟨_, rfl, _, rfl, p, dx, _, rfl, s1 _ _ hp, p, c, ts, n, rfl, ht.mono s1, g, fun H2 s2 => ⟨_, rfl, by omega, by have := g.n2; omega, ?_⟩⟩
    refine ⟨_, _, rfl, rfl, ?_⟩
    have k2 := k _ (s1.trans s2)
    rw [Int.natCast_add] at k2
    exact k2
end
end Rt
set_option maxHeartbeats 4000000
namespace Rt
open PySem L2
/-! ### the way of a page -/
def anc (k : Nat) : List Nat := if h : k ≤ 1 then [k] else k :: anc (k / 2)
termination_by k
decreasing_by omega
theorem anc_1 {k : Nat} (h : k ≤ 1) : anc k = [k] := by rw [anc, dif_pos h]
theorem anc_2 {k : Nat} (h : ¬ k ≤ 1) : anc k = k :: anc (k / 2) := by rw [anc, dif_neg h]
theorem anc_mem : ∀ (k : Nat), 1 ≤ k → ∀ j ∈ anc k, 1 ≤ j ∧ j ≤ k
  | k, h1, j, hj => by
    by_cases h : k ≤ 1
    · rw [anc_1 h] at hj
      rw [List.mem_singleton.mp hj]
      omega
    · rw [anc_2 h] at hj
      rcases List.mem_cons.mp hj with rfl | hj
      · omega
      · have := anc_mem (k / 2) (by omega) j hj
        omega
termination_by k => k
decreasing_by omega
theorem anc_ne (k : Nat) : anc k ≠ [] := by
  by_cases h : k ≤ 1
  · rw [anc_1 h]; simp
  · rw [anc_2 h]; simp
theorem anc_self (k : Nat) : k ∈ anc k := by
  by_cases h : k ≤ 1
  · rw [anc_1 h]; simp
  · rw [anc_2 h]; simp
def iN (ks : List Nat) : List V := ks.map fun k => V.int ((k : Nat) : Int)
/-- the nodes of the way of leaf f, from the root on -/
def way (f : Nat) : List Nat := (anc f).reverse
theorem same_new2 {H H1 : Hp} {p : Addr} {o : HO} (s : Same H H1) (h : H1 p = none) : Same H (upd H1 p o) := s.trans (same_new h)
theorem but_same {D : Addr} {H H' : Hp} (h : But D H H') (hD : H D = none) : Same H H' := fun b u e => h b u (ne_of_none e hD) e
theorem but_put {D : Addr} {H H' : Hp} {o : HO} (h : But D H H') : But D H (upd H' D o) := fun b u nb e => by rw [upd_ne nb]; exact h b u nb e
theorem but_then {D : Addr} {H H1 H2 : Hp} (h : But D H H1) (s : Same H1 H2) : But D H H2 := fun b u nb e => s b u (h b u nb e)
theorem but_new {D : Addr} {H : Hp} {o : HO} : But D H (upd H D o) := fun b u nb e => by rw [upd_ne nb]; exact e
theorem kit_self {K : PySem.W.Frag} {t : Value} : PySem.W.kitOne K t t = some true := by
  unfold PySem.W.kitOne
  rw [if_pos (beq_iff_eq.mpr rfl)]
theorem dp_ints {K : PySem.W.Frag} {H : Hp} : ∀ ns : List Int, DpAll K H (ns.map V.int) (ns.map PyData.int)
  | [] => .nil
  | n :: r => .cons (.int n) (dp_ints r)
theorem eqvAll_ints : ∀ ns ms : List Int, PyData.eqvAll (ns.map PyData.int) (ms.map PyData.int) = decide (ns = ms)
  | [], [] => by simp [PyData.eqvAll]
  | [], m :: r => by simp [PyData.eqvAll]
  | n :: r, [] => by simp [PyData.eqvAll]
  | n :: r, m :: t => by
    have ih := eqvAll_ints r t
    simp only [List.map_cons, PyData.eqvAll, PyData.eqv, ih]
    by_cases h : n = m
    · subst h
      by_cases h2 : r = t <;> simp [h2]
    · simp [h]
theorem shaped_tup (ns : List Int) : SeqAt.shaped (.tuple (ns.map PyData.int)) = true := by
  simp [SeqAt.shaped, PyData.canLay0, PyData.depth, PySem.W.ke_canLayAll0, PySem.W.ke_depthAll]
def mx (x y : Int) : Int := if y > x then y else x
theorem but_set {l : Addr} {H H1 : Hp} {o : HO} (h : H l = none) (b : Same H H1) : True := trivial
theorem set_told {c : Int} {ts : List Int} {n k : Nat} (g : Told c ts n) {t : Int} (t0 : 0 ≤ t) (tc : t ≤ c) : Told c (ts.set (k - 1) t) n := by
  refine ⟨g.c1, g.c8, fun z hz => ?_, fun z hz => ?_, g.num, by rw [List.length_set]; exact g.len⟩
  · rcases List.mem_or_eq_of_mem_set hz with h | h
    · exact g.lo z h
    · rw [h]; exact t0
  · rcases List.mem_or_eq_of_mem_set hz with h | h
    · exact g.hi z h
    · rw [h]; exact tc
section
variable {P : Program} {w : World} {K : PySem.W.Frag} {mg : Str → Option Value} {base : Heap} {a : Ad}
def sp_Tree_way (C : Addr) : Sp := fun vs H Q _ => ∃ (p : Addr) (c : Int) (ts : List Int) (n j : Nat), vs = [.ref p, .int (j : Nat)] ∧ TreeAt C H p c ts ∧ Told c ts n ∧ j < n ∧ ∀ H' l, Same H H' → H l = none → H' l = some (.lst (iN (way (j + n)))) → Q (.ref l) H'
theorem ok_Tree_way (T : Txt K mg a) : FnOk P w K mg base CX0 5 a.a_Tree_way a.fd_Tree_way ["self", "page"] (sp_Tree_way a.C_Tree) := by
  refine T.F_Tree_way.ok sc_Tree_way (fun vs H Q E h => ?_) (fun cdv A outer s H vs Q E hr h => ?_)
  · obtain ⟨p, c, ts, n, j, rfl, _⟩ := h
    rfl
  · obtain ⟨p, c, ts, n, j, rfl, ht, g, j2, k⟩ := h
    obtain ⟨dx, t, hp, _⟩ := id ht
    have n2 := g.n2
    refine ⟨_, (pss_cons (ps_set (i := 2) sc_Tree_way.nd rfl (Or.inl rfl) (pe_meth (pv 0) T.cl_Tree T.m_Tree_leaf (ok_Tree_leaf T) (hr.mono (by decide)) T.b_Tree_leaf .nil pass0 (pa_cons (pv 1) pa_nil)))
      (pss_cons (ps_set (i := 3) sc_Tree_way.nd rfl (Or.inl rfl) (pe_lst (pa_cons (pv 2) pa_nil)))
      (pss_cons (ps_while PassesOwn.never (pt_cmpR op_gt (pv 2) pe_int (nomark _))
      (pss_cons (ps_set (i := 2) sc_Tree_way.nd rfl (Or.inl rfl) (pe_op op_fdiv (pv 2) pe_int))
        (pss_one (ps_expr (pe_bm PySem.F.plainAttrs_list PySem.F.slot_list_append PySem.F.type_list_append mt_append (pv 3) (pa_cons (pv 2) pa_nil))))))
      (pss_one (ps_ret (pe_revL (pv 3))))))), ?_⟩
    refine ⟨_, rfl, p, dx, _, rfl, hp, tf_no _ _ (by decide +kernel) (by decide +kernel), _, rfl, p, c, ts, n, j, rfl, ht, g, j2, fun H1 s1 => ?_⟩
    refine ⟨_, rfl, (by show 1 ≤ sizeLine; decide), fun l hl => ?_⟩
    have hl0 : H l = none := Same.free s1 hl
    refine while_by (fun σ H' => ∃ (us : List Nat) (f : Nat), σ = [some (.ref p), some (.int (j : Nat)), some (.int (f : Nat)), some (.ref l)] ∧ H' l = some (.lst (iN (us ++ [f]))) ∧ But l H1 H' ∧ us ++ anc f = anc (j + n) ∧ us.length + f ≤ j + n ∧ 1 ≤ f)
      (fun σ H' => match σ with | [_, _, some (.int f), _] => f.toNat | _ => 0) ⟨[], j + n, rfl, upd_same, but_new, rfl, by simp, by omega⟩ ?_ ?_
    · rintro σ H' ⟨us, f, rfl, hl', b', ha, hlen, f1⟩
      refine ⟨_, rfl, _, _, rfl, rfl, _, rfl, ?_⟩
      by_cases c1 : (1 : Int) < (f : Nat)
      · rw [decide_eq_true c1]
        refine iteT ?_
        refine ⟨_, rfl, _, _, rfl, rfl, ⟨by decide, by decide⟩, ?_⟩
        refine ⟨_, rfl, .inl ⟨rfl, _, SqL.of hl'⟩, _, rfl, l, _, _, rfl, rfl, hl', ?_, ?_⟩
        · unfold iN
          rw [List.length_map, List.length_append]
          exact Nat.lt_of_le_of_lt (show us.length + 1 ≤ 100 by omega) (by decide)
        · have ef : ((f : Nat) : Int) / 2 = ((f / 2 : Nat) : Int) := by omega
          have hnf : ¬ f ≤ 1 := by omega
          refine ⟨⟨us ++ [f], f / 2, ?_, ?_, but_put b', ?_, ?_, by omega⟩, ?_⟩
          · rw [← ef]; rfl
          · have e3 : iN (us ++ [f] ++ [f / 2]) = iN (us ++ [f]) ++ [V.int (((f : Nat) : Int) / 2)] := by
              unfold iN
              rw [List.map_append (l₁ := us ++ [f]), ef]; rfl
            rw [upd_same, e3]
          · rw [List.append_assoc, ← ha]
            rw [anc_2 hnf]; rfl
          · rw [List.length_append]; show us.length + 1 + f / 2 ≤ j + n; omega
          · show (((f : Nat) : Int) / 2).toNat < ((f : Nat) : Int).toNat
            omega
      · rw [decide_eq_false c1]
        refine iteF ?_
        have hf1 : f ≤ 1 := by omega
        rw [anc_1 hf1] at ha
        refine ⟨_, rfl, l, _, rfl, SqL.of hl', fun q hq => ?_⟩
        refine k _ q (fun b o e => ?_) ?_ ?_
        · have e1 := s1 _ _ e
          have e2 := b' b o (ne_of_none e hl0) e1
          rw [upd_ne (ne_of_none e2 hq)]
          exact e2
        · exact Same.free s1 (Same.free (but_same b' hl) hq)
        · rw [upd_same, ha]
          unfold way iN
          rw [List.map_reverse]
    · rintro σ H' Q1 Q2 hq ⟨v, hv, i1, j1, e1, e2, k1, e3, q⟩
      exact ⟨v, hv, i1, j1, e1, e2, k1, e3, hq _ _ q⟩
def sp_Tree_greater (C : Addr) : Sp := fun vs H Q _ => ∃ (p : Addr) (c : Int) (ts : List Int) (n j : Nat), vs = [.ref p, .int (j : Nat)] ∧ TreeAt C H p c ts ∧ Told c ts n ∧ 1 ≤ j ∧ j < n ∧ ∀ H', Same H H' → Q (.int (mx (val ts (2 * j)) (val ts (2 * j + 1)))) H'
theorem ok_Tree_greater (T : Txt K mg a) : FnOk P w K mg base CX0 4 a.a_Tree_greater a.fd_Tree_greater ["self", "node"] (sp_Tree_greater a.C_Tree) := by
  refine T.F_Tree_greater.ok sc_Tree_greater (fun vs H Q E h => ?_) (fun cdv A outer s H vs Q E hr h => ?_)
  · obtain ⟨p, c, ts, n, j, rfl, _⟩ := h
    rfl
  · obtain ⟨p, c, ts, n, j, rfl, ht, g, j1, j2, k⟩ := h
    obtain ⟨dx, t, hp, _⟩ := id ht
    have hlen := g.len
    refine ⟨_, (pss_cons (ps_if (pt_not (pt_val (pe_call (ok_is_integer T) (hr.mono (by decide)) rfl T.g_is_integer T.F_is_integer.kp T.b_is_integer .nil pass0 (pa_cons (pv 1) (pa_cons pe_int (pa_cons (pe_op op_sub (pe_callB (call_lenOwn (ok_Tree_len T) (hr.mono (by decide)) T.m_Tree_len.at_ T.m_Tree_len.fn T.b_Tree_len pass0) (by rfl) T.n_len PySem.boot_len (pa_cons (pv 0) pa_nil)) pe_int) pa_nil))))))
      (pss_one ps_never)
      pss_nil)
      (pss_one (ps_ret (pe_callB (call_max2 rfl) (by rfl) T.n_max (by decide +kernel) (pa_cons (pe_subOwn (ok_Tree_getitem T) (hr.mono (by decide)) T.m_Tree_getitem.at_ T.m_Tree_getitem.fn T.fn_Tree_getitem T.b_Tree_getitem pass0 (pv 0) (pe_op op_mul pe_int (pv 1)) (fun _ _ => rfl)) (pa_cons (pe_subOwn (ok_Tree_getitem T) (hr.mono (by decide)) T.m_Tree_getitem.at_ T.m_Tree_getitem.fn T.fn_Tree_getitem T.b_Tree_getitem pass0 (pv 0) (pe_op op_add (pe_op op_mul pe_int (pv 1)) pe_int) (fun _ _ => rfl)) pa_nil)))))), ?_⟩
    refine ⟨_, rfl, _, rfl, p, dx, _, rfl, hp, p, c, ts, n, rfl, ht, g, fun H1 s1 => ⟨_, rfl, by omega, by have := g.n2; omega, ?_⟩⟩
    refine ⟨_, _, rfl, rfl, _, _, _, rfl, .int _, _, rfl, ?_⟩
    have e : inW (.int (j : Nat)) 1 ((n : Int) - 1) = true := inI_T ⟨by omega, by omega⟩
    rw [e]
    refine iteF ?_
    have ht1 := ht.mono s1
    have e2 : (2 : Int) * ((j : Nat) : Int) = ((2 * j : Nat) : Int) := by omega
    have e3 : ((2 * j : Nat) : Int) + 1 = ((2 * j + 1 : Nat) : Int) := by omega
    refine ⟨_, rfl, _, rfl, _, _, rfl, rfl, .inl ⟨by decide, by decide⟩, p, dx, _, rfl, s1 _ _ hp, p, c, ts, n, 2 * j, (by show [V.ref p, V.int (2 * ((j : Nat) : Int))] = _; rw [e2]), ht1, g, by omega, by omega, ?_⟩
    refine ⟨_, rfl, _, rfl, _, _, rfl, rfl, .inl ⟨by decide, by decide⟩, _, _, rfl, rfl, p, dx, _, rfl, s1 _ _ hp, p, c, ts, n, 2 * j + 1, (by show [V.ref p, V.int (2 * ((j : Nat) : Int) + 1)] = _; rw [e2, e3]), ht1, g, by omega, by omega, ?_⟩
    exact ⟨_, _, rfl, k _ s1⟩
def sp_Tree_with_told (C : Addr) : Sp := fun vs H Q _ => ∃ (p : Addr) (c t : Int) (ts : List Int) (n j : Nat), vs = [.ref p, .int (j : Nat), .int t] ∧ TreeAt C H p c ts ∧ Told c ts n ∧ 1 ≤ j ∧ j ≤ ts.length ∧ 0 ≤ t ∧ t ≤ c ∧ ∀ H' q, Same H H' → H q = none → TreeAt C H' q c (ts.set (j - 1) t) → Q (.ref q) H'
theorem ok_Tree_with_told (T : Txt K mg a) : FnOk P w K mg base CX0 6 a.a_Tree_with_told a.fd_Tree_with_told ["self", "node", "told"] (sp_Tree_with_told a.C_Tree) := by
  refine T.F_Tree_with_told.ok sc_Tree_with_told (fun vs H Q E h => ?_) (fun cdv A outer s H vs Q E hr h => ?_)
  · obtain ⟨p, c, t, ts, n, j, rfl, _⟩ := h
    rfl
  · obtain ⟨p, c, t, ts, n, j, rfl, ht, g, j1, j2, t0, tc, k⟩ := h
    obtain ⟨dx, u, hp, hu⟩ := id ht
    have hml : (ts.map V.int).length = ts.length := List.length_map _
    refine ⟨_, (pss_cons (ps_if (pt_not (pt_val (pe_call (ok_is_integer T) (hr.mono (by decide)) rfl T.g_is_integer T.F_is_integer.kp T.b_is_integer .nil pass0 (pa_cons (pv 1) (pa_cons pe_int (pa_cons (pe_callB call_len_seq (by rfl) T.n_len PySem.boot_len (pa_cons (pe_fld (pv 0) rfl) pa_nil)) pa_nil))))))
      (pss_one ps_never)
      pss_nil)
      (pss_cons (ps_if (pt_not (pt_val (pe_call (ok_is_integer T) (hr.mono (by decide)) rfl T.g_is_integer T.F_is_integer.kp T.b_is_integer .nil pass0 (pa_cons (pv 2) (pa_cons pe_int (pa_cons (pe_fld (pv 0) rfl) pa_nil))))))
      (pss_one ps_never)
      pss_nil)
      (pss_cons (ps_set (i := 3) sc_Tree_with_told.nd rfl (Or.inl rfl) (pe_callTy call_list_of (by rfl) T.n_list (by decide +kernel) (pa_cons (pe_fld (pv 0) rfl) pa_nil)))
      (pss_cons (ps_asg (pv 2) (pg_sub (pv 3) (pe_op op_sub (pv 1) pe_int) set_list))
      (pss_one (ps_ret (pe_make T.mk_Tree (ok_Tree_init T) (hr.mono (by decide)) rfl T.g_Tree T.b_Tree_init .nil pass0 (pa_cons (pe_fld (pv 0) rfl) (pa_cons (pv 3) pa_nil))))))))), ?_⟩
    refine ⟨_, rfl, _, rfl, p, a.C_Tree, dx, _, _, rfl, hp, T.cl_Tree, T.nf_Tree_told, tf_told _ _, u, _, rfl, .inr (SqT.of hu), _, _, _, rfl, .int _, _, rfl, ?_⟩
    have e : inW (.int (j : Nat)) 1 ((ts.map V.int).length : Nat) = true := inI_T ⟨by omega, by rw [hml]; omega⟩
    rw [e]
    refine iteF ?_
    refine ⟨_, rfl, _, rfl, p, a.C_Tree, dx, _, _, rfl, hp, T.cl_Tree, T.nf_Tree_classes, tf_classes _ _, _, _, _, rfl, .int _, _, rfl, ?_⟩
    have e : inW (.int t) 0 c = true := inI_T ⟨t0, tc⟩
    rw [e]
    refine iteF ?_
    refine ⟨_, rfl, p, a.C_Tree, dx, _, _, rfl, hp, T.cl_Tree, T.nf_Tree_told, tf_told _ _, u, _, rfl, .inr (SqT.of hu), fun l hl => ?_⟩
    have s0 := same_new (o := .lst (ts.map V.int)) hl
    refine ⟨_, rfl, _, rfl, _, rfl, _, _, rfl, rfl, l, _, _, j - 1, rfl, rfl, upd_same, ?_, ?_⟩
    · unfold ixN
      rw [hml, if_pos (show (0 : Int) ≤ (j : Int) - 1 by omega), if_pos (by omega)]
      congr 1
      omega
    have es : (ts.map V.int).set (j - 1) (.int t) = (ts.set (j - 1) t).map V.int := by rw [List.map_set]
    have s1 : Same H (upd (upd H l (.lst (ts.map V.int))) l (.lst ((ts.map V.int).set (j - 1) (.int t)))) := fun b o e => by
      rw [upd_ne (ne_of_none e hl)]; exact s0 _ _ e
    have hl1 : upd (upd H l (.lst (ts.map V.int))) l (.lst ((ts.map V.int).set (j - 1) (.int t))) l = some (.lst ((ts.set (j - 1) t).map V.int)) := by rw [upd_same, es]
    generalize (upd (upd H l (.lst (ts.map V.int))) l (.lst ((ts.map V.int).set (j - 1) (.int t)))) = H1 at s1 hl1
    refine ⟨_, rfl, p, a.C_Tree, dx, _, _, rfl, s1 _ _ hp, T.cl_Tree, T.nf_Tree_classes, tf_classes _ _, _, rfl, ?_⟩
    intro x dx2 nx ndx nex
    have s3 : Same H1 (upd (upd H1 dx2 (.own x)) x (.ins a.C_Tree dx2 [])) := fun b o e => by
      rw [upd_ne (ne_of_none e nx), upd_ne (ne_of_none e ndx)]; exact e
    refine ⟨x, dx2, l, c, _, n, false, rfl, upd_same, s3 _ _ hl1, set_told g t0 tc, fun H4 b4 t4 => ⟨rfl, ?_⟩⟩
    have nx0 : H x = none := Same.free s1 nx
    exact k _ x (fun b o e => b4 b o (ne_of_none e nx0) (s3 _ _ (s1 _ _ e))) nx0 t4
def sp_Tree_eq (C : Addr) : Sp := fun vs H Q _ => ∃ (p : Addr) (c : Int) (ts : List Int), TreeAt C H p c ts ∧
  ((∃ (q : Addr) (c' : Int) (ts' : List Int), vs = [.ref p, .ref q] ∧ TreeAt C H q c' ts' ∧ Q (.bl (decide (c = c' ∧ ts = ts'))) H) ∨ (∃ (q : Addr) (xs : List V), vs = [.ref p, .ref q] ∧ H q = some (.lst xs) ∧ Q (.bl false) H))
theorem ok_Tree_eq (T : Txt K mg a) : FnOk P w K mg base CX0 1 a.a_Tree_eq a.fd_Tree_eq ["self", "other"] (sp_Tree_eq a.C_Tree) := by
  refine T.F_Tree_eq.ok sc_Tree_eq (fun vs H Q E h => ?_) (fun cdv A outer s H vs Q E hr h => ?_)
  · obtain ⟨p, c, ts, _, ⟨q, c', ts', rfl, _⟩ | ⟨q, xs, rfl, _⟩⟩ := h
    · rfl
    · rfl
  · obtain ⟨p, c, ts, ⟨dx, t, hp, ht⟩, ⟨q, c', ts', rfl, ⟨dy, t', hq, ht'⟩, k⟩ | ⟨q, xs, rfl, hq, k⟩⟩ := h
    · refine ⟨_, (pss_one (ps_ret (pe_and (pe_callB call_isi (by rfl) T.n_isinstance (by decide +kernel) (pa_cons (pv 1) (pa_cons (pe_glob (v := .ref a.C_Tree) rfl T.g_Tree rfl) pa_nil))) (pe_and (pe_cmpR op_eq (pe_fld (pv 0) rfl) (pe_fld (pv 1) rfl) (nomark _)) (pe_one (pe_cmpR (op_eqD hr.units) (pe_fld (pv 0) rfl) (pe_fld (pv 1) rfl) (nomark _))))))), ?_⟩
      refine ⟨_, rfl, _, _, _, _, true, rfl, .own _, .base (.ins hq T.cl_Tree T.ha_Tree T.hn_Tree T.ht_Tree T.hm_Tree), kit_self, _, rfl, ?_⟩
      refine iteT ?_
      refine ⟨_, rfl, p, a.C_Tree, dx, _, _, rfl, hp, T.cl_Tree, T.nf_Tree_classes, tf_classes _ _, _, rfl, q, a.C_Tree, dy, _, _, rfl, hq, T.cl_Tree, T.nf_Tree_classes, tf_classes _ _, rfl, _, rfl, ?_⟩
      by_cases c1 : c = c'
      · subst c1
        rw [decide_eq_true rfl]
        refine iteT ?_
        refine ⟨_, rfl, p, a.C_Tree, dx, _, _, rfl, hp, T.cl_Tree, T.nf_Tree_told, tf_told _ _, _, rfl, q, a.C_Tree, dy, _, _, rfl, hq, T.cl_Tree, T.nf_Tree_told, tf_told _ _, _, _, .tup (SqT.of ht) (dp_ints ts), .tup (SqT.of ht') (dp_ints ts'), shaped_tup _, shaped_tup _, ?_⟩
        have e : PyData.eqv (.tuple (ts.map PyData.int)) (.tuple (ts'.map PyData.int)) = decide (c = c ∧ ts = ts') := by
          simp only [PyData.eqv, eqvAll_ints, true_and]
        rw [e]
        exact k
      · have e : decide (c = c' ∧ ts = ts') = false := decide_eq_false fun z => c1 z.1
        rw [e] at k
        have c2 : ¬ (V.int c = V.int c') := fun z => c1 (by injection z)
        rw [decide_eq_false c2]
        exact iteF k
    · refine ⟨_, (pss_one (ps_ret (pe_and (pe_callB call_isi (by rfl) T.n_isinstance (by decide +kernel) (pa_cons (pv 1) (pa_cons (pe_glob (v := .ref a.C_Tree) rfl T.g_Tree rfl) pa_nil))) (pe_and (pe_cmpR op_eq (pe_fld (pv 0) rfl) (pe_fld (pv 1) rfl) (nomark _)) (pe_one (pe_cmpR (op_eqD hr.units) (pe_fld (pv 0) rfl) (pe_fld (pv 1) rfl) (nomark _))))))), ?_⟩
      refine ⟨_, rfl, _, _, _, _, false, rfl, .own _, .base (.lst hq), T.kf_Tree_list, _, rfl, ?_⟩
      exact iteF k
end
end Rt
set_option maxHeartbeats 4000000
namespace Rt
open PySem L2
section
variable {P : Program} {w : World} {K : PySem.W.Frag} {mg : Str → Option Value} {base : Heap} {a : Ad}
/-- tree[v], refused -/
def spX_Tree_getitem (a : Ad) : Sp := fun vs H _ E => ∃ (p : Addr) (c : Int) (ts : List Int) (v : V), vs = [.ref p, v] ∧ TreeAt a.C_Tree H p c ts ∧ Pl H v ∧ inW v 1 (ts.length : Nat) = false ∧ ∀ d, H d = none → E (.ref a.C_BadNode) (some d) (upd H d (.xd [("number", v)]))
theorem okX_Tree_getitem (T : Txt K mg a) : FnOk P w K mg base (L2.CX P w) 2 a.a_Tree_getitem a.fd_Tree_getitem ["self", "node"] (spX_Tree_getitem a) := by
  refine T.F_Tree_getitem.okX sc_Tree_getitem (fun vs H Q E h => ?_) (fun cdv A outer s H vs Q E hr h => ?_)
  · obtain ⟨p, c, ts, v, rfl, _⟩ := h
    rfl
  · obtain ⟨p, c, ts, v, rfl, ⟨dx, t, hp, ht⟩, hv, no, k⟩ := h
    have hml : (ts.map V.int).length = ts.length := List.length_map _
    refine ⟨_, (pss_cons (ps_if (pt_not (pt_val (pe_call (ok_is_integer T) (hr.mono (by decide)) rfl T.g_is_integer T.F_is_integer.kp T.b_is_integer .nil pass0 (pa_cons (pv 1) (pa_cons pe_int (pa_cons (pe_callB call_len_seq (by rfl) T.n_len PySem.boot_len (pa_cons (pe_fld (pv 0) rfl) pa_nil)) pa_nil))))))
      (pss_one (ps_raise_number rfl T.e_BadNode hr (takes_of rfl rfl rfl rfl) (by exact (pa_cons (pv 1) pa_nil))))
      pss_nil)
      (pss_one ps_never)), ?_⟩
    refine ⟨_, rfl, _, rfl, p, a.C_Tree, dx, _, _, rfl, hp, T.cl_Tree, T.nf_Tree_told, tf_told _ _, t, _, rfl, .inr (SqT.of ht), _, _, _, rfl, hv, _, rfl, ?_⟩
    rw [hml, no]
    exact iteT ⟨_, rfl, _, rfl, fun d hd => k d hd⟩
/-- tree.leaf(v), refused -/
def spX_Tree_leaf (a : Ad) : Sp := fun vs H _ E => ∃ (p : Addr) (c : Int) (ts : List Int) (n : Nat) (v : V), vs = [.ref p, v] ∧ TreeAt a.C_Tree H p c ts ∧ Told c ts n ∧ Pl H v ∧ inW v 0 ((n : Int) - 1) = false ∧ ∀ H' d, Same H H' → H' d = none → E (.ref a.C_BadPage) (some d) (upd H' d (.xd [("number", v)]))
theorem okX_Tree_leaf (T : Txt K mg a) : FnOk P w K mg base (L2.CX P w) 4 a.a_Tree_leaf a.fd_Tree_leaf ["self", "page"] (spX_Tree_leaf a) := by
  refine T.F_Tree_leaf.okX sc_Tree_leaf (fun vs H Q E h => ?_) (fun cdv A outer s H vs Q E hr h => ?_)
  · obtain ⟨p, c, ts, n, v, rfl, _⟩ := h
    rfl
  · obtain ⟨p, c, ts, n, v, rfl, ht, g, hv, no, k⟩ := h
    obtain ⟨dx, t, hp, _⟩ := id ht
    refine ⟨_, (pss_cons (ps_if (pt_not (pt_val (pe_call (ok_is_integer T) (hr.mono (by decide)) rfl T.g_is_integer T.F_is_integer.kp T.b_is_integer .nil pass0 (pa_cons (pv 1) (pa_cons pe_int (pa_cons (pe_op op_sub (pe_callB (call_lenOwn (ok_Tree_len T) (hr.mono (by decide)) T.m_Tree_len.at_ T.m_Tree_len.fn T.b_Tree_len pass0) (by rfl) T.n_len PySem.boot_len (pa_cons (pv 0) pa_nil)) pe_int) pa_nil))))))
      (pss_one (ps_raise_number rfl T.e_BadPage hr (takes_of rfl rfl rfl rfl) (by exact (pa_cons (pv 1) pa_nil))))
      pss_nil)
      (pss_one ps_never)), ?_⟩
    refine ⟨_, rfl, _, rfl, p, dx, _, rfl, hp, p, c, ts, n, rfl, ht, g, fun H1 s1 => ⟨_, rfl, by omega, by have := g.n2; omega, ?_⟩⟩
    refine ⟨_, _, rfl, rfl, _, _, _, rfl, hv.mono s1, _, rfl, ?_⟩
    rw [no]
    exact iteT ⟨_, rfl, _, rfl, fun d hd => k H1 d s1 hd⟩
theorem okX_Tree_way (T : Txt K mg a) : FnOk P w K mg base (L2.CX P w) 5 a.a_Tree_way a.fd_Tree_way ["self", "page"] (spX_Tree_leaf a) := by
  refine T.F_Tree_way.okX sc_Tree_way (fun vs H Q E h => ?_) (fun cdv A outer s H vs Q E hr h => ?_)
  · obtain ⟨p, c, ts, n, v, rfl, _⟩ := h
    rfl
  · obtain ⟨p, c, ts, n, v, rfl, ht, g, hv, no, k⟩ := h
    obtain ⟨dx, t, hp, _⟩ := id ht
    refine ⟨_, (pss_cons (ps_set (i := 2) sc_Tree_way.nd rfl (Or.inl rfl) (pe_meth (pv 0) T.cl_Tree T.m_Tree_leaf (okX_Tree_leaf T) (hr.mono (by decide)) T.b_Tree_leaf .nil (passes_call (takes_of rfl rfl rfl rfl) (fun _ _ _ _ h => h)) (pa_cons (pv 1) pa_nil)))
      (pss_cons ps_never
      (pss_cons ps_never
      (pss_one ps_never)))), ?_⟩
    exact ⟨_, rfl, p, dx, _, rfl, hp, tf_no _ _ (by decide +kernel) (by decide +kernel), _, rfl, p, c, ts, n, v, rfl, ht, g, hv, no, k⟩
/-- tree.greater(v), refused -/
def spX_Tree_greater (a : Ad) : Sp := fun vs H _ E => ∃ (p : Addr) (c : Int) (ts : List Int) (n : Nat) (v : V), vs = [.ref p, v] ∧ TreeAt a.C_Tree H p c ts ∧ Told c ts n ∧ Pl H v ∧ inW v 1 ((n : Int) - 1) = false ∧ ∀ H' d, Same H H' → H' d = none → E (.ref a.C_BadNode) (some d) (upd H' d (.xd [("number", v)]))
theorem okX_Tree_greater (T : Txt K mg a) : FnOk P w K mg base (L2.CX P w) 4 a.a_Tree_greater a.fd_Tree_greater ["self", "node"] (spX_Tree_greater a) := by
  refine T.F_Tree_greater.okX sc_Tree_greater (fun vs H Q E h => ?_) (fun cdv A outer s H vs Q E hr h => ?_)
  · obtain ⟨p, c, ts, n, v, rfl, _⟩ := h
    rfl
  · obtain ⟨p, c, ts, n, v, rfl, ht, g, hv, no, k⟩ := h
    obtain ⟨dx, t, hp, _⟩ := id ht
    refine ⟨_, (pss_cons (ps_if (pt_not (pt_val (pe_call (ok_is_integer T) (hr.mono (by decide)) rfl T.g_is_integer T.F_is_integer.kp T.b_is_integer .nil pass0 (pa_cons (pv 1) (pa_cons pe_int (pa_cons (pe_op op_sub (pe_callB (call_lenOwn (ok_Tree_len T) (hr.mono (by decide)) T.m_Tree_len.at_ T.m_Tree_len.fn T.b_Tree_len pass0) (by rfl) T.n_len PySem.boot_len (pa_cons (pv 0) pa_nil)) pe_int) pa_nil))))))
      (pss_one (ps_raise_number rfl T.e_BadNode hr (takes_of rfl rfl rfl rfl) (by exact (pa_cons (pv 1) pa_nil))))
      pss_nil)
      (pss_one ps_never)), ?_⟩
    refine ⟨_, rfl, _, rfl, p, dx, _, rfl, hp, p, c, ts, n, rfl, ht, g, fun H1 s1 => ⟨_, rfl, by omega, by have := g.n2; omega, ?_⟩⟩
    refine ⟨_, _, rfl, rfl, _, _, _, rfl, hv.mono s1, _, rfl, ?_⟩
    rw [no]
    exact iteT ⟨_, rfl, _, rfl, fun d hd => k H1 d s1 hd⟩
/-- tree.with_told(v, u), refused -/
def spX_Tree_with_told (a : Ad) : Sp := fun vs H _ E => ∃ (p : Addr) (c : Int) (ts : List Int) (v u : V), vs = [.ref p, v, u] ∧ TreeAt a.C_Tree H p c ts ∧ Pl H v ∧ Pl H u ∧
  ((inW v 1 (ts.length : Nat) = false ∧ ∀ d, H d = none → E (.ref a.C_BadNode) (some d) (upd H d (.xd [("number", v)]))) ∨
   (inW v 1 (ts.length : Nat) = true ∧ inW u 0 c = false ∧ ∀ d, H d = none → E (.ref a.C_BadClass) (some d) (upd H d (.xd [("value", u)]))))
theorem okX_Tree_with_told (T : Txt K mg a) : FnOk P w K mg base (L2.CX P w) 4 a.a_Tree_with_told a.fd_Tree_with_told ["self", "node", "told"] (spX_Tree_with_told a) := by
  refine T.F_Tree_with_told.okX sc_Tree_with_told (fun vs H Q E h => ?_) (fun cdv A outer s H vs Q E hr h => ?_)
  · obtain ⟨p, c, ts, v, u, rfl, _⟩ := h
    rfl
  · obtain ⟨p, c, ts, v, u, rfl, ⟨dx, t, hp, ht⟩, hv, hu, h⟩ := h
    have hml : (ts.map V.int).length = ts.length := List.length_map _
    refine ⟨_, (pss_cons (ps_if (pt_not (pt_val (pe_call (ok_is_integer T) (hr.mono (by decide)) rfl T.g_is_integer T.F_is_integer.kp T.b_is_integer .nil pass0 (pa_cons (pv 1) (pa_cons pe_int (pa_cons (pe_callB call_len_seq (by rfl) T.n_len PySem.boot_len (pa_cons (pe_fld (pv 0) rfl) pa_nil)) pa_nil))))))
      (pss_one (ps_raise_number rfl T.e_BadNode hr (takes_of rfl rfl rfl rfl) (by exact (pa_cons (pv 1) pa_nil))))
      pss_nil)
      (pss_cons (ps_if (pt_not (pt_val (pe_call (ok_is_integer T) (hr.mono (by decide)) rfl T.g_is_integer T.F_is_integer.kp T.b_is_integer .nil pass0 (pa_cons (pv 2) (pa_cons pe_int (pa_cons (pe_fld (pv 0) rfl) pa_nil))))))
      (pss_one (ps_raise_value rfl T.e_BadClass hr (takes_of rfl rfl rfl rfl) (by exact (pa_cons (pv 2) pa_nil))))
      pss_nil)
      (pss_cons ps_never
      (pss_cons ps_never
      (pss_one ps_never))))), ?_⟩
    refine ⟨_, rfl, _, rfl, p, a.C_Tree, dx, _, _, rfl, hp, T.cl_Tree, T.nf_Tree_told, tf_told _ _, t, _, rfl, .inr (SqT.of ht), _, _, _, rfl, hv, _, rfl, ?_⟩
    rcases h with ⟨no, k⟩ | ⟨yes, no, k⟩
    · rw [hml, no]
      exact iteT ⟨_, rfl, _, rfl, fun d hd => k d hd⟩
    · rw [hml, yes]
      refine iteF ?_
      refine ⟨_, rfl, _, rfl, p, a.C_Tree, dx, _, _, rfl, hp, T.cl_Tree, T.nf_Tree_classes, tf_classes _ _, _, _, _, rfl, hu, _, rfl, ?_⟩
      rw [no]
      exact iteT ⟨_, rfl, _, rfl, fun d hd => k d hd⟩
end
end Rt
set_option maxHeartbeats 4000000
namespace Rt
open PySem L2
section
variable {P : Program} {w : World} {K : PySem.W.Frag} {mg : Str → Option Value} {base : Heap} {a : Ad}
/-! ### the pool -/
def PoolAt (H : Hp) (p : Addr) : Prop := ∃ (x y : Int), H p = some (.lst [.int x, .int y]) ∧ 0 ≤ x ∧ 0 ≤ y ∧ y < 2147483647
def sp_law_opened (K : PySem.W.Frag) : Sp := fun vs H Q _ => ∃ (s : Addr) (k : Int) (ns : List Int), vs = [.ref s, .int k] ∧ SqL K H s (ns.map V.int) ∧ 0 ≤ k ∧ k ≤ 63 ∧
  ∀ H' p, H p = none → Same H H' → PoolAt H' p → Q (.ref p) H'
theorem max_nonneg (c : Int) : 0 ≤ (if -1 - c > c then -1 - c else c) := by split <;> omega
theorem ok_law_opened (T : Txt K mg a) : FnOk P w K mg base CX0 1 a.a_law_opened a.fd_law_opened ["_law_script", "_law_k"] (sp_law_opened K) := by
  refine T.F_law_opened.ok sc_law_opened (fun vs H Q E h => ?_) (fun cdv A outer s H vs Q E hr h => ?_)
  · obtain ⟨p, k, ns, rfl, _⟩ := h
    rfl
  · obtain ⟨p, k, ns, rfl, hs, k0, k63, kk⟩ := h
    refine ⟨_, (pss_cons (ps_set (i := 2) sc_law_opened.nd rfl (Or.inl rfl) (pe_ifExp (pt_cmpR op_lt (pv 1) (pe_callB call_len_seq (by rfl) T.n_len PySem.boot_len (pa_cons (pv 0) pa_nil)) (nomark _)) (pe_ix (r := rIxL K) ix_list (pv 0) (pv 1) (fun _ _ => rfl)) pe_int))
      (pss_cons (ps_set (i := 3) sc_law_opened.nd rfl (Or.inl rfl) (pe_callB (call_max2 rfl) (by rfl) T.n_max (by decide +kernel) (pa_cons (pe_callTy call_int1 (by rfl) T.n_int (by decide +kernel) (pa_cons (pv 2) pa_nil)) (pa_cons (pe_callTy call_int1 (by rfl) T.n_int (by decide +kernel) (pa_cons (pe_op op_sub (pe_un un_neg pe_int) (pv 2)) pa_nil)) pa_nil))))
      (pss_one (ps_ret (pe_lst (pa_cons (pe_op op_mul (pv 3) (pe_callTy call_int1 (by rfl) T.n_int (by decide +kernel) (pa_cons (pe_cmpR op_ge (pv 3) (pe_op op_pow pe_int pe_int) (nomark _)) pa_nil))) (pa_cons (pe_op op_mod (pe_callTy call_int1 (by rfl) T.n_int (by decide +kernel) (pa_cons (pe_op op_mul (pe_op op_add (pe_op op_add (pe_op op_mod (pv 3) pe_int) (pe_op op_mul pe_int (pv 1))) pe_int) pe_int) pa_nil)) pe_int) pa_nil))))))), ?_⟩
    refine ⟨_, rfl, _, rfl, p, _, rfl, .inl hs, _, _, rfl, rfl, _, rfl, ?_⟩
    refine ite2 (fun c => ?_) (fun c => ?_)
    have c2 : k < (ns.length : Int) := by
      have := of_decide_eq_true c
      rw [List.length_map] at this
      exact this
    obtain ⟨z, hz⟩ : ∃ z, ns[k.toNat]? = some z := ⟨ns[k.toNat], by simp⟩
    refine ⟨_, rfl, _, rfl, p, _, _, _, rfl, rfl, hs, at_of (show k = ((k.toNat : Nat) : Int) by omega) (at_map hz), ?_⟩
    clear c2 hz
    rotate_left
    generalize hz : (5 : Int) = z
    clear hz
    all_goals clear c
    all_goals
      refine ⟨_, rfl, .inl ⟨_, rfl, _, rfl, _, rfl, _, _, rfl, rfl, .inl ⟨_, rfl, _, _, rfl, ?_⟩⟩⟩
      have g0 := max_nonneg z
      generalize (if -1 - z > z then -1 - z else z) = g at g0
      refine ⟨_, rfl, _, rfl, _, _, rfl, rfl, ⟨by decide, by decide, by decide⟩, _, _, rfl, rfl, .inr ⟨_, rfl, _, _, rfl, rfl, .inr ?_, ?_⟩⟩
      · split <;> decide
      have m0 := Int.emod_nonneg g (show (2147483629 : Int) ≠ 0 by decide)
      have m1 := Int.emod_lt_of_pos g (show (0 : Int) < 2147483629 by decide)
      refine ⟨_, rfl, _, _, rfl, rfl, (by show (0 : Int) < _; decide), _, rfl, _, _, rfl, rfl, .inl ⟨by decide, by decide⟩, _, _, rfl, rfl, _, _, rfl, rfl, _, _, rfl, rfl, .inl ⟨?_, ?_⟩, .inl ⟨_, rfl, _, _, rfl, rfl, (by show (0 : Int) < _; decide), ?_⟩⟩
      · omega
      · omega
      refine ⟨by show 2 ≤ sizeLine; decide, fun l hl => ?_⟩
      refine kk _ l hl (same_new hl) ⟨_, _, upd_same, ?_, ?_, ?_⟩
      · split
        · rw [Int.mul_one]; exact g0
        · rw [Int.mul_zero]; exact Int.le_refl 0
      · exact Int.emod_nonneg _ (by decide)
      · exact Int.emod_lt_of_pos _ (by decide)
/-! ### draw -/
def sp_law_draw : Sp := fun vs H Q _ => ∃ (p : Addr) (m : Int), vs = [.ref p, .int m] ∧ PoolAt H p ∧ 1 ≤ m ∧ m < 1073741824 ∧
  ∀ H' d, 0 ≤ d → d < m → But p H H' → PoolAt H' p → Q (.int d) H'
theorem ok_law_draw (T : Txt K mg a) : FnOk P w K mg base CX0 1 a.a_law_draw a.fd_law_draw ["_law_pool", "_law_many"] sp_law_draw := by
  refine T.F_law_draw.ok sc_law_draw (fun vs H Q E h => ?_) (fun cdv A outer s H vs Q E hr h => ?_)
  · obtain ⟨p, m, rfl, _⟩ := h
    rfl
  · obtain ⟨p, m, rfl, ⟨x, y, hp, x0, y0, y1⟩, m1, m2, k⟩ := h
    have hq := SqL.of (K := K) hp
    refine ⟨_, (pss_cons (ps_if (pt_cmpR op_gt (pe_ix (r := rIxL K) ix_list (pv 0) pe_int (fun _ _ => rfl)) pe_int (nomark _))
      (pss_cons (ps_set (i := 2) sc_law_draw.nd rfl (Or.inl rfl) (pe_op op_modN (pe_callTy call_int1 (by rfl) T.n_int (by decide +kernel) (pa_cons (pe_ix (r := rIxL K) ix_list (pv 0) pe_int (fun _ _ => rfl)) pa_nil)) (pv 1)))
        (pss_cons (ps_asg (pe_op op_fdivN (pe_ix (r := rIxL K) ix_list (pv 0) pe_int (fun _ _ => rfl)) (pv 1)) (pg_sub (pv 0) pe_int set_list))
        (pss_one (ps_ret (pv 2)))))
      pss_nil)
      (pss_cons (ps_asg (pe_op op_mod (pe_callTy call_int1 (by rfl) T.n_int (by decide +kernel) (pa_cons (pe_op op_add (pe_op op_mul (pe_ix (r := rIxL K) ix_list (pv 0) pe_int (fun _ _ => rfl)) pe_int) pe_int) pa_nil)) pe_int) (pg_sub (pv 0) pe_int set_list))
      (pss_one (ps_ret (pe_op op_modN (pe_op op_fdiv (pe_op op_mod (pe_callTy call_int1 (by rfl) T.n_int (by decide +kernel) (pa_cons (pe_op op_mul (pe_ix (r := rIxL K) ix_list (pv 0) pe_int (fun _ _ => rfl)) (pe_ix (r := rIxL K) ix_list (pv 0) pe_int (fun _ _ => rfl))) pa_nil)) pe_int) pe_int) (pv 1)))))), ?_⟩
    have a0 : ∀ x y : Int, atI [V.int x, V.int y] 0 = some (V.int x) := fun x y => at_of (j := 0) rfl rfl
    have a1 : ∀ x y : Int, atI [V.int x, V.int y] 1 = some (V.int y) := fun x y => at_of (j := 1) rfl rfl
    have but : ∀ o, But p H (upd H p o) := fun o b u nb e => by rw [upd_ne nb]; exact e
    have m3 : m ≠ 0 := by omega
    refine ⟨_, rfl, p, _, _, _, rfl, rfl, hq, a0 x y, _, _, rfl, rfl, _, rfl, ?_⟩
    refine ite2 (fun c => ?_) (fun c => ?_)
    · refine ⟨_, rfl, p, _, _, _, rfl, rfl, hq, a0 x y, .inl ⟨_, rfl, _, rfl, _, _, rfl, rfl, m3, ?_⟩⟩
      refine ⟨_, rfl, p, _, _, _, rfl, rfl, hq, a0 x y, _, rfl, _, _, rfl, rfl, ⟨m3, by omega⟩, _, rfl, p, _, _, 0, rfl, rfl, hp, rfl, ?_⟩
      refine ⟨_, rfl, ?_⟩
      refine k _ _ (Int.fmod_nonneg_of_pos _ (by omega)) (Int.fmod_lt_of_pos _ (by omega)) (but _) ⟨_, y, upd_same, ?_, y0, y1⟩
      exact Int.fdiv_nonneg x0 (by omega)
    · refine ⟨_, rfl, p, _, _, _, rfl, rfl, hq, a1 x y, _, _, rfl, rfl, .inl ⟨by omega, by omega⟩, _, _, rfl, rfl, .inl ⟨_, rfl, _, _, rfl, rfl, (by show (0 : Int) < _; decide), ?_⟩⟩
      have z0 := Int.emod_nonneg (y * 39373 + 7) (show (2147483647 : Int) ≠ 0 by decide)
      have z1 := Int.emod_lt_of_pos (y * 39373 + 7) (show (0 : Int) < 2147483647 by decide)
      obtain ⟨z, hz⟩ : ∃ z, z = (y * 39373 + 7) % 2147483647 := ⟨_, rfl⟩
      rw [← hz] at z0 z1
      refine ⟨_, rfl, p, _, _, 1, rfl, rfl, hp, rfl, ?_⟩
      have hq2 : SqL K (upd H p (.lst ([V.int x, V.int y].set 1 (V.int ((y * 39373 + 7) % 2147483647))))) p [.int x, .int z] := by rw [hz]; exact SqL.of upd_same
      refine ⟨_, rfl, p, _, _, _, rfl, rfl, hq2, a1 x z, _, rfl, p, _, _, _, rfl, rfl, hq2, a1 x z, _, _, rfl, rfl, .inl ⟨by omega, by omega⟩, .inl ⟨_, rfl, _, _, rfl, rfl, (by show (0 : Int) < _; decide), _, _, rfl, rfl, ⟨by decide, by decide⟩, _, rfl, _, _, rfl, rfl, m3, ?_⟩⟩
      exact k _ _ (Int.fmod_nonneg_of_pos _ (by omega)) (Int.fmod_lt_of_pos _ (by omega)) (but _) ⟨x, z, (by rw [hz]; exact upd_same), x0, z0, z1⟩
end
theorem But.trans {p : Addr} {H H1 H2 : Hp} (h1 : But p H H1) (h2 : But p H1 H2) : But p H H2 := fun b o nb e => h2 b o nb (h1 b o nb e)
theorem Same.but {p : Addr} {H H1 : Hp} (h1 : Same H H1) : But p H H1 := fun b o _ e => h1 b o e
theorem PoolAt.mono {H H' : Hp} {p : Addr} (h : PoolAt H p) (s : Same H H') : PoolAt H' p := by
  obtain ⟨x, y, h1, h2⟩ := h
  exact ⟨x, y, s _ _ h1, h2⟩
theorem PoolAt.ne {H : Hp} {p l : Addr} (h : PoolAt H p) (hl : H l = none) : l ≠ p := fun z => by
  obtain ⟨x, y, e, _⟩ := h
  rw [z, e] at hl
  cases hl
section
variable {P : Program} {w : World} {K : PySem.W.Frag} {mg : Str → Option Value} {base : Heap} {a : Ad}
def sp_law_told : Sp := fun vs H Q _ => ∃ (p : Addr) (c : Int) (n : Nat), vs = [.ref p, .int c, .int ((n : Nat) : Int)] ∧ PoolAt H p ∧ 1 ≤ c ∧ c ≤ 8 ∧ (n = 2 ∨ n = 4 ∨ n = 8 ∨ n = 16 ∨ n = 32) ∧
  ∀ H' l ts, But p H H' → PoolAt H' p → H l = none → l ≠ p → H' l = some (.lst (ts.map V.int)) → Told c ts n → Q (.ref l) H'
theorem ok_law_told (T : Txt K mg a) : FnOk P w K mg base CX0 2 a.a_law_told a.fd_law_told ["_law_pool", "_law_classes", "_law_pages_here"] sp_law_told := by
  refine T.F_law_told.ok sc_law_told (fun vs H Q E h => ?_) (fun cdv A outer s H vs Q E hr h => ?_)
  · obtain ⟨p, c, n, rfl, _⟩ := h
    rfl
  · obtain ⟨p, c, n, rfl, hp, c1, c8, hn, k⟩ := h
    have n2 : 2 ≤ n ∧ n ≤ 32 := by rcases hn with h | h | h | h | h <;> omega
    refine ⟨_, (pss_cons (ps_par (i := 3) (j := 4) (by rfl) sc_law_told.nd rfl rfl (by decide) rfl rfl (pa_cons (pe_call (ok_law_draw T) (hr.mono (by decide)) rfl T.g__law_draw T.F_law_draw.kp T.b_law_draw .nil pass0 (pa_cons (pv 0) (pa_cons pe_int pa_nil))) (pa_cons (pe_lst pa_nil) pa_nil)) (by rfl))
      (pss_cons (ps_for PassesOwn.never rfl (pi_range2 (by rfl) T.n_range (pa_cons pe_int (pa_cons (pe_op op_mul pe_int (pv 2)) pa_nil))) (pg_name (i := 5) sc_law_told.nd rfl (Or.inl rfl))
      (pss_one (ps_if (PW.pt (pw_and (pt_cmpR op_eq (pv 3) pe_int (nomark _)) (pw_and1 (pt_cmpR op_gt (pv 5) pe_int (nomark _)))))
        (pss_one (ps_expr (pe_bm PySem.F.plainAttrs_list PySem.F.slot_list_append PySem.F.type_list_append mt_append (pv 4) (pa_cons (pe_call (ok_law_draw T) (hr.mono (by decide)) rfl T.g__law_draw T.F_law_draw.kp T.b_law_draw .nil pass0 (pa_cons (pv 0) (pa_cons (pe_op op_add (pe_ix (r := rIxL K) ix_list (pv 4) (pe_op op_sub (pe_op op_fdiv (pv 5) pe_int) pe_int) (fun _ _ => rfl)) pe_int) pa_nil))) pa_nil))))
        (pss_one (ps_if (pt_cmpR op_eq (pv 3) pe_int (nomark _))
          (pss_one (ps_expr (pe_bm PySem.F.plainAttrs_list PySem.F.slot_list_append PySem.F.type_list_append mt_append (pv 4) (pa_cons (pe_ifExp (pt_cmpR op_eq (pe_call (ok_law_draw T) (hr.mono (by decide)) rfl T.g__law_draw T.F_law_draw.kp T.b_law_draw .nil pass0 (pa_cons (pv 0) (pa_cons pe_int pa_nil))) pe_int (nomark _)) (pe_call (ok_law_draw T) (hr.mono (by decide)) rfl T.g__law_draw T.F_law_draw.kp T.b_law_draw .nil pass0 (pa_cons (pv 0) (pa_cons (pe_op op_add (pv 1) pe_int) pa_nil))) (pv 1)) pa_nil))))
          (pss_one (ps_expr (pe_bm PySem.F.plainAttrs_list PySem.F.slot_list_append PySem.F.type_list_append mt_append (pv 4) (pa_cons (pe_call (ok_law_draw T) (hr.mono (by decide)) rfl T.g__law_draw T.F_law_draw.kp T.b_law_draw .nil pass0 (pa_cons (pv 0) (pa_cons (pe_op op_add (pv 1) pe_int) pa_nil))) pa_nil)))))))))
      (pss_one (ps_ret (pv 4))))), ?_⟩
    refine ⟨_, rfl, p, 4, rfl, hp, by decide, by decide, fun H1 kd kd0 kd1 b1 p1 => ?_⟩
    refine ⟨Nat.zero_le _, fun l hl => ⟨_, _, rfl, ?_⟩⟩
    have nlp : l ≠ p := p1.ne hl
    have hl0 : H l = none := by
      cases e : H l with
      | none => rfl
      | some o => rw [b1 _ _ nlp e] at hl; cases hl
    refine ⟨_, rfl, _, _, rfl, rfl, .inl ⟨by decide, by decide⟩, 1, _, rfl, ⟨by decide, by decide, by omega, by omega⟩,
      for_range (lo := 1) (n := (2 * (n : Int) - 1).toNat) (fun i σ H' => (∃ v : Option V, σ = [some (.ref p), some (.int c), some (.int (n : Nat)), some (.int kd), some (.ref l), v]) ∧ (∀ b o, b ≠ p → b ≠ l → H1 b = some o → H' b = some o) ∧ PoolAt H' p ∧
        ∃ ts : List Int, H' l = some (.lst (ts.map V.int)) ∧ ts.length = i ∧ ∀ z ∈ ts, 0 ≤ z ∧ z ≤ c)
      ⟨⟨none, rfl⟩, fun b o _ nb e => by rw [upd_ne nb]; exact e, p1.mono (same_new hl), [], upd_same, rfl, fun z hz => by cases hz⟩ ?_ ?_⟩
    · rintro i σ H' hi ⟨⟨v, rfl⟩, b', p', ts, hl', htl, hts⟩
      have fin : ∀ (H5 : Hp) (d : Int), But p H' H5 → PoolAt H5 p → 0 ≤ d → d ≤ c → ((∃ v : Option V, [some (.ref p), some (.int c), some (.int (n : Nat)), some (.int kd), some (.ref l), some (V.int (1 + (i : Int)))] = [some (.ref p), some (.int c), some (.int (n : Nat)), some (.int kd), some (.ref l), v]) ∧ (∀ b o, b ≠ p → b ≠ l → H1 b = some o → upd H5 l (.lst (ts.map V.int ++ [.int d])) b = some o) ∧ PoolAt (upd H5 l (.lst (ts.map V.int ++ [.int d]))) p ∧
          ∃ ts' : List Int, upd H5 l (.lst (ts.map V.int ++ [.int d])) l = some (.lst (ts'.map V.int)) ∧ ts'.length = i + 1 ∧ ∀ z ∈ ts', 0 ≤ z ∧ z ≤ c) := fun H5 d b5 p5 d0 d1 => by
        refine ⟨⟨_, rfl⟩, fun b o nb nbl e => ?_, ?_, ts ++ [d], ?_, ?_, ?_⟩
        · rw [upd_ne nbl]; exact b5 b o nb (b' b o nb nbl e)
        · obtain ⟨x, y, e, r⟩ := p5
          exact ⟨x, y, by rw [upd_ne nlp.symm]; exact e, r⟩
        · rw [upd_same, List.map_append]; rfl
        · rw [List.length_append, htl]; rfl
        · intro z hz
          rcases List.mem_append.mp hz with h | h
          · exact hts z h
          · rw [List.mem_singleton.mp h]; exact ⟨d0, d1⟩
      have lsz : (ts.map V.int).length < sizeLine := by
        rw [List.length_map]
        exact Nat.lt_of_le_of_lt (show ts.length ≤ 100 by omega) (by decide)
      have hl5 : ∀ H5, But p H' H5 → H5 l = some (.lst (ts.map V.int)) := fun H5 b5 => b5 _ _ nlp hl'
      refine ⟨_, rfl, rfl, _, rfl, ?_⟩
      have other : ∀ (D : Ends), D.nx = (fun σ H' => (∃ v : Option V, σ = [some (.ref p), some (.int c), some (.int (n : Nat)), some (.int kd), some (.ref l), v]) ∧ (∀ b o, b ≠ p → b ≠ l → H1 b = some o → H' b = some o) ∧ PoolAt H' p ∧
        ∃ ts : List Int, H' l = some (.lst (ts.map V.int)) ∧ ts.length = i + 1 ∧ ∀ z ∈ ts, 0 ≤ z ∧ z ≤ c) → True := fun _ _ => trivial
      by_cases k0 : V.int kd = V.int 0
      · rw [decide_eq_true k0]
        refine iteT ?_
        refine ⟨_, rfl, _, _, rfl, rfl, _, rfl, ?_⟩
        by_cases k1 : (1 : Int) < 1 + (i : Int)
        · rw [decide_eq_true k1]
          refine iteT ?_
          obtain ⟨z, hz⟩ : ∃ z, ts[(1 + i) / 2 - 1]? = some z := ⟨ts[(1 + i) / 2 - 1]'(by omega), by simp⟩
          have hz2 := hts z (List.mem_of_getElem? hz)
          refine ⟨_, rfl, .inl ⟨rfl, _, SqL.of hl'⟩, _, rfl, _, rfl, _, rfl, _, _, rfl, rfl, ⟨by decide, by decide⟩, _, _, rfl, rfl, l, _, _, _, rfl, rfl, SqL.of hl', at_of (j := (1 + i) / 2 - 1) (by omega) (at_map hz), _, _, rfl, rfl, p, z + 1, rfl, p', by omega, by omega, fun H5 d d0 d1 b5 p5 => ?_⟩
          exact ⟨l, _, _, rfl, rfl, hl5 _ b5, lsz, fin H5 d b5 p5 d0 (by omega)⟩
        · rw [decide_eq_false k1]
          refine iteF ?_
          refine ⟨_, rfl, rfl, _, rfl, ?_⟩
          have k2 : ¬ V.int kd = V.int 1 := fun z => by rw [k0] at z; cases z
          rw [decide_eq_false k2]
          refine iteF ?_
          refine ⟨_, rfl, .inl ⟨rfl, _, SqL.of hl'⟩, _, rfl, _, rfl, _, _, rfl, rfl, p, c + 1, rfl, p', by omega, by omega, fun H5 d d0 d1 b5 p5 => ?_⟩
          exact ⟨l, _, _, rfl, rfl, hl5 _ b5, lsz, fin H5 d b5 p5 d0 (by omega)⟩
      · rw [decide_eq_false k0]
        refine iteF (iteF ?_)
        refine ⟨_, rfl, rfl, _, rfl, ?_⟩
        by_cases k2 : V.int kd = V.int 1
        · rw [decide_eq_true k2]
          refine iteT ?_
          refine ⟨_, rfl, .inl ⟨rfl, _, SqL.of hl'⟩, _, rfl, p, 4, rfl, p', by decide, by decide, fun H4 e e0 e1 b4 p4 => ⟨rfl, _, rfl, ?_⟩⟩
          by_cases k3 : V.int e = V.int 0
          · rw [decide_eq_true k3]
            refine iteT ?_
            refine ⟨_, rfl, _, rfl, _, _, rfl, rfl, p, c + 1, rfl, p4, by omega, by omega, fun H5 d d0 d1 b5 p5 => ?_⟩
            exact ⟨l, _, _, rfl, rfl, hl5 _ (But.trans b4 b5), lsz, fin H5 d (But.trans b4 b5) p5 d0 (by omega)⟩
          · rw [decide_eq_false k3]
            refine iteF ⟨_, rfl, ?_⟩
            exact ⟨l, _, _, rfl, rfl, hl5 _ b4, lsz, fin H4 c b4 p4 (by omega) (Int.le_refl c)⟩
        · rw [decide_eq_false k2]
          refine iteF ?_
          refine ⟨_, rfl, .inl ⟨rfl, _, SqL.of hl'⟩, _, rfl, _, rfl, _, _, rfl, rfl, p, c + 1, rfl, p', by omega, by omega, fun H5 d d0 d1 b5 p5 => ?_⟩
          exact ⟨l, _, _, rfl, rfl, hl5 _ b5, lsz, fin H5 d b5 p5 d0 (by omega)⟩
    · rintro σ H' ⟨⟨v, rfl⟩, b', p', ts, hl', htl, hts⟩
      refine ⟨_, rfl, ?_⟩
      refine k H' l ts (fun b o nb e => ?_) p' hl0 nlp hl' ⟨c1, c8, fun z hz => (hts z hz).1, fun z hz => (hts z hz).2, hn, by omega⟩
      exact b' b o nb (ne_of_none e hl0) (b1 b o nb e)
def sp_law_pages : Sp := fun vs H Q _ => ∃ (p : Addr), vs = [.ref p, .int 5] ∧ PoolAt H p ∧ ∀ H' (n : Nat), But p H H' → PoolAt H' p → (n = 2 ∨ n = 4 ∨ n = 8 ∨ n = 16 ∨ n = 32) → Q (.int ((n : Nat) : Int)) H'
theorem ok_law_pages (T : Txt K mg a) : FnOk P w K mg base CX0 2 a.a_law_pages a.fd_law_pages ["_law_pool", "_law_many"] sp_law_pages := by
  refine T.F_law_pages.ok sc_law_pages (fun vs H Q E h => ?_) (fun cdv A outer s H vs Q E hr h => ?_)
  · obtain ⟨p, rfl, _⟩ := h
    rfl
  · obtain ⟨p, rfl, hp, k⟩ := h
    refine ⟨_, (pss_one (ps_ret (pe_ix (r := rIxL K) ix_list (pe_lst (pa_cons pe_int (pa_cons pe_int (pa_cons pe_int (pa_cons pe_int (pa_cons pe_int pa_nil)))))) (pe_call (ok_law_draw T) (hr.mono (by decide)) rfl T.g__law_draw T.F_law_draw.kp T.b_law_draw .nil pass0 (pa_cons (pv 0) (pa_cons (pv 1) pa_nil))) (fun _ _ => rfl)))), ?_⟩
    refine ⟨(by show 5 ≤ sizeLine; decide), fun l hl => ?_⟩
    have s0 := same_new (o := .lst [.int 2, .int 4, .int 8, .int 16, .int 32]) hl
    have nlp : l ≠ p := hp.ne hl
    refine ⟨_, rfl, _, rfl, p, 5, rfl, hp.mono s0, by decide, by decide, fun H1 d d0 d1 b1 p1 => ?_⟩
    obtain ⟨n, hat, hn⟩ : ∃ n : Nat, atI [V.int 2, V.int 4, V.int 8, V.int 16, V.int 32] d = some (.int ((n : Nat) : Int)) ∧ (n = 2 ∨ n = 4 ∨ n = 8 ∨ n = 16 ∨ n = 32) := by
      rcases (show d = 0 ∨ d = 1 ∨ d = 2 ∨ d = 3 ∨ d = 4 by omega) with rfl | rfl | rfl | rfl | rfl
      · exact ⟨2, at_of (j := 0) rfl rfl, by decide⟩
      · exact ⟨4, at_of (j := 1) rfl rfl, by decide⟩
      · exact ⟨8, at_of (j := 2) rfl rfl, by decide⟩
      · exact ⟨16, at_of (j := 3) rfl rfl, by decide⟩
      · exact ⟨32, at_of (j := 4) rfl rfl, by decide⟩
    refine ⟨l, _, d, _, rfl, rfl, SqL.of (b1 _ _ nlp upd_same), hat, ?_⟩
    exact k H1 n (But.trans (Same.but s0) b1) p1 hn
end
theorem eqv_ints (ns ms : List Int) : PyData.eqv (.list (ns.map PyData.int)) (.list (ms.map PyData.int)) = decide (ns = ms) := by
  simp only [PyData.eqv, eqvAll_ints]
theorem rne_ints {K : PySem.W.Frag} {H : Hp} {p q : Addr} {ns ms : List Int} {Q : VK} (h1 : SqL K H p (ns.map V.int)) (h2 : SqL K H q (ms.map V.int)) (h : Q (.bl (!decide (ns = ms))) H) : rNeD K (.ref p) (.ref q) H Q := by
  refine ⟨_, _, .lst h1 (dp_ints ns), .lst h2 (dp_ints ms), PySem.W.ke_shaped_ints ns, PySem.W.ke_shaped_ints ms, ?_⟩
  rw [eqv_ints]
  exact h
theorem req_ints {K : PySem.W.Frag} {H : Hp} {p q : Addr} {ns ms : List Int} {Q : VK} (h1 : SqL K H p (ns.map V.int)) (h2 : SqL K H q (ms.map V.int)) (h : Q (.bl (decide (ns = ms))) H) : rEqD K (.ref p) (.ref q) H Q := by
  refine ⟨_, _, .lst h1 (dp_ints ns), .lst h2 (dp_ints ms), PySem.W.ke_shaped_ints ns, PySem.W.ke_shaped_ints ms, ?_⟩
  rw [eqv_ints]
  exact h
def toI (ks : List Nat) : List Int := ks.map fun k => ((k : Nat) : Int)
theorem iN_toI (ks : List Nat) : iN ks = (toI ks).map V.int := by unfold iN toI; rw [List.map_map]; rfl
theorem toI_nil (ks : List Nat) : toI ks = [] ↔ ks = [] := by unfold toI; exact List.map_eq_nil_iff
theorem iN_at {ks : List Nat} {i : Nat} {y : V} (hk : (iN ks)[i]? = some y) : ∃ f, ks[i]? = some f ∧ y = V.int ((f : Nat) : Int) := by
  unfold iN at hk
  rw [List.getElem?_map] at hk
  cases e : ks[i]? with
  | none => rw [e] at hk; cases hk
  | some z => rw [e] at hk; exact ⟨z, rfl, (Option.some.inj hk).symm⟩
theorem anc_len : ∀ m : Nat, 1 ≤ m → (anc m).length ≤ m := fun m => by
  induction m using Nat.strongRecOn with
  | ind m ih =>
    intro h1
    by_cases h : m ≤ 1
    · rw [anc_1 h]; exact h1
    · rw [anc_2 h, List.length_cons]
      have := ih (m / 2) (by omega) (by omega)
      omega
section
variable {P : Program} {w : World} {K : PySem.W.Frag} {mg : Str → Option Value} {base : Heap} {a : Ad}
def sp_law_way : Sp := fun vs H Q _ => ∃ (n j : Nat), vs = [.int ((n : Nat) : Int), .int ((j : Nat) : Int)] ∧ 2 ≤ n ∧ n ≤ 32 ∧ j < n ∧ ∀ H' l, Same H H' → H l = none → H' l = some (.lst (iN (way (j + n)))) → Q (.ref l) H'
theorem ok_law_way (T : Txt K mg a) : FnOk P w K mg base CX0 1 a.a_law_way a.fd_law_way ["_law_pages_here", "_law_page"] sp_law_way := by
  refine T.F_law_way.ok sc_law_way (fun vs H Q E h => ?_) (fun cdv A outer s H vs Q E hr h => ?_)
  · obtain ⟨n, j, rfl, _⟩ := h
    rfl
  · obtain ⟨n, j, rfl, n2, n32, jn, k⟩ := h
    refine ⟨_, (pss_cons (ps_set (i := 2) sc_law_way.nd rfl (Or.inl rfl) (pe_lst (pa_cons (pe_op op_add (pv 0) (pv 1)) pa_nil)))
      (pss_cons (ps_for PassesOwn.never rfl (pi_range1 (by rfl) T.n_range (pa_cons pe_int pa_nil)) (pg_name (i := 3) sc_law_way.nd rfl (Or.inl rfl))
      (pss_one (ps_if (pt_cmpR op_gt (pe_ix (r := rIxL K) ix_list (pv 2) pe_int (fun _ _ => rfl)) pe_int (nomark _))
        (pss_one (ps_set (i := 2) sc_law_way.nd rfl (Or.inl rfl) (pe_op op_cat (pe_lst (pa_cons (pe_op op_fdiv (pe_ix (r := rIxL K) ix_list (pv 2) pe_int (fun _ _ => rfl)) pe_int) pa_nil)) (pv 2))))
        pss_nil)))
      (pss_one (ps_ret (pv 2))))), ?_⟩
    refine ⟨_, rfl, _, rfl, _, _, rfl, rfl, (by show 1 ≤ sizeLine; decide), fun l hl => ?_⟩
    refine ⟨_, rfl, by decide, by decide, for_range (lo := 0) (n := 6) (fun i σ H' => ∃ (q : Addr) (v : Option V) (f : Nat) (us : List Nat), σ = [some (.int (n : Nat)), some (.int (j : Nat)), some (.ref q), v] ∧ Same H H' ∧ H q = none ∧ H' q = some (.lst (iN (f :: us))) ∧ us.reverse ++ anc f = anc (j + n) ∧ 1 ≤ f ∧ us.length + f ≤ j + n ∧ (f ≤ 1 ∨ f * 2 ^ i ≤ j + n))
      ⟨l, none, j + n, [], rfl, same_new hl, hl, ?_, rfl, by omega, by simp, .inr (by omega)⟩ ?_ ?_⟩
    · rw [upd_same]
      unfold iN
      show some (HO.lst [V.int ((n : Int) + (j : Int))]) = some (HO.lst [V.int ((j + n : Nat) : Int)])
      rw [show (n : Int) + (j : Int) = ((j + n : Nat) : Int) by omega]
    · rintro i σ H' hi ⟨q, v, f, us, rfl, s', hq0, hq, ha, f1, hl2, hpow⟩
      refine ⟨_, rfl, q, _, _, _, rfl, rfl, SqL.of hq, at_of (j := 0) rfl rfl, _, _, rfl, rfl, _, rfl, ?_⟩
      by_cases c1 : (1 : Int) < ((f : Nat) : Int)
      · rw [decide_eq_true c1]
        refine iteT ?_
        have hnf : ¬ f ≤ 1 := by omega
        refine ⟨_, rfl, q, _, _, _, rfl, rfl, SqL.of hq, at_of (j := 0) rfl rfl, _, _, rfl, rfl, ⟨by decide, by decide⟩, (by show 1 ≤ sizeLine; decide), fun r hr' => ?_⟩
        have s1 := same_new (o := .lst [V.int (((f : Nat) : Int) / 2)]) hr'
        refine ⟨_, rfl, r, q, _, _, rfl, rfl, upd_same, s1 _ _ hq, ?_, fun t ht => ?_⟩
        · unfold iN
          rw [List.length_map]
          exact Nat.le_trans (show 1 + (f :: us).length ≤ 100 by rw [List.length_cons]; omega) (by decide)
        · refine ⟨t, _, f / 2, f :: us, rfl, s'.trans (s1.trans (same_new ht)), Same.free s' (Same.free s1 ht), ?_, ?_, by omega, by rw [List.length_cons]; omega, ?_⟩
          · rw [upd_same]
            unfold iN
            show some (HO.lst (V.int (((f : Nat) : Int) / 2) :: _)) = some (HO.lst (V.int ((f / 2 : Nat) : Int) :: _))
            rw [show ((f : Nat) : Int) / 2 = ((f / 2 : Nat) : Int) by omega]
            rfl
          · rw [List.reverse_cons, List.append_assoc, ← ha, anc_2 hnf]; rfl
          · rcases hpow with h | h
            · omega
            · right
              have e1 : f / 2 * 2 ^ (i + 1) = (f / 2 * 2) * 2 ^ i := by rw [Nat.pow_succ, Nat.mul_assoc, Nat.mul_comm (2 ^ i) 2]
              rw [e1]
              exact Nat.le_trans (Nat.mul_le_mul_right _ (by omega)) h
      · rw [decide_eq_false c1]
        refine iteF ⟨q, _, f, us, rfl, s', hq0, hq, ha, f1, hl2, .inl (by omega)⟩
    · rintro σ H' ⟨q, v, f, us, rfl, s', hq0, hq, ha, f1, hl2, hpow⟩
      have hf : f ≤ 1 := by
        rcases hpow with h | h
        · exact h
        · have : (2 : Nat) ^ 6 = 64 := by decide
          rw [this] at h
          omega
      rw [anc_1 hf] at ha
      have e : f :: us = way (j + n) := by
        unfold way
        rw [← ha, List.reverse_append, List.reverse_reverse]; rfl
      rw [e] at hq
      exact ⟨_, rfl, k _ q s' hq0 hq⟩
def sp_law_greater (K : PySem.W.Frag) : Sp := fun vs H Q _ => ∃ (l : Addr) (ts : List Int) (kk : Nat), vs = [.ref l, .int ((kk : Nat) : Int)] ∧ SqL K H l (ts.map V.int) ∧ 1 ≤ kk ∧ 2 * kk + 1 ≤ ts.length ∧ ts.length ≤ 100 ∧ Q (.int (mx (val ts (2 * kk)) (val ts (2 * kk + 1)))) H
theorem ok_law_greater (T : Txt K mg a) : FnOk P w K mg base CX0 1 a.a_law_greater a.fd_law_greater ["_law_row", "_law_node"] (sp_law_greater K) := by
  refine T.F_law_greater.ok sc_law_greater (fun vs H Q E h => ?_) (fun cdv A outer s H vs Q E hr h => ?_)
  · obtain ⟨l, ts, kk, rfl, _⟩ := h
    rfl
  · obtain ⟨l, ts, kk, rfl, hl, k1, k2, k3, k⟩ := h
    refine ⟨_, (pss_one (ps_ret (pe_callB (call_max2 rfl) (by rfl) T.n_max (by decide +kernel) (pa_cons (pe_callTy call_int1 (by rfl) T.n_int (by decide +kernel) (pa_cons (pe_ix (r := rIxL K) ix_list (pv 0) (pe_op op_sub (pe_op op_mul pe_int (pv 1)) pe_int) (fun _ _ => rfl)) pa_nil)) (pa_cons (pe_callTy call_int1 (by rfl) T.n_int (by decide +kernel) (pa_cons (pe_ix (r := rIxL K) ix_list (pv 0) (pe_op op_mul pe_int (pv 1)) (fun _ _ => rfl)) pa_nil)) pa_nil))))), ?_⟩
    refine ⟨_, rfl, _, rfl, _, _, rfl, rfl, .inl ⟨by decide, by decide⟩, _, _, rfl, rfl, l, _, _, _, rfl, rfl, hl, at_of (j := 2 * kk - 1) (by omega) (at_map (val_at (k := 2 * kk) (by omega) (by omega))), .inl ⟨_, rfl, ?_⟩⟩
    refine ⟨_, rfl, _, rfl, _, _, rfl, rfl, .inl ⟨by decide, by decide⟩, l, _, _, _, rfl, rfl, hl, at_of (j := 2 * kk + 1 - 1) (by omega) (at_map (val_at (k := 2 * kk + 1) (by omega) (by omega))), .inl ⟨_, rfl, ?_⟩⟩
    exact ⟨_, _, rfl, k⟩
end
end Rt
set_option maxHeartbeats 8000000
namespace Rt
open PySem L2
/-! ### texts of lists of small ints -/
theorem small_text : ∀ k : Nat, k < 64 → (Str.ofString (toString ((k : Nat) : Int))).length ≤ 10 := by decide +kernel
theorem small_log : ∀ k : Nat, k < 64 → k.log2 < 1920 := fun k h => Nat.lt_of_le_of_lt (Nat.log2_le_self k) (by omega)
theorem showAll : ∀ ns : List Int, (∀ z ∈ ns, 0 ≤ z ∧ z < 64) → PyData.showableAll (ns.map PyData.int) = true
  | [], _ => by simp [PyData.showableAll]
  | z :: r, h => by
    have h1 := h z (by simp)
    have h2 := showAll r fun y hy => h y (by simp [hy])
    simp only [List.map_cons, PyData.showableAll, PyData.showable, h2, Bool.and_true]
    exact decide_eq_true (small_log _ (by omega))
theorem noDictAll : ∀ ns : List Int, PyData.hasDictAll (ns.map PyData.int) = false
  | [] => by simp [PyData.hasDictAll]
  | z :: r => by simp [PyData.hasDictAll, PyData.hasDict, noDictAll r]
theorem shownSum : ∀ ns : List Int, (∀ z ∈ ns, 0 ≤ z ∧ z < 64) → ((PyData.shownAll (ns.map PyData.int)).map (·.length)).sum ≤ 10 * ns.length ∧ (PyData.shownAll (ns.map PyData.int)).length = ns.length
  | [], _ => by simp [PyData.shownAll]
  | z :: r, h => by
    have h1 := h z (by simp)
    obtain ⟨h2, h3⟩ := shownSum r fun y hy => h y (by simp [hy])
    have h4 := small_text z.toNat (by omega)
    rw [show ((z.toNat : Nat) : Int) = z by omega] at h4
    simp only [List.map_cons, PyData.shownAll, PyData.shown, List.sum_cons, List.length_cons]
    have h5 : (Str.ofString (toString z)).length ≤ 10 := h4
    refine ⟨?_, by omega⟩
    have : ((toString z : String) : Str).length ≤ 10 := h5
    omega
/-- what repr of a list of small ints asks -/
theorem rep_ints {K : PySem.W.Frag} {H : Hp} {p : Addr} {ns : List Int} {Q : VK} (hq : SqL K H p (ns.map V.int)) (hs : ∀ z ∈ ns, 0 ≤ z ∧ z < 64) (hl : ns.length ≤ 100) (h : Q (.str (PyData.shown (.list (ns.map PyData.int)))) H) :
    rShow K [.ref p] H Q := by
  refine ⟨⟨_, .list (ns.map PyData.int), rfl, .lst hq (dp_ints ns), ?_, ?_, ?_, ?_, h⟩⟩
  · simp only [PyData.showable]; exact showAll ns hs
  · simp only [PyData.hasDict]; exact noDictAll ns
  · simp [PyData.depth, PySem.W.ke_depthAll]
  · obtain ⟨h1, h2⟩ := shownSum ns hs
    simp only [PyData.shown]
    refine Nat.le_trans (listText_len_le _) ?_
    rw [h2]
    exact Nat.le_trans (show _ ≤ 10000 by omega) (by decide)
theorem rep_bool {K : PySem.W.Frag} {H : Hp} {b : Bool} {Q : VK} (h : Q (.str (PyData.shown (.bool b))) H) :
    rShow K [.bl b] H Q := by
  refine ⟨⟨_, .bool b, rfl, .bl b, ?_, ?_, ?_, ?_, h⟩⟩
  · simp only [PyData.showable]
  · simp only [PyData.hasDict]
  · simp [PyData.depth]
  · cases b <;> (simp only [PyData.shown]; decide +kernel)
theorem cut_from (xs : List V) (k : Nat) (h : k ≤ xs.length) : cutV xs (some (k : Int)) none = xs.drop k := by
  unfold cutV
  rw [HT.sIx_nat, HT.sIx_none, Nat.min_eq_left h, ← List.length_drop, List.take_length]
/-! ### lists of lists -/
theorem dp_lists {K : PySem.W.Frag} {H : Hp} {f : Nat → List Int} : ∀ (qs : List Addr) (k : Nat), (∀ j q, qs[j]? = some q → H q = some (.lst ((f (k + j)).map V.int))) → DpAll K H (qs.map V.ref) ((List.range' k qs.length).map fun j => PyData.list ((f j).map PyData.int))
  | [], _, _ => .nil
  | q :: r, k, h => .cons (.lst (SqL.of (h 0 q rfl)) (dp_ints (f k))) (dp_lists r (k + 1) fun j q' e => by
      have := h (j + 1) q' e
      rw [show k + (j + 1) = k + 1 + j by omega] at this
      exact this)
theorem lays {f : Nat → List Int} : ∀ l : List Nat, PyData.canLayAll0 (l.map fun j => PyData.list ((f j).map PyData.int)) = true
  | [] => rfl
  | _ :: r => by simp [PyData.canLayAll0, PyData.canLay0, PySem.W.ke_canLayAll0, lays r]
theorem deps {f : Nat → List Int} : ∀ l : List Nat, PyData.depthAll (l.map fun j => PyData.list ((f j).map PyData.int)) ≤ 1
  | [] => by simp [PyData.depthAll]
  | _ :: r => by
    have := deps (f := f) r
    simp [PyData.depthAll, PyData.depth, PySem.W.ke_depthAll]
    omega
theorem shaped_lists {f : Nat → List Int} (l : List Nat) : SeqAt.shaped (.list (l.map fun j => PyData.list ((f j).map PyData.int))) = true := by
  have := deps (f := f) l
  simp [SeqAt.shaped, PyData.canLay0, PyData.depth, lays]
  omega
theorem eqv_lists {f : Nat → List Int} : ∀ l : List Nat, PyData.eqvAll (l.map fun j => PyData.list ((f j).map PyData.int)) (l.map fun j => PyData.list ((f j).map PyData.int)) = true
  | [] => by simp [PyData.eqvAll]
  | _ :: r => by simp [PyData.eqvAll, PyData.eqv, eqvAll_ints, eqv_lists r]
theorem rne_lists {K : PySem.W.Frag} {H : Hp} {p q : Addr} {f : Nat → List Int} {n : Nat} {ps qs : List Addr} {Q : VK} (h1 : SqL K H p (ps.map V.ref)) (h2 : SqL K H q (qs.map V.ref)) (l1 : ps.length = n) (l2 : qs.length = n)
    (e1 : ∀ j q, ps[j]? = some q → H q = some (.lst ((f j).map V.int))) (e2 : ∀ j q, qs[j]? = some q → H q = some (.lst ((f j).map V.int))) (h : Q (.bl false) H) : rNeD K (.ref p) (.ref q) H Q := by
  refine ⟨_, _, .lst h1 (dp_lists (f := f) ps 0 (fun j q e => by rw [Nat.zero_add]; exact e1 j q e)), .lst h2 (dp_lists (f := f) qs 0 (fun j q e => by rw [Nat.zero_add]; exact e2 j q e)), shaped_lists _, shaped_lists _, ?_⟩
  rw [l1, l2]
  have e : PyData.eqv (.list ((List.range' 0 n).map fun j => PyData.list ((f j).map PyData.int))) (.list ((List.range' 0 n).map fun j => PyData.list ((f j).map PyData.int))) = true := by
    simp only [PyData.eqv, eqv_lists]
  rw [e]
  exact h
/-- repr of [c, row, n] -/
theorem rep_tri {K : PySem.W.Frag} {H : Hp} {p l : Addr} {ts : List Int} {c n : Int} {Q : VK} (hp : SqL K H p [.int c, .ref l, .int n]) (hq : SqL K H l (ts.map V.int)) (hs : ∀ z ∈ ts, 0 ≤ z ∧ z < 64) (hl : ts.length ≤ 100) (hc : 0 ≤ c ∧ c < 64) (hn : 0 ≤ n ∧ n < 64)
    (h : Q (.str (PyData.shown (.list [.int c, .list (ts.map PyData.int), .int n]))) H) : rShow K [.ref p] H Q := by
  refine ⟨⟨_, .list [.int c, .list (ts.map PyData.int), .int n], rfl, .lst hp (.cons (.int c) (.cons (.lst hq (dp_ints ts)) (.cons (.int n) .nil))), ?_, ?_, ?_, ?_, h⟩⟩
  · simp only [PyData.showable, PyData.showableAll, showAll ts hs, Bool.and_true]
    rw [decide_eq_true (small_log _ (by omega)), decide_eq_true (small_log _ (by omega))]
    rfl
  · simp only [PyData.hasDict, PyData.hasDictAll, noDictAll]; rfl
  · simp [PyData.depth, PyData.depthAll, PySem.W.ke_depthAll]
  · obtain ⟨h1, h2⟩ := shownSum ts hs
    have e1 := small_text c.toNat (by omega)
    rw [show ((c.toNat : Nat) : Int) = c by omega] at e1
    have e2 := small_text n.toNat (by omega)
    rw [show ((n.toNat : Nat) : Int) = n by omega] at e2
    have e3 : (listText (PyData.shownAll (ts.map PyData.int))).length ≤ 2000 := by
      refine Nat.le_trans (listText_len_le _) ?_
      rw [h2]
      omega
    simp only [PyData.shown, PyData.shownAll]
    refine Nat.le_trans (listText_len_le _) ?_
    simp only [List.map_cons, List.map_nil, List.sum_cons, List.sum_nil, List.length_cons, List.length_nil]
    have e1' : ((toString c : String) : Str).length ≤ 10 := e1
    have e2' : ((toString n : String) : Str).length ≤ 10 := e2
    exact Nat.le_trans (show _ ≤ 10000 by omega) (by decide)
section
variable {P : Program} {w : World} {K : PySem.W.Frag} {mg : Str → Option Value} {base : Heap} {a : Ad}
def sp_law_tree_right (C : Addr) : Sp := fun vs H Q _ => ∃ (p l : Addr) (c : Int) (ts : List Int) (n : Nat), vs = [.ref p, .int c, .ref l] ∧ TreeAt C H p c ts ∧ Told c ts n ∧ H l = some (.lst (ts.map V.int)) ∧ ∀ H', Same H H' → Q (.bl true) H'
theorem ok_law_tree_right (T : Txt K mg a) : FnOkG P w K mg base CX0 8 a.a_law_tree_right a.fd_law_tree_right ["_law_tree", "_law_classes", "_law_row"] (sp_law_tree_right a.C_Tree) := by
  refine T.F_law_tree_right.okG sc_law_tree_right (fun vs H Q E h => ?_) (fun cdv A outer s H vs Q E hgd hr h => ?_)
  · obtain ⟨p, l, c, ts, n, rfl, _⟩ := h
    rfl
  · obtain ⟨p, l, c, ts, n, rfl, ht, g, hl, k⟩ := h
    have n2 := g.n2
    have hlen := g.len
    have hml : (ts.map V.int).length = ts.length := List.length_map _
    have tsm : ∀ z ∈ ts, 0 ≤ z ∧ z < 64 := fun z hz => ⟨g.lo z hz, by have := g.hi z hz; have := g.c8; omega⟩
    have cs : 0 ≤ c ∧ c < 64 := ⟨by have := g.c1; omega, by have := g.c8; omega⟩
    refine ⟨_, (pss_cons (ps_set (i := 3) sc_law_tree_right.nd rfl (Or.inr rfl) (pe_op op_fdiv (pe_op op_add (pe_callB call_len_seq (by rfl) T.n_len PySem.boot_len (pa_cons (pv 2) pa_nil)) pe_int) pe_int))
      (pss_cons (ps_if (pt_cmpR op_ne (pe_callB (call_reprD hgd (rep_of hr)) (by rfl) T.n_repr (by decide +kernel) (pa_cons (pe_lst (pa_cons (pe_fld (pv 0) rfl) (pa_cons (pe_prop (pv 0) T.cl_Tree T.p_Tree_told (ok_Tree_told T) (hr.mono (by decide)) T.b_Tree_told .nil pass0 rfl) (pa_cons (pe_callB (call_lenOwn (ok_Tree_len T) (hr.mono (by decide)) T.m_Tree_len.at_ T.m_Tree_len.fn T.b_Tree_len pass0) (by rfl) T.n_len PySem.boot_len (pa_cons (pv 0) pa_nil)) pa_nil)))) pa_nil)) (pe_callB (call_reprD hgd (rep_of hr)) (by rfl) T.n_repr (by decide +kernel) (pa_cons (pe_lst (pa_cons (pv 1) (pa_cons (pv 2) (pa_cons (pv 3) pa_nil)))) pa_nil)) (nomark _))
      (pss_one (ps_ret pe_bl))
      pss_nil)
      (pss_cons (ps_if (pt_cmpR op_ne (pe_callB (call_reprD hgd (rep_of hr)) (by rfl) T.n_repr (by decide +kernel) (pa_cons (pe_lc (own := [("_law_node", 4)]) (g := gName 4) (tt := tYes) (by rfl) sc_law_tree_right.nd (pi_range2 (by rfl) T.n_range (pa_cons pe_int (pa_cons (pe_op op_mul pe_int (pv 3)) pa_nil))) (blkOk_by (own := [("_law_node", 4)]) (N := ["_law_tree", "_law_classes", "_law_row", "_law_pages_here", "_law_node", "_law_page"]) (sc := defScope s_law_tree_right) (by decide +kernel)) (fun _ _ _ _ _ => pg_name (i := 4) sc_law_tree_right.nd rfl (Or.inl rfl)) (fun _ _ _ _ _ => pts_nil) (fun _ _ _ _ _ => (pe_subOwn (ok_Tree_getitem T) (hr.mono (by decide)) T.m_Tree_getitem.at_ T.m_Tree_getitem.fn T.fn_Tree_getitem T.b_Tree_getitem pass0 (pv 0) (pv 4) (fun _ _ => rfl)))) pa_nil)) (pe_callB (call_reprD hgd (rep_of hr)) (by rfl) T.n_repr (by decide +kernel) (pa_cons (pv 2) pa_nil)) (nomark _))
      (pss_one (ps_ret pe_bl))
      pss_nil)
      (pss_cons (ps_if (pt_cmpR (op_neD hr.units) (pe_lc (own := [("_law_page", 5)]) (g := gName 5) (tt := tYes) (by rfl) sc_law_tree_right.nd (pi_range1 (by rfl) T.n_range (pa_cons (pv 3) pa_nil)) (blkOk_by (own := [("_law_page", 5)]) (N := ["_law_tree", "_law_classes", "_law_row", "_law_pages_here", "_law_node", "_law_page"]) (sc := defScope s_law_tree_right) (by decide +kernel)) (fun _ _ _ _ _ => pg_name (i := 5) sc_law_tree_right.nd rfl (Or.inl rfl)) (fun _ _ _ _ _ => pts_nil) (fun _ _ _ _ _ => (pe_meth (pv 0) T.cl_Tree T.m_Tree_leaf (ok_Tree_leaf T) (hr.mono (by decide)) T.b_Tree_leaf .nil pass0 (pa_cons (pv 5) pa_nil)))) (pe_listRg rfl (by rfl) T.n_list (prg_2 (by rfl) T.n_range (pv 3) (pe_op op_mul pe_int (pv 3)))) (nomark _))
      (pss_one (ps_ret pe_bl))
      pss_nil)
      (pss_cons (ps_if (pt_cmpR (op_neD hr.units) (pe_lc (own := [("_law_page", 5)]) (g := gName 5) (tt := tYes) (by rfl) sc_law_tree_right.nd (pi_range1 (by rfl) T.n_range (pa_cons (pv 3) pa_nil)) (blkOk_by (own := [("_law_page", 5)]) (N := ["_law_tree", "_law_classes", "_law_row", "_law_pages_here", "_law_node", "_law_page"]) (sc := defScope s_law_tree_right) (by decide +kernel)) (fun _ _ _ _ _ => pg_name (i := 5) sc_law_tree_right.nd rfl (Or.inl rfl)) (fun _ _ _ _ _ => pts_nil) (fun _ _ _ _ _ => (pe_meth (pv 0) T.cl_Tree T.m_Tree_way (ok_Tree_way T) (hr.mono (by decide)) T.b_Tree_way .nil pass0 (pa_cons (pv 5) pa_nil)))) (pe_lc (own := [("_law_page", 5)]) (g := gName 5) (tt := tYes) (by rfl) sc_law_tree_right.nd (pi_range1 (by rfl) T.n_range (pa_cons (pv 3) pa_nil)) (blkOk_by (own := [("_law_page", 5)]) (N := ["_law_tree", "_law_classes", "_law_row", "_law_pages_here", "_law_node", "_law_page"]) (sc := defScope s_law_tree_right) (by decide +kernel)) (fun _ _ _ _ _ => pg_name (i := 5) sc_law_tree_right.nd rfl (Or.inl rfl)) (fun _ _ _ _ _ => pts_nil) (fun _ _ _ _ _ => (pe_call (ok_law_way T) (hr.mono (by decide)) rfl T.g__law_way T.F_law_way.kp T.b_law_way .nil pass0 (pa_cons (pv 3) (pa_cons (pv 5) pa_nil))))) (nomark _))
      (pss_one (ps_ret pe_bl))
      pss_nil)
      (pss_one (ps_ret (pe_cmpR (op_eqD hr.units) (pe_lc (own := [("_law_node", 4)]) (g := gName 4) (tt := tYes) (by rfl) sc_law_tree_right.nd (pi_range2 (by rfl) T.n_range (pa_cons pe_int (pa_cons (pv 3) pa_nil))) (blkOk_by (own := [("_law_node", 4)]) (N := ["_law_tree", "_law_classes", "_law_row", "_law_pages_here", "_law_node", "_law_page"]) (sc := defScope s_law_tree_right) (by decide +kernel)) (fun _ _ _ _ _ => pg_name (i := 4) sc_law_tree_right.nd rfl (Or.inl rfl)) (fun _ _ _ _ _ => pts_nil) (fun _ _ _ _ _ => (pe_meth (pv 0) T.cl_Tree T.m_Tree_greater (ok_Tree_greater T) (hr.mono (by decide)) T.b_Tree_greater .nil pass0 (pa_cons (pv 4) pa_nil)))) (pe_lc (own := [("_law_node", 4)]) (g := gName 4) (tt := tYes) (by rfl) sc_law_tree_right.nd (pi_range2 (by rfl) T.n_range (pa_cons pe_int (pa_cons (pv 3) pa_nil))) (blkOk_by (own := [("_law_node", 4)]) (N := ["_law_tree", "_law_classes", "_law_row", "_law_pages_here", "_law_node", "_law_page"]) (sc := defScope s_law_tree_right) (by decide +kernel)) (fun _ _ _ _ _ => pg_name (i := 4) sc_law_tree_right.nd rfl (Or.inl rfl)) (fun _ _ _ _ _ => pts_nil) (fun _ _ _ _ _ => (pe_call (ok_law_greater T) (hr.mono (by decide)) rfl T.g__law_greater T.F_law_greater.kp T.b_law_greater .nil pass0 (pa_cons (pv 2) (pa_cons (pv 4) pa_nil))))) (nomark _))))))))), ?_⟩
    obtain ⟨dx, t, hp, _⟩ := id ht
    -- the pages
    refine ⟨_, rfl, l, _, rfl, .inl (SqL.of hl), _, _, rfl, rfl, _, _, rfl, rfl, ⟨by decide, by decide⟩, ?_⟩
    have en : ((((ts.map V.int).length : Nat) : Int) + 1) / 2 = ((n : Nat) : Int) := by rw [hml]; omega
    show gName _ (V.int (((((ts.map V.int).length : Nat) : Int) + 1) / 2)) _ _ _
    rw [en]
    -- classes, told, len
    refine ⟨_, rfl, p, a.C_Tree, dx, _, _, rfl, hp, T.cl_Tree, T.nf_Tree_classes, tf_classes _ _, ?_⟩
    refine ⟨_, rfl, p, dx, _, rfl, hp, p, c, ts, rfl, ht, fun H1 q1 s1 hq1 hq1' => ?_⟩
    have ht1 := ht.mono s1
    obtain ⟨dx1, t1, hp1, _⟩ := id ht1
    refine ⟨_, rfl, p, dx1, _, rfl, hp1, p, c, ts, n, rfl, ht1, g, fun H2 s2 => ⟨_, rfl, by omega, by omega, ?_⟩⟩
    refine ⟨(by show 3 ≤ sizeLine; decide), fun p3 h3 => ?_⟩
    have s3 := same_new (o := .lst [.int c, .ref q1, .int ((n : Nat) : Int)]) h3
    refine rep_tri (l := q1) (SqL.of upd_same) (SqL.of (s3 _ _ (s2 _ _ hq1'))) tsm (by omega) cs (by omega) ?_
    generalize e3 : upd H2 p3 (HO.lst [.int c, .ref q1, .int ((n : Nat) : Int)]) = H3 at s3
    have s03 : Same H H3 := s1.trans (s2.trans s3)
    refine ⟨_, rfl, _, rfl, _, rfl, (by show 3 ≤ sizeLine; decide), fun p4 h4 => ?_⟩
    have s4 := same_new (o := .lst [.int c, .ref l, .int ((n : Nat) : Int)]) h4
    refine rep_tri (l := l) (SqL.of upd_same) (SqL.of (s4 _ _ (s03 _ _ hl))) tsm (by omega) cs (by omega) ⟨rfl, _, rfl, iteNS rfl ?_⟩
    generalize upd H3 p4 (HO.lst [.int c, .ref l, .int ((n : Nat) : Int)]) = H4 at s4
    have s04 : Same H H4 := s03.trans s4
    -- the items
    have e2n : (2 : Int) * ((n : Nat) : Int) = ((2 * n : Nat) : Int) := by omega
    refine ⟨_, rfl, _, _, rfl, rfl, .inl ⟨by decide, by decide⟩, 1, _, rfl, ⟨by decide, by decide, by omega, by omega⟩, fun D hD => ?_⟩
    refine lc_range (lo := 1) (n := (2 * ((n : Nat) : Int) - 1).toNat) (fun i H' => But D H4 H' ∧ H' D = some (.lst ((ts.take i).map V.int)))
      ⟨but_new, by rw [upd_same]; rfl⟩ ?_ ?_
    · rintro i H' hi ⟨bD, hd⟩
      have ht2 := ht.mono (s04.trans (but_same bD hD))
      obtain ⟨dx2, t2, hp2, _⟩ := id ht2
      have hi2 : i < ts.length := by omega
      refine ⟨rfl, _, rfl, _, rfl, p, dx2, _, rfl, hp2, p, c, ts, n, i + 1, (by rw [show (1 : Int) + (i : Int) = ((i + 1 : Nat) : Int) by omega] <;> rfl), ht2, g, by omega, by omega, ?_⟩
      refine ⟨_, hd, ?_, but_put bD, ?_⟩
      · rw [List.length_map, List.length_take]
        exact Nat.lt_of_le_of_lt (show _ ≤ 100 by omega) (by decide)
      · have hv := val_at (ts := ts) (k := i + 1) (by omega) (by omega)
        rw [show i + 1 - 1 = i by omega] at hv
        rw [upd_same, List.take_add_one, hv, List.map_append]; rfl
    rintro H5 ⟨bD5, hd5⟩
    have s5 : Same H4 H5 := but_same bD5 hD
    rw [List.take_of_length_le (by omega)] at hd5
    refine rep_ints (SqL.of hd5) tsm (by omega) ?_
    have s05 := s04.trans s5
    refine ⟨_, rfl, rep_ints (SqL.of (s05 _ _ hl)) tsm (by omega) ⟨rfl, _, rfl, iteNS rfl ?_⟩⟩
    -- the leaves
    refine ⟨_, rfl, _, rfl, by omega, by omega, fun D6 hD6 => ?_⟩
    refine lc_range (lo := 0) (n := ((n : Nat) : Int).toNat) (fun i H' => But D6 H5 H' ∧ H' D6 = some (.lst (((List.range i).map fun j => ((j + n : Nat) : Int)).map V.int)))
      ⟨but_new, by rw [upd_same]; rfl⟩ ?_ ?_
    · rintro i H' hi ⟨bD, hd⟩
      have ht2 := ht.mono (s05.trans (but_same bD hD6))
      obtain ⟨dx2, t2, hp2, _⟩ := id ht2
      refine ⟨rfl, _, rfl, p, dx2, _, rfl, hp2, tf_no _ _ (by decide +kernel) (by decide +kernel), _, rfl, p, c, ts, n, i, (by rw [show (0 : Int) + (i : Int) = ((i : Nat) : Int) by omega] <;> rfl), ht2, g, by omega, fun H3' s3' => ?_⟩
      refine ⟨_, s3' _ _ hd, ?_, but_put (but_then bD s3'), ?_⟩
      · rw [List.length_map, List.length_map, List.length_range]
        exact Nat.lt_of_le_of_lt (show _ ≤ 100 by omega) (by decide)
      · rw [upd_same, List.range_succ, List.map_append, List.map_append]; rfl
    rintro H6 ⟨bD6, hd6⟩
    rw [Int.toNat_natCast] at hd6
    have s6 : Same H5 H6 := but_same bD6 hD6
    have s06 := s05.trans s6
    refine ⟨_, rfl, _, rfl, _, _, rfl, rfl, .inl ⟨by decide, by decide⟩, _, _, rfl, rfl, RgOk.of_le (by omega) (by omega) (by omega) (by omega), fun q7 h7 => ?_⟩
    have s7 := same_new (o := .lst (rgV ((n : Nat) : Int) (2 * ((n : Nat) : Int)))) h7
    have e7 : rgV ((n : Nat) : Int) (2 * ((n : Nat) : Int)) = ((List.range n).map fun j => ((j + n : Nat) : Int)).map V.int := by
      unfold rgV
      rw [List.map_map, show (2 * ((n : Nat) : Int) - ((n : Nat) : Int)).toNat = n by omega]
      refine List.map_congr_left fun j _ => ?_
      show V.int (((n : Nat) : Int) + ((j : Nat) : Int)) = V.int ((j + n : Nat) : Int)
      congr 1
      omega
    refine rne_ints (SqL.of (s7 _ _ hd6)) (SqL.of (by rw [upd_same, e7])) ⟨_, rfl, ?_⟩
    rw [decide_eq_true rfl]
    refine iteF ?_
    generalize upd H6 q7 (HO.lst (rgV ((n : Nat) : Int) (2 * ((n : Nat) : Int)))) = H7 at s7
    have s07 := s06.trans s7
    -- the ways
    refine ⟨_, rfl, _, rfl, by omega, by omega, fun D8 hD8 => ?_⟩
    refine lc_range (lo := 0) (n := ((n : Nat) : Int).toNat) (fun i H' => But D8 H7 H' ∧ ∃ qs : List Addr, H' D8 = some (.lst (qs.map V.ref)) ∧ qs.length = i ∧ ∀ j q, qs[j]? = some q → q ≠ D8 ∧ H' q = some (.lst ((toI (way (j + n))).map V.int)))
      ⟨but_new, [], by rw [upd_same]; rfl, rfl, fun j q e => by cases e⟩ ?_ ?_
    · rintro i H' hi ⟨bD, qs, hd, hqs, hq⟩
      have ht2 := ht.mono (s07.trans (but_same bD hD8))
      obtain ⟨dx2, t2, hp2, _⟩ := id ht2
      refine ⟨rfl, _, rfl, p, dx2, _, rfl, hp2, tf_no _ _ (by decide +kernel) (by decide +kernel), _, rfl, p, c, ts, n, i, (by rw [show (0 : Int) + (i : Int) = ((i : Nat) : Int) by omega] <;> rfl), ht2, g, by omega, fun H3' r s3' hr0 hr1 => ?_⟩
      have nr : r ≠ D8 := fun z => by rw [z, hd] at hr0; cases hr0
      refine ⟨_, s3' _ _ hd, ?_, but_put (but_then bD s3'), qs ++ [r], ?_, ?_, fun j q e => ?_⟩
      · rw [List.length_map]
        exact Nat.lt_of_le_of_lt (show _ ≤ 100 by omega) (by decide)
      · rw [upd_same, List.map_append]; rfl
      · rw [List.length_append, hqs]; rfl
      · rcases Nat.lt_or_ge j qs.length with c1 | c1
        · rw [List.getElem?_append_left c1] at e
          obtain ⟨n1, n2'⟩ := hq j q e
          exact ⟨n1, by rw [upd_ne n1]; exact s3' _ _ n2'⟩
        · rw [List.getElem?_append_right c1] at e
          have e0 : j - qs.length = 0 := by
            rcases Nat.lt_or_ge (j - qs.length) 1 with h | h
            · omega
            · rw [List.getElem?_eq_none (by simpa using h)] at e; cases e
          rw [e0] at e
          cases e
          refine ⟨nr, ?_⟩
          rw [upd_ne nr, ← iN_toI, show j = i by omega]
          exact hr1
    rintro H8 ⟨bD8, qs, hd8, hqs, hq8⟩
    rw [Int.toNat_natCast] at hqs
    have s8 : Same H7 H8 := but_same bD8 hD8
    have s08 := s07.trans s8
    refine ⟨_, rfl, _, rfl, by omega, by omega, fun D9 hD9 => ?_⟩
    refine lc_range (lo := 0) (n := ((n : Nat) : Int).toNat) (fun i H' => But D9 H8 H' ∧ ∃ qs : List Addr, H' D9 = some (.lst (qs.map V.ref)) ∧ qs.length = i ∧ ∀ j q, qs[j]? = some q → q ≠ D9 ∧ H' q = some (.lst ((toI (way (j + n))).map V.int)))
      ⟨but_new, [], by rw [upd_same]; rfl, rfl, fun j q e => by cases e⟩ ?_ ?_
    · rintro i H' hi ⟨bD, qs, hd, hqs, hq⟩
      refine ⟨rfl, _, rfl, _, rfl, n, i, (by rw [show (0 : Int) + (i : Int) = ((i : Nat) : Int) by omega] <;> rfl), n2.1, n2.2, by omega, fun H3' r s3' hr0 hr1 => ?_⟩
      have nr : r ≠ D9 := fun z => by rw [z, hd] at hr0; cases hr0
      refine ⟨_, s3' _ _ hd, ?_, but_put (but_then bD s3'), qs ++ [r], ?_, ?_, fun j q e => ?_⟩
      · rw [List.length_map]
        exact Nat.lt_of_le_of_lt (show _ ≤ 100 by omega) (by decide)
      · rw [upd_same, List.map_append]; rfl
      · rw [List.length_append, hqs]; rfl
      · rcases Nat.lt_or_ge j qs.length with c1 | c1
        · rw [List.getElem?_append_left c1] at e
          obtain ⟨n1, n2'⟩ := hq j q e
          exact ⟨n1, by rw [upd_ne n1]; exact s3' _ _ n2'⟩
        · rw [List.getElem?_append_right c1] at e
          have e0 : j - qs.length = 0 := by
            rcases Nat.lt_or_ge (j - qs.length) 1 with h | h
            · omega
            · rw [List.getElem?_eq_none (by simpa using h)] at e; cases e
          rw [e0] at e
          cases e
          refine ⟨nr, ?_⟩
          rw [upd_ne nr, ← iN_toI, show j = i by omega]
          exact hr1
    rintro H9 ⟨bD9, rs, hd9, hrs, hq9⟩
    rw [Int.toNat_natCast] at hrs
    have s9 : Same H8 H9 := but_same bD9 hD9
    have s09 := s08.trans s9
    refine rne_lists (f := fun j => toI (way (j + n))) (n := n) (SqL.of (s9 _ _ hd8)) (SqL.of hd9) hqs hrs (fun j q e => s9 _ _ (hq8 j q e).2) (fun j q e => (hq9 j q e).2) ⟨_, rfl, iteF ?_⟩
    -- the greater ones
    refine ⟨_, rfl, 1, _, rfl, ⟨by decide, by decide, by omega, by omega⟩, fun D10 hD10 => ?_⟩
    refine lc_range (lo := 1) (n := (((n : Nat) : Int) - 1).toNat) (fun i H' => But D10 H9 H' ∧ H' D10 = some (.lst (((List.range i).map fun j => mx (val ts (2 * (j + 1))) (val ts (2 * (j + 1) + 1))).map V.int)))
      ⟨but_new, by rw [upd_same]; rfl⟩ ?_ ?_
    · rintro i H' hi ⟨bD, hd⟩
      have ht2 := ht.mono (s09.trans (but_same bD hD10))
      obtain ⟨dx2, t2, hp2, _⟩ := id ht2
      refine ⟨rfl, _, rfl, p, dx2, _, rfl, hp2, tf_no _ _ (by decide +kernel) (by decide +kernel), _, rfl, p, c, ts, n, i + 1, (by rw [show (1 : Int) + (i : Int) = ((i + 1 : Nat) : Int) by omega] <;> rfl), ht2, g, by omega, by omega, fun H3' s3' => ?_⟩
      refine ⟨_, s3' _ _ hd, ?_, but_put (but_then bD s3'), ?_⟩
      · rw [List.length_map, List.length_map, List.length_range]
        exact Nat.lt_of_le_of_lt (show _ ≤ 100 by omega) (by decide)
      · rw [upd_same, List.range_succ, List.map_append, List.map_append]; rfl
    rintro H10 ⟨bD10, hd10⟩
    have s10 : Same H9 H10 := but_same bD10 hD10
    have s010 := s09.trans s10
    refine ⟨_, rfl, 1, _, rfl, ⟨by decide, by decide, by omega, by omega⟩, fun D11 hD11 => ?_⟩
    refine lc_range (lo := 1) (n := (((n : Nat) : Int) - 1).toNat) (fun i H' => But D11 H10 H' ∧ H' D11 = some (.lst (((List.range i).map fun j => mx (val ts (2 * (j + 1))) (val ts (2 * (j + 1) + 1))).map V.int)))
      ⟨but_new, by rw [upd_same]; rfl⟩ ?_ ?_
    · rintro i H' hi ⟨bD, hd⟩
      have hl2 := but_same bD hD11 _ _ (s010 _ _ hl)
      refine ⟨rfl, _, rfl, _, rfl, l, ts, i + 1, (by rw [show (1 : Int) + (i : Int) = ((i + 1 : Nat) : Int) by omega] <;> rfl), SqL.of hl2, by omega, by omega, by omega, ?_⟩
      refine ⟨_, hd, ?_, but_put bD, ?_⟩
      · rw [List.length_map, List.length_map, List.length_range]
        exact Nat.lt_of_le_of_lt (show _ ≤ 100 by omega) (by decide)
      · rw [upd_same, List.range_succ, List.map_append, List.map_append]; rfl
    rintro H11 ⟨bD11, hd11⟩
    have s11 : Same H10 H11 := but_same bD11 hD11
    refine req_ints (SqL.of (s11 _ _ hd10)) (SqL.of hd11) ?_
    rw [decide_eq_true rfl]
    exact k _ (s010.trans s11)
end
end Rt
set_option maxHeartbeats 4000000
namespace Rt
open PySem L2 LamX
/-! ### what stays, but for the tables -/
theorem ext_of {H H' : Hp} (s : Same H H') : ExtN H H' := ExtN.of s
theorem ext_lst {H H' : Hp} {p : Addr} {xs : List V} (e : ExtN H H') (h : H p = some (.lst xs)) : H' p = some (.lst xs) := e _ _ h fun _ z => by cases z
theorem ext_tup {H H' : Hp} {p : Addr} {xs : List V} (e : ExtN H H') (h : H p = some (.tup xs)) : H' p = some (.tup xs) := e _ _ h fun _ z => by cases z
theorem ext_dK {H H' : Hp} {p : Addr} {kvs : List (Key × V)} (e : ExtN H H') (h : H p = some (.dK kvs)) : H' p = some (.dK kvs) := e _ _ h fun _ z => by cases z
theorem ext_ins {H H' : Hp} {p C dx : Addr} {fs : List (Str × V)} (e : ExtN H H') (h : H p = some (.ins C dx fs)) : H' p = some (.ins C dx fs) := e _ _ h fun _ z => by cases z
theorem Pl.ext {H H' : Hp} {v : V} (h : Pl H v) (s : ExtN H H') : Pl H' v := by
  cases h with
  | non => exact .non
  | bl b => exact .bl b
  | int i => exact .int i
  | str x => exact .str x
  | lst e => exact .lst (ext_lst s e)
  | tup e => exact .tup (ext_tup s e)
  | dK e => exact .dK (ext_dK s e)
theorem Cont.ext {H H' : Hp} {v : V} {o : Option (List V)} (h : Cont H v o) (s : ExtN H H') : Cont H' v o := by
  cases h with
  | non => exact .non
  | bl b => exact .bl b
  | int i => exact .int i
  | str x => exact .str x
  | dK e => exact .dK (ext_dK s e)
  | lst e h => exact .lst (ext_lst s e) fun x hx => (h x hx).ext s
  | tup e h => exact .tup (ext_tup s e) fun x hx => (h x hx).ext s
theorem TreeAt.ext {C : Addr} {H H' : Hp} {p : Addr} {c : Int} {ts : List Int} (h : TreeAt C H p c ts) (s : ExtN H H') : TreeAt C H' p c ts := by
  obtain ⟨dx, t, h1, h2⟩ := h
  exact ⟨dx, t, ext_ins s h1, ext_tup s h2⟩
theorem PoolAt.ext {H H' : Hp} {p : Addr} (h : PoolAt H p) (s : ExtN H H') : PoolAt H' p := by
  obtain ⟨x, y, h1, h2⟩ := h
  exact ⟨x, y, ext_lst s h1, h2⟩
theorem sql_ext {K : PySem.W.Frag} {H H' : Hp} {p : Addr} {xs : List V} (h : SqL K H p xs) (s : ExtN H H') : SqL K H' p xs := by
  rcases h with (h | ⟨o, h⟩) | h
  · exact .inl (.inl (ext_lst s h))
  · exact .inl (.inr ⟨o, s _ _ h fun _ z => by cases z⟩)
  · exact .inr h
theorem PoolAt.ins {H : Hp} {p q C dx : Addr} {fs : List (Str × V)} (h : PoolAt H p) (hq : H q = some (.ins C dx fs)) : q ≠ p := fun z => by
  obtain ⟨x, y, e, _⟩ := h
  rw [z, e] at hq
  cases hq
theorem PoolAt.tup {H : Hp} {p q : Addr} {xs : List V} (h : PoolAt H p) (hq : H q = some (.tup xs)) : q ≠ p := fun z => by
  obtain ⟨x, y, e, _⟩ := h
  rw [z, e] at hq
  cases hq
def lamQ : Str := (("_law_refusals" : Str) ++ (".<locals>." : Str)) ++ ("<lambda>" : Str)
def lamT (a : Ad) : List (Addr × Str) := [(a.P_lam, lamQ)]
theorem TreeAt.but {C : Addr} {H H' : Hp} {p q : Addr} {c : Int} {ts : List Int} (h : TreeAt C H q c ts) (hp : PoolAt H p) (b : But p H H') : TreeAt C H' q c ts := by
  obtain ⟨dx, t, h1, h2⟩ := h
  exact ⟨dx, t, b _ _ (hp.ins h1) h1, b _ _ (hp.tup h2) h2⟩
theorem tabs_but {T : List (Addr × Str)} {H H' : Hp} {p : Addr} (h : Tabs T H) (hp : PoolAt H p) (b : But p H H') : Tabs T H' := by
  obtain ⟨x, y, e, _⟩ := hp
  intro t ht
  obtain ⟨ps, h1, h2, h3⟩ := h t ht
  refine ⟨ps, b _ _ (fun z => by rw [z, e] at h1; cases h1) h1, h2, fun pos cv hc => ?_⟩
  obtain ⟨c, e1, e2⟩ := h3 pos cv hc
  exact ⟨c, e1, b _ _ (fun z => by rw [z, e] at e2; unfold CodeO at e2; cases e2) e2⟩
/-! ### texts of atoms and of lists of them -/
theorem sok_app (x y : Str) : PyData.strOk (x ++ y) = (PyData.strOk x && PyData.strOk y) := by
  show (x.cps ++ y.cps).all _ = (x.cps.all _ && y.cps.all _)
  exact Array.all_append
theorem sok_of (s : String) : PyData.strOk (Str.ofString s) = true := by
  rw [Str.ofString_eq_toList]
  show ((s.toList.map Char.toNat).toArray).all _ = true
  rw [List.all_toArray, List.all_eq_true]
  intro c hc
  obtain ⟨ch, _, rfl⟩ := List.mem_map.mp hc
  refine decide_eq_true ?_
  have := ch.valid
  show ch.val.toNat < 0x110000
  rcases this with h | ⟨_, h⟩
  · exact Nat.lt_trans h (by decide)
  · exact h
theorem sok_from : ∀ (ts : List Str) (k : Nat) (acc : Str), PyData.strOk acc = true → (∀ t ∈ ts, PyData.strOk t = true) → PyData.strOk (textFrom k acc ts) = true
  | [], _, _, h, _ => h
  | t :: r, k, acc, h, ht => by
    refine sok_from r (k + 1) _ ?_ fun x hx => ht x (by simp [hx])
    rw [sok_app, sok_app, h, ht t (by simp)]
    split <;> (rw [sok_of]; rfl)
theorem sok_list {ts : List Str} (h : ∀ t ∈ ts, PyData.strOk t = true) : PyData.strOk (listText ts) = true := by
  unfold listText
  rw [sok_app, sok_from ts 0 "[" (by decide +kernel) h]
  decide +kernel
structure AtD (v : V) (d : PyData) : Prop where
  dp : ∀ (K : PySem.W.Frag) (H : Hp), Dp K H v d
  pl : ∀ H : Hp, Pl H v
  sh : d.showable = true
  nd : d.hasDict = false
  dep : d.depth = 0
  len : d.shown.length ≤ 40
  ok : PyData.strOk d.shown = true
theorem at_non : AtD .non .none := ⟨fun _ _ => .non, fun _ => .non, by simp only [PyData.showable], by simp only [PyData.hasDict], by simp only [PyData.depth], by simp only [PyData.shown]; decide +kernel, by simp only [PyData.shown]; decide +kernel⟩
theorem at_bl (b : Bool) : AtD (.bl b) (.bool b) := ⟨fun _ _ => .bl b, fun _ => .bl b, by simp only [PyData.showable], by simp only [PyData.hasDict], by simp only [PyData.depth], by cases b <;> (simp only [PyData.shown]; decide +kernel), by cases b <;> (simp only [PyData.shown]; decide +kernel)⟩
theorem at_str (x : Str) (h : (reprText x).length ≤ 40) (h2 : PyData.strOk (reprText x) = true) : AtD (.str x) (.str x) := ⟨fun _ _ => .str x, fun _ => .str x, by simp only [PyData.showable], by simp only [PyData.hasDict], by simp only [PyData.depth], by simp only [PyData.shown]; exact h, by simp only [PyData.shown]; exact h2⟩
theorem at_int' (z : Int) (h1 : z.natAbs < 1500) (h2 : (Str.ofString (toString z)).length ≤ 40) : AtD (.int z) (.int z) :=
  ⟨fun _ _ => .int z, fun _ => .int z, by simp only [PyData.showable]; exact decide_eq_true (Nat.lt_of_le_of_lt (Nat.log2_le_self z.natAbs) (by omega)), by simp only [PyData.hasDict], by simp only [PyData.depth], by simp only [PyData.shown]; exact h2, by simp only [PyData.shown]; exact sok_of _⟩
theorem at_bigI (z : Int) (h1 : z.natAbs.log2 < 1920) (h2 : (Str.ofString (toString z)).length ≤ 40) : AtD (.int z) (.int z) :=
  ⟨fun _ _ => .int z, fun _ => .int z, by simp only [PyData.showable]; exact decide_eq_true h1, by simp only [PyData.hasDict], by simp only [PyData.depth], by simp only [PyData.shown]; exact h2, by simp only [PyData.shown]; exact sok_of _⟩
theorem nat_text : ∀ k : Nat, k < 1100 → (Str.ofString (toString ((k : Nat) : Int))).length ≤ 12 := by decide +kernel
theorem at_nat (z : Int) (h : 0 ≤ z ∧ z < 1100) : AtD (.int z) (.int z) := at_int' z (by omega) (by
  have := nat_text z.toNat (by omega)
  rw [show ((z.toNat : Nat) : Int) = z by omega] at this
  exact Nat.le_trans this (by decide))
theorem at_list {xs : List V} (h : ∀ x ∈ xs, ∃ d, AtD x d) : ∃ ds, (∀ (K : PySem.W.Frag) (H : Hp), DpAll K H xs ds) ∧ PyData.showableAll ds = true ∧ PyData.hasDictAll ds = false ∧ PyData.depthAll ds = 0 ∧ ((PyData.shownAll ds).map (·.length)).sum ≤ 40 * xs.length ∧ (PyData.shownAll ds).length = xs.length ∧ (∀ t ∈ PyData.shownAll ds, PyData.strOk t = true) := by
  induction xs with
  | nil => exact ⟨[], fun _ _ => .nil, by simp [PyData.showableAll], by simp [PyData.hasDictAll], by simp [PyData.depthAll], by simp [PyData.shownAll], by simp [PyData.shownAll], fun t ht => by simp [PyData.shownAll] at ht⟩
  | cons x r ih =>
    obtain ⟨d, A⟩ := h x (by simp)
    obtain ⟨ds, h1, h2, h3, h4, h5, h6, h7⟩ := ih fun y hy => h y (by simp [hy])
    refine ⟨d :: ds, fun K H => .cons (A.dp K H) (h1 K H), ?_, ?_, ?_, ?_, ?_, ?_⟩
    · simp only [PyData.showableAll, A.sh, h2, Bool.and_self]
    · simp only [PyData.hasDictAll, A.nd, h3, Bool.or_self]
    · simp only [PyData.depthAll, A.dep, h4]; rfl
    · have := A.len
      simp only [PyData.shownAll, List.map_cons, List.sum_cons, List.length_cons]
      omega
    · simp only [PyData.shownAll, List.length_cons, h6]
    · intro t ht
      simp only [PyData.shownAll] at ht
      rcases List.mem_cons.mp ht with rfl | ht
      · exact A.ok
      · exact h7 t ht
/-- repr of v is x, here and wherever all stays -/
structure ShownE (K : PySem.W.Frag) (H : Hp) (v : V) (x : Str) : Prop where
  ok : PyData.strOk x = true
  at_ : ∀ H', ExtN H H' → Shown K H' v x
theorem ShownE.ext {K : PySem.W.Frag} {H H' : Hp} {v : V} {x : Str} (h : ShownE K H v x) (e : ExtN H H') : ShownE K H' v x := ⟨h.ok, fun H2 e2 => h.at_ H2 (e.trans e2)⟩
theorem shE_atom {K : PySem.W.Frag} {H : Hp} {v : V} {d : PyData} (A : AtD v d) : ∃ x, ShownE K H v x :=
  ⟨d.shown, A.ok, fun H' _ => ⟨fun q => ⟨.inl ⟨⟨v, d, rfl, A.dp _ _, A.sh, A.nd, by rw [A.dep]; decide, Nat.le_trans A.len (by decide), q⟩⟩⟩⟩⟩
theorem shE_list {K : PySem.W.Frag} {H : Hp} {p : Addr} {xs : List V} (hp : H p = some (.lst xs)) (h : ∀ x ∈ xs, ∃ d, AtD x d) (hl : xs.length ≤ 100) : ∃ x, ShownE K H (.ref p) x := by
  obtain ⟨ds, h1, h2, h3, h4, h5, h6, h7⟩ := at_list h
  refine ⟨(PyData.list ds).shown, by simp only [PyData.shown]; exact sok_list h7, fun H' e => ⟨fun q => ⟨.inl ⟨⟨.ref p, .list ds, rfl, .lst (SqL.of (ext_lst e hp)) (h1 K H'), ?_, ?_, ?_, ?_, q⟩⟩⟩⟩⟩
  · simp only [PyData.showable]; exact h2
  · simp only [PyData.hasDict]; exact h3
  · simp only [PyData.depth, h4]; decide
  · simp only [PyData.shown]
    refine Nat.le_trans (listText_len_le _) ?_
    exact Nat.le_trans (show _ ≤ 10000 by omega) (by decide)
theorem shE_dict {K : PySem.W.Frag} {H : Hp} {p : Addr} {kvs : List (Key × V)} {ds : List (PyData × PyData)} (hp : H p = some (.dK kvs)) (h : KvD kvs ds) (h1 : (PyData.dict ds).showable = true) (h2 : (PyData.dict ds).depth ≤ 90) (h3 : (PyData.dict ds).shown.length ≤ 1000) (h4 : PyData.strOk (PyData.dict ds).shown = true) : ∃ x, ShownE K H (.ref p) x :=
  ⟨_, h4, fun H' e => ⟨fun q => ⟨.inr ⟨p, kvs, ds, rfl, ext_dK e hp, h, h1, h2, Nat.le_trans h3 (by decide), q⟩⟩⟩⟩
/-! ### lists of two texts -/
theorem rne_strs {K : PySem.W.Frag} {H : Hp} {p q : Addr} {x y : Str} {Q : VK} (ox : PyData.strOk x = true) (oy : PyData.strOk y = true) (h1 : H p = some (.lst [.str x, .str y])) (h2 : H q = some (.lst [.str x, .str y])) (h : Q (.bl false) H) : rNeD K (.ref p) (.ref q) H Q := by
  have hs : SeqAt.shaped (.list [PyData.str x, PyData.str y]) = true := by simp [SeqAt.shaped, PyData.canLay0, PyData.canLayAll0, PyData.depth, PyData.depthAll, ox, oy]
  have he : PyData.eqv (.list [PyData.str x, PyData.str y]) (.list [PyData.str x, PyData.str y]) = true := by simp [PyData.eqv, PyData.eqvAll]
  refine ⟨_, _, .lst (SqL.of h1) (.cons (.str x) (.cons (.str y) .nil)), .lst (SqL.of h2) (.cons (.str x) (.cons (.str y) .nil)), hs, hs, ?_⟩
  rw [he]
  exact h
/-! ### a refusal, told -/
theorem refuse_step {K : PySem.W.Frag} {a : Ad} {σ : L2.St} {H : Hp} {Q' : VK} {t : XK → TE} {C : Addr} {fld : Str} {v : V} {res : List V} (hT : Tabs (lamT a) H)
    (due : ∀ H2 dd, ExtN H H2 → H2 dd = none → EDue K a (.ref C) (some dd) (upd H2 dd (.xd [(fld, v)])) res)
    (run : ∀ H1 (E : XK) (Qn : VK), ExtN H H1 → (∀ H2 d, Same H1 H2 → H2 d = none → E (.ref C) (some d) (upd H2 d (.xd [(fld, v)]))) → t E σ H1 Qn)
    (k : ∀ H3 p, ExtN H H3 → Tabs (lamT a) H3 → H3 p = some (.lst res) → Q' (.ref p) H3) : tLam (lamT a) (TRef K a) t σ H Q' := by
  refine ⟨hT, fun H1 e1 T1 => ⟨fun cls d H' => ∃ H2 dd, Same H1 H2 ∧ H2 dd = none ∧ cls = .ref C ∧ d = some dd ∧ H' = upd H2 dd (.xd [(fld, v)]), fun cls d H' h => ?_, run H1 _ _ e1 fun H2 d s hd => ⟨H2, d, s, hd, rfl, rfl, rfl⟩⟩⟩
  obtain ⟨H2, dd, s, hd, rfl, rfl, rfl⟩ := h
  refine ⟨res, due H2 dd (e1.trans (ext_of s)) hd, fun p hp => ?_⟩
  have s2 : Same H1 (upd (upd H2 dd (.xd [(fld, v)])) p (.lst res)) := s.trans ((same_new hd).trans (same_new hp))
  exact k _ p (e1.trans (ext_of s2)) (T1.ext s2) upd_same
end Rt
set_option maxHeartbeats 16000000
namespace Rt
open PySem L2 LamX
theorem inW_hi {z lo hi : Int} (h : hi < z) : inW (.int z) lo hi = false := by
  show (decide (lo ≤ z) && decide (z ≤ hi)) = false
  rw [decide_eq_false (show ¬ z ≤ hi by omega), Bool.and_false]
theorem inW_lo {z lo hi : Int} (h : z < lo) : inW (.int z) lo hi = false := by
  show (decide (lo ≤ z) && decide (z ≤ hi)) = false
  rw [decide_eq_false (show ¬ lo ≤ z by omega), Bool.false_and]
theorem ats_one {v : V} {d : PyData} (h : AtD v d) : ∀ x ∈ [v], ∃ d, AtD x d := fun x hx => by rw [List.mem_singleton.mp hx]; exact ⟨d, h⟩
section
variable {P : Program} {w : World} {K : PySem.W.Frag} {mg : Str → Option Value} {base : Heap} {a : Ad}
abbrev rfN : List Str := ["_law_tree", "_law_classes", "_law_pages_here", "_law_odd"]
abbrev lawX (P : Program) (w : World) (K : PySem.W.Frag) (mg : Str → Option Value) (base : Heap) (a : Ad) (A : Around) (outer : List Env) (s : Shared) (H : Hp) (E : XK) : Cx := (cxOf CX0 P w K mg base rfN "_law_refusals" (defScope s_law_refusals) a.a_law_refusals (.ref a.c_lam) A outer s H E).nox
theorem passes_law {A : Around} {outer : List Env} {s : Shared} {H : Hp} {E : XK} {A2 : Around} {outer2 : List Env} {s2 : Shared} {H2 : Hp} {E2 : XK} {sc : Scope} {f2 c2 : Addr} : Passes (L2.CX P w) (lamCx (lawX P w K mg base a A outer s H E) A2 outer2 s2 H2 E2 sc f2 c2) E2 := passes_lam (X := lawX P w K mg base a A outer s H E)
def sp_law_refusals (a : Ad) : Sp := fun vs H Q _ => ∃ (p : Addr) (c : Int) (ts : List Int) (n : Nat), vs = [.ref p, .int c, .int ((n : Nat) : Int)] ∧ TreeAt a.C_Tree H p c ts ∧ Told c ts n ∧ Tabs (lamT a) H ∧ ∀ H', ExtN H H' → Tabs (lamT a) H' → Q (.bl true) H'
theorem ok_law_refusals (T : Txt K mg a) (FL : FunL K "_law_refusals" "_law_refusals" s_law_refusals a.a_law_refusals a.fd_law_refusals (.ref a.c_lam)) (TB : TabB base mg a.c_lam a.P_lam) : FnOkG P w K mg base CX0 12 a.a_law_refusals a.fd_law_refusals ["_law_tree", "_law_classes", "_law_pages_here"] (sp_law_refusals a) := by
  refine FL.okG sc_law_refusals (fun vs H Q E h => ?_) (fun A outer s H vs Q E hgd hr h => ?_)
  · obtain ⟨p, c, ts, n, rfl, _⟩ := h
    rfl
  obtain ⟨p, c, ts, n, rfl, ht0, g, T0, k⟩ := h
  refine ⟨_, (pss_cons (ps_for PassesOwn.never rfl (pi_list (pe_lst (pa_cons pe_non (pa_cons pe_int (pa_cons (pe_un un_neg pe_int) (pa_cons (pe_op op_mul pe_int (pv 2)) (pa_cons pe_str (pa_cons pe_bl (pa_cons (pe_lst (pa_cons pe_int pa_nil)) (pa_cons (pe_op op_pow pe_int pe_int) pa_nil)))))))))) (pg_name (i := 3) sc_law_refusals.nd rfl (Or.inr rfl))
      (pss_cons (ps_if (pt_cmpR (op_neD hr.units) (pe_lamcallS (T := lamT a) (c := a.c_lam) (P := a.P_lam) (k := 6) (TT := TRef K a) (Ng := ["_law_call", "e"]) rfl T.g__law_refused T.F_law_refused.kp T.F_law_refused T.b_law_refused sc_law_refused rfl (Or.inl rfl) (fun cdv => refused_gives T hgd) TB rfl (List.mem_singleton.mpr rfl) (fun p hp _ => by rw [List.mem_singleton.mp hp]; rfl) (hr.mono (by decide)) (lamS_by (sc := defScope s_law_refusals) (by decide +kernel)) rfl (fun _ _ _ _ _ => rfl) (fun A2 outer2 s2 H2 E2 f2 c2 hr2 => (pe_subOwn (okX_Tree_getitem T) (hr2.mono (by decide)) T.m_Tree_getitem.at_ T.m_Tree_getitem.fn T.fn_Tree_getitem T.b_Tree_getitem (passes_law (P := P) (w := w) (K := K) (mg := mg) (base := base) (a := a) (A := A) (outer := outer) (s := s) (H := H) (E := E)) (pv 0) (pv 3) (fun _ _ => rfl)))) (pe_lst (pa_cons pe_str (pa_cons (pe_callB (call_reprX hgd (rep_of hr)) (by rfl) T.n_repr (by decide +kernel) (pa_cons (pv 3) pa_nil)) pa_nil))) (nomark _))
        (pss_one (ps_ret pe_bl))
        pss_nil)
        (pss_one (ps_if (pt_cmpR (op_neD hr.units) (pe_lamcallS (T := lamT a) (c := a.c_lam) (P := a.P_lam) (k := 6) (TT := TRef K a) (Ng := ["_law_call", "e"]) rfl T.g__law_refused T.F_law_refused.kp T.F_law_refused T.b_law_refused sc_law_refused rfl (Or.inl rfl) (fun cdv => refused_gives T hgd) TB rfl (List.mem_singleton.mpr rfl) (fun p hp _ => by rw [List.mem_singleton.mp hp]; rfl) (hr.mono (by decide)) (lamS_by (sc := defScope s_law_refusals) (by decide +kernel)) rfl (fun _ _ _ _ _ => rfl) (fun A2 outer2 s2 H2 E2 f2 c2 hr2 => (pe_meth (pv 0) T.cl_Tree T.m_Tree_with_told (okX_Tree_with_told T) (hr2.mono (by decide)) T.b_Tree_with_told .nil (passes_law (P := P) (w := w) (K := K) (mg := mg) (base := base) (a := a) (A := A) (outer := outer) (s := s) (H := H) (E := E)) (pa_cons (pv 3) (pa_cons pe_non pa_nil))))) (pe_lst (pa_cons pe_str (pa_cons (pe_callB (call_reprX hgd (rep_of hr)) (by rfl) T.n_repr (by decide +kernel) (pa_cons (pv 3) pa_nil)) pa_nil))) (nomark _))
        (pss_one (ps_ret pe_bl))
        pss_nil))))
      (pss_cons (ps_for PassesOwn.never rfl (pi_list (pe_lst (pa_cons pe_non (pa_cons pe_int (pa_cons (pv 2) (pa_cons pe_str (pa_cons pe_bl (pa_cons (pe_lst (pa_cons pe_int pa_nil)) pa_nil)))))))) (pg_name (i := 3) sc_law_refusals.nd rfl (Or.inr rfl))
      (pss_one (ps_if (pt_cmpR (op_neD hr.units) (pe_lamcallS (T := lamT a) (c := a.c_lam) (P := a.P_lam) (k := 6) (TT := TRef K a) (Ng := ["_law_call", "e"]) rfl T.g__law_refused T.F_law_refused.kp T.F_law_refused T.b_law_refused sc_law_refused rfl (Or.inl rfl) (fun cdv => refused_gives T hgd) TB rfl (List.mem_singleton.mpr rfl) (fun p hp _ => by rw [List.mem_singleton.mp hp]; rfl) (hr.mono (by decide)) (lamS_by (sc := defScope s_law_refusals) (by decide +kernel)) rfl (fun _ _ _ _ _ => rfl) (fun A2 outer2 s2 H2 E2 f2 c2 hr2 => (pe_meth (pv 0) T.cl_Tree T.m_Tree_greater (okX_Tree_greater T) (hr2.mono (by decide)) T.b_Tree_greater .nil (passes_law (P := P) (w := w) (K := K) (mg := mg) (base := base) (a := a) (A := A) (outer := outer) (s := s) (H := H) (E := E)) (pa_cons (pv 3) pa_nil)))) (pe_lst (pa_cons pe_str (pa_cons (pe_callB (call_reprX hgd (rep_of hr)) (by rfl) T.n_repr (by decide +kernel) (pa_cons (pv 3) pa_nil)) pa_nil))) (nomark _))
        (pss_one (ps_ret pe_bl))
        pss_nil)))
      (pss_cons (ps_for PassesOwn.never rfl (pi_list (pe_lst (pa_cons pe_non (pa_cons (pe_un un_neg pe_int) (pa_cons (pv 2) (pa_cons pe_str (pa_cons pe_bl (pa_cons (pe_lst (pa_cons pe_int pa_nil)) pa_nil)))))))) (pg_name (i := 3) sc_law_refusals.nd rfl (Or.inr rfl))
      (pss_cons (ps_if (pt_cmpR (op_neD hr.units) (pe_lamcallS (T := lamT a) (c := a.c_lam) (P := a.P_lam) (k := 6) (TT := TRef K a) (Ng := ["_law_call", "e"]) rfl T.g__law_refused T.F_law_refused.kp T.F_law_refused T.b_law_refused sc_law_refused rfl (Or.inl rfl) (fun cdv => refused_gives T hgd) TB rfl (List.mem_singleton.mpr rfl) (fun p hp _ => by rw [List.mem_singleton.mp hp]; rfl) (hr.mono (by decide)) (lamS_by (sc := defScope s_law_refusals) (by decide +kernel)) rfl (fun _ _ _ _ _ => rfl) (fun A2 outer2 s2 H2 E2 f2 c2 hr2 => (pe_meth (pv 0) T.cl_Tree T.m_Tree_leaf (okX_Tree_leaf T) (hr2.mono (by decide)) T.b_Tree_leaf .nil (passes_law (P := P) (w := w) (K := K) (mg := mg) (base := base) (a := a) (A := A) (outer := outer) (s := s) (H := H) (E := E)) (pa_cons (pv 3) pa_nil)))) (pe_lst (pa_cons pe_str (pa_cons (pe_callB (call_reprX hgd (rep_of hr)) (by rfl) T.n_repr (by decide +kernel) (pa_cons (pv 3) pa_nil)) pa_nil))) (nomark _))
        (pss_one (ps_ret pe_bl))
        pss_nil)
        (pss_one (ps_if (pt_cmpR (op_neD hr.units) (pe_lamcallS (T := lamT a) (c := a.c_lam) (P := a.P_lam) (k := 6) (TT := TRef K a) (Ng := ["_law_call", "e"]) rfl T.g__law_refused T.F_law_refused.kp T.F_law_refused T.b_law_refused sc_law_refused rfl (Or.inl rfl) (fun cdv => refused_gives T hgd) TB rfl (List.mem_singleton.mpr rfl) (fun p hp _ => by rw [List.mem_singleton.mp hp]; rfl) (hr.mono (by decide)) (lamS_by (sc := defScope s_law_refusals) (by decide +kernel)) rfl (fun _ _ _ _ _ => rfl) (fun A2 outer2 s2 H2 E2 f2 c2 hr2 => (pe_meth (pv 0) T.cl_Tree T.m_Tree_way (okX_Tree_way T) (hr2.mono (by decide)) T.b_Tree_way .nil (passes_law (P := P) (w := w) (K := K) (mg := mg) (base := base) (a := a) (A := A) (outer := outer) (s := s) (H := H) (E := E)) (pa_cons (pv 3) pa_nil)))) (pe_lst (pa_cons pe_str (pa_cons (pe_callB (call_reprX hgd (rep_of hr)) (by rfl) T.n_repr (by decide +kernel) (pa_cons (pv 3) pa_nil)) pa_nil))) (nomark _))
        (pss_one (ps_ret pe_bl))
        pss_nil))))
      (pss_cons (ps_for PassesOwn.never rfl (pi_list (pe_lst (pa_cons pe_non (pa_cons (pe_un un_neg pe_int) (pa_cons (pe_op op_add (pv 1) pe_int) (pa_cons pe_str (pa_cons pe_bl (pa_cons (pe_lst (pa_cons pe_int pa_nil)) pa_nil)))))))) (pg_name (i := 3) sc_law_refusals.nd rfl (Or.inr rfl))
      (pss_one (ps_if (pt_cmpR (op_neD hr.units) (pe_lamcallS (T := lamT a) (c := a.c_lam) (P := a.P_lam) (k := 6) (TT := TRef K a) (Ng := ["_law_call", "e"]) rfl T.g__law_refused T.F_law_refused.kp T.F_law_refused T.b_law_refused sc_law_refused rfl (Or.inl rfl) (fun cdv => refused_gives T hgd) TB rfl (List.mem_singleton.mpr rfl) (fun p hp _ => by rw [List.mem_singleton.mp hp]; rfl) (hr.mono (by decide)) (lamS_by (sc := defScope s_law_refusals) (by decide +kernel)) rfl (fun _ _ _ _ _ => rfl) (fun A2 outer2 s2 H2 E2 f2 c2 hr2 => (pe_meth (pv 0) T.cl_Tree T.m_Tree_with_told (okX_Tree_with_told T) (hr2.mono (by decide)) T.b_Tree_with_told .nil (passes_law (P := P) (w := w) (K := K) (mg := mg) (base := base) (a := a) (A := A) (outer := outer) (s := s) (H := H) (E := E)) (pa_cons pe_int (pa_cons (pv 3) pa_nil))))) (pe_lst (pa_cons pe_str (pa_cons (pe_callB (call_reprX hgd (rep_of hr)) (by rfl) T.n_repr (by decide +kernel) (pa_cons (pv 3) pa_nil)) pa_nil))) (nomark _))
        (pss_one (ps_ret pe_bl))
        pss_nil)))
      (pss_one (ps_ret pe_bl)))))), ?_⟩
  · obtain ⟨H0, eH0⟩ : ∃ H0, H0 = H := ⟨H, rfl⟩
    rw [← eH0] at ht0 T0 k ⊢
    have x0 : ExtN H0 H0 := ExtN.refl _
    have n2 := g.n2
    have hlen := g.len
    have c1 := g.c1
    have c8 := g.c8
    refine ⟨_, rfl, _, rfl, _, _, rfl, rfl, .inl ⟨by decide, by decide⟩, (by show 1 ≤ sizeLine; decide), fun p1 h1 => ?_⟩
    generalize e1 : upd _ p1 _ = H1
    have q1 := (congrFun e1 p1).symm.trans upd_same
    have t1 : Same H0 H1 := by rw [← e1]; exact same_new h1
    clear e1
    refine ⟨_, _, rfl, rfl, ⟨by decide, by decide, by decide⟩, (by show 8 ≤ sizeLine; decide), fun p2 h2 => ?_⟩
    generalize e2 : upd _ p2 _ = H2
    have q2 := (congrFun e2 p2).symm.trans upd_same
    have t2 : Same H1 H2 := by rw [← e2]; exact same_new h2
    clear e2
    have T2 : Tabs (lamT a) H2 := T0.ext (t1.trans t2)
    have ht2 := ht0.mono (t1.trans t2)
    refine ⟨p2, rfl, ⟨_, SqL.of q2⟩, for_list (K := K) (a := p2) (fun _ σ H' => (∃ u : Option V, σ = [some (.ref p), some (.int c), some (.int ((n : Nat) : Int)), u]) ∧ ExtN H2 H' ∧ Tabs (lamT a) H') ⟨⟨_, rfl⟩, ExtN.refl _, T2⟩ (fun _ σ H' _ h => SqL.of (ext_lst h.2.1 q2)) ?_ ?_⟩
    · rintro j y σ H' hk ⟨⟨u, rfl⟩, e', T'⟩
      have hy : Pl H2 y ∧ inW y 1 ((ts.length : Nat) : Int) = false ∧ ∃ x, ShownE K H2 y x := by
        have hm := List.mem_of_getElem? hk
        simp only [List.cons_append, List.nil_append, List.mem_cons, List.not_mem_nil, or_false] at hm
        rcases hm with rfl | rfl | rfl | rfl | rfl | rfl | rfl | rfl
        · exact ⟨.non, rfl, shE_atom at_non⟩
        · exact ⟨.int _, inW_lo (by decide), shE_atom (at_nat _ ⟨by omega, by omega⟩)⟩
        · exact ⟨.int _, inW_lo (by decide), shE_atom (at_int' _ (by decide) (by decide +kernel))⟩
        · exact ⟨.int _, inW_hi (by omega), shE_atom (at_nat _ ⟨by omega, by omega⟩)⟩
        · exact ⟨.str _, rfl, shE_atom (at_str _ (by decide +kernel) (by decide +kernel))⟩
        · exact ⟨.bl _, rfl, shE_atom (at_bl _)⟩
        · exact ⟨.lst (t2 _ _ q1), rfl, shE_list (t2 _ _ q1) (ats_one (at_nat _ (by decide))) (by decide)⟩
        · exact ⟨.int _, inW_hi (Int.lt_of_le_of_lt (show ((ts.length : Nat) : Int) ≤ 100 by omega) (by decide +kernel)), shE_atom (at_bigI _ (by decide +kernel) (by decide +kernel))⟩
      obtain ⟨hy1, hy2, x, hx⟩ := hy
      replace hx := hx.ext e'
      have ht' := ht2.ext e'
      refine refuse_step (C := a.C_BadNode) (fld := "number") (v := y) (res := [.str "node", .str x]) T' (fun H2 dd e hd => .inr (.inl ⟨rfl, dd, _, _, rfl, upd_same, hx.at_ _ (((ExtN.refl H').trans e).trans (ext_of (same_new hd))), rfl⟩)) (fun H1 E Qn e1 hE => ?_) (fun H3 q3 e3_1 T3_1 hq3 => ?_)
      · have ht1 := ht'.ext ((ExtN.refl H').trans e1)
        obtain ⟨dx1, tt1, hp1, _⟩ := id ht1
        have hy1' := hy1.ext (e'.trans ((ExtN.refl H').trans e1))
        exact ⟨_, rfl, _, rfl, p, dx1, _, rfl, hp1, p, c, ts, y, rfl, ht1, hy1', hy2, fun d hd => hE _ d (Same.refl _) hd⟩
      refine ⟨_, rfl, (hx.at_ _ ((ExtN.refl H').trans e3_1)).say ⟨(by show 2 ≤ sizeLine; decide), fun l hl => rne_strs (by decide +kernel) hx.ok (same_new hl _ _ hq3) upd_same ⟨_, rfl, iteF ?_⟩⟩⟩
      have g1 := (ExtN.refl H').trans (e3_1.trans (ext_of (same_new (o := .lst [.str "node", .str x]) hl)))
      have T1_ := T3_1.ext (same_new (o := .lst [.str "node", .str x]) hl)
      refine refuse_step (C := a.C_BadNode) (fld := "number") (v := y) (res := [.str "node", .str x]) T1_ (fun H2 dd e hd => .inr (.inl ⟨rfl, dd, _, _, rfl, upd_same, hx.at_ _ ((g1.trans e).trans (ext_of (same_new hd))), rfl⟩)) (fun H1 E Qn e1 hE => ?_) (fun H3 q3 e3_2 T3_2 hq3 => ?_)
      · have ht1 := ht'.ext (g1.trans e1)
        obtain ⟨dx1, tt1, hp1, _⟩ := id ht1
        have hy1' := hy1.ext (e'.trans (g1.trans e1))
        exact ⟨_, rfl, p, dx1, _, rfl, hp1, tf_no _ _ (by decide +kernel) (by decide +kernel), _, rfl, p, c, ts, y, .non, rfl, ht1, hy1', .non, .inl ⟨hy2, fun d hd => hE _ d (Same.refl _) hd⟩⟩
      refine ⟨_, rfl, (hx.at_ _ (g1.trans e3_2)).say ⟨(by show 2 ≤ sizeLine; decide), fun l hl => rne_strs (by decide +kernel) hx.ok (same_new hl _ _ hq3) upd_same ⟨_, rfl, iteF ?_⟩⟩⟩
      have g2 := g1.trans (e3_2.trans (ext_of (same_new (o := .lst [.str "node", .str x]) hl)))
      have T2_ := T3_2.ext (same_new (o := .lst [.str "node", .str x]) hl)
      exact ⟨⟨_, rfl⟩, e'.trans g2, T2_⟩
    rintro σ H3 ⟨⟨u3, rfl⟩, x3_, T3⟩
    have ht3 := ht2.ext x3_
    have x3 : ExtN H0 H3 := (x0.trans (ext_of (t1.trans t2))).trans x3_
    refine ⟨_, rfl, (by show 1 ≤ sizeLine; decide), fun p4 h4 => ?_⟩
    generalize e4 : upd _ p4 _ = H4
    have q4 := (congrFun e4 p4).symm.trans upd_same
    have t4 : Same H3 H4 := by rw [← e4]; exact same_new h4
    clear e4
    refine ⟨(by show 6 ≤ sizeLine; decide), fun p5 h5 => ?_⟩
    generalize e5 : upd _ p5 _ = H5
    have q5 := (congrFun e5 p5).symm.trans upd_same
    have t5 : Same H4 H5 := by rw [← e5]; exact same_new h5
    clear e5
    have T5 : Tabs (lamT a) H5 := T3.ext (t4.trans t5)
    have ht5 := ht3.mono (t4.trans t5)
    refine ⟨p5, rfl, ⟨_, SqL.of q5⟩, for_list (K := K) (a := p5) (fun _ σ H' => (∃ u : Option V, σ = [some (.ref p), some (.int c), some (.int ((n : Nat) : Int)), u]) ∧ ExtN H5 H' ∧ Tabs (lamT a) H') ⟨⟨_, rfl⟩, ExtN.refl _, T5⟩ (fun _ σ H' _ h => SqL.of (ext_lst h.2.1 q5)) ?_ ?_⟩
    · rintro j y σ H' hk ⟨⟨u, rfl⟩, e', T'⟩
      have hy : Pl H5 y ∧ inW y 1 (((n : Nat) : Int) - 1) = false ∧ ∃ x, ShownE K H5 y x := by
        have hm := List.mem_of_getElem? hk
        simp only [List.cons_append, List.nil_append, List.mem_cons, List.not_mem_nil, or_false] at hm
        rcases hm with rfl | rfl | rfl | rfl | rfl | rfl
        · exact ⟨.non, rfl, shE_atom at_non⟩
        · exact ⟨.int _, inW_lo (by decide), shE_atom (at_nat _ ⟨by omega, by omega⟩)⟩
        · exact ⟨.int _, inW_hi (by omega), shE_atom (at_nat _ ⟨by omega, by omega⟩)⟩
        · exact ⟨.str _, rfl, shE_atom (at_str _ (by decide +kernel) (by decide +kernel))⟩
        · exact ⟨.bl _, rfl, shE_atom (at_bl _)⟩
        · exact ⟨.lst (t5 _ _ q4), rfl, shE_list (t5 _ _ q4) (ats_one (at_nat _ (by decide))) (by decide)⟩
      obtain ⟨hy1, hy2, x, hx⟩ := hy
      replace hx := hx.ext e'
      have ht' := ht5.ext e'
      refine refuse_step (C := a.C_BadNode) (fld := "number") (v := y) (res := [.str "node", .str x]) T' (fun H2 dd e hd => .inr (.inl ⟨rfl, dd, _, _, rfl, upd_same, hx.at_ _ (((ExtN.refl H').trans e).trans (ext_of (same_new hd))), rfl⟩)) (fun H1 E Qn e1 hE => ?_) (fun H3 q3 e3_3 T3_3 hq3 => ?_)
      · have ht1 := ht'.ext ((ExtN.refl H').trans e1)
        obtain ⟨dx1, tt1, hp1, _⟩ := id ht1
        have hy1' := hy1.ext (e'.trans ((ExtN.refl H').trans e1))
        exact ⟨_, rfl, p, dx1, _, rfl, hp1, tf_no _ _ (by decide +kernel) (by decide +kernel), _, rfl, p, c, ts, n, y, rfl, ht1, g, hy1', hy2, fun H' d s' hd => hE H' d s' hd⟩
      refine ⟨_, rfl, (hx.at_ _ ((ExtN.refl H').trans e3_3)).say ⟨(by show 2 ≤ sizeLine; decide), fun l hl => rne_strs (by decide +kernel) hx.ok (same_new hl _ _ hq3) upd_same ⟨_, rfl, iteF ?_⟩⟩⟩
      have g3 := (ExtN.refl H').trans (e3_3.trans (ext_of (same_new (o := .lst [.str "node", .str x]) hl)))
      have T3_ := T3_3.ext (same_new (o := .lst [.str "node", .str x]) hl)
      exact ⟨⟨_, rfl⟩, e'.trans g3, T3_⟩
    rintro σ H6 ⟨⟨u6, rfl⟩, x6_, T6⟩
    have ht6 := ht5.ext x6_
    have x6 : ExtN H0 H6 := (x3.trans (ext_of (t4.trans t5))).trans x6_
    refine ⟨_, rfl, _, rfl, (by show 1 ≤ sizeLine; decide), fun p7 h7 => ?_⟩
    generalize e7 : upd _ p7 _ = H7
    have q7 := (congrFun e7 p7).symm.trans upd_same
    have t7 : Same H6 H7 := by rw [← e7]; exact same_new h7
    clear e7
    refine ⟨(by show 6 ≤ sizeLine; decide), fun p8 h8 => ?_⟩
    generalize e8 : upd _ p8 _ = H8
    have q8 := (congrFun e8 p8).symm.trans upd_same
    have t8 : Same H7 H8 := by rw [← e8]; exact same_new h8
    clear e8
    have T8 : Tabs (lamT a) H8 := T6.ext (t7.trans t8)
    have ht8 := ht6.mono (t7.trans t8)
    refine ⟨p8, rfl, ⟨_, SqL.of q8⟩, for_list (K := K) (a := p8) (fun _ σ H' => (∃ u : Option V, σ = [some (.ref p), some (.int c), some (.int ((n : Nat) : Int)), u]) ∧ ExtN H8 H' ∧ Tabs (lamT a) H') ⟨⟨_, rfl⟩, ExtN.refl _, T8⟩ (fun _ σ H' _ h => SqL.of (ext_lst h.2.1 q8)) ?_ ?_⟩
    · rintro j y σ H' hk ⟨⟨u, rfl⟩, e', T'⟩
      have hy : Pl H8 y ∧ inW y 0 (((n : Nat) : Int) - 1) = false ∧ ∃ x, ShownE K H8 y x := by
        have hm := List.mem_of_getElem? hk
        simp only [List.cons_append, List.nil_append, List.mem_cons, List.not_mem_nil, or_false] at hm
        rcases hm with rfl | rfl | rfl | rfl | rfl | rfl
        · exact ⟨.non, rfl, shE_atom at_non⟩
        · exact ⟨.int _, inW_lo (by decide), shE_atom (at_int' _ (by decide) (by decide +kernel))⟩
        · exact ⟨.int _, inW_hi (by omega), shE_atom (at_nat _ ⟨by omega, by omega⟩)⟩
        · exact ⟨.str _, rfl, shE_atom (at_str _ (by decide +kernel) (by decide +kernel))⟩
        · exact ⟨.bl _, rfl, shE_atom (at_bl _)⟩
        · exact ⟨.lst (t8 _ _ q7), rfl, shE_list (t8 _ _ q7) (ats_one (at_nat _ (by decide))) (by decide)⟩
      obtain ⟨hy1, hy2, x, hx⟩ := hy
      replace hx := hx.ext e'
      have ht' := ht8.ext e'
      refine refuse_step (C := a.C_BadPage) (fld := "number") (v := y) (res := [.str "page", .str x]) T' (fun H2 dd e hd => .inl ⟨rfl, dd, _, _, rfl, upd_same, hx.at_ _ (((ExtN.refl H').trans e).trans (ext_of (same_new hd))), rfl⟩) (fun H1 E Qn e1 hE => ?_) (fun H3 q3 e3_4 T3_4 hq3 => ?_)
      · have ht1 := ht'.ext ((ExtN.refl H').trans e1)
        obtain ⟨dx1, tt1, hp1, _⟩ := id ht1
        have hy1' := hy1.ext (e'.trans ((ExtN.refl H').trans e1))
        exact ⟨_, rfl, p, dx1, _, rfl, hp1, tf_no _ _ (by decide +kernel) (by decide +kernel), _, rfl, p, c, ts, n, y, rfl, ht1, g, hy1', hy2, fun H' d s' hd => hE H' d s' hd⟩
      refine ⟨_, rfl, (hx.at_ _ ((ExtN.refl H').trans e3_4)).say ⟨(by show 2 ≤ sizeLine; decide), fun l hl => rne_strs (by decide +kernel) hx.ok (same_new hl _ _ hq3) upd_same ⟨_, rfl, iteF ?_⟩⟩⟩
      have g4 := (ExtN.refl H').trans (e3_4.trans (ext_of (same_new (o := .lst [.str "page", .str x]) hl)))
      have T4_ := T3_4.ext (same_new (o := .lst [.str "page", .str x]) hl)
      refine refuse_step (C := a.C_BadPage) (fld := "number") (v := y) (res := [.str "page", .str x]) T4_ (fun H2 dd e hd => .inl ⟨rfl, dd, _, _, rfl, upd_same, hx.at_ _ ((g4.trans e).trans (ext_of (same_new hd))), rfl⟩) (fun H1 E Qn e1 hE => ?_) (fun H3 q3 e3_5 T3_5 hq3 => ?_)
      · have ht1 := ht'.ext (g4.trans e1)
        obtain ⟨dx1, tt1, hp1, _⟩ := id ht1
        have hy1' := hy1.ext (e'.trans (g4.trans e1))
        exact ⟨_, rfl, p, dx1, _, rfl, hp1, tf_no _ _ (by decide +kernel) (by decide +kernel), _, rfl, p, c, ts, n, y, rfl, ht1, g, hy1', hy2, fun H' d s' hd => hE H' d s' hd⟩
      refine ⟨_, rfl, (hx.at_ _ (g4.trans e3_5)).say ⟨(by show 2 ≤ sizeLine; decide), fun l hl => rne_strs (by decide +kernel) hx.ok (same_new hl _ _ hq3) upd_same ⟨_, rfl, iteF ?_⟩⟩⟩
      have g5 := g4.trans (e3_5.trans (ext_of (same_new (o := .lst [.str "page", .str x]) hl)))
      have T5_ := T3_5.ext (same_new (o := .lst [.str "page", .str x]) hl)
      exact ⟨⟨_, rfl⟩, e'.trans g5, T5_⟩
    rintro σ H9 ⟨⟨u9, rfl⟩, x9_, T9⟩
    have ht9 := ht8.ext x9_
    have x9 : ExtN H0 H9 := (x6.trans (ext_of (t7.trans t8))).trans x9_
    refine ⟨_, rfl, _, rfl, _, _, rfl, rfl, (by show 1 ≤ sizeLine; decide), fun p10 h10 => ?_⟩
    generalize e10 : upd _ p10 _ = H10
    have q10 := (congrFun e10 p10).symm.trans upd_same
    have t10 : Same H9 H10 := by rw [← e10]; exact same_new h10
    clear e10
    refine ⟨(by show 6 ≤ sizeLine; decide), fun p11 h11 => ?_⟩
    generalize e11 : upd _ p11 _ = H11
    have q11 := (congrFun e11 p11).symm.trans upd_same
    have t11 : Same H10 H11 := by rw [← e11]; exact same_new h11
    clear e11
    have T11 : Tabs (lamT a) H11 := T9.ext (t10.trans t11)
    have ht11 := ht9.mono (t10.trans t11)
    refine ⟨p11, rfl, ⟨_, SqL.of q11⟩, for_list (K := K) (a := p11) (fun _ σ H' => (∃ u : Option V, σ = [some (.ref p), some (.int c), some (.int ((n : Nat) : Int)), u]) ∧ ExtN H11 H' ∧ Tabs (lamT a) H') ⟨⟨_, rfl⟩, ExtN.refl _, T11⟩ (fun _ σ H' _ h => SqL.of (ext_lst h.2.1 q11)) ?_ ?_⟩
    · rintro j y σ H' hk ⟨⟨u, rfl⟩, e', T'⟩
      have hy : Pl H11 y ∧ inW y 0 c = false ∧ ∃ x, ShownE K H11 y x := by
        have hm := List.mem_of_getElem? hk
        simp only [List.cons_append, List.nil_append, List.mem_cons, List.not_mem_nil, or_false] at hm
        rcases hm with rfl | rfl | rfl | rfl | rfl | rfl
        · exact ⟨.non, rfl, shE_atom at_non⟩
        · exact ⟨.int _, inW_lo (by decide), shE_atom (at_int' _ (by decide) (by decide +kernel))⟩
        · exact ⟨.int _, inW_hi (by omega), shE_atom (at_nat _ ⟨by omega, by omega⟩)⟩
        · exact ⟨.str _, rfl, shE_atom (at_str _ (by decide +kernel) (by decide +kernel))⟩
        · exact ⟨.bl _, rfl, shE_atom (at_bl _)⟩
        · exact ⟨.lst (t11 _ _ q10), rfl, shE_list (t11 _ _ q10) (ats_one (at_nat _ (by decide))) (by decide)⟩
      obtain ⟨hy1, hy2, x, hx⟩ := hy
      replace hx := hx.ext e'
      have ht' := ht11.ext e'
      refine refuse_step (C := a.C_BadClass) (fld := "value") (v := y) (res := [.str "class", .str x]) T' (fun H2 dd e hd => .inr (.inr ⟨rfl, dd, _, _, rfl, upd_same, hx.at_ _ (((ExtN.refl H').trans e).trans (ext_of (same_new hd))), rfl⟩)) (fun H1 E Qn e1 hE => ?_) (fun H3 q3 e3_6 T3_6 hq3 => ?_)
      · have ht1 := ht'.ext ((ExtN.refl H').trans e1)
        obtain ⟨dx1, tt1, hp1, _⟩ := id ht1
        have hy1' := hy1.ext (e'.trans ((ExtN.refl H').trans e1))
        exact ⟨_, rfl, p, dx1, _, rfl, hp1, tf_no _ _ (by decide +kernel) (by decide +kernel), _, rfl, p, c, ts, .int 1, y, rfl, ht1, .int 1, hy1', .inr ⟨inI_T ⟨by decide, by omega⟩, hy2, fun d hd => hE _ d (Same.refl _) hd⟩⟩
      refine ⟨_, rfl, (hx.at_ _ ((ExtN.refl H').trans e3_6)).say ⟨(by show 2 ≤ sizeLine; decide), fun l hl => rne_strs (by decide +kernel) hx.ok (same_new hl _ _ hq3) upd_same ⟨_, rfl, iteF ?_⟩⟩⟩
      have g6 := (ExtN.refl H').trans (e3_6.trans (ext_of (same_new (o := .lst [.str "class", .str x]) hl)))
      have T6_ := T3_6.ext (same_new (o := .lst [.str "class", .str x]) hl)
      exact ⟨⟨_, rfl⟩, e'.trans g6, T6_⟩
    rintro σ H12 ⟨⟨u12, rfl⟩, x12_, T12⟩
    have ht12 := ht11.ext x12_
    have x12 : ExtN H0 H12 := (x9.trans (ext_of (t10.trans t11))).trans x12_
    exact k _ x12 T12
end
end Rt
set_option maxHeartbeats 16000000
namespace Rt
open PySem L2 LamX
theorem cut_to (xs : List V) (k : Nat) (h : k ≤ xs.length) : cutV xs none (some (k : Int)) = xs.take k := by
  unfold cutV
  rw [HT.sIx_nat, HT.sIx_none, Nat.min_eq_left h, Nat.sub_zero, List.drop_zero]
theorem set_cut {ts : List Int} {j : Nat} (h1 : 1 ≤ j) (h2 : j ≤ ts.length) (t : Int) : (ts.take (j - 1)).map V.int ++ [V.int t] ++ (ts.drop j).map V.int = (ts.set (j - 1) t).map V.int := by
  rw [List.set_eq_take_append_cons_drop, if_pos (by omega), List.map_append, List.map_cons, List.append_assoc, show j - 1 + 1 = j by omega]
  rfl
theorem TreeAt.lst_upd {C : Addr} {H : Hp} {p l : Addr} {c : Int} {ts : List Int} {xs : List V} {o : HO} (h : TreeAt C H p c ts) (hl : H l = some (.lst xs)) : TreeAt C (upd H l o) p c ts := by
  obtain ⟨dx, t, h1, h2⟩ := h
  refine ⟨dx, t, ?_, ?_⟩
  · rw [upd_ne (fun z => by rw [z, hl] at h1; cases h1)]; exact h1
  · rw [upd_ne (fun z => by rw [z, hl] at h2; cases h2)]; exact h2
theorem half_told {c : Int} {ts : List Int} {n : Nat} (g : Told c ts n) (h : 2 < n) : Told c (ts.take (n - 1)) (n / 2) := by
  have hl := g.len
  refine ⟨g.c1, g.c8, fun z hz => g.lo z (List.mem_of_mem_take hz), fun z hz => g.hi z (List.mem_of_mem_take hz), ?_, ?_⟩
  · rcases g.num with h | h | h | h | h <;> omega
  · rw [List.length_take]
    rcases g.num with h | h | h | h | h <;> omega
theorem told_up {c : Int} {ts : List Int} {n : Nat} (g : Told c ts n) (h : c < 8) : Told (c + 1) ts n :=
  ⟨by have := g.c1; omega, by omega, g.lo, fun z hz => by have := g.hi z hz; omega, g.num, g.len⟩
section
variable {P : Program} {w : World} {K : PySem.W.Frag} {mg : Str → Option Value} {base : Heap} {a : Ad}
def sp_law (K : PySem.W.Frag) (tb : Addr) : Sp := fun vs H Q _ => ∃ (s : Addr) (ns : List Int), vs = [.ref s] ∧ SqL K H s (ns.map V.int) ∧ ns.length ≤ 63 ∧ H tb = some (.tbl #[]) ∧ ∀ H', Q (.bl true) H'
theorem ok_law (T : Txt K mg a) (FL : FunL K "_law_refusals" "_law_refusals" s_law_refusals a.a_law_refusals a.fd_law_refusals (.ref a.c_lam)) (TB : TabB base mg a.c_lam a.P_lam) : FnOkG P w K mg base CX0 16 a.a_law a.fd_law ["_law_script"] (sp_law K a.P_lam) := by
  refine T.F_law.okG sc_law (fun vs H Q E h => ?_) (fun cdv A outer s H vs Q E hgd hr h => ?_)
  · obtain ⟨p, ns, rfl, _⟩ := h
    rfl
  · obtain ⟨sc, scr, rfl, hs, h63, htb, k⟩ := h
    refine ⟨_, (pss_cons (ps_for PassesOwn.never rfl (pi_range1 (by rfl) T.n_range (pa_cons (pe_callB (call_max2 rfl) (by rfl) T.n_max (by decide +kernel) (pa_cons pe_int (pa_cons (pe_callB (call_min2 rfl) (by rfl) T.n_min (by decide +kernel) (pa_cons (pe_callB call_len_seq (by rfl) T.n_len PySem.boot_len (pa_cons (pv 0) pa_nil)) (pa_cons pe_int pa_nil))) pa_nil))) pa_nil)) (pg_name (i := 1) sc_law.nd rfl (Or.inl rfl))
      (pss_cons (ps_set (i := 2) sc_law.nd rfl (Or.inl rfl) (pe_call (ok_law_opened T) (hr.mono (by decide)) rfl T.g__law_opened T.F_law_opened.kp T.b_law_opened .nil pass0 (pa_cons (pv 0) (pa_cons (pv 1) pa_nil))))
        (pss_cons (ps_par (i := 3) (j := 4) (by rfl) sc_law.nd rfl rfl (by decide) rfl rfl (pa_cons (pe_op op_add pe_int (pe_call (ok_law_draw T) (hr.mono (by decide)) rfl T.g__law_draw T.F_law_draw.kp T.b_law_draw .nil pass0 (pa_cons (pv 2) (pa_cons pe_int pa_nil)))) (pa_cons (pe_call (ok_law_pages T) (hr.mono (by decide)) rfl T.g__law_pages T.F_law_pages.kp T.b_law_pages .nil pass0 (pa_cons (pv 2) (pa_cons pe_int pa_nil))) pa_nil)) (by rfl))
        (pss_cons (ps_set (i := 5) sc_law.nd rfl (Or.inl rfl) (pe_call (ok_law_told T) (hr.mono (by decide)) rfl T.g__law_told T.F_law_told.kp T.b_law_told .nil pass0 (pa_cons (pv 2) (pa_cons (pv 3) (pa_cons (pv 4) pa_nil)))))
        (pss_cons (ps_set (i := 6) sc_law.nd rfl (Or.inl rfl) (pe_callTy call_list_of (by rfl) T.n_list (by decide +kernel) (pa_cons (pv 5) pa_nil)))
        (pss_cons (ps_par (i := 7) (j := 8) (by rfl) sc_law.nd rfl rfl (by decide) rfl rfl (pa_cons (pe_make T.mk_Tree (ok_Tree_init T) (hr.mono (by decide)) rfl T.g_Tree T.b_Tree_init .nil pass0 (pa_cons (pv 3) (pa_cons (pv 6) pa_nil))) (pa_cons (pe_make T.mk_Tree (ok_Tree_init T) (hr.mono (by decide)) rfl T.g_Tree T.b_Tree_init .nil pass0 (pa_cons (pv 3) (pa_cons (pe_callTy call_tuple_of (by rfl) T.n_tuple (by decide +kernel) (pa_cons (pv 5) pa_nil)) pa_nil))) pa_nil)) (by rfl))
        (pss_cons (ps_expr (pe_bm PySem.F.plainAttrs_list PySem.F.slot_list_append PySem.F.type_list_append mt_append (pv 6) (pa_cons pe_non pa_nil)))
        (pss_cons (ps_expr (pe_bm PySem.F.plainAttrs_list PySem.F.slot_list_append PySem.F.type_list_append mt_append (pe_prop (pv 7) T.cl_Tree T.p_Tree_told (ok_Tree_told T) (hr.mono (by decide)) T.b_Tree_told .nil pass0 rfl) (pa_cons pe_non pa_nil)))
        (pss_cons (ps_expr (pe_bm PySem.F.plainAttrs_list PySem.F.slot_list_append PySem.F.type_list_append mt_append (pe_meth (pv 7) T.cl_Tree T.m_Tree_way (ok_Tree_way T) (hr.mono (by decide)) T.b_Tree_way .nil pass0 (pa_cons pe_int pa_nil)) (pa_cons pe_non pa_nil)))
        (pss_cons (ps_if (PW.pt (pw_or (pt_not (pt_val (pe_callG (ok_law_tree_right T) hgd (hr.mono (by decide)) rfl T.g__law_tree_right T.F_law_tree_right.kp T.b_law_tree_right .nil pass0 (pa_cons (pv 7) (pa_cons (pv 3) (pa_cons (pv 5) pa_nil)))))) (pw_or (pt_not (pt_val (pe_callG (ok_law_tree_right T) hgd (hr.mono (by decide)) rfl T.g__law_tree_right T.F_law_tree_right.kp T.b_law_tree_right .nil pass0 (pa_cons (pv 8) (pa_cons (pv 3) (pa_cons (pv 5) pa_nil)))))) (pw_or1 (pt_cmpR (op_neOwn (ok_Tree_eq T) (hr.mono (by decide)) T.m_Tree_eq.at_ T.m_Tree_eq.fn T.ne_Tree T.hm_Tree T.b_Tree_eq pass0) (pv 7) (pv 8) (nomark _))))))
        (pss_one (ps_ret pe_bl))
        pss_nil)
        (pss_cons (ps_par (i := 9) (j := 10) (by rfl) sc_law.nd rfl rfl (by decide) rfl rfl (pa_cons (pe_op op_add pe_int (pe_call (ok_law_draw T) (hr.mono (by decide)) rfl T.g__law_draw T.F_law_draw.kp T.b_law_draw .nil pass0 (pa_cons (pv 2) (pa_cons (pe_op op_sub (pe_op op_mul pe_int (pv 4)) pe_int) pa_nil)))) (pa_cons (pe_call (ok_law_draw T) (hr.mono (by decide)) rfl T.g__law_draw T.F_law_draw.kp T.b_law_draw .nil pass0 (pa_cons (pv 2) (pa_cons (pe_op op_add (pv 3) pe_int) pa_nil))) pa_nil)) (by rfl))
        (pss_cons (ps_set (i := 11) sc_law.nd rfl (Or.inl rfl) (pe_op op_cat (pe_op op_cat (pe_slice sl_list (pv 5) po_none (po_some (pe_op op_sub (pv 9) pe_int))) (pe_lst (pa_cons (pv 10) pa_nil))) (pe_slice sl_list (pv 5) (po_some (pv 9)) po_none)))
        (pss_cons (ps_if (pt_not (pt_val (pe_callG (ok_law_tree_right T) hgd (hr.mono (by decide)) rfl T.g__law_tree_right T.F_law_tree_right.kp T.b_law_tree_right .nil pass0 (pa_cons (pe_meth (pv 7) T.cl_Tree T.m_Tree_with_told (ok_Tree_with_told T) (hr.mono (by decide)) T.b_Tree_with_told .nil pass0 (pa_cons (pv 9) (pa_cons (pv 10) pa_nil))) (pa_cons (pv 3) (pa_cons (pv 11) pa_nil))))))
        (pss_one (ps_ret pe_bl))
        pss_nil)
        (pss_cons (ps_if (PW.pt (pw_or (pt_cmpR op_ne (pe_cmpR (op_eqOwn (ok_Tree_eq T) (hr.mono (by decide)) T.m_Tree_eq.at_ T.m_Tree_eq.fn T.b_Tree_eq pass0) (pe_meth (pv 7) T.cl_Tree T.m_Tree_with_told (ok_Tree_with_told T) (hr.mono (by decide)) T.b_Tree_with_told .nil pass0 (pa_cons (pv 9) (pa_cons (pv 10) pa_nil))) (pv 7) (nomark _)) (pe_cmpR (op_eqD hr.units) (pv 11) (pv 5) (nomark _)) (nomark _)) (pw_or1 (pt_not (pt_val (pe_callG (ok_law_tree_right T) hgd (hr.mono (by decide)) rfl T.g__law_tree_right T.F_law_tree_right.kp T.b_law_tree_right .nil pass0 (pa_cons (pv 7) (pa_cons (pv 3) (pa_cons (pv 5) pa_nil)))))))))
        (pss_one (ps_ret pe_bl))
        pss_nil)
        (pss_cons (ps_if (PW.pt (pw_or (PW.pt (pw_and (pt_cmpR op_lt (pv 3) pe_int (nomark _)) (pw_and1 (pt_cmpR (op_eqOwn (ok_Tree_eq T) (hr.mono (by decide)) T.m_Tree_eq.at_ T.m_Tree_eq.fn T.b_Tree_eq pass0) (pv 7) (pe_make T.mk_Tree (ok_Tree_init T) (hr.mono (by decide)) rfl T.g_Tree T.b_Tree_init .nil pass0 (pa_cons (pe_op op_add (pv 3) pe_int) (pa_cons (pv 5) pa_nil))) (nomark _))))) (pw_or (pt_cmpR (op_eqOwnL (ok_Tree_eq T) (hr.mono (by decide)) T.m_Tree_eq.at_ T.m_Tree_eq.fn T.ksb_Tree_list T.ksb_Tree_dict T.b_Tree_eq pass0) (pv 7) (pv 5) (nomark _)) (pw_or1 (pt_not (pt_val (pe_callG (ok_law_refusals T FL TB) hgd (hr.mono (by decide)) rfl T.g__law_refusals T.F_law_refusals.kp T.b_law_refusals .nil pass0 (pa_cons (pv 7) (pa_cons (pv 3) (pa_cons (pv 4) pa_nil))))))))))
        (pss_one (ps_ret pe_bl))
        pss_nil)
        (pss_one (ps_if (PW.pt (pw_and (pt_cmpR op_gt (pv 4) pe_int (nomark _)) (pw_and1 (pt_cmpR (op_eqOwn (ok_Tree_eq T) (hr.mono (by decide)) T.m_Tree_eq.at_ T.m_Tree_eq.fn T.b_Tree_eq pass0) (pv 7) (pe_make T.mk_Tree (ok_Tree_init T) (hr.mono (by decide)) rfl T.g_Tree T.b_Tree_init .nil pass0 (pa_cons (pv 3) (pa_cons (pe_slice sl_list (pv 5) po_none (po_some (pe_op op_sub (pv 4) pe_int))) pa_nil))) (nomark _)))))
        (pss_one (ps_ret pe_bl))
        pss_nil)))))))))))))))))
      (pss_one (ps_ret pe_bl))), ?_⟩
    have T_ : Tabs (lamT a) H := fun q hq => by
      rw [List.mem_singleton.mp hq]
      exact TabS.nil htb
    refine ⟨_, rfl, sc, _, rfl, .inl hs, _, _, rfl, _, _, rfl, _, rfl, ?_, ?_, for_range (lo := 0) (n := _) (fun i σ H' => (∃ v1 v2 v3 v4 v5 v6 v7 v8 v9 v10 v11 : Option V, σ = [some (.ref sc), v1, v2, v3, v4, v5, v6, v7, v8, v9, v10, v11]) ∧ ExtN H H' ∧ Tabs (lamT a) H')
      ⟨⟨none, none, none, none, none, none, none, none, none, none, none, rfl⟩, ExtN.refl _, T_⟩ ?_ ?_⟩
    · split <;> split <;> omega
    · rw [List.length_map]; split <;> split <;> omega
    · rintro i σ H0 hi ⟨⟨v1, v2, v3, v4, v5, v6, v7, v8, v9, v10, v11, rfl⟩, x0, T0⟩
      have hi5 : i < 5 := by
        rw [List.length_map] at hi
        split at hi <;> split at hi <;> omega
      refine ⟨_, rfl, _, rfl, sc, _, scr, rfl, sql_ext hs x0, by omega, by omega, fun H1 p hp s1 p1 => ?_⟩
      refine ⟨_, rfl, p, 8, rfl, p1, by decide, by decide, fun H3 d0 d00 d01 b3 p3 => ⟨_, _, rfl, rfl, ?_⟩⟩
      refine ⟨_, rfl, p, rfl, p3, fun H4 n b4 p4 hn => ⟨_, _, rfl, ?_⟩⟩
      have c1 : 1 ≤ (1 + d0) := by omega
      have c8 : (1 + d0) ≤ 8 := by omega
      refine ⟨_, rfl, _, rfl, _, rfl, p, (1 + d0), n, rfl, p4, c1, c8, hn, fun H6 rl ts b6 p6 hrl nrp hr6 g => ?_⟩
      have n2 := g.n2
      have hlen := g.len
      have hml : (ts.map V.int).length = ts.length := List.length_map _
      have T6 : Tabs (lamT a) H6 := tabs_but (tabs_but (tabs_but (T0.ext s1) p1 b3) p3 b4) p4 b6
      -- given, the two trees
      refine ⟨_, rfl, rl, _, rfl, .inl (SqL.of hr6), fun gl hgl => ?_⟩
      have s7 : Same H6 (upd H6 gl (.lst (ts.map V.int))) := same_new hgl
      have g7 : (upd H6 gl (.lst (ts.map V.int))) gl = some (.lst (ts.map V.int)) := upd_same
      generalize (upd H6 gl (.lst (ts.map V.int))) = H7 at s7 g7
      refine ⟨_, rfl, _, rfl, fun x dx nx ndx nex => ?_⟩
      have s8' : Same H7 (upd (upd H7 dx (.own x)) x (.ins a.C_Tree dx [])) := fun b o e => by
        rw [upd_ne (ne_of_none e nx), upd_ne (ne_of_none e ndx)]; exact e
      refine ⟨x, dx, gl, (1 + d0), ts, n, false, rfl, upd_same, s8' _ _ g7, g, fun H8 b8 t8 => ⟨rfl, ?_⟩⟩
      have s8 : Same H7 H8 := fun b o e => b8 b o (ne_of_none e nx) (s8' _ _ e)
      refine ⟨_, rfl, _, rfl, rl, _, rfl, .inl ⟨SqL.of (s8 _ _ (s7 _ _ hr6)), fun u hu => ?_⟩⟩
      have s9 : Same H8 (upd H8 u (.tup (ts.map V.int))) := same_new hu
      have u9 : (upd H8 u (.tup (ts.map V.int))) u = some (.tup (ts.map V.int)) := upd_same
      generalize (upd H8 u (.tup (ts.map V.int))) = H9 at s9 u9
      intro x2 dx2 nx2 ndx2 nex2
      have s10' : Same H9 (upd (upd H9 dx2 (.own x2)) x2 (.ins a.C_Tree dx2 [])) := fun b o e => by
        rw [upd_ne (ne_of_none e nx2), upd_ne (ne_of_none e ndx2)]; exact e
      refine ⟨x2, dx2, u, (1 + d0), ts, n, true, rfl, upd_same, s10' _ _ u9, g, fun H10 b10 t10 => ⟨rfl, ⟨_, _, rfl, ?_⟩⟩⟩
      have s10 : Same H9 H10 := fun b o e => b10 b o (ne_of_none e nx2) (s10' _ _ e)
      have ta10 := t8.mono (s9.trans s10)
      have g10 := s10 _ _ (s9 _ _ (s8 _ _ g7))
      have s610 : Same H6 H10 := s7.trans (s8.trans (s9.trans s10))
      -- what was given is changed
      refine ⟨_, rfl, .inl ⟨rfl, _, SqL.of g10⟩, gl, _, _, rfl, rfl, g10, (by rw [hml]; exact Nat.lt_of_le_of_lt (show ts.length ≤ 100 by omega) (by decide)), ?_⟩
      have s611 : Same H6 (upd H10 gl (.lst (ts.map V.int ++ [.non]))) := fun b o e => by rw [upd_ne (ne_of_none e hgl)]; exact s610 _ _ e
      have ta11 : TreeAt a.C_Tree (upd H10 gl (.lst (ts.map V.int ++ [.non]))) x (1 + d0) ts := ta10.lst_upd g10
      have tb11 : TreeAt a.C_Tree (upd H10 gl (.lst (ts.map V.int ++ [.non]))) x2 (1 + d0) ts := t10.lst_upd g10
      generalize (upd H10 gl (.lst (ts.map V.int ++ [.non]))) = H11 at s611 ta11 tb11
      obtain ⟨dx11, tt11, hx11, _⟩ := id ta11
      refine ⟨_, rfl, x, dx11, _, rfl, hx11, x, (1 + d0), ts, rfl, ta11, fun H12 l12 s12 h12 h12' => ⟨.inl ⟨rfl, _, SqL.of h12'⟩, l12, _, _, rfl, rfl, h12', (by rw [hml]; exact Nat.lt_of_le_of_lt (show ts.length ≤ 100 by omega) (by decide)), ?_⟩⟩
      have s13 : Same H11 (upd H12 l12 (.lst (ts.map V.int ++ [.non]))) := fun b o e => by rw [upd_ne (ne_of_none e h12)]; exact s12 _ _ e
      generalize (upd H12 l12 (.lst (ts.map V.int ++ [.non]))) = H13 at s13
      have ta13 := ta11.mono s13
      obtain ⟨dx13, tt13, hx13, _⟩ := id ta13
      refine ⟨_, rfl, x, dx13, _, rfl, hx13, tf_no _ _ (by decide +kernel) (by decide +kernel), x, (1 + d0), ts, n, 0, rfl, ta13, g, by omega, fun H14 l14 s14 h14 h14' => ⟨.inl ⟨rfl, _, SqL.of h14'⟩, l14, _, _, rfl, rfl, h14', ?_, ?_⟩⟩
      · unfold iN way
        rw [List.length_map, List.length_reverse]
        have := anc_len (0 + n) (by omega)
        exact Nat.lt_of_le_of_lt (show _ ≤ 100 by omega) (by decide)
      have s15 : Same H13 (upd H14 l14 (.lst (iN (way (0 + n)) ++ [.non]))) := fun b o e => by rw [upd_ne (ne_of_none e h14)]; exact s14 _ _ e
      generalize (upd H14 l14 (.lst (iN (way (0 + n)) ++ [.non]))) = H15 at s15
      have s11_15 : Same H11 H15 := s13.trans s15
      have s6_15 : Same H6 H15 := s611.trans s11_15
      have ta15 := ta11.mono s11_15
      have tb15 := tb11.mono s11_15
      have hr15 := s6_15 _ _ hr6
      -- the first three questions
      refine ⟨_, rfl, _, rfl, _, rfl, x, rl, (1 + d0), ts, n, rfl, ta15, g, hr15, fun H16 s16 => ⟨_, rfl, iteF ?_⟩⟩
      refine ⟨_, rfl, _, rfl, _, rfl, x2, rl, (1 + d0), ts, n, rfl, tb15.mono s16, g, s16 _ _ hr15, fun H17 s17 => ⟨_, rfl, iteF ?_⟩⟩
      have s15_17 := s16.trans s17
      have ta17 := ta15.mono s15_17
      have tb17 := tb15.mono s15_17
      obtain ⟨dxa, tta, hxa, _⟩ := id ta17
      obtain ⟨dxb, ttb, hxb, _⟩ := id tb17
      refine ⟨_, rfl, _, rfl, x, x2, dxa, dxb, _, _, rfl, rfl, hxa, hxb, x, (1 + d0), ts, ta17, .inl ⟨x2, (1 + d0), ts, rfl, tb17, _, rfl, _, rfl, ?_⟩⟩
      rw [decide_eq_true (show (1 + d0) = (1 + d0) ∧ ts = ts from ⟨rfl, rfl⟩)]
      refine iteF ?_
      have s6_17 := s6_15.trans s15_17
      have p17 := p6.mono s6_17
      have T17 := T6.ext s6_17
      have hr17 := s6_17 _ _ hr6
      -- a node, a class
      refine ⟨_, rfl, _, rfl, _, _, rfl, rfl, .inl ⟨by decide, by decide⟩, _, _, rfl, rfl, p, 2 * ((n : Nat) : Int) - 1, rfl, p17, by omega, by omega, fun H18 d d1 d2 b18 p18 => ⟨_, _, rfl, rfl, ?_⟩⟩
      refine ⟨_, rfl, _, rfl, _, _, rfl, rfl, p, (1 + d0) + 1, rfl, p18, by omega, by omega, fun H19 t t0 t1 b19 p19 => ⟨_, _, rfl, ?_⟩⟩
      obtain ⟨j, hj⟩ : ∃ j : Nat, ((j : Nat) : Int) = 1 + d := ⟨(1 + d).toNat, by omega⟩
      have j1 : 1 ≤ j := by omega
      have j2 : j ≤ ts.length := by omega
      have tc : t ≤ (1 + d0) := by omega
      have ta19 := (ta17.but p17 b18).but p18 b19
      have T19 := tabs_but (tabs_but T17 p17 b18) p18 b19
      have hr19 := b19 _ _ nrp (b18 _ _ nrp hr17)
      -- later
      refine ⟨_, rfl, _, rfl, _, _, rfl, rfl, _, rfl, rl, _, rfl, SqL.of hr19, fun p20 h20 => ?_⟩
      generalize e20 : upd _ p20 _ = H20
      have q20 := (congrFun e20 p20).symm.trans upd_same
      have t20 : Same H19 H20 := by rw [← e20]; exact same_new h20
      clear e20
      rw [show (1 + d - 1 : Int) = ((j - 1 : Nat) : Int) by omega, cut_to _ _ (by rw [hml]; omega), ← List.map_take] at q20
      refine ⟨_, rfl, (by show 1 ≤ sizeLine; decide), fun p21 h21 => ?_⟩
      generalize e21 : upd _ p21 _ = H21
      have q21 := (congrFun e21 p21).symm.trans upd_same
      have t21 : Same H20 H21 := by rw [← e21]; exact same_new h21
      clear e21
      refine ⟨p20, p21, _, _, rfl, rfl, t21 _ _ q20, q21, ?_, fun p22 h22 => ?_⟩
      · rw [List.length_map, List.length_take]
        exact Nat.le_trans (show _ ≤ 200 by simp only [List.length_cons, List.length_nil]; omega) (by decide)
      generalize e22 : upd _ p22 _ = H22
      have q22 := (congrFun e22 p22).symm.trans upd_same
      have t22 : Same H21 H22 := by rw [← e22]; exact same_new h22
      clear e22
      have hr22 := t22 _ _ (t21 _ _ (t20 _ _ hr19))
      refine ⟨_, rfl, _, rfl, _, rfl, rl, _, rfl, SqL.of hr22, fun p23 h23 => ?_⟩
      generalize e23 : upd _ p23 _ = H23
      have q23 := (congrFun e23 p23).symm.trans upd_same
      have t23 : Same H22 H23 := by rw [← e23]; exact same_new h23
      clear e23
      rw [← hj, cut_from _ _ (by rw [hml]; omega), ← List.map_drop] at q23
      refine ⟨p22, p23, _, _, rfl, rfl, t23 _ _ q22, q23, ?_, fun p24 h24 => ?_⟩
      · simp only [List.length_append, List.length_map, List.length_take, List.length_drop, List.length_cons, List.length_nil]
        exact Nat.le_trans (show _ ≤ 200 by omega) (by decide)
      generalize e24 : upd _ p24 _ = H24
      have q24 := (congrFun e24 p24).symm.trans upd_same
      have t24 : Same H23 H24 := by rw [← e24]; exact same_new h24
      clear e24
      rw [set_cut j1 j2] at q24
      have s19_24 := t20.trans (t21.trans (t22.trans (t23.trans t24)))
      have ta24 := ta19.mono s19_24
      have gs := set_told g (k := j) t0 tc
      have T24 := T19.ext s19_24
      have hr24 := s19_24 _ _ hr19
      obtain ⟨dx24, tt24, hx24, _⟩ := id ta24
      refine ⟨_, rfl, x, dx24, _, rfl, hx24, tf_no _ _ (by decide +kernel) (by decide +kernel), _, rfl, _, rfl, x, (1 + d0), t, ts, n, j, (by rw [hj] <;> rfl), ta24, g, j1, j2, t0, tc, fun H25 y s25 hy25 ty25 => ?_⟩
      refine ⟨_, rfl, _, rfl, y, p24, (1 + d0), ts.set (j - 1) t, n, rfl, ty25, gs, s25 _ _ q24, fun H26 s26 => ⟨_, rfl, iteF ?_⟩⟩
      have s24_26 := s25.trans s26
      have ta26 := ta24.mono s24_26
      obtain ⟨dx26, tt26, hx26, _⟩ := id ta26
      refine ⟨_, rfl, x, dx26, _, rfl, hx26, tf_no _ _ (by decide +kernel) (by decide +kernel), _, rfl, _, rfl, x, (1 + d0), t, ts, n, j, (by rw [hj] <;> rfl), ta26, g, j1, j2, t0, tc, fun H27 y2 s27 hy27 ty27 => ?_⟩
      have ta27 := ta26.mono s27
      obtain ⟨dx27, tt27, hx27, _⟩ := id ta27
      obtain ⟨dy27, ty27', hy27', _⟩ := id ty27
      refine ⟨_, rfl, y2, x, dy27, dx27, _, _, rfl, rfl, hy27', hx27, y2, (1 + d0), ts.set (j - 1) t, ty27, .inl ⟨x, (1 + d0), ts, rfl, ta27, _, rfl, ?_⟩⟩
      have q27 := s27 _ _ (s24_26 _ _ q24)
      have hr27 := s27 _ _ (s24_26 _ _ hr24)
      refine ⟨_, rfl, _, rfl, req_ints (SqL.of q27) (SqL.of hr27) ⟨rfl, _, rfl, ?_⟩⟩
      have eb : decide ((1 + d0) = (1 + d0) ∧ ts.set (j - 1) t = ts) = decide (ts.set (j - 1) t = ts) := by simp
      rw [eb]
      refine iteNS rfl ?_
      refine ⟨_, rfl, _, rfl, _, rfl, x, rl, (1 + d0), ts, n, rfl, ta27, g, hr27, fun H28 s28 => ⟨_, rfl, iteF ?_⟩⟩
      have ta28 := ta27.mono s28
      have hr28 := s28 _ _ hr27
      have T28 := T24.ext (s24_26.trans (s27.trans s28))
      -- not equal to a tree of more classes; to the row; refusals
      refine ⟨_, rfl, _, _, rfl, rfl, _, rfl, ?_⟩
      by_cases c9 : (1 + d0) < 8
      · rw [decide_eq_true c9]
        refine iteT ?_
        refine ⟨_, rfl, _, rfl, _, _, rfl, rfl, _, rfl, fun x3 dx3 nx3 ndx3 nex3 => ?_⟩
        have s29' : Same H28 (upd (upd H28 dx3 (.own x3)) x3 (.ins a.C_Tree dx3 [])) := fun b o e => by
          rw [upd_ne (ne_of_none e nx3), upd_ne (ne_of_none e ndx3)]; exact e
        refine ⟨x3, dx3, rl, (1 + d0) + 1, ts, n, false, rfl, upd_same, s29' _ _ hr28, told_up g c9, fun H29 b29 t29 => ⟨rfl, ?_⟩⟩
        have s29 : Same H28 H29 := fun b o e => b29 b o (ne_of_none e nx3) (s29' _ _ e)
        have ta29 := ta28.mono s29
        obtain ⟨dx29, tt29, hx29, _⟩ := id ta29
        obtain ⟨dz29, tz29, hz29, _⟩ := id t29
        refine ⟨x, x3, dx29, dz29, _, _, rfl, rfl, hx29, hz29, x, (1 + d0), ts, ta29, .inl ⟨x3, (1 + d0) + 1, ts, rfl, t29, _, rfl, _, rfl, ?_⟩⟩
        rw [decide_eq_false (show ¬ ((1 + d0) = (1 + d0) + 1 ∧ ts = ts) from fun z => by have := z.1; omega)]
        refine iteF ?_
        have hr29 := s29 _ _ hr28
        refine ⟨_, rfl, _, rfl, x, rl, dx29, _, rfl, rfl, hx29, .inl ⟨_, hr29⟩, x, (1 + d0), ts, ta29, .inr ⟨rl, _, rfl, hr29, _, rfl, _, rfl, iteF ?_⟩⟩
        refine ⟨_, rfl, _, rfl, _, rfl, x, (1 + d0), ts, n, rfl, ta29, g, T28.ext s29, fun H30 x30 T30 => ⟨_, rfl, iteF ?_⟩⟩
        have ta30 := ta29.ext x30
        have hr30 := ext_lst x30 hr29
        have fin : ∀ H', ExtN H30 H' → ExtN H H' := fun H' xx b o e nt => by
          have e0 := x0 b o e nt
          have nb : b ≠ p := ne_of_none e0 hp
          have e6 := b6 b o nb (b4 b o nb (b3 b o nb (s1 _ _ e0)))
          have e19 := b19 b o nb (b18 b o nb (s6_17 _ _ e6))
          exact xx b o (x30 b o (s29 _ _ (s28 _ _ (s27 _ _ (s24_26 _ _ (s19_24 _ _ e19))))) nt) nt
        refine ⟨_, rfl, _, _, rfl, rfl, _, rfl, ?_⟩
        by_cases n9 : (2 : Int) < ((n : Nat) : Int)
        · rw [decide_eq_true n9]
          refine iteT ?_
          refine ⟨_, rfl, _, rfl, _, rfl, _, rfl, _, _, rfl, rfl, _, rfl, rl, _, rfl, SqL.of hr30, fun p31 h31 => ?_⟩
          generalize e31 : upd _ p31 _ = H31
          have q31 := (congrFun e31 p31).symm.trans upd_same
          have t31 : Same H30 H31 := by rw [← e31]; exact same_new h31
          clear e31
          rw [show (((n : Nat) : Int) - 1 : Int) = ((n - 1 : Nat) : Int) by omega, cut_to _ _ (by rw [hml]; omega), ← List.map_take] at q31
          intro x4 dx4 nx4 ndx4 nex4
          have s32' : Same H31 (upd (upd H31 dx4 (.own x4)) x4 (.ins a.C_Tree dx4 [])) := fun b o e => by
            rw [upd_ne (ne_of_none e nx4), upd_ne (ne_of_none e ndx4)]; exact e
          refine ⟨x4, dx4, p31, (1 + d0), ts.take (n - 1), n / 2, false, rfl, upd_same, s32' _ _ q31, half_told g (by omega), fun H32 b32 t32 => ⟨rfl, ?_⟩⟩
          have s32 : Same H31 H32 := fun b o e => b32 b o (ne_of_none e nx4) (s32' _ _ e)
          have s30_32 := t31.trans s32
          have ta32 := ta30.mono s30_32
          obtain ⟨dx32, tt32, hx32, _⟩ := id ta32
          obtain ⟨dz32, tz32, hz32, _⟩ := id t32
          refine ⟨x, x4, dx32, dz32, _, _, rfl, rfl, hx32, hz32, x, (1 + d0), ts, ta32, .inl ⟨x4, (1 + d0), ts.take (n - 1), rfl, t32, _, rfl, _, rfl, ?_⟩⟩
          rw [decide_eq_false (show ¬ ((1 + d0) = (1 + d0) ∧ ts = ts.take (n - 1)) from fun z => by
            have := congrArg List.length z.2
            rw [List.length_take] at this
            omega)]
          refine iteF ?_
          exact ⟨⟨_, _, _, _, _, _, _, _, _, _, _, rfl⟩, fin _ (ext_of s30_32), T30.ext s30_32⟩
        · rw [decide_eq_false n9]
          refine iteF (iteF ?_)
          exact ⟨⟨_, _, _, _, _, _, _, _, _, _, _, rfl⟩, fin _ (ExtN.refl _), T30⟩
      · rw [decide_eq_false c9]
        refine iteF (iteF ?_)
        obtain ⟨H29, e29, s29⟩ : ∃ H29, H29 = H28 ∧ Same H28 H29 := ⟨_, rfl, Same.refl _⟩
        rw [← e29]
        have ta29 := ta28.mono s29
        obtain ⟨dx29, tt29, hx29, _⟩ := id ta29
        have hr29 := s29 _ _ hr28
        refine ⟨_, rfl, _, rfl, x, rl, dx29, _, rfl, rfl, hx29, .inl ⟨_, hr29⟩, x, (1 + d0), ts, ta29, .inr ⟨rl, _, rfl, hr29, _, rfl, _, rfl, iteF ?_⟩⟩
        refine ⟨_, rfl, _, rfl, _, rfl, x, (1 + d0), ts, n, rfl, ta29, g, T28.ext s29, fun H30 x30 T30 => ⟨_, rfl, iteF ?_⟩⟩
        have ta30 := ta29.ext x30
        have hr30 := ext_lst x30 hr29
        have fin : ∀ H', ExtN H30 H' → ExtN H H' := fun H' xx b o e nt => by
          have e0 := x0 b o e nt
          have nb : b ≠ p := ne_of_none e0 hp
          have e6 := b6 b o nb (b4 b o nb (b3 b o nb (s1 _ _ e0)))
          have e19 := b19 b o nb (b18 b o nb (s6_17 _ _ e6))
          exact xx b o (x30 b o (s29 _ _ (s28 _ _ (s27 _ _ (s24_26 _ _ (s19_24 _ _ e19))))) nt) nt
        refine ⟨_, rfl, _, _, rfl, rfl, _, rfl, ?_⟩
        by_cases n9 : (2 : Int) < ((n : Nat) : Int)
        · rw [decide_eq_true n9]
          refine iteT ?_
          refine ⟨_, rfl, _, rfl, _, rfl, _, rfl, _, _, rfl, rfl, _, rfl, rl, _, rfl, SqL.of hr30, fun p31 h31 => ?_⟩
          generalize e31 : upd _ p31 _ = H31
          have q31 := (congrFun e31 p31).symm.trans upd_same
          have t31 : Same H30 H31 := by rw [← e31]; exact same_new h31
          clear e31
          rw [show (((n : Nat) : Int) - 1 : Int) = ((n - 1 : Nat) : Int) by omega, cut_to _ _ (by rw [hml]; omega), ← List.map_take] at q31
          intro x4 dx4 nx4 ndx4 nex4
          have s32' : Same H31 (upd (upd H31 dx4 (.own x4)) x4 (.ins a.C_Tree dx4 [])) := fun b o e => by
            rw [upd_ne (ne_of_none e nx4), upd_ne (ne_of_none e ndx4)]; exact e
          refine ⟨x4, dx4, p31, (1 + d0), ts.take (n - 1), n / 2, false, rfl, upd_same, s32' _ _ q31, half_told g (by omega), fun H32 b32 t32 => ⟨rfl, ?_⟩⟩
          have s32 : Same H31 H32 := fun b o e => b32 b o (ne_of_none e nx4) (s32' _ _ e)
          have s30_32 := t31.trans s32
          have ta32 := ta30.mono s30_32
          obtain ⟨dx32, tt32, hx32, _⟩ := id ta32
          obtain ⟨dz32, tz32, hz32, _⟩ := id t32
          refine ⟨x, x4, dx32, dz32, _, _, rfl, rfl, hx32, hz32, x, (1 + d0), ts, ta32, .inl ⟨x4, (1 + d0), ts.take (n - 1), rfl, t32, _, rfl, _, rfl, ?_⟩⟩
          rw [decide_eq_false (show ¬ ((1 + d0) = (1 + d0) ∧ ts = ts.take (n - 1)) from fun z => by
            have := congrArg List.length z.2
            rw [List.length_take] at this
            omega)]
          refine iteF ?_
          exact ⟨⟨_, _, _, _, _, _, _, _, _, _, _, rfl⟩, fin _ (ext_of s30_32), T30.ext s30_32⟩
        · rw [decide_eq_false n9]
          refine iteF (iteF ?_)
          exact ⟨⟨_, _, _, _, _, _, _, _, _, _, _, rfl⟩, fin _ (ExtN.refl _), T30⟩
    · rintro σ H' ⟨_, _, _⟩
      exact k _
end
end Rt
set_option maxHeartbeats 8000000
namespace Rt
open PySem L2

theorem all_mk {l : PySem.W.OpenLaw} {w : World} {K : PySem.W.Frag} {h : Heap} {mg : Str → Option Value} {fa C_Tree C_RoomError C_BadPage i_BadPage N_BadPage C_BadNode i_BadNode N_BadNode C_BadClass i_BadClass N_BadClass C_BadSize i_BadSize N_BadSize C_BadRooms i_BadRooms N_BadRooms C_BadTree i_BadTree N_BadTree C_BadArgument i_BadArgument N_BadArgument f_is_integer f_are_integers f_are_told f_Tree_init f_Tree_told f_Tree_len f_Tree_getitem f_Tree_leaf f_Tree_way f_Tree_greater f_Tree_with_told f_Tree_eq f_law_opened f_law_draw f_law_told f_law_pages f_law_way f_law_greater f_law_refused f_law_tree_right f_law_refusals f_law pp_Tree_told t_NODES c_lam P_lam : Addr} (X : K.In h) (G : h.Ns mainGlobals mg) (hfa : mg "law" = some (.ref fa))
    {od_is_integer an_is_integer od_are_integers an_are_integers od_are_told an_are_told od_Tree_init an_Tree_init od_Tree_told an_Tree_told od_Tree_len an_Tree_len od_Tree_getitem an_Tree_getitem od_Tree_leaf an_Tree_leaf od_Tree_way an_Tree_way od_Tree_greater an_Tree_greater od_Tree_with_told an_Tree_with_told od_Tree_eq an_Tree_eq od_law_opened an_law_opened od_law_draw an_law_draw od_law_told an_law_told od_law_pages an_law_pages od_law_way an_law_way od_law_greater an_law_greater od_law_refused an_law_refused od_law_tree_right an_law_tree_right od_law_refusals an_law_refusals od_law an_law : Option Addr} {sl_is_integer sl_are_integers sl_are_told sl_Tree_init sl_Tree_told sl_Tree_len sl_Tree_getitem sl_Tree_leaf sl_Tree_way sl_Tree_greater sl_Tree_with_told sl_Tree_eq sl_law_opened sl_law_draw sl_law_told sl_law_pages sl_law_way sl_law_greater sl_law_refused sl_law_tree_right sl_law_refusals sl_law : Array (Option Value)} {oc_is_integer kV_is_integer dc_is_integer pm_is_integer cd_is_integer ct_is_integer oc_are_integers kV_are_integers dc_are_integers pm_are_integers cd_are_integers ct_are_integers oc_are_told kV_are_told dc_are_told pm_are_told cd_are_told ct_are_told oc_Tree_init kV_Tree_init dc_Tree_init pm_Tree_init cd_Tree_init ct_Tree_init oc_Tree_told kV_Tree_told dc_Tree_told pm_Tree_told cd_Tree_told ct_Tree_told oc_Tree_len kV_Tree_len dc_Tree_len pm_Tree_len cd_Tree_len ct_Tree_len oc_Tree_getitem kV_Tree_getitem dc_Tree_getitem pm_Tree_getitem cd_Tree_getitem ct_Tree_getitem oc_Tree_leaf kV_Tree_leaf dc_Tree_leaf pm_Tree_leaf cd_Tree_leaf ct_Tree_leaf oc_Tree_way kV_Tree_way dc_Tree_way pm_Tree_way cd_Tree_way ct_Tree_way oc_Tree_greater kV_Tree_greater dc_Tree_greater pm_Tree_greater cd_Tree_greater ct_Tree_greater oc_Tree_with_told kV_Tree_with_told dc_Tree_with_told pm_Tree_with_told cd_Tree_with_told ct_Tree_with_told oc_Tree_eq kV_Tree_eq dc_Tree_eq pm_Tree_eq cd_Tree_eq ct_Tree_eq oc_law_opened kV_law_opened dc_law_opened pm_law_opened cd_law_opened ct_law_opened oc_law_draw kV_law_draw dc_law_draw pm_law_draw cd_law_draw ct_law_draw oc_law_told kV_law_told dc_law_told pm_law_told cd_law_told ct_law_told oc_law_pages kV_law_pages dc_law_pages pm_law_pages cd_law_pages ct_law_pages oc_law_way kV_law_way dc_law_way pm_law_way cd_law_way ct_law_way oc_law_greater kV_law_greater dc_law_greater pm_law_greater cd_law_greater ct_law_greater oc_law_refused kV_law_refused dc_law_refused pm_law_refused cd_law_refused ct_law_refused oc_law_tree_right kV_law_tree_right dc_law_tree_right pm_law_tree_right cd_law_tree_right ct_law_tree_right oc_law_refusals kV_law_refusals dc_law_refusals pm_law_refusals cd_law_refusals ct_law_refusals oc_law kV_law dc_law pm_law cd_law ct_law : Value} {tk_MOST_CLASSES : Tok}
    {u0_NODES u1_NODES u2_NODES u3_NODES u4_NODES : Tok} {dt_NODES : Option Addr} {nt_NODES : Nat} {st_NODES : Array (Option Value)}
    {rest_Tree_told : List Value}
    {nm_BadPage q_BadPage nm_BadNode q_BadNode nm_BadClass q_BadClass nm_BadSize q_BadSize nm_BadRooms q_BadRooms nm_BadTree q_BadTree nm_BadArgument q_BadArgument : Str} {bs_BadPage sub_BadPage bs_BadNode sub_BadNode bs_BadClass sub_BadClass bs_BadSize sub_BadSize bs_BadRooms sub_BadRooms bs_BadTree sub_BadTree bs_BadArgument sub_BadArgument : List Value} {sn_BadPage sn_BadNode sn_BadClass sn_BadSize sn_BadRooms sn_BadTree sn_BadArgument : List Str} {ab_BadPage ab_BadNode ab_BadClass ab_BadSize ab_BadRooms ab_BadTree ab_BadArgument : Bool} {col_BadPage col_BadNode col_BadClass col_BadSize col_BadRooms col_BadTree col_BadArgument : Option Bool} {dd_BadPage od_BadPage an_BadPage dd_BadNode od_BadNode an_BadNode dd_BadClass od_BadClass an_BadClass dd_BadSize od_BadSize an_BadSize dd_BadRooms od_BadRooms an_BadRooms dd_BadTree od_BadTree an_BadTree dd_BadArgument od_BadArgument an_BadArgument : Option Addr}
    {m0_BadPage m1_BadPage m2_BadPage m3_BadPage m5_BadPage m0_BadNode m1_BadNode m2_BadNode m3_BadNode m5_BadNode m0_BadClass m1_BadClass m2_BadClass m3_BadClass m5_BadClass m0_BadSize m1_BadSize m2_BadSize m3_BadSize m5_BadSize m0_BadRooms m1_BadRooms m2_BadRooms m3_BadRooms m5_BadRooms m0_BadTree m1_BadTree m2_BadTree m3_BadTree m5_BadTree m0_BadArgument m1_BadArgument m2_BadArgument m3_BadArgument m5_BadArgument : Option Value} {sl_BadPage sl_BadNode sl_BadClass sl_BadSize sl_BadRooms sl_BadTree sl_BadArgument : Array (Option Value)} {oc_BadPage dc_BadPage pm_BadPage cd_BadPage ct_BadPage oc_BadNode dc_BadNode pm_BadNode cd_BadNode ct_BadNode oc_BadClass dc_BadClass pm_BadClass cd_BadClass ct_BadClass oc_BadSize dc_BadSize pm_BadSize cd_BadSize ct_BadSize oc_BadRooms dc_BadRooms pm_BadRooms cd_BadRooms ct_BadRooms oc_BadTree dc_BadTree pm_BadTree cd_BadTree ct_BadTree oc_BadArgument dc_BadArgument pm_BadArgument cd_BadArgument ct_BadArgument : Value}
    {oc_lamc : Value} {od_lamc : Option Addr} {vs_lamc : Array Value} {sl_lamc : Array (Option Value)}
    (aC_Tree : PySem.W.nsIn K mainGlobals "Tree" = some (some (.ref C_Tree)))
    (aC_RoomError : PySem.W.nsIn K mainGlobals "RoomError" = some (some (.ref C_RoomError)))
    (aC_BadPage : PySem.W.nsIn K mainGlobals "BadPage" = some (some (.ref C_BadPage)))
    (aC_BadNode : PySem.W.nsIn K mainGlobals "BadNode" = some (some (.ref C_BadNode)))
    (aC_BadClass : PySem.W.nsIn K mainGlobals "BadClass" = some (some (.ref C_BadClass)))
    (aC_BadSize : PySem.W.nsIn K mainGlobals "BadSize" = some (some (.ref C_BadSize)))
    (aC_BadRooms : PySem.W.nsIn K mainGlobals "BadRooms" = some (some (.ref C_BadRooms)))
    (aC_BadTree : PySem.W.nsIn K mainGlobals "BadTree" = some (some (.ref C_BadTree)))
    (aC_BadArgument : PySem.W.nsIn K mainGlobals "BadArgument" = some (some (.ref C_BadArgument)))
    (xL_BadPage : K.lookup C_BadPage = some (excClassObj nm_BadPage q_BadPage C_BadPage N_BadPage bs_BadPage [.ref C_RoomError, .type "ValueError", .type "Exception", .type "BaseException", .type "object"] true sn_BadPage sub_BadPage ab_BadPage col_BadPage dd_BadPage m0_BadPage m1_BadPage m2_BadPage m3_BadPage m5_BadPage "ValueError.__new__"))
    (sa_BadPage : PySem.W.findIn K (.ref C_BadPage) "__setattr__" = some (some (.builtin "object.__setattr__")))
    (ga_BadPage : PySem.W.findIn K (.ref C_BadPage) "__getattribute__" = some (some (.builtin "BaseException.__getattribute__")))
    (gg_BadPage : PySem.W.findIn K (.ref C_BadPage) "__getattr__" = some none)
    (nb_BadPage : PySem.W.findIn K (.ref C_BadPage) "number" = some none)
    (a1_BadPage : PySem.W.findIn K (.ref C_BadPage) "__init__" = some (some (.ref i_BadPage)))
    (t1_BadPage : PySem.W.typeIn K (.ref i_BadPage) = some (.type "function"))
    (l1_BadPage : K.lookup i_BadPage = some ⟨oc_BadPage, od_BadPage, .func (PySem.W.fnOf "__init__" "BadPage.__init__" (PySem.ErrX_number.iA ⟨17, 17, 17, 21⟩ ⟨17, 23, 17, 29⟩) (PySem.ErrX_number.iB ⟨18, 8, 18, 12⟩ ⟨18, 8, 18, 19⟩ ⟨18, 22, 18, 28⟩ ⟨18, 8, 18, 28⟩) PySem.ErrX_number.iS .none .none dc_BadPage pm_BadPage an_BadPage cd_BadPage ct_BadPage), sl_BadPage⟩)
    (c1_BadPage : PySem.W.codeIn K cd_BadPage "BadPage.__init__" = true)
    (kC_BadPage : PySem.W.keepIn K (.ref C_BadPage) = true)
    (eC_BadPage : PySem.W.subIn K (.ref C_BadPage) (.type "BaseException") = some true)
    (tC_BadPage : PySem.W.typeIn K (.ref C_BadPage) = some (.type "type"))
    (hC_BadPage : PySem.W.hasDictIn K C_BadPage = true)
    (iC_BadPage : PySem.W.isClsIn K C_BadPage = true)
    (sC_BadPage : PySem.W.subIn K (.ref C_BadPage) (.ref C_BadPage) = some true)
    (xL_BadNode : K.lookup C_BadNode = some (excClassObj nm_BadNode q_BadNode C_BadNode N_BadNode bs_BadNode [.ref C_RoomError, .type "ValueError", .type "Exception", .type "BaseException", .type "object"] true sn_BadNode sub_BadNode ab_BadNode col_BadNode dd_BadNode m0_BadNode m1_BadNode m2_BadNode m3_BadNode m5_BadNode "ValueError.__new__"))
    (sa_BadNode : PySem.W.findIn K (.ref C_BadNode) "__setattr__" = some (some (.builtin "object.__setattr__")))
    (ga_BadNode : PySem.W.findIn K (.ref C_BadNode) "__getattribute__" = some (some (.builtin "BaseException.__getattribute__")))
    (gg_BadNode : PySem.W.findIn K (.ref C_BadNode) "__getattr__" = some none)
    (nb_BadNode : PySem.W.findIn K (.ref C_BadNode) "number" = some none)
    (a1_BadNode : PySem.W.findIn K (.ref C_BadNode) "__init__" = some (some (.ref i_BadNode)))
    (t1_BadNode : PySem.W.typeIn K (.ref i_BadNode) = some (.type "function"))
    (l1_BadNode : K.lookup i_BadNode = some ⟨oc_BadNode, od_BadNode, .func (PySem.W.fnOf "__init__" "BadNode.__init__" (PySem.ErrX_number.iA ⟨21, 17, 21, 21⟩ ⟨21, 23, 21, 29⟩) (PySem.ErrX_number.iB ⟨22, 8, 22, 12⟩ ⟨22, 8, 22, 19⟩ ⟨22, 22, 22, 28⟩ ⟨22, 8, 22, 28⟩) PySem.ErrX_number.iS .none .none dc_BadNode pm_BadNode an_BadNode cd_BadNode ct_BadNode), sl_BadNode⟩)
    (c1_BadNode : PySem.W.codeIn K cd_BadNode "BadNode.__init__" = true)
    (kC_BadNode : PySem.W.keepIn K (.ref C_BadNode) = true)
    (eC_BadNode : PySem.W.subIn K (.ref C_BadNode) (.type "BaseException") = some true)
    (tC_BadNode : PySem.W.typeIn K (.ref C_BadNode) = some (.type "type"))
    (hC_BadNode : PySem.W.hasDictIn K C_BadNode = true)
    (iC_BadNode : PySem.W.isClsIn K C_BadNode = true)
    (sC_BadNode : PySem.W.subIn K (.ref C_BadNode) (.ref C_BadNode) = some true)
    (mu_BadNode_BadPage : PySem.W.subIn K (.ref C_BadNode) (.ref C_BadPage) = some false)
    (xL_BadClass : K.lookup C_BadClass = some (excClassObj nm_BadClass q_BadClass C_BadClass N_BadClass bs_BadClass [.ref C_RoomError, .type "ValueError", .type "Exception", .type "BaseException", .type "object"] true sn_BadClass sub_BadClass ab_BadClass col_BadClass dd_BadClass m0_BadClass m1_BadClass m2_BadClass m3_BadClass m5_BadClass "ValueError.__new__"))
    (sa_BadClass : PySem.W.findIn K (.ref C_BadClass) "__setattr__" = some (some (.builtin "object.__setattr__")))
    (ga_BadClass : PySem.W.findIn K (.ref C_BadClass) "__getattribute__" = some (some (.builtin "BaseException.__getattribute__")))
    (gg_BadClass : PySem.W.findIn K (.ref C_BadClass) "__getattr__" = some none)
    (nb_BadClass : PySem.W.findIn K (.ref C_BadClass) "value" = some none)
    (a1_BadClass : PySem.W.findIn K (.ref C_BadClass) "__init__" = some (some (.ref i_BadClass)))
    (t1_BadClass : PySem.W.typeIn K (.ref i_BadClass) = some (.type "function"))
    (l1_BadClass : K.lookup i_BadClass = some ⟨oc_BadClass, od_BadClass, .func (PySem.W.fnOf "__init__" "BadClass.__init__" (PySem.ErrX_value.iA ⟨25, 17, 25, 21⟩ ⟨25, 23, 25, 28⟩) (PySem.ErrX_value.iB ⟨26, 8, 26, 12⟩ ⟨26, 8, 26, 18⟩ ⟨26, 21, 26, 26⟩ ⟨26, 8, 26, 26⟩) PySem.ErrX_value.iS .none .none dc_BadClass pm_BadClass an_BadClass cd_BadClass ct_BadClass), sl_BadClass⟩)
    (c1_BadClass : PySem.W.codeIn K cd_BadClass "BadClass.__init__" = true)
    (kC_BadClass : PySem.W.keepIn K (.ref C_BadClass) = true)
    (eC_BadClass : PySem.W.subIn K (.ref C_BadClass) (.type "BaseException") = some true)
    (tC_BadClass : PySem.W.typeIn K (.ref C_BadClass) = some (.type "type"))
    (hC_BadClass : PySem.W.hasDictIn K C_BadClass = true)
    (iC_BadClass : PySem.W.isClsIn K C_BadClass = true)
    (sC_BadClass : PySem.W.subIn K (.ref C_BadClass) (.ref C_BadClass) = some true)
    (mu_BadClass_BadPage : PySem.W.subIn K (.ref C_BadClass) (.ref C_BadPage) = some false)
    (mu_BadClass_BadNode : PySem.W.subIn K (.ref C_BadClass) (.ref C_BadNode) = some false)
    (xL_BadSize : K.lookup C_BadSize = some (excClassObj nm_BadSize q_BadSize C_BadSize N_BadSize bs_BadSize [.ref C_RoomError, .type "ValueError", .type "Exception", .type "BaseException", .type "object"] true sn_BadSize sub_BadSize ab_BadSize col_BadSize dd_BadSize m0_BadSize m1_BadSize m2_BadSize m3_BadSize m5_BadSize "ValueError.__new__"))
    (sa_BadSize : PySem.W.findIn K (.ref C_BadSize) "__setattr__" = some (some (.builtin "object.__setattr__")))
    (ga_BadSize : PySem.W.findIn K (.ref C_BadSize) "__getattribute__" = some (some (.builtin "BaseException.__getattribute__")))
    (gg_BadSize : PySem.W.findIn K (.ref C_BadSize) "__getattr__" = some none)
    (nb_BadSize : PySem.W.findIn K (.ref C_BadSize) "value" = some none)
    (a1_BadSize : PySem.W.findIn K (.ref C_BadSize) "__init__" = some (some (.ref i_BadSize)))
    (t1_BadSize : PySem.W.typeIn K (.ref i_BadSize) = some (.type "function"))
    (l1_BadSize : K.lookup i_BadSize = some ⟨oc_BadSize, od_BadSize, .func (PySem.W.fnOf "__init__" "BadSize.__init__" (PySem.ErrX_value.iA ⟨29, 17, 29, 21⟩ ⟨29, 23, 29, 28⟩) (PySem.ErrX_value.iB ⟨30, 8, 30, 12⟩ ⟨30, 8, 30, 18⟩ ⟨30, 21, 30, 26⟩ ⟨30, 8, 30, 26⟩) PySem.ErrX_value.iS .none .none dc_BadSize pm_BadSize an_BadSize cd_BadSize ct_BadSize), sl_BadSize⟩)
    (c1_BadSize : PySem.W.codeIn K cd_BadSize "BadSize.__init__" = true)
    (kC_BadSize : PySem.W.keepIn K (.ref C_BadSize) = true)
    (eC_BadSize : PySem.W.subIn K (.ref C_BadSize) (.type "BaseException") = some true)
    (tC_BadSize : PySem.W.typeIn K (.ref C_BadSize) = some (.type "type"))
    (hC_BadSize : PySem.W.hasDictIn K C_BadSize = true)
    (iC_BadSize : PySem.W.isClsIn K C_BadSize = true)
    (sC_BadSize : PySem.W.subIn K (.ref C_BadSize) (.ref C_BadSize) = some true)
    (xL_BadRooms : K.lookup C_BadRooms = some (excClassObj nm_BadRooms q_BadRooms C_BadRooms N_BadRooms bs_BadRooms [.ref C_RoomError, .type "ValueError", .type "Exception", .type "BaseException", .type "object"] true sn_BadRooms sub_BadRooms ab_BadRooms col_BadRooms dd_BadRooms m0_BadRooms m1_BadRooms m2_BadRooms m3_BadRooms m5_BadRooms "ValueError.__new__"))
    (sa_BadRooms : PySem.W.findIn K (.ref C_BadRooms) "__setattr__" = some (some (.builtin "object.__setattr__")))
    (ga_BadRooms : PySem.W.findIn K (.ref C_BadRooms) "__getattribute__" = some (some (.builtin "BaseException.__getattribute__")))
    (gg_BadRooms : PySem.W.findIn K (.ref C_BadRooms) "__getattr__" = some none)
    (nb_BadRooms : PySem.W.findIn K (.ref C_BadRooms) "value" = some none)
    (a1_BadRooms : PySem.W.findIn K (.ref C_BadRooms) "__init__" = some (some (.ref i_BadRooms)))
    (t1_BadRooms : PySem.W.typeIn K (.ref i_BadRooms) = some (.type "function"))
    (l1_BadRooms : K.lookup i_BadRooms = some ⟨oc_BadRooms, od_BadRooms, .func (PySem.W.fnOf "__init__" "BadRooms.__init__" (PySem.ErrX_value.iA ⟨13, 17, 13, 21⟩ ⟨13, 23, 13, 28⟩) (PySem.ErrX_value.iB ⟨14, 8, 14, 12⟩ ⟨14, 8, 14, 18⟩ ⟨14, 21, 14, 26⟩ ⟨14, 8, 14, 26⟩) PySem.ErrX_value.iS .none .none dc_BadRooms pm_BadRooms an_BadRooms cd_BadRooms ct_BadRooms), sl_BadRooms⟩)
    (c1_BadRooms : PySem.W.codeIn K cd_BadRooms "BadRooms.__init__" = true)
    (kC_BadRooms : PySem.W.keepIn K (.ref C_BadRooms) = true)
    (eC_BadRooms : PySem.W.subIn K (.ref C_BadRooms) (.type "BaseException") = some true)
    (tC_BadRooms : PySem.W.typeIn K (.ref C_BadRooms) = some (.type "type"))
    (hC_BadRooms : PySem.W.hasDictIn K C_BadRooms = true)
    (iC_BadRooms : PySem.W.isClsIn K C_BadRooms = true)
    (sC_BadRooms : PySem.W.subIn K (.ref C_BadRooms) (.ref C_BadRooms) = some true)
    (xL_BadTree : K.lookup C_BadTree = some (excClassObj nm_BadTree q_BadTree C_BadTree N_BadTree bs_BadTree [.ref C_RoomError, .type "ValueError", .type "Exception", .type "BaseException", .type "object"] true sn_BadTree sub_BadTree ab_BadTree col_BadTree dd_BadTree m0_BadTree m1_BadTree m2_BadTree m3_BadTree m5_BadTree "ValueError.__new__"))
    (sa_BadTree : PySem.W.findIn K (.ref C_BadTree) "__setattr__" = some (some (.builtin "object.__setattr__")))
    (ga_BadTree : PySem.W.findIn K (.ref C_BadTree) "__getattribute__" = some (some (.builtin "BaseException.__getattribute__")))
    (gg_BadTree : PySem.W.findIn K (.ref C_BadTree) "__getattr__" = some none)
    (nb_BadTree : PySem.W.findIn K (.ref C_BadTree) "part" = some none)
    (a1_BadTree : PySem.W.findIn K (.ref C_BadTree) "__init__" = some (some (.ref i_BadTree)))
    (t1_BadTree : PySem.W.typeIn K (.ref i_BadTree) = some (.type "function"))
    (l1_BadTree : K.lookup i_BadTree = some ⟨oc_BadTree, od_BadTree, .func (PySem.W.fnOf "__init__" "BadTree.__init__" (PySem.ErrX_part.iA ⟨9, 17, 9, 21⟩ ⟨9, 23, 9, 27⟩) (PySem.ErrX_part.iB ⟨10, 8, 10, 12⟩ ⟨10, 8, 10, 17⟩ ⟨10, 20, 10, 24⟩ ⟨10, 8, 10, 24⟩) PySem.ErrX_part.iS .none .none dc_BadTree pm_BadTree an_BadTree cd_BadTree ct_BadTree), sl_BadTree⟩)
    (c1_BadTree : PySem.W.codeIn K cd_BadTree "BadTree.__init__" = true)
    (kC_BadTree : PySem.W.keepIn K (.ref C_BadTree) = true)
    (eC_BadTree : PySem.W.subIn K (.ref C_BadTree) (.type "BaseException") = some true)
    (tC_BadTree : PySem.W.typeIn K (.ref C_BadTree) = some (.type "type"))
    (hC_BadTree : PySem.W.hasDictIn K C_BadTree = true)
    (iC_BadTree : PySem.W.isClsIn K C_BadTree = true)
    (sC_BadTree : PySem.W.subIn K (.ref C_BadTree) (.ref C_BadTree) = some true)
    (xL_BadArgument : K.lookup C_BadArgument = some (excClassObj nm_BadArgument q_BadArgument C_BadArgument N_BadArgument bs_BadArgument [.ref C_RoomError, .type "ValueError", .type "Exception", .type "BaseException", .type "object"] true sn_BadArgument sub_BadArgument ab_BadArgument col_BadArgument dd_BadArgument m0_BadArgument m1_BadArgument m2_BadArgument m3_BadArgument m5_BadArgument "ValueError.__new__"))
    (sa_BadArgument : PySem.W.findIn K (.ref C_BadArgument) "__setattr__" = some (some (.builtin "object.__setattr__")))
    (ga_BadArgument : PySem.W.findIn K (.ref C_BadArgument) "__getattribute__" = some (some (.builtin "BaseException.__getattribute__")))
    (gg_BadArgument : PySem.W.findIn K (.ref C_BadArgument) "__getattr__" = some none)
    (nb_BadArgument : PySem.W.findIn K (.ref C_BadArgument) "value" = some none)
    (a1_BadArgument : PySem.W.findIn K (.ref C_BadArgument) "__init__" = some (some (.ref i_BadArgument)))
    (t1_BadArgument : PySem.W.typeIn K (.ref i_BadArgument) = some (.type "function"))
    (l1_BadArgument : K.lookup i_BadArgument = some ⟨oc_BadArgument, od_BadArgument, .func (PySem.W.fnOf "__init__" "BadArgument.__init__" (PySem.ErrX_value.iA ⟨33, 17, 33, 21⟩ ⟨33, 23, 33, 28⟩) (PySem.ErrX_value.iB ⟨34, 8, 34, 12⟩ ⟨34, 8, 34, 18⟩ ⟨34, 21, 34, 26⟩ ⟨34, 8, 34, 26⟩) PySem.ErrX_value.iS .none .none dc_BadArgument pm_BadArgument an_BadArgument cd_BadArgument ct_BadArgument), sl_BadArgument⟩)
    (c1_BadArgument : PySem.W.codeIn K cd_BadArgument "BadArgument.__init__" = true)
    (kC_BadArgument : PySem.W.keepIn K (.ref C_BadArgument) = true)
    (eC_BadArgument : PySem.W.subIn K (.ref C_BadArgument) (.type "BaseException") = some true)
    (tC_BadArgument : PySem.W.typeIn K (.ref C_BadArgument) = some (.type "type"))
    (hC_BadArgument : PySem.W.hasDictIn K C_BadArgument = true)
    (iC_BadArgument : PySem.W.isClsIn K C_BadArgument = true)
    (sC_BadArgument : PySem.W.subIn K (.ref C_BadArgument) (.ref C_BadArgument) = some true)
    (a_is_integer : PySem.W.nsIn K mainGlobals "is_integer" = some (some (.ref f_is_integer)))
    (l_is_integer : K.lookup f_is_integer = some ⟨oc_is_integer, od_is_integer, .func (PySem.W.fnOf "is_integer" "is_integer" (defArgs s_is_integer) (defBody s_is_integer) (defScope s_is_integer) .none kV_is_integer dc_is_integer pm_is_integer an_is_integer cd_is_integer ct_is_integer), sl_is_integer⟩)
    (c_is_integer : PySem.W.codeIn K cd_is_integer "is_integer" = true)
    (k_is_integer : PySem.W.keepIn K (.ref f_is_integer) = true)
    (a_are_integers : PySem.W.nsIn K mainGlobals "are_integers" = some (some (.ref f_are_integers)))
    (l_are_integers : K.lookup f_are_integers = some ⟨oc_are_integers, od_are_integers, .func (PySem.W.fnOf "are_integers" "are_integers" (defArgs s_are_integers) (defBody s_are_integers) (defScope s_are_integers) .none kV_are_integers dc_are_integers pm_are_integers an_are_integers cd_are_integers ct_are_integers), sl_are_integers⟩)
    (c_are_integers : PySem.W.codeIn K cd_are_integers "are_integers" = true)
    (k_are_integers : PySem.W.keepIn K (.ref f_are_integers) = true)
    (a_are_told : PySem.W.nsIn K mainGlobals "are_told" = some (some (.ref f_are_told)))
    (l_are_told : K.lookup f_are_told = some ⟨oc_are_told, od_are_told, .func (PySem.W.fnOf "are_told" "are_told" (defArgs s_are_told) (defBody s_are_told) (defScope s_are_told) .none kV_are_told dc_are_told pm_are_told an_are_told cd_are_told ct_are_told), sl_are_told⟩)
    (c_are_told : PySem.W.codeIn K cd_are_told "are_told" = true)
    (k_are_told : PySem.W.keepIn K (.ref f_are_told) = true)
    (a_Tree_init : PySem.W.findIn K (.ref C_Tree) "__init__" = some (some (.ref f_Tree_init)))
    (i_Tree_init : PySem.W.isFn K (.ref f_Tree_init) = true)
    (l_Tree_init : K.lookup f_Tree_init = some ⟨oc_Tree_init, od_Tree_init, .func (PySem.W.fnOf "__init__" "Tree.__init__" (defArgs s_Tree_init) (defBody s_Tree_init) (defScope s_Tree_init) .none kV_Tree_init dc_Tree_init pm_Tree_init an_Tree_init cd_Tree_init ct_Tree_init), sl_Tree_init⟩)
    (c_Tree_init : PySem.W.codeIn K cd_Tree_init "Tree.__init__" = true)
    (k_Tree_init : PySem.W.keepIn K (.ref f_Tree_init) = true)
    (pa_Tree_told : PySem.W.findIn K (.ref C_Tree) "told" = some (some (.ref pp_Tree_told)))
    (pt_Tree_told : PySem.W.specialIn K (.ref pp_Tree_told) "__get__" = some (some (.builtin "property.__get__")))
    (pk_Tree_told : PySem.W.takesIn K (.ref pp_Tree_told) = some true)
    (pr_Tree_told : PySem.W.recIn K pp_Tree_told "property" = some (.ref f_Tree_told :: rest_Tree_told))
    (l_Tree_told : K.lookup f_Tree_told = some ⟨oc_Tree_told, od_Tree_told, .func (PySem.W.fnOf "told" "Tree.told" (defArgs s_Tree_told) (defBody s_Tree_told) (defScope s_Tree_told) .none kV_Tree_told dc_Tree_told pm_Tree_told an_Tree_told cd_Tree_told ct_Tree_told), sl_Tree_told⟩)
    (c_Tree_told : PySem.W.codeIn K cd_Tree_told "Tree.told" = true)
    (k_Tree_told : PySem.W.keepIn K (.ref f_Tree_told) = true)
    (a_Tree_len : PySem.W.findIn K (.ref C_Tree) "__len__" = some (some (.ref f_Tree_len)))
    (i_Tree_len : PySem.W.isFn K (.ref f_Tree_len) = true)
    (l_Tree_len : K.lookup f_Tree_len = some ⟨oc_Tree_len, od_Tree_len, .func (PySem.W.fnOf "__len__" "Tree.__len__" (defArgs s_Tree_len) (defBody s_Tree_len) (defScope s_Tree_len) .none kV_Tree_len dc_Tree_len pm_Tree_len an_Tree_len cd_Tree_len ct_Tree_len), sl_Tree_len⟩)
    (c_Tree_len : PySem.W.codeIn K cd_Tree_len "Tree.__len__" = true)
    (k_Tree_len : PySem.W.keepIn K (.ref f_Tree_len) = true)
    (a_Tree_getitem : PySem.W.findIn K (.ref C_Tree) "__getitem__" = some (some (.ref f_Tree_getitem)))
    (i_Tree_getitem : PySem.W.isFn K (.ref f_Tree_getitem) = true)
    (l_Tree_getitem : K.lookup f_Tree_getitem = some ⟨oc_Tree_getitem, od_Tree_getitem, .func (PySem.W.fnOf "__getitem__" "Tree.__getitem__" (defArgs s_Tree_getitem) (defBody s_Tree_getitem) (defScope s_Tree_getitem) .none kV_Tree_getitem dc_Tree_getitem pm_Tree_getitem an_Tree_getitem cd_Tree_getitem ct_Tree_getitem), sl_Tree_getitem⟩)
    (c_Tree_getitem : PySem.W.codeIn K cd_Tree_getitem "Tree.__getitem__" = true)
    (k_Tree_getitem : PySem.W.keepIn K (.ref f_Tree_getitem) = true)
    (a_Tree_leaf : PySem.W.findIn K (.ref C_Tree) "leaf" = some (some (.ref f_Tree_leaf)))
    (i_Tree_leaf : PySem.W.isFn K (.ref f_Tree_leaf) = true)
    (l_Tree_leaf : K.lookup f_Tree_leaf = some ⟨oc_Tree_leaf, od_Tree_leaf, .func (PySem.W.fnOf "leaf" "Tree.leaf" (defArgs s_Tree_leaf) (defBody s_Tree_leaf) (defScope s_Tree_leaf) .none kV_Tree_leaf dc_Tree_leaf pm_Tree_leaf an_Tree_leaf cd_Tree_leaf ct_Tree_leaf), sl_Tree_leaf⟩)
    (c_Tree_leaf : PySem.W.codeIn K cd_Tree_leaf "Tree.leaf" = true)
    (k_Tree_leaf : PySem.W.keepIn K (.ref f_Tree_leaf) = true)
    (a_Tree_way : PySem.W.findIn K (.ref C_Tree) "way" = some (some (.ref f_Tree_way)))
    (i_Tree_way : PySem.W.isFn K (.ref f_Tree_way) = true)
    (l_Tree_way : K.lookup f_Tree_way = some ⟨oc_Tree_way, od_Tree_way, .func (PySem.W.fnOf "way" "Tree.way" (defArgs s_Tree_way) (defBody s_Tree_way) (defScope s_Tree_way) .none kV_Tree_way dc_Tree_way pm_Tree_way an_Tree_way cd_Tree_way ct_Tree_way), sl_Tree_way⟩)
    (c_Tree_way : PySem.W.codeIn K cd_Tree_way "Tree.way" = true)
    (k_Tree_way : PySem.W.keepIn K (.ref f_Tree_way) = true)
    (a_Tree_greater : PySem.W.findIn K (.ref C_Tree) "greater" = some (some (.ref f_Tree_greater)))
    (i_Tree_greater : PySem.W.isFn K (.ref f_Tree_greater) = true)
    (l_Tree_greater : K.lookup f_Tree_greater = some ⟨oc_Tree_greater, od_Tree_greater, .func (PySem.W.fnOf "greater" "Tree.greater" (defArgs s_Tree_greater) (defBody s_Tree_greater) (defScope s_Tree_greater) .none kV_Tree_greater dc_Tree_greater pm_Tree_greater an_Tree_greater cd_Tree_greater ct_Tree_greater), sl_Tree_greater⟩)
    (c_Tree_greater : PySem.W.codeIn K cd_Tree_greater "Tree.greater" = true)
    (k_Tree_greater : PySem.W.keepIn K (.ref f_Tree_greater) = true)
    (a_Tree_with_told : PySem.W.findIn K (.ref C_Tree) "with_told" = some (some (.ref f_Tree_with_told)))
    (i_Tree_with_told : PySem.W.isFn K (.ref f_Tree_with_told) = true)
    (l_Tree_with_told : K.lookup f_Tree_with_told = some ⟨oc_Tree_with_told, od_Tree_with_told, .func (PySem.W.fnOf "with_told" "Tree.with_told" (defArgs s_Tree_with_told) (defBody s_Tree_with_told) (defScope s_Tree_with_told) .none kV_Tree_with_told dc_Tree_with_told pm_Tree_with_told an_Tree_with_told cd_Tree_with_told ct_Tree_with_told), sl_Tree_with_told⟩)
    (c_Tree_with_told : PySem.W.codeIn K cd_Tree_with_told "Tree.with_told" = true)
    (k_Tree_with_told : PySem.W.keepIn K (.ref f_Tree_with_told) = true)
    (a_Tree_eq : PySem.W.findIn K (.ref C_Tree) "__eq__" = some (some (.ref f_Tree_eq)))
    (i_Tree_eq : PySem.W.isFn K (.ref f_Tree_eq) = true)
    (l_Tree_eq : K.lookup f_Tree_eq = some ⟨oc_Tree_eq, od_Tree_eq, .func (PySem.W.fnOf "__eq__" "Tree.__eq__" (defArgs s_Tree_eq) (defBody s_Tree_eq) (defScope s_Tree_eq) .none kV_Tree_eq dc_Tree_eq pm_Tree_eq an_Tree_eq cd_Tree_eq ct_Tree_eq), sl_Tree_eq⟩)
    (c_Tree_eq : PySem.W.codeIn K cd_Tree_eq "Tree.__eq__" = true)
    (k_Tree_eq : PySem.W.keepIn K (.ref f_Tree_eq) = true)
    (a_law_opened : PySem.W.nsIn K mainGlobals "_law_opened" = some (some (.ref f_law_opened)))
    (l_law_opened : K.lookup f_law_opened = some ⟨oc_law_opened, od_law_opened, .func (PySem.W.fnOf "_law_opened" "_law_opened" (defArgs s_law_opened) (defBody s_law_opened) (defScope s_law_opened) .none kV_law_opened dc_law_opened pm_law_opened an_law_opened cd_law_opened ct_law_opened), sl_law_opened⟩)
    (c_law_opened : PySem.W.codeIn K cd_law_opened "_law_opened" = true)
    (k_law_opened : PySem.W.keepIn K (.ref f_law_opened) = true)
    (a_law_draw : PySem.W.nsIn K mainGlobals "_law_draw" = some (some (.ref f_law_draw)))
    (l_law_draw : K.lookup f_law_draw = some ⟨oc_law_draw, od_law_draw, .func (PySem.W.fnOf "_law_draw" "_law_draw" (defArgs s_law_draw) (defBody s_law_draw) (defScope s_law_draw) .none kV_law_draw dc_law_draw pm_law_draw an_law_draw cd_law_draw ct_law_draw), sl_law_draw⟩)
    (c_law_draw : PySem.W.codeIn K cd_law_draw "_law_draw" = true)
    (k_law_draw : PySem.W.keepIn K (.ref f_law_draw) = true)
    (a_law_told : PySem.W.nsIn K mainGlobals "_law_told" = some (some (.ref f_law_told)))
    (l_law_told : K.lookup f_law_told = some ⟨oc_law_told, od_law_told, .func (PySem.W.fnOf "_law_told" "_law_told" (defArgs s_law_told) (defBody s_law_told) (defScope s_law_told) .none kV_law_told dc_law_told pm_law_told an_law_told cd_law_told ct_law_told), sl_law_told⟩)
    (c_law_told : PySem.W.codeIn K cd_law_told "_law_told" = true)
    (k_law_told : PySem.W.keepIn K (.ref f_law_told) = true)
    (a_law_pages : PySem.W.nsIn K mainGlobals "_law_pages" = some (some (.ref f_law_pages)))
    (l_law_pages : K.lookup f_law_pages = some ⟨oc_law_pages, od_law_pages, .func (PySem.W.fnOf "_law_pages" "_law_pages" (defArgs s_law_pages) (defBody s_law_pages) (defScope s_law_pages) .none kV_law_pages dc_law_pages pm_law_pages an_law_pages cd_law_pages ct_law_pages), sl_law_pages⟩)
    (c_law_pages : PySem.W.codeIn K cd_law_pages "_law_pages" = true)
    (k_law_pages : PySem.W.keepIn K (.ref f_law_pages) = true)
    (a_law_way : PySem.W.nsIn K mainGlobals "_law_way" = some (some (.ref f_law_way)))
    (l_law_way : K.lookup f_law_way = some ⟨oc_law_way, od_law_way, .func (PySem.W.fnOf "_law_way" "_law_way" (defArgs s_law_way) (defBody s_law_way) (defScope s_law_way) .none kV_law_way dc_law_way pm_law_way an_law_way cd_law_way ct_law_way), sl_law_way⟩)
    (c_law_way : PySem.W.codeIn K cd_law_way "_law_way" = true)
    (k_law_way : PySem.W.keepIn K (.ref f_law_way) = true)
    (a_law_greater : PySem.W.nsIn K mainGlobals "_law_greater" = some (some (.ref f_law_greater)))
    (l_law_greater : K.lookup f_law_greater = some ⟨oc_law_greater, od_law_greater, .func (PySem.W.fnOf "_law_greater" "_law_greater" (defArgs s_law_greater) (defBody s_law_greater) (defScope s_law_greater) .none kV_law_greater dc_law_greater pm_law_greater an_law_greater cd_law_greater ct_law_greater), sl_law_greater⟩)
    (c_law_greater : PySem.W.codeIn K cd_law_greater "_law_greater" = true)
    (k_law_greater : PySem.W.keepIn K (.ref f_law_greater) = true)
    (a_law_refused : PySem.W.nsIn K mainGlobals "_law_refused" = some (some (.ref f_law_refused)))
    (l_law_refused : K.lookup f_law_refused = some ⟨oc_law_refused, od_law_refused, .func (PySem.W.fnOf "_law_refused" "_law_refused" (defArgs s_law_refused) (defBody s_law_refused) (defScope s_law_refused) .none kV_law_refused dc_law_refused pm_law_refused an_law_refused cd_law_refused ct_law_refused), sl_law_refused⟩)
    (c_law_refused : PySem.W.codeIn K cd_law_refused "_law_refused" = true)
    (k_law_refused : PySem.W.keepIn K (.ref f_law_refused) = true)
    (a_law_tree_right : PySem.W.nsIn K mainGlobals "_law_tree_right" = some (some (.ref f_law_tree_right)))
    (l_law_tree_right : K.lookup f_law_tree_right = some ⟨oc_law_tree_right, od_law_tree_right, .func (PySem.W.fnOf "_law_tree_right" "_law_tree_right" (defArgs s_law_tree_right) (defBody s_law_tree_right) (defScope s_law_tree_right) .none kV_law_tree_right dc_law_tree_right pm_law_tree_right an_law_tree_right cd_law_tree_right ct_law_tree_right), sl_law_tree_right⟩)
    (c_law_tree_right : PySem.W.codeIn K cd_law_tree_right "_law_tree_right" = true)
    (k_law_tree_right : PySem.W.keepIn K (.ref f_law_tree_right) = true)
    (a_law_refusals : PySem.W.nsIn K mainGlobals "_law_refusals" = some (some (.ref f_law_refusals)))
    (l_law_refusals : K.lookup f_law_refusals = some ⟨oc_law_refusals, od_law_refusals, .func (PySem.W.fnOf "_law_refusals" "_law_refusals" (defArgs s_law_refusals) (defBody s_law_refusals) (defScope s_law_refusals) .none kV_law_refusals dc_law_refusals pm_law_refusals an_law_refusals cd_law_refusals ct_law_refusals), sl_law_refusals⟩)
    (c_law_refusals : PySem.W.codeIn K cd_law_refusals "_law_refusals" = true)
    (k_law_refusals : PySem.W.keepIn K (.ref f_law_refusals) = true)
    (a_law : PySem.W.nsIn K mainGlobals "law" = some (some (.ref f_law)))
    (l_law : K.lookup f_law = some ⟨oc_law, od_law, .func (PySem.W.fnOf "law" "law" (defArgs s_law) (defBody s_law) (defScope s_law) .none kV_law dc_law pm_law an_law cd_law ct_law), sl_law⟩)
    (c_law : PySem.W.codeIn K cd_law "law" = true)
    (k_law : PySem.W.keepIn K (.ref f_law) = true)
    (pg_Tree : PySem.W.plainGet K C_Tree Str.empty = true)
    (hd_Tree : PySem.W.hasDictIn K C_Tree = true)
    (po_Tree : PySem.W.plainOver K C_Tree = true)
    (sa_Tree : PySem.W.findIn K (.ref C_Tree) "__setattr__" = some (some (.builtin "object.__setattr__")))
    (mk_Tree : PySem.W.makesIn K C_Tree = true)
    (kc_Tree : PySem.W.keepIn K (.ref C_Tree) = true)
    (nf_Tree_classes : PySem.W.findIn K (.ref C_Tree) "classes" = some none)
    (nf_Tree_told : PySem.W.findIn K (.ref C_Tree) "_told" = some none)
    (kt_Tree : PySem.W.typeIn K (.ref C_Tree) = some (.type "type"))
    (kc2_Tree : PySem.W.isClsIn K C_Tree = true)
    (ks_Tree_list : PySem.W.subIn K (.type "list") (.ref C_Tree) = some false)
    (ks_Tree_dict : PySem.W.subIn K (.type "dict") (.ref C_Tree) = some false)
    (fn_Tree_getitem : PySem.W.fnIn K f_Tree_getitem = true)
    (ne_Tree : PySem.W.findIn K (.ref C_Tree) "__ne__" = some (some (.builtin "object.__ne__")))
    (hm_Tree : PySem.W.mroIn K C_Tree (.type "object") = some true)
    (ha_Tree : PySem.W.findIn K (.ref C_Tree) "__class__" = some (some (.builtin "object.__class__")))
    (hn_Tree : PySem.W.specialIn K (.builtin "object.__class__") "__get__" = some (some (.builtin "getset_descriptor.__get__")))
    (ht_Tree : PySem.W.takesIn K (.builtin "object.__class__") = some true)
    (cc_MOST_CLASSES : PySem.W.nsIn K mainGlobals "MOST_CLASSES" = some (some (.int 8 tk_MOST_CLASSES)))
    (gt_NODES : PySem.W.nsIn K mainGlobals "NODES" = some (some (.ref t_NODES)))
    (lt_NODES : K.lookup t_NODES = some ⟨.type "tuple", dt_NODES, .seq #[.int 3 u0_NODES, .int 7 u1_NODES, .int 15 u2_NODES, .int 31 u3_NODES, .int 63 u4_NODES] nt_NODES, st_NODES⟩)
    (z_isinstance : PySem.W.nsIn K mainGlobals "isinstance" = some none)
    (z_int : PySem.W.nsIn K mainGlobals "int" = some none)
    (z_bool : PySem.W.nsIn K mainGlobals "bool" = some none)
    (z_list : PySem.W.nsIn K mainGlobals "list" = some none)
    (z_tuple : PySem.W.nsIn K mainGlobals "tuple" = some none)
    (z_len : PySem.W.nsIn K mainGlobals "len" = some none)
    (z_range : PySem.W.nsIn K mainGlobals "range" = some none)
    (z_max : PySem.W.nsIn K mainGlobals "max" = some none)
    (z_min : PySem.W.nsIn K mainGlobals "min" = some none)
    (z_repr : PySem.W.nsIn K mainGlobals "repr" = some none)
    (lamC_ : cd_law_refusals = .ref c_lam)
    (lamK_ : K.lookup c_lam = some ⟨oc_lamc, od_lamc, .fields vs_lamc, sl_lamc⟩)
    (lamV_ : (vs_lamc[11]? : Option Value) = some (.ref P_lam))
    (lamH_ : PySem.W.codeHdIn K c_lam P_lam = true)
    (lamN_ : K.lookup P_lam = none)
    (lamE_ : h.get? P_lam = some { cls := .none, data := .fields #[] })
    : LawAtG l w K 16 63 "_law_script" mg fa h := by
  subst lamC_
  have e := hfa.symm.trans (PySem.W.mg_of X G a_law)
  cases e
  have F_is_integer := fun_mk (st := s_is_integer) l_is_integer c_is_integer k_is_integer
  have b_is_integer := F_is_integer.binds (ps := ["value", "least", "greatest"]) fun _ _ _ _ _ _ us hl => match us, hl with | [_, _, _], _ => rfl
  have F_are_integers := fun_mk (st := s_are_integers) l_are_integers c_are_integers k_are_integers
  have b_are_integers := F_are_integers.binds (ps := ["value", "least", "greatest"]) fun _ _ _ _ _ _ us hl => match us, hl with | [_, _, _], _ => rfl
  have F_are_told := fun_mk (st := s_are_told) l_are_told c_are_told k_are_told
  have b_are_told := F_are_told.binds (ps := ["value", "classes"]) fun _ _ _ _ _ _ us hl => match us, hl with | [_, _], _ => rfl
  have F_Tree_init := fun_mk (st := s_Tree_init) l_Tree_init c_Tree_init k_Tree_init
  have b_Tree_init := F_Tree_init.binds (ps := ["self", "classes", "told"]) fun _ _ _ _ _ _ us hl => match us, hl with | [_, _, _], _ => rfl
  have F_Tree_told := fun_mk (st := s_Tree_told) l_Tree_told c_Tree_told k_Tree_told
  have b_Tree_told := F_Tree_told.binds (ps := ["self"]) fun _ _ _ _ _ _ us hl => match us, hl with | [_], _ => rfl
  have F_Tree_len := fun_mk (st := s_Tree_len) l_Tree_len c_Tree_len k_Tree_len
  have b_Tree_len := F_Tree_len.binds (ps := ["self"]) fun _ _ _ _ _ _ us hl => match us, hl with | [_], _ => rfl
  have F_Tree_getitem := fun_mk (st := s_Tree_getitem) l_Tree_getitem c_Tree_getitem k_Tree_getitem
  have b_Tree_getitem := F_Tree_getitem.binds (ps := ["self", "node"]) fun _ _ _ _ _ _ us hl => match us, hl with | [_, _], _ => rfl
  have F_Tree_leaf := fun_mk (st := s_Tree_leaf) l_Tree_leaf c_Tree_leaf k_Tree_leaf
  have b_Tree_leaf := F_Tree_leaf.binds (ps := ["self", "page"]) fun _ _ _ _ _ _ us hl => match us, hl with | [_, _], _ => rfl
  have F_Tree_way := fun_mk (st := s_Tree_way) l_Tree_way c_Tree_way k_Tree_way
  have b_Tree_way := F_Tree_way.binds (ps := ["self", "page"]) fun _ _ _ _ _ _ us hl => match us, hl with | [_, _], _ => rfl
  have F_Tree_greater := fun_mk (st := s_Tree_greater) l_Tree_greater c_Tree_greater k_Tree_greater
  have b_Tree_greater := F_Tree_greater.binds (ps := ["self", "node"]) fun _ _ _ _ _ _ us hl => match us, hl with | [_, _], _ => rfl
  have F_Tree_with_told := fun_mk (st := s_Tree_with_told) l_Tree_with_told c_Tree_with_told k_Tree_with_told
  have b_Tree_with_told := F_Tree_with_told.binds (ps := ["self", "node", "told"]) fun _ _ _ _ _ _ us hl => match us, hl with | [_, _, _], _ => rfl
  have F_Tree_eq := fun_mk (st := s_Tree_eq) l_Tree_eq c_Tree_eq k_Tree_eq
  have b_Tree_eq := F_Tree_eq.binds (ps := ["self", "other"]) fun _ _ _ _ _ _ us hl => match us, hl with | [_, _], _ => rfl
  have F_law_opened := fun_mk (st := s_law_opened) l_law_opened c_law_opened k_law_opened
  have b_law_opened := F_law_opened.binds (ps := ["_law_script", "_law_k"]) fun _ _ _ _ _ _ us hl => match us, hl with | [_, _], _ => rfl
  have F_law_draw := fun_mk (st := s_law_draw) l_law_draw c_law_draw k_law_draw
  have b_law_draw := F_law_draw.binds (ps := ["_law_pool", "_law_many"]) fun _ _ _ _ _ _ us hl => match us, hl with | [_, _], _ => rfl
  have F_law_told := fun_mk (st := s_law_told) l_law_told c_law_told k_law_told
  have b_law_told := F_law_told.binds (ps := ["_law_pool", "_law_classes", "_law_pages_here"]) fun _ _ _ _ _ _ us hl => match us, hl with | [_, _, _], _ => rfl
  have F_law_pages := fun_mk (st := s_law_pages) l_law_pages c_law_pages k_law_pages
  have b_law_pages := F_law_pages.binds (ps := ["_law_pool", "_law_many"]) fun _ _ _ _ _ _ us hl => match us, hl with | [_, _], _ => rfl
  have F_law_way := fun_mk (st := s_law_way) l_law_way c_law_way k_law_way
  have b_law_way := F_law_way.binds (ps := ["_law_pages_here", "_law_page"]) fun _ _ _ _ _ _ us hl => match us, hl with | [_, _], _ => rfl
  have F_law_greater := fun_mk (st := s_law_greater) l_law_greater c_law_greater k_law_greater
  have b_law_greater := F_law_greater.binds (ps := ["_law_row", "_law_node"]) fun _ _ _ _ _ _ us hl => match us, hl with | [_, _], _ => rfl
  have F_law_refused := fun_mk (st := s_law_refused) l_law_refused c_law_refused k_law_refused
  have b_law_refused := F_law_refused.binds (ps := ["_law_call"]) fun _ _ _ _ _ _ us hl => match us, hl with | [_], _ => rfl
  have F_law_tree_right := fun_mk (st := s_law_tree_right) l_law_tree_right c_law_tree_right k_law_tree_right
  have b_law_tree_right := F_law_tree_right.binds (ps := ["_law_tree", "_law_classes", "_law_row"]) fun _ _ _ _ _ _ us hl => match us, hl with | [_, _, _], _ => rfl
  have F_law_refusals := fun_mk (st := s_law_refusals) l_law_refusals c_law_refusals k_law_refusals
  have b_law_refusals := F_law_refusals.binds (ps := ["_law_tree", "_law_classes", "_law_pages_here"]) fun _ _ _ _ _ _ us hl => match us, hl with | [_, _, _], _ => rfl
  have F_law := fun_mk (st := s_law) l_law c_law k_law
  have b_law := F_law.binds (ps := ["_law_script"]) fun _ _ _ _ _ _ us hl => match us, hl with | [_], _ => rfl
  have T : Txt K mg { C_Tree := C_Tree, C_RoomError := C_RoomError, C_BadPage := C_BadPage, C_BadNode := C_BadNode, C_BadClass := C_BadClass, C_BadSize := C_BadSize, C_BadRooms := C_BadRooms, C_BadTree := C_BadTree, C_BadArgument := C_BadArgument, i_BadPage := i_BadPage, i_BadNode := i_BadNode, i_BadClass := i_BadClass, i_BadSize := i_BadSize, i_BadRooms := i_BadRooms, i_BadTree := i_BadTree, i_BadArgument := i_BadArgument, a_is_integer := f_is_integer, fd_is_integer := _, a_are_integers := f_are_integers, fd_are_integers := _, a_are_told := f_are_told, fd_are_told := _, a_Tree_init := f_Tree_init, fd_Tree_init := _, a_Tree_told := f_Tree_told, fd_Tree_told := _, a_Tree_len := f_Tree_len, fd_Tree_len := _, a_Tree_getitem := f_Tree_getitem, fd_Tree_getitem := _, a_Tree_leaf := f_Tree_leaf, fd_Tree_leaf := _, a_Tree_way := f_Tree_way, fd_Tree_way := _, a_Tree_greater := f_Tree_greater, fd_Tree_greater := _, a_Tree_with_told := f_Tree_with_told, fd_Tree_with_told := _, a_Tree_eq := f_Tree_eq, fd_Tree_eq := _, a_law_opened := f_law_opened, fd_law_opened := _, a_law_draw := f_law_draw, fd_law_draw := _, a_law_told := f_law_told, fd_law_told := _, a_law_pages := f_law_pages, fd_law_pages := _, a_law_way := f_law_way, fd_law_way := _, a_law_greater := f_law_greater, fd_law_greater := _, a_law_refused := f_law_refused, fd_law_refused := _, a_law_tree_right := f_law_tree_right, fd_law_tree_right := _, a_law_refusals := f_law_refusals, fd_law_refusals := _, a_law := fa, fd_law := _, c_lam := c_lam, P_lam := P_lam, tk_MOST_CLASSES := tk_MOST_CLASSES, pp_Tree_told := pp_Tree_told, t_NODES := t_NODES } := { g_RoomError := PySem.W.mg_of X G aC_RoomError, e_BadPage := { gC := PySem.W.mg_of X G aC_BadPage, cls := ⟨nm_BadPage, q_BadPage, N_BadPage, bs_BadPage, _, sn_BadPage, sub_BadPage, ab_BadPage, col_BadPage, dd_BadPage, m0_BadPage, m1_BadPage, m2_BadPage, m3_BadPage, m5_BadPage, xL_BadPage, rfl⟩, sa := sa_BadPage, ga := ga_BadPage, gg := gg_BadPage, noN := nb_BadPage, iC := a1_BadPage, tC := t1_BadPage, kC := kC_BadPage, exC := eC_BadPage, tyC := tC_BadPage, hdC := hC_BadPage, te := exm_self eC_BadPage iC_BadPage tC_BadPage sC_BadPage, fn := ⟨_, _, _, _, _, _, _, _, _, _, _, _, _, _, l1_BadPage, c1_BadPage⟩ }, e_BadNode := { gC := PySem.W.mg_of X G aC_BadNode, cls := ⟨nm_BadNode, q_BadNode, N_BadNode, bs_BadNode, _, sn_BadNode, sub_BadNode, ab_BadNode, col_BadNode, dd_BadNode, m0_BadNode, m1_BadNode, m2_BadNode, m3_BadNode, m5_BadNode, xL_BadNode, rfl⟩, sa := sa_BadNode, ga := ga_BadNode, gg := gg_BadNode, noN := nb_BadNode, iC := a1_BadNode, tC := t1_BadNode, kC := kC_BadNode, exC := eC_BadNode, tyC := tC_BadNode, hdC := hC_BadNode, te := exm_self eC_BadNode iC_BadNode tC_BadNode sC_BadNode, fn := ⟨_, _, _, _, _, _, _, _, _, _, _, _, _, _, l1_BadNode, c1_BadNode⟩ }, m_BadNode_BadPage := exm_ref eC_BadPage iC_BadPage tC_BadPage mu_BadNode_BadPage, e_BadClass := { gC := PySem.W.mg_of X G aC_BadClass, cls := ⟨nm_BadClass, q_BadClass, N_BadClass, bs_BadClass, _, sn_BadClass, sub_BadClass, ab_BadClass, col_BadClass, dd_BadClass, m0_BadClass, m1_BadClass, m2_BadClass, m3_BadClass, m5_BadClass, xL_BadClass, rfl⟩, sa := sa_BadClass, ga := ga_BadClass, gg := gg_BadClass, noN := nb_BadClass, iC := a1_BadClass, tC := t1_BadClass, kC := kC_BadClass, exC := eC_BadClass, tyC := tC_BadClass, hdC := hC_BadClass, te := exm_self eC_BadClass iC_BadClass tC_BadClass sC_BadClass, fn := ⟨_, _, _, _, _, _, _, _, _, _, _, _, _, _, l1_BadClass, c1_BadClass⟩ }, m_BadClass_BadPage := exm_ref eC_BadPage iC_BadPage tC_BadPage mu_BadClass_BadPage, m_BadClass_BadNode := exm_ref eC_BadNode iC_BadNode tC_BadNode mu_BadClass_BadNode, e_BadSize := { gC := PySem.W.mg_of X G aC_BadSize, cls := ⟨nm_BadSize, q_BadSize, N_BadSize, bs_BadSize, _, sn_BadSize, sub_BadSize, ab_BadSize, col_BadSize, dd_BadSize, m0_BadSize, m1_BadSize, m2_BadSize, m3_BadSize, m5_BadSize, xL_BadSize, rfl⟩, sa := sa_BadSize, ga := ga_BadSize, gg := gg_BadSize, noN := nb_BadSize, iC := a1_BadSize, tC := t1_BadSize, kC := kC_BadSize, exC := eC_BadSize, tyC := tC_BadSize, hdC := hC_BadSize, te := exm_self eC_BadSize iC_BadSize tC_BadSize sC_BadSize, fn := ⟨_, _, _, _, _, _, _, _, _, _, _, _, _, _, l1_BadSize, c1_BadSize⟩ }, e_BadRooms := { gC := PySem.W.mg_of X G aC_BadRooms, cls := ⟨nm_BadRooms, q_BadRooms, N_BadRooms, bs_BadRooms, _, sn_BadRooms, sub_BadRooms, ab_BadRooms, col_BadRooms, dd_BadRooms, m0_BadRooms, m1_BadRooms, m2_BadRooms, m3_BadRooms, m5_BadRooms, xL_BadRooms, rfl⟩, sa := sa_BadRooms, ga := ga_BadRooms, gg := gg_BadRooms, noN := nb_BadRooms, iC := a1_BadRooms, tC := t1_BadRooms, kC := kC_BadRooms, exC := eC_BadRooms, tyC := tC_BadRooms, hdC := hC_BadRooms, te := exm_self eC_BadRooms iC_BadRooms tC_BadRooms sC_BadRooms, fn := ⟨_, _, _, _, _, _, _, _, _, _, _, _, _, _, l1_BadRooms, c1_BadRooms⟩ }, e_BadTree := { gC := PySem.W.mg_of X G aC_BadTree, cls := ⟨nm_BadTree, q_BadTree, N_BadTree, bs_BadTree, _, sn_BadTree, sub_BadTree, ab_BadTree, col_BadTree, dd_BadTree, m0_BadTree, m1_BadTree, m2_BadTree, m3_BadTree, m5_BadTree, xL_BadTree, rfl⟩, sa := sa_BadTree, ga := ga_BadTree, gg := gg_BadTree, noN := nb_BadTree, iC := a1_BadTree, tC := t1_BadTree, kC := kC_BadTree, exC := eC_BadTree, tyC := tC_BadTree, hdC := hC_BadTree, te := exm_self eC_BadTree iC_BadTree tC_BadTree sC_BadTree, fn := ⟨_, _, _, _, _, _, _, _, _, _, _, _, _, _, l1_BadTree, c1_BadTree⟩ }, e_BadArgument := { gC := PySem.W.mg_of X G aC_BadArgument, cls := ⟨nm_BadArgument, q_BadArgument, N_BadArgument, bs_BadArgument, _, sn_BadArgument, sub_BadArgument, ab_BadArgument, col_BadArgument, dd_BadArgument, m0_BadArgument, m1_BadArgument, m2_BadArgument, m3_BadArgument, m5_BadArgument, xL_BadArgument, rfl⟩, sa := sa_BadArgument, ga := ga_BadArgument, gg := gg_BadArgument, noN := nb_BadArgument, iC := a1_BadArgument, tC := t1_BadArgument, kC := kC_BadArgument, exC := eC_BadArgument, tyC := tC_BadArgument, hdC := hC_BadArgument, te := exm_self eC_BadArgument iC_BadArgument tC_BadArgument sC_BadArgument, fn := ⟨_, _, _, _, _, _, _, _, _, _, _, _, _, _, l1_BadArgument, c1_BadArgument⟩ }, cl_Tree := ⟨pg_Tree, hd_Tree, po_Tree, sa_Tree⟩, g_Tree := PySem.W.mg_of X G aC_Tree, nf_Tree_classes := nf_Tree_classes, nf_Tree_told := nf_Tree_told, mk_Tree := ⟨mk_Tree, a_Tree_init, i_Tree_init, kc_Tree⟩, m_Tree_len := ⟨a_Tree_len, i_Tree_len, k_Tree_len⟩, m_Tree_getitem := ⟨a_Tree_getitem, i_Tree_getitem, k_Tree_getitem⟩, m_Tree_leaf := ⟨a_Tree_leaf, i_Tree_leaf, k_Tree_leaf⟩, m_Tree_way := ⟨a_Tree_way, i_Tree_way, k_Tree_way⟩, m_Tree_greater := ⟨a_Tree_greater, i_Tree_greater, k_Tree_greater⟩, m_Tree_with_told := ⟨a_Tree_with_told, i_Tree_with_told, k_Tree_with_told⟩, m_Tree_eq := ⟨a_Tree_eq, i_Tree_eq, k_Tree_eq⟩, p_Tree_told := ⟨pa_Tree_told, pt_Tree_told, pk_Tree_told, ⟨_, pr_Tree_told⟩⟩, kf_Tree_list := kit_tyF kc2_Tree kt_Tree ks_Tree_list, ksb_Tree_list := ks_Tree_list, kf_Tree_dict := kit_tyF kc2_Tree kt_Tree ks_Tree_dict, ksb_Tree_dict := ks_Tree_dict, fn_Tree_getitem := fn_Tree_getitem, ne_Tree := ne_Tree, hm_Tree := hm_Tree, ha_Tree := ha_Tree, hn_Tree := hn_Tree, ht_Tree := ht_Tree, F_is_integer := F_is_integer, b_is_integer := b_is_integer, g_is_integer := PySem.W.mg_of X G a_is_integer, F_are_integers := F_are_integers, b_are_integers := b_are_integers, g_are_integers := PySem.W.mg_of X G a_are_integers, F_are_told := F_are_told, b_are_told := b_are_told, g_are_told := PySem.W.mg_of X G a_are_told, F_Tree_init := F_Tree_init, b_Tree_init := b_Tree_init, F_Tree_told := F_Tree_told, b_Tree_told := b_Tree_told, F_Tree_len := F_Tree_len, b_Tree_len := b_Tree_len, F_Tree_getitem := F_Tree_getitem, b_Tree_getitem := b_Tree_getitem, F_Tree_leaf := F_Tree_leaf, b_Tree_leaf := b_Tree_leaf, F_Tree_way := F_Tree_way, b_Tree_way := b_Tree_way, F_Tree_greater := F_Tree_greater, b_Tree_greater := b_Tree_greater, F_Tree_with_told := F_Tree_with_told, b_Tree_with_told := b_Tree_with_told, F_Tree_eq := F_Tree_eq, b_Tree_eq := b_Tree_eq, F_law_opened := F_law_opened, b_law_opened := b_law_opened, g__law_opened := PySem.W.mg_of X G a_law_opened, F_law_draw := F_law_draw, b_law_draw := b_law_draw, g__law_draw := PySem.W.mg_of X G a_law_draw, F_law_told := F_law_told, b_law_told := b_law_told, g__law_told := PySem.W.mg_of X G a_law_told, F_law_pages := F_law_pages, b_law_pages := b_law_pages, g__law_pages := PySem.W.mg_of X G a_law_pages, F_law_way := F_law_way, b_law_way := b_law_way, g__law_way := PySem.W.mg_of X G a_law_way, F_law_greater := F_law_greater, b_law_greater := b_law_greater, g__law_greater := PySem.W.mg_of X G a_law_greater, F_law_refused := F_law_refused, b_law_refused := b_law_refused, g__law_refused := PySem.W.mg_of X G a_law_refused, F_law_tree_right := F_law_tree_right, b_law_tree_right := b_law_tree_right, g__law_tree_right := PySem.W.mg_of X G a_law_tree_right, F_law_refusals := F_law_refusals, b_law_refusals := b_law_refusals, g__law_refusals := PySem.W.mg_of X G a_law_refusals, F_law := F_law, b_law := b_law, g_law := PySem.W.mg_of X G a_law, c_MOST_CLASSES := PySem.W.mg_of X G cc_MOST_CLASSES, g_NODES := PySem.W.mg_of X G gt_NODES, q_NODES := fun H => .inr ⟨_, #[.int 3 u0_NODES, .int 7 u1_NODES, .int 15 u2_NODES, .int 31 u3_NODES, .int 63 u4_NODES], nt_NODES, lt_NODES, rfl, rfl, (by show 5 ≤ sizeLine; decide), (.cons ⟨_, rfl⟩ (.cons ⟨_, rfl⟩ (.cons ⟨_, rfl⟩ (.cons ⟨_, rfl⟩ (.cons ⟨_, rfl⟩ .nil)))))⟩, n_isinstance := PySem.W.mg_none_of X G z_isinstance, n_int := PySem.W.mg_none_of X G z_int, n_bool := PySem.W.mg_none_of X G z_bool, n_list := PySem.W.mg_none_of X G z_list, n_tuple := PySem.W.mg_none_of X G z_tuple, n_len := PySem.W.mg_none_of X G z_len, n_range := PySem.W.mg_none_of X G z_range, n_max := PySem.W.mg_none_of X G z_max, n_min := PySem.W.mg_none_of X G z_min, n_repr := PySem.W.mg_none_of X G z_repr }
  have FL : FunL K "_law_refusals" "_law_refusals" s_law_refusals f_law_refusals _ (.ref c_lam) := ⟨⟨_, _, _, _, _, _, _, _, rfl, l_law_refusals, c_law_refusals⟩⟩
  refine ⟨PySem.W.fnOf "law" "law" (defArgs s_law) (defBody s_law) (defScope s_law) .none kV_law dc_law pm_law an_law cd_law ct_law, [(c_lam, P_lam)], sp_law K P_lam, ?_, ?_, ?_, fun s v => .of_eq rfl, fun H a ns hl hT hS => ⟨a, ns, rfl, hS, hl, hT (c_lam, P_lam) (List.mem_singleton.mpr rfl), fun _ => rfl⟩, fun base _ _ tb => ok_law T FL (tb (c_lam, P_lam) (List.mem_singleton.mpr rfl))⟩
  · intro p hp; rw [List.mem_singleton.mp hp]; exact lamE_
  · intro p hp; rw [List.mem_singleton.mp hp]; exact lamN_
  · intro p hp; rw [List.mem_singleton.mp hp]; exact PySem.W.codeHd_of_K X lamH_
end Rt
open PySem PySem.W PyProof.Rows in
set_option maxRecDepth 100000 in
set_option maxHeartbeats 0 in
theorem PySem.Challenge.cw_roomtold_k06_trees_told_holds : PySem.Challenge.rw_roomtold_k06_trees_told.Holds := by
  w_on; o_law; k_head; (case hw => w_witness2)
  k_fill
  refine L2.walk_ofTG (l := PySem.Challenge.rw_roomtold_k06_trees_told) (n := 63) (k := 16) (x := "_law_script") rfl (by decide) rfl ⟨rfl, by decide, by decide⟩ (fun w h Y => PySem.W.km_in_of Y) ?F
  case F =>
    intro w mg fa h Y KX G hmg
    refine' Rt.all_mk KX G hmg ?aC_Tree ?aC_RoomError ?aC_BadPage ?aC_BadNode ?aC_BadClass ?aC_BadSize ?aC_BadRooms ?aC_BadTree ?aC_BadArgument ?xL_BadPage ?sa_BadPage ?ga_BadPage ?gg_BadPage ?nb_BadPage ?a1_BadPage ?t1_BadPage ?l1_BadPage ?c1_BadPage ?kC_BadPage ?eC_BadPage ?tC_BadPage ?hC_BadPage ?iC_BadPage ?sC_BadPage ?xL_BadNode ?sa_BadNode ?ga_BadNode ?gg_BadNode ?nb_BadNode ?a1_BadNode ?t1_BadNode ?l1_BadNode ?c1_BadNode ?kC_BadNode ?eC_BadNode ?tC_BadNode ?hC_BadNode ?iC_BadNode ?sC_BadNode ?mu_BadNode_BadPage ?xL_BadClass ?sa_BadClass ?ga_BadClass ?gg_BadClass ?nb_BadClass ?a1_BadClass ?t1_BadClass ?l1_BadClass ?c1_BadClass ?kC_BadClass ?eC_BadClass ?tC_BadClass ?hC_BadClass ?iC_BadClass ?sC_BadClass ?mu_BadClass_BadPage ?mu_BadClass_BadNode ?xL_BadSize ?sa_BadSize ?ga_BadSize ?gg_BadSize ?nb_BadSize ?a1_BadSize ?t1_BadSize ?l1_BadSize ?c1_BadSize ?kC_BadSize ?eC_BadSize ?tC_BadSize ?hC_BadSize ?iC_BadSize ?sC_BadSize ?xL_BadRooms ?sa_BadRooms ?ga_BadRooms ?gg_BadRooms ?nb_BadRooms ?a1_BadRooms ?t1_BadRooms ?l1_BadRooms ?c1_BadRooms ?kC_BadRooms ?eC_BadRooms ?tC_BadRooms ?hC_BadRooms ?iC_BadRooms ?sC_BadRooms ?xL_BadTree ?sa_BadTree ?ga_BadTree ?gg_BadTree ?nb_BadTree ?a1_BadTree ?t1_BadTree ?l1_BadTree ?c1_BadTree ?kC_BadTree ?eC_BadTree ?tC_BadTree ?hC_BadTree ?iC_BadTree ?sC_BadTree ?xL_BadArgument ?sa_BadArgument ?ga_BadArgument ?gg_BadArgument ?nb_BadArgument ?a1_BadArgument ?t1_BadArgument ?l1_BadArgument ?c1_BadArgument ?kC_BadArgument ?eC_BadArgument ?tC_BadArgument ?hC_BadArgument ?iC_BadArgument ?sC_BadArgument ?a_is_integer ?l_is_integer ?c_is_integer ?k_is_integer ?a_are_integers ?l_are_integers ?c_are_integers ?k_are_integers ?a_are_told ?l_are_told ?c_are_told ?k_are_told ?a_Tree_init ?i_Tree_init ?l_Tree_init ?c_Tree_init ?k_Tree_init ?pa_Tree_told ?pt_Tree_told ?pk_Tree_told ?pr_Tree_told ?l_Tree_told ?c_Tree_told ?k_Tree_told ?a_Tree_len ?i_Tree_len ?l_Tree_len ?c_Tree_len ?k_Tree_len ?a_Tree_getitem ?i_Tree_getitem ?l_Tree_getitem ?c_Tree_getitem ?k_Tree_getitem ?a_Tree_leaf ?i_Tree_leaf ?l_Tree_leaf ?c_Tree_leaf ?k_Tree_leaf ?a_Tree_way ?i_Tree_way ?l_Tree_way ?c_Tree_way ?k_Tree_way ?a_Tree_greater ?i_Tree_greater ?l_Tree_greater ?c_Tree_greater ?k_Tree_greater ?a_Tree_with_told ?i_Tree_with_told ?l_Tree_with_told ?c_Tree_with_told ?k_Tree_with_told ?a_Tree_eq ?i_Tree_eq ?l_Tree_eq ?c_Tree_eq ?k_Tree_eq ?a_law_opened ?l_law_opened ?c_law_opened ?k_law_opened ?a_law_draw ?l_law_draw ?c_law_draw ?k_law_draw ?a_law_told ?l_law_told ?c_law_told ?k_law_told ?a_law_pages ?l_law_pages ?c_law_pages ?k_law_pages ?a_law_way ?l_law_way ?c_law_way ?k_law_way ?a_law_greater ?l_law_greater ?c_law_greater ?k_law_greater ?a_law_refused ?l_law_refused ?c_law_refused ?k_law_refused ?a_law_tree_right ?l_law_tree_right ?c_law_tree_right ?k_law_tree_right ?a_law_refusals ?l_law_refusals ?c_law_refusals ?k_law_refusals ?a_law ?l_law ?c_law ?k_law ?pg_Tree ?hd_Tree ?po_Tree ?sa_Tree ?mk_Tree ?kc_Tree ?nf_Tree_classes ?nf_Tree_told ?kt_Tree ?kc2_Tree ?ks_Tree_list ?ks_Tree_dict ?fn_Tree_getitem ?ne_Tree ?hm_Tree ?ha_Tree ?hn_Tree ?ht_Tree ?cc_MOST_CLASSES ?gt_NODES ?lt_NODES ?z_isinstance ?z_int ?z_bool ?z_list ?z_tuple ?z_len ?z_range ?z_max ?z_min ?z_repr ?lamC_ ?lamK_ ?lamV_ ?lamH_ ?lamN_ ?lamE_
    (case aC_Tree => k_is)
    (case aC_RoomError => k_is)
    (case aC_BadPage => k_is)
    (case aC_BadNode => k_is)
    (case aC_BadClass => k_is)
    (case aC_BadSize => k_is)
    (case aC_BadRooms => k_is)
    (case aC_BadTree => k_is)
    (case aC_BadArgument => k_is)
    (case xL_BadPage => k_is)
    (case sa_BadPage => k_is)
    (case ga_BadPage => k_is)
    (case gg_BadPage => k_is)
    (case nb_BadPage => k_is)
    (case a1_BadPage => k_is)
    (case t1_BadPage => k_is)
    (case l1_BadPage => k_is)
    (case c1_BadPage => k_is)
    (case kC_BadPage => k_is)
    (case eC_BadPage => k_is)
    (case tC_BadPage => k_is)
    (case hC_BadPage => k_is)
    (case iC_BadPage => k_is)
    (case sC_BadPage => k_is)
    (case xL_BadNode => k_is)
    (case sa_BadNode => k_is)
    (case ga_BadNode => k_is)
    (case gg_BadNode => k_is)
    (case nb_BadNode => k_is)
    (case a1_BadNode => k_is)
    (case t1_BadNode => k_is)
    (case l1_BadNode => k_is)
    (case c1_BadNode => k_is)
    (case kC_BadNode => k_is)
    (case eC_BadNode => k_is)
    (case tC_BadNode => k_is)
    (case hC_BadNode => k_is)
    (case iC_BadNode => k_is)
    (case sC_BadNode => k_is)
    (case mu_BadNode_BadPage => k_is)
    (case xL_BadClass => k_is)
    (case sa_BadClass => k_is)
    (case ga_BadClass => k_is)
    (case gg_BadClass => k_is)
    (case nb_BadClass => k_is)
    (case a1_BadClass => k_is)
    (case t1_BadClass => k_is)
    (case l1_BadClass => k_is)
    (case c1_BadClass => k_is)
    (case kC_BadClass => k_is)
    (case eC_BadClass => k_is)
    (case tC_BadClass => k_is)
    (case hC_BadClass => k_is)
    (case iC_BadClass => k_is)
    (case sC_BadClass => k_is)
    (case mu_BadClass_BadPage => k_is)
    (case mu_BadClass_BadNode => k_is)
    (case xL_BadSize => k_is)
    (case sa_BadSize => k_is)
    (case ga_BadSize => k_is)
    (case gg_BadSize => k_is)
    (case nb_BadSize => k_is)
    (case a1_BadSize => k_is)
    (case t1_BadSize => k_is)
    (case l1_BadSize => k_is)
    (case c1_BadSize => k_is)
    (case kC_BadSize => k_is)
    (case eC_BadSize => k_is)
    (case tC_BadSize => k_is)
    (case hC_BadSize => k_is)
    (case iC_BadSize => k_is)
    (case sC_BadSize => k_is)
    (case xL_BadRooms => k_is)
    (case sa_BadRooms => k_is)
    (case ga_BadRooms => k_is)
    (case gg_BadRooms => k_is)
    (case nb_BadRooms => k_is)
    (case a1_BadRooms => k_is)
    (case t1_BadRooms => k_is)
    (case l1_BadRooms => k_is)
    (case c1_BadRooms => k_is)
    (case kC_BadRooms => k_is)
    (case eC_BadRooms => k_is)
    (case tC_BadRooms => k_is)
    (case hC_BadRooms => k_is)
    (case iC_BadRooms => k_is)
    (case sC_BadRooms => k_is)
    (case xL_BadTree => k_is)
    (case sa_BadTree => k_is)
    (case ga_BadTree => k_is)
    (case gg_BadTree => k_is)
    (case nb_BadTree => k_is)
    (case a1_BadTree => k_is)
    (case t1_BadTree => k_is)
    (case l1_BadTree => k_is)
    (case c1_BadTree => k_is)
    (case kC_BadTree => k_is)
    (case eC_BadTree => k_is)
    (case tC_BadTree => k_is)
    (case hC_BadTree => k_is)
    (case iC_BadTree => k_is)
    (case sC_BadTree => k_is)
    (case xL_BadArgument => k_is)
    (case sa_BadArgument => k_is)
    (case ga_BadArgument => k_is)
    (case gg_BadArgument => k_is)
    (case nb_BadArgument => k_is)
    (case a1_BadArgument => k_is)
    (case t1_BadArgument => k_is)
    (case l1_BadArgument => k_is)
    (case c1_BadArgument => k_is)
    (case kC_BadArgument => k_is)
    (case eC_BadArgument => k_is)
    (case tC_BadArgument => k_is)
    (case hC_BadArgument => k_is)
    (case iC_BadArgument => k_is)
    (case sC_BadArgument => k_is)
    (case a_is_integer => k_is)
    (case l_is_integer => k_is)
    (case c_is_integer => k_is)
    (case k_is_integer => k_is)
    (case a_are_integers => k_is)
    (case l_are_integers => k_is)
    (case c_are_integers => k_is)
    (case k_are_integers => k_is)
    (case a_are_told => k_is)
    (case l_are_told => k_is)
    (case c_are_told => k_is)
    (case k_are_told => k_is)
    (case a_Tree_init => k_is)
    (case i_Tree_init => k_is)
    (case l_Tree_init => k_is)
    (case c_Tree_init => k_is)
    (case k_Tree_init => k_is)
    (case pa_Tree_told => k_is)
    (case pt_Tree_told => k_is)
    (case pk_Tree_told => k_is)
    (case pr_Tree_told => k_is)
    (case l_Tree_told => k_is)
    (case c_Tree_told => k_is)
    (case k_Tree_told => k_is)
    (case a_Tree_len => k_is)
    (case i_Tree_len => k_is)
    (case l_Tree_len => k_is)
    (case c_Tree_len => k_is)
    (case k_Tree_len => k_is)
    (case a_Tree_getitem => k_is)
    (case i_Tree_getitem => k_is)
    (case l_Tree_getitem => k_is)
    (case c_Tree_getitem => k_is)
    (case k_Tree_getitem => k_is)
    (case a_Tree_leaf => k_is)
    (case i_Tree_leaf => k_is)
    (case l_Tree_leaf => k_is)
    (case c_Tree_leaf => k_is)
    (case k_Tree_leaf => k_is)
    (case a_Tree_way => k_is)
    (case i_Tree_way => k_is)
    (case l_Tree_way => k_is)
    (case c_Tree_way => k_is)
    (case k_Tree_way => k_is)
    (case a_Tree_greater => k_is)
    (case i_Tree_greater => k_is)
    (case l_Tree_greater => k_is)
    (case c_Tree_greater => k_is)
    (case k_Tree_greater => k_is)
    (case a_Tree_with_told => k_is)
    (case i_Tree_with_told => k_is)
    (case l_Tree_with_told => k_is)
    (case c_Tree_with_told => k_is)
    (case k_Tree_with_told => k_is)
    (case a_Tree_eq => k_is)
    (case i_Tree_eq => k_is)
    (case l_Tree_eq => k_is)
    (case c_Tree_eq => k_is)
    (case k_Tree_eq => k_is)
    (case a_law_opened => k_is)
    (case l_law_opened => k_is)
    (case c_law_opened => k_is)
    (case k_law_opened => k_is)
    (case a_law_draw => k_is)
    (case l_law_draw => k_is)
    (case c_law_draw => k_is)
    (case k_law_draw => k_is)
    (case a_law_told => k_is)
    (case l_law_told => k_is)
    (case c_law_told => k_is)
    (case k_law_told => k_is)
    (case a_law_pages => k_is)
    (case l_law_pages => k_is)
    (case c_law_pages => k_is)
    (case k_law_pages => k_is)
    (case a_law_way => k_is)
    (case l_law_way => k_is)
    (case c_law_way => k_is)
    (case k_law_way => k_is)
    (case a_law_greater => k_is)
    (case l_law_greater => k_is)
    (case c_law_greater => k_is)
    (case k_law_greater => k_is)
    (case a_law_refused => k_is)
    (case l_law_refused => k_is)
    (case c_law_refused => k_is)
    (case k_law_refused => k_is)
    (case a_law_tree_right => k_is)
    (case l_law_tree_right => k_is)
    (case c_law_tree_right => k_is)
    (case k_law_tree_right => k_is)
    (case a_law_refusals => k_is)
    (case l_law_refusals => k_is)
    (case c_law_refusals => k_is)
    (case k_law_refusals => k_is)
    (case a_law => k_is)
    (case l_law => k_is)
    (case c_law => k_is)
    (case k_law => k_is)
    (case pg_Tree => k_is)
    (case hd_Tree => k_is)
    (case po_Tree => k_is)
    (case sa_Tree => k_is)
    (case mk_Tree => k_is)
    (case kc_Tree => k_is)
    (case nf_Tree_classes => k_is)
    (case nf_Tree_told => k_is)
    (case kt_Tree => k_is)
    (case kc2_Tree => k_is)
    (case ks_Tree_list => k_is)
    (case ks_Tree_dict => k_is)
    (case fn_Tree_getitem => k_is)
    (case ne_Tree => k_is)
    (case hm_Tree => k_is)
    (case ha_Tree => k_is)
    (case hn_Tree => k_is)
    (case ht_Tree => k_is)
    (case cc_MOST_CLASSES => k_is)
    (case gt_NODES => k_is)
    (case lt_NODES => k_is)
    (case z_isinstance => k_is)
    (case z_int => k_is)
    (case z_bool => k_is)
    (case z_list => k_is)
    (case z_tuple => k_is)
    (case z_len => k_is)
    (case z_range => k_is)
    (case z_max => k_is)
    (case z_min => k_is)
    (case z_repr => k_is)
    (case lamC_ => exact rfl)
    (case lamK_ => k_is)
    (case lamV_ => exact rfl)
    (case lamH_ => kernel_rfl)
    (case lamN_ => kernel_rfl)
    (case lamE_ => exact PySem.W.km_tabs_of Y _ (by k_mem))
