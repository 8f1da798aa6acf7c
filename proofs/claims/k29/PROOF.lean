import PyProof.Rows.All
import Wide.All
import OpenK.AllK
import Wide.FinOn
import HandS.ForMost
import HandS.IsInst
import HandS.Conv
import HandS.Style
import HandS.Property
import PyProof.InstNe
import PyProof.ReprRoads
import PyProof.ReprLen
import HandS.ForExc
import HandS.ExcIs
import HandS.EndTab
import HandS.CallRecv
import KE.KNestM
import KE.OsGo
import HandS.ExcOwn
import HandS.Walk
import HandS.Flow
import KE.KEqSeq
import HandS.TryOnly
import HandS.Defaults
import HandS.TupAny
import PyProof.ReprBulk
import PyProof.P3Eq
import PyProof.Rows.RegStrFacts
import HandS.MakeKwOnly
import KE.GoesEnumKw
import HandS.SortKw
import HandS.SortInts
import KE.GoesEnum
import PySem.Challenge.RW_roomtold_k29_disks_written_and_flushed
set_option Elab.async false
set_option linter.all false
set_option maxRecDepth 100000
set_option maxHeartbeats 4000000
namespace PySem.W
open PySem PySem.Spec PySem.Calls PyProof.Rows
section
variable {prog : Program} {w : World} {A : Around} {E : Value → Shared → Prop} {s : Shared} {K : Frag} {x y C L f : Addr} {h₀ : Heap} {m : Str → Option Value} {ox : Obj} {od : Option Obj}
theorem ifBound_ne {M : Model} {args : List Value} {Q : Option Value → Shared → Prop} (X : K.In s.heap) (I : InstAt s.heap x ox C od) (hs : findIn K (.ref C) "__ne__" = some (some (.builtin "object.__ne__")))
    (h : wpAny M A (call (.builtin "object.__ne__") (.ref x :: args)) (fun v => Q (some v)) E s) : wpAny M A (callSpecialIfBound? (.ref x) "__ne__" args) Q E s := by
  simp only [callSpecialIfBound?, bindSpecialIfBound?]
  refine wpAny_holding (wpAny_bind (wpAny_bind (wpAny_bind (I.type.here ((looks_findIn X hs).here ?_)))))
  refine wpAny_bind (wpAny_askSetting (wpAny_ite ?_))
  have fin : wpAny M A (call (.builtin "object.__ne__") ([.ref x] ++ args) >>= fun v => pure (some v)) Q E s := wpAny_bind (wpAny_mono h (fun v s' h' => wpAny_pure h') fun _ _ h' => h')
  split
  · exact wpAny_bind (wpAny_of_eq (PySem.F.cmp_object.ne.bind _) (wpAny_pure (by exact fin)))
  · exact wpAny_tryCatch (wpAny_bind (wpAny_of_eq (PySem.F.cmp_object.ne.bind _) (wpAny_pure (by exact fin))))
theorem objNe_own {b : Value} (X : K.In s.heap) (I : InstAt s.heap x ox C od) (he : findIn K (.ref C) "__eq__" = some (some (.ref f))) (hf : isFn K (.ref f) = true) (hu : A.units < cLine) {Q : Fin → Shared → Prop}
    (hcall : wpAny (model prog w) A (call (.ref f) [.ref x, b]) (fun v s' => ∃ r, v = .bool r ∧ Q (.done (.ret (.bool (!r)))) s') E s) :
    wpAny (model prog w) A (Builtin.«object.__ne__» ⟨[.ref x, b], []⟩) Q E s := by
  unfold Builtin.«object.__ne__»
  repeat (first
    | with_reducible refine wpAny_cRoomFor hu ?_
    | (refine wpAny_bind (m := callSpecialIfBound? (.ref x) (Str.ofString "__eq__") [b])
        (ifBound_K X I he hf (wpAny_mono hcall (fun r s' hr => by
          obtain ⟨b, rfl, hq⟩ := hr
          repeat (first | exact hq | exact wpAny_pure hq | exact wpAny_truthy_bool hq | (refine wpAny_bind (m := truthy (.bool _)) (wpAny_truthy_bool ?_)) | wp_step)) fun _ _ e => e)))
    | wp_step)
theorem rc_ne_own {b : Value} {Q : Value → Shared → Prop} (hu : A.units + 1 < cLine) (F : Fr h₀ L s.heap m) (X₀ : K.In h₀) (I : InstAt s.heap x ox C od) (hb : Looks (model prog w) s.heap (typeOf b) (.ref C))
    (hne : findIn K (.ref C) "__ne__" = some (some (.builtin "object.__ne__"))) (he : findIn K (.ref C) "__eq__" = some (some (.ref f))) (hf : isFn K (.ref f) = true) (hm : mroIn K C (.type "object") = some true)
    (h : wpAny (model prog w) A.in1 (call (.ref f) [.ref x, b]) (fun v s' => ∃ r, v = .bool r ∧ Q (.bool (!r)) s') E s) : wpAny (model prog w) A (richCompare .NotEq (.ref x) b) Q E s := by
  have X := X₀.keeps F.keep
  have one : wpAny (model prog w) A (tryCompare (.ref x) (cmpInfo .NotEq).2.1 b) (fun r s' => ∃ v, r = some v ∧ Q v s') E s := by
    show wpAny (model prog w) A (tryCompare (.ref x) "__ne__" b) _ _ _
    simp only [tryCompare]
    refine wpAny_bind (ifBound_ne X I hne (wpAny_call (codeAny_call_builtin PySem.F.cmp_object.ne.plain PySem.F.cmpEntry_ne
      (check_slot PySem.F.cmpKind_ne PySem.F.cmpSplit_ne (I.type.andThen (looks_mroIn X hm)) (PySem.F.cmpArgs_ne _ _)
        (objNe_own (A := A.in1) X I he hf hu (wpAny_mono h (fun v s' hv => ?_) fun _ _ e => e))))))
    obtain ⟨r, rfl, hq⟩ := hv
    first | exact ⟨r, rfl, wpAny_pure ⟨_, rfl, hq⟩⟩ | exact ⟨r, rfl, wpAny_pure (wpAny_pure ⟨_, rfl, hq⟩)⟩ | exact ⟨r, rfl, ⟨_, rfl, hq⟩⟩
  unfold richCompare
  simp only [oneThing_ref]
  refine wpAny_holding (wpAny_bind (wpAny_cRoomFor (Nat.lt_of_succ_lt hu) ?_))
  refine wpAny_bind (I.type.here (wpAny_bind (hb.here ?_)))
  rw [show (Value.ref C != Value.ref C) = false from by simp]
  simp only [Bool.false_eq_true, if_false, Bool.false_and]
  refine wpAny_bind (wpAny_pure ?_)
  simp only [Bool.false_eq_true, if_false]
  refine wpAny_bind (wpAny_mono one (fun r s' z => ?_) fun _ _ e => e)
  obtain ⟨v, rfl, hq⟩ := z
  exact wpAny_pure hq
end
end PySem.W
namespace L2
open PySem PySem.Spec PyProof.Rows
/-! ### own special methods, called by len, by a subscript, by == and != -/
section
variable {X : Cx} {CX : CXT} {k : Nat} {f C : Addr} {fd : FuncData} {ps : List Str} {sp : Sp} {E : XK}
theorem run_at {A : Around} (hA : A.frames = X.A.frames) {pins : List (Addr × Obj)} {σ : L2.St} {H : Hp} {s : Shared} {Q : VK} {us : List Value} {vs : List V} (F : FnOk X.prog X.w X.K X.mg X.base CX k f fd ps sp) (hr : Room k A) (hb : Binds X.K fd ps []) (hx : Passes CX X E)
    (I : Inv X pins σ H s) (r : Vals vs us) (h : sp vs H Q E) : wpAny (model X.prog X.w) A (call (.ref f) us) (EP X pins σ Q) X.xe s := by
  have hl : us.length = ps.length := by rw [← r.length]; exact F.len _ _ _ _ h
  have e0 : Env0 X.prog X.w X.K X.mg X.base A X.stack s H := by
    have e := I.env0
    exact ⟨by rw [hA]; exact e.frames, e.mod, e.bs, e.bsz, e.funs, e.frf, e.hok, e.bare⟩
  have hb2 := hb s us I.kIn (by rw [List.append_nil]; exact hl)
  rw [List.append_nil] at hb2
  refine wpAny_call (codeAny_mono (F.run A X.stack s H ⟨us, []⟩ us vs Q E hr e0 hb2 r h) fun r s' hq => ?_)
  cases r with
  | error e => exact hx pins σ H s e s' I hq
  | ok fl =>
    cases fl with
    | ret u => exact I.after hq
    | next => exact False.elim hq
    | brk => exact False.elim hq
    | cont => exact False.elim hq
def rLenOwn (C : Addr) (sp : Sp) (E : XK) : List V → Hp → VK → Prop := fun xs H Q => ∃ p dx fs, xs = [.ref p] ∧ H p = some (.ins C dx fs) ∧ sp [.ref p] H (fun v H' => ∃ n : Int, v = .int n ∧ 0 ≤ n ∧ n < 2 ^ 63 ∧ Q (.int n) H') E
theorem call_lenOwn (F : FnOk X.prog X.w X.K X.mg X.base CX k f fd ps sp) (hr : Room (k + 1) X.A) (hs : PySem.W.findIn X.K (.ref C) "__len__" = some (some (.ref f))) (hf : PySem.W.isFn X.K (.ref f) = true) (hb : Binds X.K fd ps []) (hx : Passes CX X E) :
    CallR X (.builtin "len") (rLenOwn C sp E) := by
  intro pins s σ H xs us Q I r h
  obtain ⟨p, dx, fs, rfl, hp, h⟩ := h
  obtain ⟨u, rfl, ru⟩ := vals1 r
  cases ru
  obtain ⟨mA, J, _⟩ := ins_get I.hok hp
  obtain ⟨od, J, _⟩ := J.look
  obtain ⟨m, hF⟩ := I.fr
  refine PySem.W.len_K hF I.ok.mod.kin J hs hf (wpAny_mono (run_at (A := X.A.in1) (vs := [.ref p]) rfl F hr.in1 hb hx I (.cons rfl .nil) h) (fun v s' z => ?_) fun _ _ z => z)
  obtain ⟨x, H', I', rx, n, ex, n0, n1, q⟩ := z
  subst ex
  obtain ⟨t, rfl⟩ := rx
  exact ⟨⟨n0, n1⟩, .int n, H', I'.tok _, ⟨_, rfl⟩, q⟩
def rSubOwn (C : Addr) (sp : Sp) (E : XK) : R2 := fun x y H Q => ∃ p dx fs, x = .ref p ∧ H p = some (.ins C dx fs) ∧ sp [.ref p, y] H Q E
theorem pe_subOwn {va vb : Expr} {ta tb : TE} {pos : Pos} (F : FnOk X.prog X.w X.K X.mg X.base CX k f fd ps sp) (hr : Room (k + 1) X.A) (hs : PySem.W.findIn X.K (.ref C) "__getitem__" = some (some (.ref f))) (hf : PySem.W.isFn X.K (.ref f) = true) (hfn : PySem.W.fnIn X.K f = true) (hb : Binds X.K fd ps []) (hx : Passes CX X E)
    (ha : PE X va ta) (hb' : PE X vb tb) (hsl : ∀ o i, subscripted vb true o i = runValue (.builtin "lifetime.subscript" ⟨[o, i], []⟩)) : PE X (.Subscript va vb pos) (tOp (rSubOwn C sp E) ta tb) := by
  refine ⟨fun pins s σ H Q I h => ?_⟩
  refine Subscript_ (binT ha hb' I h fun v u s2 x y H2 I2 rx ry q => ?_)
  obtain ⟨p, dx, fs, rfl, hp, q⟩ := q
  cases rx
  obtain ⟨mA, J, _⟩ := ins_get I2.hok hp
  obtain ⟨od, J, _⟩ := J.look
  obtain ⟨m, hF⟩ := I2.fr
  exact PySem.W.sub_K hF I2.ok.mod.kin J hs hfn hf (run_at (A := X.A.in1) (vs := [.ref p, y]) rfl F hr.in1 hb hx I2 (.cons rfl (.cons ry .nil)) q) (hsl _ _)
def rEqOwn (C : Addr) (sp : Sp) (E : XK) : R2 := fun x y H Q => ∃ p q dx dy fs gs, x = .ref p ∧ y = .ref q ∧ H p = some (.ins C dx fs) ∧ H q = some (.ins C dy gs) ∧ sp [.ref p, .ref q] H (fun v H' => ∃ r : Bool, v = .bl r ∧ Q (.bl r) H') E
def rNeOwn (C : Addr) (sp : Sp) (E : XK) : R2 := fun x y H Q => ∃ p q dx dy fs gs, x = .ref p ∧ y = .ref q ∧ H p = some (.ins C dx fs) ∧ H q = some (.ins C dy gs) ∧ sp [.ref p, .ref q] H (fun v H' => ∃ r : Bool, v = .bl r ∧ Q (.bl (!r)) H') E
theorem op_eqOwn (F : FnOk X.prog X.w X.K X.mg X.base CX k f fd ps sp) (hr : Room k X.A) (hs : PySem.W.findIn X.K (.ref C) "__eq__" = some (some (.ref f))) (hf : PySem.W.isFn X.K (.ref f) = true) (hb : Binds X.K fd ps []) (hx : Passes CX X E) :
    OpR X (compareOp .Eq) (rEqOwn C sp E) := by
  intro pins s σ H x y v u Q I rx ry h
  obtain ⟨p, q, dx, dy, fs, gs, rfl, rfl, hp, hq, h⟩ := h
  cases rx
  cases ry
  obtain ⟨mA, J, _⟩ := ins_get I.hok hp
  obtain ⟨mB, J', _⟩ := ins_get I.hok hq
  obtain ⟨od, J, _⟩ := J.look
  obtain ⟨od', J', _⟩ := J'.look
  obtain ⟨m, hF⟩ := I.fr
  show wpAny (model X.prog X.w) X.A (richCompare .Eq _ _) (EP X pins σ Q) X.xe s
  refine PySem.W.cmp_K (op := .Eq) (tb := .ref C) hr.units0 hF I.ok.mod.kin J J'.type (by simp [PySem.W.notFirst]) hs hf (wpAny_mono (run_at (vs := [.ref p, .ref q]) rfl F hr hb hx I (.cons rfl (.cons rfl .nil)) h) (fun v s' z => ?_) fun _ _ z => z)
  obtain ⟨x, H', I', rx, r, ex, qq⟩ := z
  subst ex
  cases rx
  exact ⟨.bl r, H', I', rfl, qq⟩
theorem op_neOwn (F : FnOk X.prog X.w X.K X.mg X.base CX k f fd ps sp) (hr : Room (k + 1) X.A) (hs : PySem.W.findIn X.K (.ref C) "__eq__" = some (some (.ref f))) (hf : PySem.W.isFn X.K (.ref f) = true)
    (hne : PySem.W.findIn X.K (.ref C) "__ne__" = some (some (.builtin "object.__ne__"))) (hm : PySem.W.mroIn X.K C (.type "object") = some true) (hb : Binds X.K fd ps []) (hx : Passes CX X E) :
    OpR X (compareOp .NotEq) (rNeOwn C sp E) := by
  intro pins s σ H x y v u Q I rx ry h
  obtain ⟨p, q, dx, dy, fs, gs, rfl, rfl, hp, hq, h⟩ := h
  cases rx
  cases ry
  obtain ⟨mA, J, _⟩ := ins_get I.hok hp
  obtain ⟨mB, J', _⟩ := ins_get I.hok hq
  obtain ⟨od, J, _⟩ := J.look
  obtain ⟨od', J', _⟩ := J'.look
  obtain ⟨m, hF⟩ := I.fr
  show wpAny (model X.prog X.w) X.A (richCompare .NotEq _ _) (EP X pins σ Q) X.xe s
  refine PySem.W.rc_ne_own hr.in1.units0 hF I.ok.mod.kin J J'.type hne hs hf hm (wpAny_mono (run_at (A := X.A.in1) (vs := [.ref p, .ref q]) rfl F hr.in1 hb hx I (.cons rfl (.cons rfl .nil)) h) (fun v s' z => ?_) fun _ _ z => z)
  obtain ⟨x, H', I', rx, r, ex, qq⟩ := z
  subst ex
  cases rx
  exact ⟨r, rfl, .bl (!r), H', I', rfl, qq⟩
end
end L2
set_option maxHeartbeats 4000000
namespace L2
open PySem PySem.Spec PyProof.Rows
/-! ### a def that is known to run where no repr is under way: its promise, the law's end -/
structure FnOkG (P : Program) (w : World) (K : PySem.W.Frag) (mg : Str → Option Value) (base : Heap) (CX : CXT) (k : Nat) (f : Addr) (fd : FuncData) (ps : List Str) (sp : Sp) : Prop where
  len : ∀ vs H Q E, sp vs H Q E → vs.length = ps.length
  run : ∀ (A : Around) (outer : List Env) (s : Shared) (H : Hp) (args : Args) (us : List Value) (vs : List V) (Q : VK) (E : XK), A.guards = some [] → Room k A → Env0 P w K mg base A outer s H → BindsTo s fd args (ps.zip us) → Vals vs us → sp vs H Q E →
    codeAny (model P w) A (.call (.ref f) args) (CR CX outer P w H s Q E) s
theorem fn_ofG {CX : CXT} {P : Program} {w : World} {K : PySem.W.Frag} {mg : Str → Option Value} {base : Heap} {k : Nat} {f : Addr} {name qual : Str} {params : Arguments} {body : List Stmt} {scope : Scope} {dV kV doc pm cdv ct oc : Value} {an od : Option Addr}
    {osl : Array (Option Value)} {N ps : List Str} {sp : Sp} (lk : K.lookup f = some ⟨oc, od, .func (PySem.W.fnOf name qual params body scope dV kV doc pm an cdv ct), osl⟩) (hcd : PySem.W.codeIn K cdv qual = true) (S : FnScope N ps scope)
    (len : ∀ vs H Q E, sp vs H Q E → vs.length = ps.length)
    (hbody : ∀ (A : Around) (outer : List Env) (s : Shared) (H : Hp) (vs : List V) (Q : VK) (E : XK), A.guards = some [] → Room k (A.deeper (envOfC qual scope s.heap.objs.size f cdv)) → sp vs H Q E →
      ∃ t, PSs (cxOf CX P w K mg base N qual scope f cdv A outer s H E) body t ∧ t { nx := fun _ H' => Q .non H', rt := Q } (start N vs) H) :
    FnOkG P w K mg base CX (k + 1) f (PySem.W.fnOf name qual params body scope dV kV doc pm an cdv ct) ps sp := by
  refine ⟨len, fun A outer s H args us vs Q E hgd hr e0 hb r hsp => ?_⟩
  have hl := len _ _ _ _ hsp
  have KX : K.In s.heap := e0.mod.kin.keeps fun b o e => (e0.bs b o e).1
  have lim : s.heap.NoLimit := e0.mod.nolimit.keeps fun b o e => (e0.bs b o e).1
  have hkind : ∀ y ∈ ps.zip us, scope.names.lookup y.1 = some .local ∨ (scope.names.lookup y.1 = some .cell ∧ ((cellsFrom (s.heap.objs.size + 1) scope.names []).lookup y.1).isSome = true) := fun ⟨n, v⟩ hy => by
    rcases S.par n (List.of_mem_zip hy).1 with q | q
    · exact .inl q
    · exact .inr ⟨q, PySem.W.cellsFrom_some _ _ _ (.inl q)⟩
  refine codeAny_call_function hr.depth (KX _ _ lk) rfl S.co S.gen rfl (PySem.W.codeRec_of KX hcd) (hb _ _ _ _ ?_)
  refine wpAny_newFunctionEnv_cells S.kind hkind fun env he s1 x => ?_
  subst he
  refine ⟨lim.keeps x.toInCall.keep, codeAny_func ?_⟩
  obtain ⟨t, ht, hq⟩ := hbody A outer s H vs Q E hgd (hr.deeper _) hsp
  have I : Inv (cxOf CX P w K mg base N qual scope f cdv A outer s H E) [] (start N vs) H s1 := inv_start S hr.hd e0 hl r x
  refine wpAny_mono (ht.run [] s1 (start N vs) H _ I hq) (fun fl s' hs => ?_) fun e s' hs => hs
  have fin : ∀ {σ' : L2.St} {H' : Hp} {v : V} {u : Value}, Inv (cxOf CX P w K mg base N qual scope f cdv A outer s H E) [] σ' H' s' → RelV v u → Q v H' → CE outer P w H s Q u s' :=
    fun {σ' H' v u} J rv q => ⟨v, H', J.os, J.bare, J.base, J.hok, rv, q⟩
  cases fl with
  | ret u =>
    obtain ⟨v, σ', H', J, rv, q⟩ := hs
    exact fin J rv q
  | next =>
    obtain ⟨σ', H', J, q⟩ := hs
    exact fin (v := V.non) (u := Value.none) J rfl q
  | brk =>
    obtain ⟨_, _, _, z⟩ := hs
    exact False.elim z
  | cont =>
    obtain ⟨_, _, _, z⟩ := hs
    exact False.elim z
theorem Fun.okG {P : Program} {w : World} {K : PySem.W.Frag} {mg : Str → Option Value} {base : Heap} {x qual : Str} {st : Stmt} {f : Addr} {fd : FuncData} {N ps : List Str} {k : Nat} {sp : Sp} (F : Fun K x qual st f fd) (S : FnScope N ps (defScope st)) (len : ∀ vs H Q E, sp vs H Q E → vs.length = ps.length)
    (hbody : ∀ (cdv : Value) (A : Around) (outer : List Env) (s : Shared) (H : Hp) (vs : List V) (Q : VK) (E : XK), (A.deeper (envOfC qual (defScope st) s.heap.objs.size f cdv)).guards = some [] → Room k (A.deeper (envOfC qual (defScope st) s.heap.objs.size f cdv)) → sp vs H Q E →
      ∃ t, PSs (cxOf CX0 P w K mg base N qual (defScope st) f cdv A outer s H E).nox (defBody st) t ∧ t { nx := fun _ H' => Q .non H', rt := Q } (start N vs) H) : FnOkG P w K mg base CX0 (k + 1) f fd ps sp := by
  obtain ⟨oc, od, kV, doc, pm, an, cdv, ct, osl, rfl, lk, hcd⟩ := F.ex
  refine fn_ofG lk hcd S len fun A outer s H vs Q E hgd hr hsp => ?_
  obtain ⟨t, h, q⟩ := hbody cdv A outer s H vs Q E hgd hr hsp
  exact ⟨t, h.nox, q⟩
theorem law_callG {P : Program} {w : World} {K : PySem.W.Frag} {mg mb : Str → Option Value} {CX : CXT} {k : Nat} {fa a : Addr} {fd : FuncData} {x : Str} {sp : Sp} {s₁ : Shared} {vs : List Value} {ns : List Int}
    (inK : K.In s₁.heap) (gNs : s₁.heap.Ns mainGlobals mg) (blt : s₁.heap.Ns builtinsNs mb) (bAll : ∀ x : Str, x ≠ "__name__" → mb x = bootBuiltins x) (noLim : s₁.heap.NoLimit) (noGen : s₁.gens = #[])
    (atS : s₁.heap.get? a = some { cls := .type "list", data := .seq vs.toArray }) (intsH : IntsAre vs ns) (lenH : ns.length ≤ sizeLine) (roomH : Room k callerA)
    (F : ∀ base : Heap, K.In base → base.Ns mainGlobals mg → FnOkG P w K mg base CX k fa fd [x] sp) (bnd : ∀ (s : Shared) (u : Value), BindsTo s fd ⟨[u], []⟩ [(x, u)])
    (prom : ∀ H : Hp, Only H → SqL K H a (ns.map V.int) → sp [.ref a] H (fun v _ => v = .bl true) fun _ _ _ => False)
    (noOut : ∀ H e s', CX [] H s₁ (fun _ _ _ => False) e s' → False) :
    codeAny (model P w) callerA (.call (.ref fa) ⟨[.ref a], []⟩) (fun r s' => r = .ok (.ret (.bool true)) ∧ OldK s₁.heap s'.heap ∧ s'.os = s₁.os ∧ AllBare s'.gens) s₁ := by
  have valsR := vals_ints intsH
  have lenW := intsH.length
  -- from an abstract heap in which nothing but the script may be tracked
  have heart : ∀ H : Hp, Only H → SqL K H a (ns.map V.int) → HOk P w H s₁.heap → (∀ b, H b ≠ none → b = a) → (H a ≠ none → K.lookup a = none) →
      codeAny (model P w) callerA (.call (.ref fa) ⟨[.ref a], []⟩) (fun r s' => r = .ok (.ret (.bool true)) ∧ OldK s₁.heap s'.heap ∧ s'.os = s₁.os ∧ AllBare s'.gens) s₁ := by
    intro H onl sq okH atA kA
    have ofBase : ∀ {b : Addr} {o : Obj}, s₁.heap.get? b = some o → H b = none → (hidT s₁.heap H).get? b = some o := fun e n => hidT_get e n
    have offA : ∀ {b : Addr} {o : Obj} {es : Array DictEntry} {ep : Nat}, s₁.heap.get? b = some o → o.data = .dict es ep → H b = none := fun {b o es ep} e d => by
      cases q : H b with
      | none => rfl
      | some u =>
        have e' : b = a := atA b (by rw [q]; simp)
        subst e'
        rw [atS] at e; cases e
        have d' : Data.seq vs.toArray _ = Data.dict es ep := d
        cases d'
    have keepNs : ∀ {b : Addr} {m : Str → Option Value}, s₁.heap.Ns b m → (hidT s₁.heap H).Ns b m := fun {b m} ⟨o, es, ep, e, d, r⟩ => ⟨o, es, ep, ofBase e (offA e d), d, r⟩
    have inB : K.In (hidT s₁.heap H) := fun b o e => ofBase (inK b o e) (by
      cases q : H b with
      | none => rfl
      | some u =>
        have e' : b = a := atA b (by rw [q]; simp)
        subst e'
        rw [kA (by rw [q]; simp)] at e; cases e)
    have modB : Mod K mg (hidT s₁.heap H) := ⟨inB, keepNs gNs, ⟨mb, keepNs blt, bAll⟩, let ⟨mc, h1, h2⟩ := noLim; ⟨mc, keepNs h1, h2⟩⟩
    have start0 : Env0 P w K mg (hidT s₁.heap H) callerA [] s₁ H := ⟨rfl, modB, fun b o e => of_hidT e, Nat.le_of_eq (hidT_size _ _), trivial, fun b blt => absurd (show b ∈ ([] : List Addr) from blt) (by simp), okH, .of_eq noGen⟩
    refine codeAny_mono ((F _ inB (keepNs gNs)).run callerA [] s₁ H ⟨[.ref a], []⟩ [.ref a] [.ref a] _ _ rfl roomH start0 (bnd s₁ (.ref a)) (.cons rfl .nil) (prom H onl sq)) fun r s' h => ?_
    cases r with
    | error e => exact (noOut H e s' h).elim
    | ok fl =>
      cases fl with
      | next => exact False.elim h
      | brk => exact False.elim h
      | cont => exact False.elim h
      | ret u =>
        obtain ⟨v, H', os, bare, un, hok', r', q⟩ := h
        have q' : v = .bl true := q
        subst q'
        obtain rfl : u = Value.bool true := r'
        refine ⟨rfl, OldK.of_keep fun b o e => ?_, os, bare⟩
        cases q : H b with
        | none => exact un.keep b o e q (by intro z; exact absurd (show b ∈ ([] : List Addr) from z) (by simp)) (by simp)
        | some u =>
          rcases onl b with z | ⟨ob, xs, z⟩
          · rw [q] at z; cases z
          · have z2 := un.frzs b ob _ z
            obtain ⟨e1, _⟩ := okH b _ z
            obtain ⟨e2, _⟩ := hok' b _ z2
            rw [e] at e1; cases e1
            exact e2
  cases hk : K.lookup a with
  | some o =>
    -- the script is one of the module's own objects
    have e := inK a o hk
    rw [atS] at e
    cases e
    refine heart (fun _ => none) (fun _ => .inl rfl) (.inr ⟨_, vs.toArray, _, hk, rfl, rfl, rfl, by rw [List.size_toArray, lenW]; exact lenH, by simpa using valsR⟩) (fun b u z => by have z' : (none : Option HO) = some u := z; cases z') (fun b z => absurd rfl z) fun z => absurd rfl z
  | none =>
    refine heart (fun b => if b = a then some (.frz { cls := .type "list", data := .seq vs.toArray } (.lst (ns.map V.int))) else none) (fun b => ?_) (.inl (.inr ⟨{ cls := .type "list", data := .seq vs.toArray }, if_pos rfl⟩)) (fun b u z => ?_) (fun b z => ?_) fun _ => hk
    · by_cases blt : b = a
      · exact .inr ⟨_, _, if_pos blt⟩
      · exact .inl (if_neg blt)
    · by_cases blt : b = a
      · have z' := (if_pos blt).symm.trans z
        cases z'
        subst blt
        exact ⟨atS, by rw [List.length_map]; exact lenH, vs, _, valsR, atS⟩
      · have z' := (if_neg blt).symm.trans z
        cases z'
    · by_cases blt : b = a
      · exact blt
      · exact absurd (if_neg blt) z
theorem walk_ofG {l : PySem.W.OpenLaw} {n k : Nat} {q : Program} {loose : List Str} {XP : (Str → Option Value) → Heap → Prop} {YP : World → Heap → Prop} {d : DefRec} {K : Params → PySem.W.Frag} {sp : PySem.W.Frag → Sp} {x : Str}
    (hn : l.most = some n) (hn2 : n ≤ sizeLine) (hdf : d.params.defaults = []) (hr : Room k callerA) (hY : ∀ (w : World) (h : Heap), YP w h → (K w.params).In h)
    (F : ∀ (w : World) (mg : Str → Option Value) (fa : Addr) (h : Heap), (K w.params).In h → h.Ns mainGlobals mg → mg d.name = some (.ref fa) →
      ∃ fd : FuncData, (∀ (s : Shared) (u : Value), BindsTo s fd ⟨[u], []⟩ [(x, u)]) ∧ ∀ base : Heap, (K w.params).In base → base.Ns mainGlobals mg → FnOkG l.prog w (K w.params) mg base CX0 k fa fd [x] (sp (K w.params)))
    (hsp : ∀ (K : PySem.W.Frag) (H : Hp) (a : Addr) (ns : List Int), ns.length ≤ n → Only H → SqL K H a (ns.map V.int) → sp K [.ref a] H (fun v _ => v = .bl true) fun _ _ _ => False) :
    PySem.W.WalkO q loose XP YP l.row.toRowW d [] (fun f vs => PySem.call f vs) := by
  refine Att.attach_call hn hdf fun w s₀ s₁ mg mb fa o pm cd doc a vs ns G Y ho hd hcd hmg hobj hints hlen hg => ?_
  have inK := hY w _ Y
  obtain ⟨fd, bnd, hF⟩ := F w mg fa _ inK G.T.g hmg
  exact law_callG inK G.T.g G.T.b G.T.builtins G.T.nolimit hg hobj hints (Nat.le_trans hlen hn2) hr hF bnd (fun H onl sq => hsp (K w.params) H a ns hlen onl sq) fun H e s' z => z
/-! ### repr of data -/
structure rShow (K : PySem.W.Frag) (xs : List V) (H : Hp) (Q : VK) : Prop where
  ex : ∃ v d, xs = [v] ∧ Dp K H v d ∧ d.showable = true ∧ d.hasDict = false ∧ d.depth ≤ 90 ∧ d.shown.length ≤ sizeLine ∧ Q (.str d.shown) H
theorem call_reprD {X : Cx} (hgd : X.A.guards = some []) (hu : X.A.units + 100 < cLine) : CallR X (.builtin "repr") (rShow X.K) := by
  intro pins s σ H xs us Q I r h
  obtain ⟨v, d, rfl, hd, hsh, hnd, hdp, hsz, q⟩ := h.ex
  obtain ⟨u, rfl, ru⟩ := vals1 r
  obtain ⟨as, R⟩ := Dp.reads I d v u hd ru
  cases hd with
  | non =>
    cases ru
    have e : PyData.shown .none = ("None" : Str) := by simp only [PyData.shown]
    rw [e] at q
    exact PySem.P.repr_of_none ⟨.str "None", H, I.tok _, ⟨_, rfl⟩, q⟩
  | bl b =>
    cases ru
    refine PySem.P.repr_of_bool ⟨.str (if b then "True" else "False"), H, I.tok _, ⟨_, rfl⟩, ?_⟩
    have e : PyData.shown (.bool b) = (if b then "True" else "False" : Str) := by simp only [PyData.shown]
    rw [e] at q
    exact q
  | int i =>
    obtain ⟨t, rfl⟩ := ru
    have e : PyData.shown (.int i) = (toString i : Str) := by simp only [PyData.shown]
    rw [e] at q
    exact PySem.P.repr_of_int (by simpa [PyData.showable] using hsh) ⟨.str (toString i), H, I.tok _, ⟨_, rfl⟩, q⟩
  | str x =>
    obtain ⟨t, rfl⟩ := ru
    have e : PyData.shown (.str x) = reprText x := by simp only [PyData.shown]
    rw [e] at q hsz
    exact PySem.P.repr_of_str ⟨.str (reprText x), H, I.tok _, ⟨_, rfl⟩, q⟩ hsz
  | lst h1 h2 =>
    cases ru
    refine repr_of_reads' R hsh (PyData.noDict_hsm hnd) hgd (by omega) (fun _ _ e => e) (fun h' u tk hk => ?_) hsz
    exact ⟨.str _, H, I.kept (t' := tk) hk, ⟨_, rfl⟩, q⟩
  | tup h1 h2 =>
    cases ru
    refine repr_of_reads' R hsh (PyData.noDict_hsm hnd) hgd (by omega) (fun _ _ e => e) (fun h' u tk hk => ?_) hsz
    exact ⟨.str _, H, I.kept (t' := tk) hk, ⟨_, rfl⟩, q⟩
end L2
set_option maxHeartbeats 4000000
namespace L2
open PySem PySem.Spec PyProof.Rows
/-! ### a static method read off its class and called -/
structure CStat (K : PySem.W.Frag) (C : Addr) (m : Str) (p g : Addr) : Prop where
  ty : PySem.W.typeIn K (.ref C) = some (.type "type")
  rd : PySem.W.readsIn K C (.type "type") = true
  ga : PySem.W.specialIn K (.ref C) "__getattribute__" = some (some (.builtin "type.__getattribute__"))
  at_ : PySem.W.findCls K (.ref C) (.type "type") m = some (.get (.builtin "staticmethod.__get__") (.ref p) .none (.ref C))
  rc : ∃ rest, PySem.W.recIn K p "staticmethod" = some (.ref g :: rest)
  kp : PySem.W.keepIn K (.ref g) = true
def tStat (C : Addr) (sp : Sp) (dvs : List V) (E : XK) (ta : TE) (t : TA) : TE := fun σ H Q => ta σ H fun x H1 => x = .ref C ∧ t σ H1 fun vs H2 => sp (vs ++ dvs) H2 Q E
section
variable {X : Cx} {CX : CXT} {k : Nat} {C p g : Addr} {fd : FuncData} {ps : List Str} {sp : Sp} {dvs : List V} {ds : List Value} {E : XK} {o e : Expr} {es : List Expr} {m : Str} {pos apos : Pos} {ta : TE} {t : TA}
theorem pe_static {pl : Sem Bool} (he : PE X o ta) (c : CStat X.K C m p g) (F : FnOk X.prog X.w X.K X.mg X.base CX k g fd ps sp) (hr : Room k X.A) (hb : Binds X.K fd ps ds) (hd : Vals dvs ds) (hx : Passes CX X E) (ha : PA X (e :: es) t)
    (hst : starEach (e :: es) X.env = (false, eval e X.env) :: starEach es X.env := by rfl) (hpl : (backTo pos (starEach es X.env)).any (·.1) = false := by rfl)
    (ht : eval (.Call (.Attribute o m apos) (e :: es) [] pos) X.env = (do
      let ov ← eval o X.env
      standAt apos.atName
      let (f, first) ← holding [ov] (getMethod ov m pl)
      callWith pos f first (backTo pos (starEach (e :: es) X.env)) (backToKw pos (keywordEach [] X.env))) := by rfl) :
    PE X (.Call (.Attribute o m apos) (e :: es) [] pos) (tStat C sp dvs E ta t) := by
  refine ⟨fun pins s σ H Q I h => ?_⟩
  refine PySem.W.methodCall_KW (pl := pl) (thn (he.run pins s σ H _ I h) fun u s1 ⟨x, H1, I1, rx, ex, q⟩ => ?_) ht
  subst ex
  obtain rfl : u = Value.ref C := rx
  obtain ⟨rest, hp⟩ := c.rc
  refine PySem.W.method_cls I1.kIn c.ga (PySem.W.cls_bind I1.kIn c.rd c.at_ ?_)
  refine wpAny_call (PySem.W.sm_get (s := { s1 with toks := s1.toks + 1 }) I1.kIn hp (PySem.W.handed_on rfl ?_))
  have I2 : Inv X pins σ H1 { s1 with toks := s1.toks + 1 } := I1.tok _
  refine PySem.W.callWith_K (first := []) (h₀ := X.base) I1.ok.mod.kin c.kp (thn (ha.run pos pins _ σ H1 _ I2 q) fun us s2 ⟨vs, H2, I3, r, q2⟩ => ⟨I3.kIn, ?_⟩) hst hpl
  exact run_fn F hr hb hd hx I3 r q2
end
end L2
set_option maxHeartbeats 4000000
namespace L2
open PySem PySem.Spec PyProof.Rows
/-! ### several clauses 'except x as n', one behind the other -/
/-- the ends of a suite behind which the name in slot i goes -/
def endsGo (i : Nat) (D : Ends) : Ends := { nx := fun σ' H' => D.nx (σ'.set i none) H', rt := D.rt, bk := fun σ' H' => D.bk (σ'.set i none) H', ct := fun σ' H' => D.ct (σ'.set i none) H' }
def wAsM (K : PySem.W.Frag) (i : Nat) (Wout : WX) (D : Ends) : List (Value × (Addr → Value → Option Addr → TS)) → WX
  | [] => Wout
  | (c, ts) :: more => fun cls d σ H => ∃ b, PySem.W.exmOne K cls c = some b ∧ (b = true → ∀ q, H q = none → ts q cls d (endsGo i D) (σ.set i (some (.ref q))) H) ∧ (b = false → wAsM K i Wout D more cls d σ H)
inductive HdsAs (X : Cx) (n : Str) : List ExceptHandler → List (Value × (Addr → Value → Option Addr → TS)) → Prop
  | nil : HdsAs X n [] []
  | cons {x : Str} {c : Value} {ts : Addr → Value → Option Addr → TS} {st : Stmt} {sts : List Stmt} {np hp : Pos} {hds : List ExceptHandler} {l : List (Value × (Addr → Value → Option Addr → TS))} (named : Names X x c)
      (body : ∀ (q : Addr) (oe : Obj) (cls : Value) (d : Option Addr) (pn : List (Addr × Obj)), Zc cls d oe → (∃ vs, oe.data = .fields vs) → PSs (X.suite q ((q, oe) :: pn)) (st :: sts) (ts q cls d)) (more : HdsAs X n hds l) :
      HdsAs X n (.ExceptHandler (some (.Name x np)) (some n) (st :: sts) hp :: hds) ((c, ts) :: l)
section
variable {X : Cx} {n : Str} {i : Nat} {body : List Stmt} {h₀ : ExceptHandler} {hds : List ExceptHandler} {l : List (Value × (Addr → Value → Option Addr → TS))} {pos : Pos} {tb : WX → TS} {Wout : WX}
theorem ps_try_asM (stk : X.stack = X.env :: X.outer) (hf : X.env.frame = some X.env.locals) (nd : X.N.Nodup) (at_ : X.N[i]? = some n) (isl : X.env.kindOf n = some .local) (tk : Takes X Wout)
    (hb : ∀ (W : WX) (pn : List (Addr × Obj)) (xe : Value → Shared → Prop), Takes (X.tr pn xe) W → PassesOwn (model X.prog X.w) X.A X.env xe → PSs (X.tr pn xe) body (tb W))
    (all : HdsAs X n (h₀ :: hds) l) : PS X (.Try body (h₀ :: hds) [] [] pos) (fun D σ H => tb (wAsM X.K i Wout D l) D σ H) := by
  refine ⟨fun pins s σ H D inv h => ?_⟩
  have ok := inv.ok
  have frms : X.A.frames = some (X.env :: X.outer) := by rw [ok.frames, stk]
  have isLoc : Loc X.env.scope n := .inl isl
  refine wpAny_Try_except ?_
  refine wpAny_mono ((hb (wAsM X.K i Wout D l) (X.pn ++ pins) (fun e s₁ => wpAny (model X.prog X.w) X.A (noteFrame e X.env) (fun _ s₂ => wpAny (model X.prog X.w) X.A (setFlight e none) (fun _ s₃ =>
    wpAny (model X.prog X.w) X.A (handleBy e X.env (h₀ :: hds)) (SP X pins D) X.xe s₃) X.xe s₂) X.xe s₁) (fun u s' caught => ?_) PassesOwn.looking).run [] s σ H D (inv.toTry _) h) (fun f s1 done => ?_) (fun e s1 he => he)
  · obtain ⟨q, B, sI, pins', σ', H', cls, d, rfl, inv', nb, up, sky, nq, os, ag, wish⟩ := caught
    have invB : Inv X pins σ' H' sI := inv'.ofTry ok
    have sky2 : Sky B (X.env :: X.outer) q (Zc cls d) X.env.locals s'.heap := by rw [← stk]; exact sky
    show wpAny (model X.prog X.w) X.A (noteFrame (.ref q) X.env) _ _ _
    refine Sky.land Zc.steady frms hf sky2 fun h3 fl3 up3 => ?_
    have inv3 : Inv X pins σ' H' { s' with heap := h3 } := invB.landed nb fl3.1 (up.trans up3) os ag
    obtain ⟨oe3, vs3, he3, hz3, hd3⟩ := fl3.there
    have offF : q ∉ frs (X.env :: X.outer) := fun mem => by
      obtain ⟨_, o', e', no⟩ := fl3.2.2.1.mem mem
      rw [he3] at e'; cases e'
      exact no _ hd3
    have offL : q ≠ X.env.locals := fun z => offF (List.mem_filterMap.mpr ⟨X.env, List.mem_cons_self, by rw [hf, z]⟩)
    have offS : q ∉ X.fs := fun mem => by
      obtain ⟨e, he, z⟩ := List.mem_filterMap.mp mem
      exact offF (List.mem_filterMap.mpr ⟨e, List.mem_cons_of_mem _ he, z⟩)
    have invS := inv3.suite he3 hd3 nq offL offS
    have go : ∀ {hs : List ExceptHandler} {ls : List (Value × (Addr → Value → Option Addr → TS))}, HdsAs X n hs ls → wAsM X.K i Wout D ls cls d σ' H' →
        wpAny (model X.prog X.w) X.A (handleBy (.ref q) X.env hs) (SP X pins D) X.xe { s' with heap := h3 } := by
      intro hs ls ok2
      induction ok2 with
      | nil =>
        intro wish
        refine wpAny_handleBy_nil ?_
        obtain ⟨k1, k2, k3, oe, vs, T, oT, ts', he, hz, hd, h1, hr⟩ := id fl3
        unfold PySem.passOn
        refine wpAny_bind (wpAny_field he hd h1 ?_)
        rw [if_neg (show ¬ ((Value.ref T == Value.none) = true) from by simp)]
        have out : wpAny (model X.prog X.w) X.A (setFlight (.ref q) X.env.frame) (fun _ s4 => wpAny (model X.prog X.w) X.A (throw (.ref q) : Sem Flow) (SP X pins D) X.xe s4) X.xe { s' with heap := h3 } := by
          rw [hf]
          refine HandSPX.setFlight_upZ fl3 fun h4 hh4 up4 => wpAny_throw (tk _ _ ?_)
          exact ⟨q, B, sI, pins, σ', H', cls, d, rfl, invB, nb, (up.trans up3).trans up4, .inr (.inr (by rw [stk]; exact hh4)), nq, os, ag, wish⟩
        first
          | exact wpAny_bind (wpAny_pure (wpAny_bind out))
          | exact wpAny_bind out
      | @cons x c ts st sts np hp hds2 l2 named suite more ih =>
        intro wish
        obtain ⟨b, hb1, yes, no⟩ := wish
        refine wpAny_handleBy_cons (codeAny_handlers_test ?_) (by intro z; cases z)
        have LT : PySem.W.Looks (model X.prog X.w) h3 (typeOf (.ref q)) cls := fun A Q E s k z => wpAny_typeOf_ref (k _ _ he3) (by rw [hz3.1]; exact z)
        have LM := PySem.W.exm_one (M := model X.prog X.w) (inv3.kIn) LT hb1
        have named2 : ∀ {Q : Value → Shared → Prop} {E : Value → Shared → Prop}, Q c { s' with heap := h3 } → wpAny (model X.prog X.w) (X.A.mark (some (.ref q))) (eval (.Name x np) X.env) Q E { s' with heap := h3 } := fun {Q E} z => by
          obtain ⟨hg, hdbg, hm | ⟨hm, hv, hnn⟩⟩ := named
          · exact ld_glob (X := X.suite q ((q, oe3) :: (X.pn ++ pins))) invS hg hm z hdbg
          · exact ld_blt (X := X.suite q ((q, oe3) :: (X.pn ++ pins))) invS hg hm hv z hnn hdbg
        refine named2 (LM.here ?_)
        cases b with
        | true =>
          refine codeAny_handlers_suite_as ?_
          refine HandSPX.lands_againZ fl3 fun h4 fl4 up4 => ?_
          have inv4 : Inv X pins σ' H' { s' with heap := h4 } := invB.landed nb fl4.1 ((up.trans up3).trans up4) os ag
          obtain ⟨oe4, vs4, he4, hz4, hd4⟩ := fl4.there
          have invS4 := inv4.suite he4 hd4 nq offL offS
          refine store_ok (X := X.suite q ((q, oe4) :: (X.pn ++ pins))) (v := .ref q) invS4 nd at_ isLoc rfl (fun s5 inv5 => ?_) (.inr isl)
          refine wpAny_mono ((suite q oe4 cls d (X.pn ++ pins) hz4 ⟨_, hd4⟩).run [] s5 _ H' _ inv5 (yes rfl q nq)) (fun f s6 done => ?_) (fun _ _ z => False.elim z)
          have goes : ∀ {σ6 : St} {H6 : Hp} {Q : Shared → Prop}, Inv (X.suite q ((q, oe4) :: (X.pn ++ pins))) [] σ6 H6 s6 → (∀ s7, Inv X pins (σ6.set i none) H6 s7 → Q s7) →
              wpAny (model X.prog X.w) X.A (do bindName X.env n .none; unbindBehindTheSuite X.env n hp) (fun _ s7 => Q s7) X.xe s6 := fun {σ6 H6 Q} inv6 hq => gone_ok (inv6.unsuite ok) nd at_ isl hq
          cases f with
          | next =>
            obtain ⟨σ6, H6, inv6, q6⟩ := done
            exact goes inv6 fun s7 inv7 => ⟨_, _, inv7, q6⟩
          | brk =>
            obtain ⟨σ6, H6, inv6, q6⟩ := done
            exact goes inv6 fun s7 inv7 => ⟨_, _, inv7, q6⟩
          | cont =>
            obtain ⟨σ6, H6, inv6, q6⟩ := done
            exact goes inv6 fun s7 inv7 => ⟨_, _, inv7, q6⟩
          | ret u =>
            obtain ⟨v6, σ6, H6, inv6, r6, q6⟩ := done
            exact goes inv6 fun s7 inv7 => ⟨_, _, _, inv7, r6, q6⟩
        | false =>
          show wpAny _ X.A (handleBy (.ref q) X.env hds2) _ _ _
          exact ih (no rfl)
    exact go all wish
  · cases f with
    | next =>
      obtain ⟨σ', H', inv', z⟩ := done
      exact wpAny_execs_nil ⟨σ', H', inv'.ofTry ok, z⟩
    | brk =>
      obtain ⟨σ', H', inv', z⟩ := done
      exact ⟨σ', H', inv'.ofTry ok, z⟩
    | cont =>
      obtain ⟨σ', H', inv', z⟩ := done
      exact ⟨σ', H', inv'.ofTry ok, z⟩
    | ret u =>
      obtain ⟨v, σ', H', inv', r, z⟩ := done
      exact ⟨v, σ', H', inv'.ofTry ok, r, z⟩
end
end L2
set_option maxHeartbeats 4000000
namespace L2
open PySem PySem.Spec PyProof.Rows LamX
/-! ### the end of a law that says repr and makes lambdas -/
theorem law_callTG {P : Program} {w : World} {K : PySem.W.Frag} {mg mb : Str → Option Value} {CX : CXT} {k : Nat} {fa a : Addr} {cs : List (Addr × Addr)} {fd : FuncData} {x : Str} {sp : Sp} {s₁ : Shared} {vs : List Value} {ns : List Int}
    (inK : K.In s₁.heap) (gNs : s₁.heap.Ns mainGlobals mg) (blt : s₁.heap.Ns builtinsNs mb) (bAll : ∀ x : Str, x ≠ "__name__" → mb x = bootBuiltins x) (noLim : s₁.heap.NoLimit) (noGen : s₁.gens = #[])
    (tabs : ∀ p ∈ cs, s₁.heap.get? p.2 = some { cls := .none, data := .fields #[] }) (offK : ∀ p ∈ cs, K.lookup p.2 = none) (heads : ∀ p ∈ cs, PySem.W.CodeHd s₁.heap p.1 p.2)
    (bmain : ∃ (bm : Addr) (ob : Obj), mg "__builtins__" = some (.ref bm) ∧ bm ≠ builtinsNs ∧ s₁.heap.get? bm = some ob ∧ ob.cls = .type "module" ∧ ob.dict = some builtinsNs ∧ ob.data = .plain)
    (atS : s₁.heap.get? a = some { cls := .type "list", data := .seq vs.toArray }) (intsH : IntsAre vs ns) (lenH : ns.length ≤ sizeLine) (roomH : Room k callerA)
    (F : ∀ base : Heap, K.In base → base.Ns mainGlobals mg → (∀ p ∈ cs, TabB base mg p.1 p.2) → FnOkG P w K mg base CX k fa fd [x] sp) (bnd : ∀ (s : Shared) (u : Value), BindsTo s fd ⟨[u], []⟩ [(x, u)])
    (prom : ∀ H : Hp, (∀ p ∈ cs, H p.2 = some (.tbl #[])) → SqL K H a (ns.map V.int) → sp [.ref a] H (fun v _ => v = .bl true) fun _ _ _ => False)
    (noOut : ∀ H e s', CX [] H s₁ (fun _ _ _ => False) e s' → False) :
    codeAny (model P w) callerA (.call (.ref fa) ⟨[.ref a], []⟩) (fun r s' => r = .ok (.ret (.bool true)) ∧ OldK s₁.heap s'.heap ∧ s'.os = s₁.os ∧ AllBare s'.gens) s₁ := by
  have valsR := vals_ints intsH
  have lenW := intsH.length
  have tabAt : ∀ b : Addr, b ∈ cs.map (·.2) → s₁.heap.get? b = some { cls := .none, data := .fields #[] } := fun b hb => by
    obtain ⟨p, hp, rfl⟩ := List.mem_map.mp hb
    exact tabs p hp
  have notTab : a ∉ cs.map (·.2) := fun z => by
    have q := tabAt a z
    rw [atS] at q
    have z' : Data.seq vs.toArray _ = Data.fields #[] := congrArg Obj.data (Option.some.inj q)
    cases z'
  have inTab : ∀ p ∈ cs, p.2 ∈ cs.map (·.2) := fun p hp => List.mem_map.mpr ⟨p, hp, rfl⟩
  have heart : ∀ H : Hp, (∀ p ∈ cs, H p.2 = some (.tbl #[])) → (∀ b, H b = none ∨ b ∈ cs.map (·.2) ∨ ∃ o xs, H b = some (.frz o (.lst xs))) → SqL K H a (ns.map V.int) → HOk P w H s₁.heap → (∀ b, H b ≠ none → b = a ∨ b ∈ cs.map (·.2)) → (H a ≠ none → K.lookup a = none) →
      codeAny (model P w) callerA (.call (.ref fa) ⟨[.ref a], []⟩) (fun r s' => r = .ok (.ret (.bool true)) ∧ OldK s₁.heap s'.heap ∧ s'.os = s₁.os ∧ AllBare s'.gens) s₁ := by
    intro H tblH onl sq okH atA kA
    have ofBase : ∀ {b : Addr} {o : Obj}, s₁.heap.get? b = some o → H b = none → (hidT s₁.heap H).get? b = some o := fun e n => hidT_get e n
    have off : ∀ {b : Addr} {o : Obj}, s₁.heap.get? b = some o → (∀ vs n, o.data ≠ .seq vs n) → o.data ≠ .fields #[] → H b = none := fun {b o} e n1 n2 => by
      cases q : H b with
      | none => rfl
      | some u =>
        rcases atA b (by rw [q]; simp) with e' | e'
        · rw [e', atS] at e
          cases e
          exact (n1 _ _ rfl).elim
        · rw [tabAt b e'] at e
          cases e
          exact (n2 rfl).elim
    have offD : ∀ {b : Addr} {o : Obj} {es : Array DictEntry} {ep : Nat}, s₁.heap.get? b = some o → o.data = .dict es ep → H b = none := fun {b o es ep} e d =>
      off e (fun vs n z => by rw [d] at z; cases z) fun z => by rw [d] at z; cases z
    have keepNs : ∀ {b : Addr} {m : Str → Option Value}, s₁.heap.Ns b m → (hidT s₁.heap H).Ns b m := fun {b m} ⟨o, es, ep, e, d, r⟩ => ⟨o, es, ep, ofBase e (offD e d), d, r⟩
    have inB : K.In (hidT s₁.heap H) := fun b o e => ofBase (inK b o e) (by
      cases q : H b with
      | none => rfl
      | some u =>
        rcases atA b (by rw [q]; simp) with e' | e'
        · rw [e'] at e q
          rw [kA (by rw [q]; simp)] at e
          cases e
        · obtain ⟨p, hp, ep⟩ := List.mem_map.mp e'
          rw [← ep, offK p hp] at e
          cases e)
    have modB : Mod K mg (hidT s₁.heap H) := ⟨inB, keepNs gNs, ⟨mb, keepNs blt, bAll⟩, let ⟨mc, h1, h2⟩ := noLim; ⟨mc, keepNs h1, h2⟩⟩
    have tb : ∀ p ∈ cs, TabB (hidT s₁.heap H) mg p.1 p.2 := fun p hp => by
      have tp := tabs p hp
      refine ⟨?_, ?_, fun z => ?_⟩
      · obtain ⟨o, us, file, tf, flags, tg, inF, text, tt, e1, r1, r2, r3, r4⟩ := heads p hp
        refine ⟨o, us, file, tf, flags, tg, inF, text, tt, ofBase e1 (off e1 (fun vs n z => by rw [r2] at z; cases z) fun z => ?_), r1, r2, r3, r4⟩
        rw [r2] at z
        cases z
        simp at r3
      · obtain ⟨bm, ob, b1, b2, b3, b4, b5, b6⟩ := bmain
        have nG : bm ≠ mainGlobals := fun q => by
          obtain ⟨o, es, ep, e, hd, _⟩ := gNs
          rw [q, e] at b3
          cases b3
          rw [hd] at b6
          cases b6
        have nP : bm ≠ p.2 := fun q => by
          rw [q, tp] at b3
          cases b3
          cases b6
        exact ⟨bm, ob, b1, b2, nG, nP, ofBase b3 (off b3 (fun vs n z => by rw [b6] at z; cases z) fun z => by rw [b6] at z; cases z), b4, b5, b6⟩
      · obtain ⟨o, es, ep, e, hd, _⟩ := gNs
        rw [z, tp] at e
        cases e
        cases hd
    have start0 : Env0 P w K mg (hidT s₁.heap H) callerA [] s₁ H := ⟨rfl, modB, fun b o e => of_hidT e, Nat.le_of_eq (hidT_size _ _), trivial, fun b hb => absurd (show b ∈ ([] : List Addr) from hb) (by simp), okH, .of_eq noGen⟩
    refine codeAny_mono ((F _ inB (keepNs gNs) tb).run callerA [] s₁ H ⟨[.ref a], []⟩ [.ref a] [.ref a] _ _ rfl roomH start0 (bnd s₁ (.ref a)) (.cons rfl .nil) (prom H tblH sq)) fun r s' h => ?_
    cases r with
    | error e => exact (noOut H e s' h).elim
    | ok fl =>
      cases fl with
      | next => exact False.elim h
      | brk => exact False.elim h
      | cont => exact False.elim h
      | ret u =>
        obtain ⟨v, H', os, bare, un, hok', r', q⟩ := h
        have q' : v = .bl true := q
        subst q'
        obtain rfl : u = Value.bool true := r'
        have old : ∀ b o, b ∉ cs.map (·.2) → s₁.heap.get? b = some o → s'.heap.get? b = some o := fun b o nb e => by
          cases q : H b with
          | none => exact un.keep b o e q (by intro z; exact absurd (show b ∈ ([] : List Addr) from z) (by simp)) (by simp)
          | some u =>
            rcases onl b with z | z | ⟨ob, xs, z⟩
            · rw [q] at z; cases z
            · exact absurd z nb
            · have z2 := un.frzs b ob _ z
              obtain ⟨e1, _⟩ := okH b _ z
              obtain ⟨e2, _⟩ := hok' b _ z2
              rw [e] at e1; cases e1
              exact e2
        have more : ∀ p ∈ cs, ∃ ps : Array Value, s'.heap.get? p.2 = some { cls := .none, data := .fields ps } := fun p hp => by
          obtain ⟨ps, z⟩ := un.tbls p.2 #[] (tblH p hp)
          exact ⟨_, hok' p.2 _ z⟩
        refine ⟨rfl, ⟨fun b o e => ?_, fun b o e => ?_⟩, os, bare⟩
        · by_cases hb : b ∈ cs.map (·.2)
          · obtain ⟨p, hp, rfl⟩ := List.mem_map.mp hb
            obtain ⟨ps, hm⟩ := more p hp
            rw [tabs p hp] at e
            cases e
            exact .inr (.inl ⟨((heads p hp).tab (tabs p hp)).isCodeTable, rfl, #[], ps, rfl, by rw [Array.empty_append]; exact hm⟩)
          · exact .inl (old b o hb e)
        · by_cases hb : b ∈ cs.map (·.2)
          · obtain ⟨p, hp, rfl⟩ := List.mem_map.mp hb
            obtain ⟨ps, hm⟩ := more p hp
            exact ⟨_, hm⟩
          · exact ⟨o, old b o hb e⟩
  cases hk : K.lookup a with
  | some o =>
    have e := inK a o hk
    rw [atS] at e
    cases e
    refine heart (fun b => if b ∈ cs.map (·.2) then some (.tbl #[]) else none) (fun p hp => if_pos (inTab p hp)) (fun b => ?_) (.inr ⟨_, vs.toArray, _, hk, rfl, rfl, rfl, by rw [List.size_toArray, lenW]; exact lenH, by simpa using valsR⟩) (fun b u z => ?_) (fun b z => ?_) fun z => absurd (show (if a ∈ cs.map (·.2) then some (HO.tbl #[]) else none) = none from if_neg notTab) z
    · by_cases hb : b ∈ cs.map (·.2)
      · exact .inr (.inl hb)
      · exact .inl (if_neg hb)
    · by_cases hb : b ∈ cs.map (·.2)
      · have z' := (if_pos hb).symm.trans z
        cases z'
        exact tabAt b hb
      · have z' := (if_neg hb).symm.trans z
        cases z'
    · by_cases hb : b ∈ cs.map (·.2)
      · exact .inr hb
      · exact absurd (if_neg hb) z
  | none =>
    refine heart (fun b => if b = a then some (.frz { cls := .type "list", data := .seq vs.toArray } (.lst (ns.map V.int))) else if b ∈ cs.map (·.2) then some (.tbl #[]) else none) (fun p hp => (if_neg (show ¬ p.2 = a from fun z => notTab (by rw [← z]; exact inTab p hp))).trans (if_pos (inTab p hp))) (fun b => ?_)
      (.inl (.inr ⟨{ cls := .type "list", data := .seq vs.toArray }, if_pos rfl⟩)) (fun b u z => ?_) (fun b z => ?_) fun _ => hk
    · by_cases hb : b = a
      · exact .inr (.inr ⟨_, _, if_pos hb⟩)
      · by_cases hb2 : b ∈ cs.map (·.2)
        · exact .inr (.inl hb2)
        · exact .inl ((if_neg hb).trans (if_neg hb2))
    · by_cases hb : b = a
      · have z' := (if_pos hb).symm.trans z
        cases z'
        rw [hb]
        exact ⟨atS, by rw [List.length_map]; exact lenH, vs, _, valsR, atS⟩
      · have z1 := (if_neg hb).symm.trans z
        by_cases hb2 : b ∈ cs.map (·.2)
        · have z' := (if_pos hb2).symm.trans z1
          cases z'
          exact tabAt b hb2
        · have z' := (if_neg hb2).symm.trans z1
          cases z'
    · by_cases hb : b = a
      · exact .inl hb
      · by_cases hb2 : b ∈ cs.map (·.2)
        · exact .inr hb2
        · exact absurd ((if_neg hb).trans (if_neg hb2)) z
/-- the law's promise at the head's heap h, its tables told -/
def LawAtG (l : PySem.W.OpenLaw) (w : World) (K : PySem.W.Frag) (k n : Nat) (x : Str) (mg : Str → Option Value) (fa : Addr) (h : Heap) : Prop :=
  ∃ (fd : FuncData) (cs : List (Addr × Addr)) (sp : Sp), (∀ p ∈ cs, h.get? p.2 = some { cls := .none, data := .fields #[] }) ∧ (∀ p ∈ cs, K.lookup p.2 = none) ∧ (∀ p ∈ cs, PySem.W.CodeHd h p.1 p.2) ∧ (∀ (s : Shared) (u : Value), BindsTo s fd ⟨[u], []⟩ [(x, u)]) ∧
    (∀ (H : Hp) (a : Addr) (ns : List Int), ns.length ≤ n → (∀ p ∈ cs, H p.2 = some (.tbl #[])) → SqL K H a (ns.map V.int) → sp [.ref a] H (fun v _ => v = .bl true) fun _ _ _ => False) ∧
    ∀ base : Heap, K.In base → base.Ns mainGlobals mg → (∀ p ∈ cs, TabB base mg p.1 p.2) → FnOkG l.prog w K mg base CX0 k fa fd [x] sp
theorem walk_ofTG {l : PySem.W.OpenLaw} {n k : Nat} {q : Program} {loose : List Str} {XP : (Str → Option Value) → Heap → Prop} {YP : World → Heap → Prop} {d : DefRec} {K : Params → PySem.W.Frag} {x : Str}
    (hn : l.most = some n) (hn2 : n ≤ sizeLine) (hdf : d.params.defaults = []) (hr : Room k callerA) (hY : ∀ (w : World) (h : Heap), YP w h → (K w.params).In h)
    (F : ∀ (w : World) (mg : Str → Option Value) (fa : Addr) (h : Heap), YP w h → (K w.params).In h → h.Ns mainGlobals mg → mg d.name = some (.ref fa) → LawAtG l w (K w.params) k n x mg fa h) :
    PySem.W.WalkO q loose XP YP l.row.toRowW d [] (fun f vs => PySem.call f vs) := by
  refine Att.attach_call hn hdf fun w s₀ s₁ mg mb fa o pm cd doc a vs ns G Y ho hd hcd hmg hobj hints hlen hg => ?_
  have inK := hY w _ Y
  obtain ⟨fd, cs, sp, hT, nT, C, bnd, prom, hF⟩ := F w mg fa _ Y inK G.T.g hmg
  exact law_callTG inK G.T.g G.T.b G.T.builtins G.T.nolimit hg hT nT C G.T.bmain hobj hints (Nat.le_trans hlen hn2) hr hF bnd (fun H hH hS => prom H a ns hlen hH hS) fun H e s' z => z
end L2
set_option maxHeartbeats 4000000
namespace L2
open PySem PySem.Spec PyProof.Rows LamX
/-! ### a lambda handed to a def that calls it within its own try: what is raised is wished for at the slots of the call -/
section
variable {X : Cx} {pins : List (Addr × Obj)} {σ : L2.St} {H HZ : Hp} {s s1 : Shared}
theorem pe_actS {CXg : CXT} {Eg : XK} {Ng : List Str} {qg : Str} {sg : Scope} {g f c' : Addr} {cdg pm ctv : Value} {params : Arguments} {body : Expr} {scope : Scope} {k i : Nat} {a : Str} {pn : List (Addr × Obj)} {xe : Value → Shared → Prop} {W : WX} {tb : XK → TE} {p1 p2 : Pos}
    (inv : Inv X pins σ H s) (L : LamS X.env.scope scope) (hf : s.heap.get? f = some (PySem.W.kla_obj "<lambda>" (X.env.qual ++ "<lambda>") params body scope (cloFrom X.env.cells scope.names []) pm c' ctv)) (hfn : H f = none) (hfr : f ∉ frs X.stack)
    (hbind : bindArgs (PySem.W.kla_fn "<lambda>" (X.env.qual ++ "<lambda>") params body scope (cloFrom X.env.cells scope.names []) pm (.ref c') ctv) ⟨[], []⟩ = pure [])
    (tk : Takes ((cxOf CXg X.prog X.w X.K X.mg X.base Ng qg sg g cdg X.A X.stack s H Eg).tr pn xe) W) (hr : Room (k + 1) (X.A.deeper (envOfC qg sg s.heap.objs.size g cdg)))
    (hbody : ∀ (A : Around) (outer : List Env) (s : Shared) (H : Hp) (E : XK), Room k (A.deeper (lamEnv X scope s.heap.objs.size f c')) → PE (lamCx X A outer s H E scope f c') body (tb E))
    (hN : Ng[i]? = some a) (hv : Vis sg a) (hd : (a == ("__debug__" : Str)) = false := by decide) (hcd : (a == ("__classdict__" : Str)) = false := by decide) :
    PE ((cxOf CXg X.prog X.w X.K X.mg X.base Ng qg sg g cdg X.A X.stack s H Eg).tr pn xe) (.Call (.Name a p1) [] [] p2)
      (fun σZ HZ Q => σZ[i]? = some (some (.ref f)) ∧ HZ c' = some (CodeO c' (X.env.qual ++ "<lambda>")) ∧ ∃ Ech : XK, (∀ cls d H', Ech cls d H' → W cls d σZ H') ∧ tb Ech σ HZ Q) := by
  refine ⟨fun pinsZ sZ σZ HZ Q invZ h => ?_⟩
  obtain ⟨hs, hc, Ech, hW, ht⟩ := h
  refine wpAny_Call_Name_kw (thn ((pe_var (pos := p1) (i := i) hN hv hd hcd).run pinsZ sZ σZ HZ (fun v H1 => v = .ref f ∧ H1 = HZ) invZ ⟨.ref f, hs, rfl, rfl⟩) fun u s1 ⟨v, H1, inv1, r1, q1⟩ => ?_)
  obtain ⟨rfl, rfl⟩ := q1
  obtain rfl : u = Value.ref f := r1
  have of1 : s1.heap.get? f = some (PySem.W.kla_obj "<lambda>" (X.env.qual ++ "<lambda>") params body scope (cloFrom X.env.cells scope.names []) pm c' ctv) := inv1.base.keep f _ hf hfn hfr (fun z => nomatch (show f ∈ ([] : List Addr) from z))
  refine PySem.W.callWith_F0 ⟨_, _, _, _, of1⟩ ?_
  have un : Un (frs X.stack) [] H H1 s.heap s1.heap := inv1.base
  obtain ⟨⟨oc, vs, t, hoc, hdc, hvc⟩, _, _⟩ := inv1.hok c' _ hc
  have rc : codeAny (model X.prog X.w) (X.A.deeper (envOfC qg sg s.heap.objs.size g cdg)) (.call (.ref f) ⟨[], []⟩) (CR (L2.CX X.prog X.w) (envOfC qg sg s.heap.objs.size g cdg :: X.stack) X.prog X.w H1 s1 Q Ech) s1 := by
    refine PySem.W.kla_callFunE hr.depth of1 rfl L.co L.gen rfl ⟨c', oc, vs, t, rfl, hoc, hdc, hvc⟩ ?_
    rw [hbind]
    refine wpAny_pure (wpAny_newFunctionEnv (fun y hy => (L.own y hy).2) (fun y hy => absurd hy (by simp)) (fun h₁ hns hsb => ⟨inv1.nolimit.fresh _ hsb, ?_⟩) L.kind)
    show codeAny _ _ (.expr body (lamEnv X scope s1.heap.objs.size f c')) _ _
    have kp : ∀ b o, s1.heap.get? b = some o → h₁.get? b = some o := fun b o e => hsb.extBut b o (Nat.ne_of_lt (Heap.lt_size e)) (Heap.get?_push_of_some _ e)
    have invL : Inv (lamCx X (X.A.deeper (envOfC qg sg s.heap.objs.size g cdg)) (envOfC qg sg s.heap.objs.size g cdg :: X.stack) s1 H1 Ech scope f c') [] σ H1 { s1 with heap := h₁, toks := s1.toks + ([] : List (Str × Value)).length } :=
      lam_start2 inv L inv1.env0 hr.hd un hns kp
    refine PySem.W.kla_codeExpr (wpAny_mono ((hbody _ _ s1 H1 _ (hr.deeper _)).run [] _ _ H1 Q invL ht) (fun v s' hq => ?_) fun e s' hq => hq)
    obtain ⟨w', H', inv', rv, q⟩ := hq
    exact ⟨w', H', inv'.os, inv'.bare, inv'.base, inv'.hok, rv, q⟩
  have hx : PassesAt (L2.CX X.prog X.w) ((cxOf CXg X.prog X.w X.K X.mg X.base Ng qg sg g cdg X.A X.stack s H Eg).tr pn xe) σZ Ech := fun _ _ _ e s' I c => tk e s' (XE.of_call I hW c)
  refine wpAny_call (codeAny_mono rc fun r s' hq => ?_)
  cases r with
  | error e => exact hx pinsZ H1 s1 e s' inv1 hq
  | ok fl =>
    cases fl with
    | ret u => exact inv1.after hq
    | next => exact False.elim hq
    | brk => exact False.elim hq
    | cont => exact False.elim hq
/-- the def that calls what it got; TT: what it makes of the lambda's reading -/
def GivesS (X : Cx) (Ng : List Str) (x : Str) (sg : Scope) (g : Addr) (cdg : Value) (bg : List Stmt) (a : Str) (q : Str) (kk : Nat) (TT : (XK → Hp → VK → Prop) → Hp → VK → Prop) : Prop :=
  ∀ (f c' : Addr) (s : Shared) (H : Hp) (Q : VK) (tl : XK → Hp → VK → Prop), Room kk (X.A.deeper (envOfC x sg s.heap.objs.size g cdg)) →
    (∀ (W : WX) (pn : List (Addr × Obj)) (xe : Value → Shared → Prop) (p1 p2 : Pos), Takes ((cxOf C8.CX0 X.prog X.w X.K X.mg X.base Ng x sg g cdg X.A X.stack s H C8.E0).tr pn xe) W →
      PE ((cxOf C8.CX0 X.prog X.w X.K X.mg X.base Ng x sg g cdg X.A X.stack s H C8.E0).tr pn xe) (.Call (.Name a p1) [] [] p2) (fun σZ HZ Q => σZ[0]? = some (some (.ref f)) ∧ HZ c' = some (CodeO c' q) ∧ ∃ Ech : XK, (∀ cls d H', Ech cls d H' → W cls d σZ H') ∧ tl Ech HZ Q)) →
    H c' = some (CodeO c' q) → TT tl H Q →
    ∃ t, PSs (cxOf C8.CX0 X.prog X.w X.K X.mg X.base Ng x sg g cdg X.A X.stack s H C8.E0).nox bg t ∧ t { nx := fun _ H' => Q .non H', rt := Q } (L2.start Ng [.ref f]) H
end
section
variable {X : Cx}
/-- x(lambda: body) -/
theorem pe_lamcallS {T : List (Addr × Str)} {TT : (XK → Hp → VK → Prop) → Hp → VK → Prop} {x a : Str} {g c P : Addr} {k : Nat} {st : Stmt} {fd : FuncData} {Ng : List Str}
    {params : Arguments} {body : Expr} {scope : Scope} {t : XK → TE} {p lpos pos : Pos} (hg : Gl X x) (hm : X.mg x = some (.ref g)) (hk : PySem.W.keepIn X.K (.ref g) = true)
    (F : Fun X.K x x st g fd) (hb : L2.Binds X.K fd [a] []) (Sg : FnScope Ng [a] (defScope st)) (hNg : Ng[0]? = some a) (hva : Vis (defScope st) a)
    (hG : ∀ cdv, GivesS X Ng x (defScope st) g cdv (defBody st) a (X.env.qual ++ "<lambda>") (k + 1) TT)
    (TB : TabB X.base X.mg c P) (hcode : X.env.code = .ref c) (hmT : (P, X.env.qual ++ "<lambda>") ∈ T) (hu : ∀ p ∈ T, p.1 = P → p.2 = X.env.qual ++ "<lambda>") (hr : Room (k + 2) X.A) (L : LamS X.env.scope scope) (hdef : defaultsOf params X.env = ([], []))
    (hbind : ∀ (q : Str) (cl : List (Str × Addr)) (pm cv ctv : Value), bindArgs (PySem.W.kla_fn "<lambda>" q params body scope cl pm cv ctv) ⟨[], []⟩ = pure [])
    (hbody : ∀ (A : Around) (outer : List Env) (s : Shared) (H : Hp) (E : XK) (f c' : Addr), Room k (A.deeper (lamEnv X scope s.heap.objs.size f c')) → PE (lamCx X A outer s H E scope f c') body (t E))
    (hdb : (x == ("__debug__" : Str)) = false := by decide) (hd : (a == ("__debug__" : Str)) = false := by decide) (hcd : (a == ("__classdict__" : Str)) = false := by decide) :
    PE X (.Call (.Name x p) [.Lambda params body scope lpos] [] pos) (tLam T TT t) := by
  refine ⟨fun pins s σ H Q inv h => ?_⟩
  obtain ⟨hT, h⟩ := h
  obtain ⟨oc, od, kV, doc, pm, an, cdv, ct, osl, rfl, lk, hcg⟩ := F.ex
  refine wpAny_Call_Name_kw (ld_glob inv hg hm ?_ hdb)
  refine PySem.W.callWith_K (h₀ := X.base) inv.ok.mod.kin hk ?_ (by rfl) (by rfl)
  show wpAny _ _ (spliced ((false, eval (.Lambda params body scope lpos) X.env) :: backTo pos (starEach [] X.env))) _ _ s
  refine Calls.spliced_cons (lam_make2 inv TB hcode hmT hu hT hdef (L.has inv.ok) fun f c' pm' ctv H1 s' inv1 eN T1 hf hfn hfr hco => ?_)
  refine Calls.spliced_nil ⟨inv1.kIn, ?_⟩
  have rc : codeAny (model X.prog X.w) X.A (.call (.ref g) ⟨[.ref f], []⟩) (CR C8.CX0 X.stack X.prog X.w H1 s' Q C8.E0) s' := by
    refine run_ofS (N := Ng) (ps := [a]) (us := [.ref f]) (vs := [.ref f]) lk hcg Sg hr inv1.env0 (hb s' [.ref f] inv1.kIn rfl) (.cons rfl .nil) rfl fun hr' => ?_
    obtain ⟨t', ht', hq'⟩ := hG cdv f c' s' H1 Q (fun E H' Q' => t E σ H' Q') hr' (fun W pn xe p1 p2 tk => pe_actS (i := 0) inv1 L hf hfn hfr (hbind _ _ _ _ _) tk hr' (fun A outer s H E hr2 => hbody A outer s H E f c' hr2) hNg hva hd hcd) hco (h H1 eN T1)
    exact ⟨t', ht'.nox, hq'⟩
  refine wpAny_call (codeAny_mono rc fun r s2 hq => ?_)
  cases r with
  | error e => exact (show False from hq).elim
  | ok fl =>
    cases fl with
    | ret u => exact inv1.after hq
    | next => exact False.elim hq
    | brk => exact False.elim hq
    | cont => exact False.elim hq
theorem passes_lam {A : Around} {outer : List Env} {s : Shared} {H : Hp} {E : XK} {scope : Scope} {f c' : Addr} : Passes (L2.CX X.prog X.w) (lamCx X A outer s H E scope f c') E :=
  passes_call (takes_of rfl rfl rfl rfl) (fun _ _ _ _ h => h)
end
/-! ### a def whose code object is known -/
structure FunL (K : PySem.W.Frag) (x qual : Str) (st : Stmt) (f : Addr) (fd : FuncData) (cdv : Value) : Prop where
  ex : ∃ (oc : Value) (od : Option Addr) (kV doc pm : Value) (an : Option Addr) (ct : Value) (osl : Array (Option Value)), fd = PySem.W.fnOf x qual (defArgs st) (defBody st) (defScope st) .none kV doc pm an cdv ct ∧
    K.lookup f = some ⟨oc, od, .func fd, osl⟩ ∧ PySem.W.codeIn K cdv qual = true
theorem FunL.okG {P : Program} {w : World} {K : PySem.W.Frag} {mg : Str → Option Value} {base : Heap} {x qual : Str} {st : Stmt} {f : Addr} {fd : FuncData} {cdv : Value} {N ps : List Str} {k : Nat} {sp : Sp} (F : FunL K x qual st f fd cdv) (S : FnScope N ps (defScope st)) (len : ∀ vs H Q E, sp vs H Q E → vs.length = ps.length)
    (hbody : ∀ (A : Around) (outer : List Env) (s : Shared) (H : Hp) (vs : List V) (Q : VK) (E : XK), (A.deeper (envOfC qual (defScope st) s.heap.objs.size f cdv)).guards = some [] → Room k (A.deeper (envOfC qual (defScope st) s.heap.objs.size f cdv)) → sp vs H Q E →
      ∃ t, PSs (cxOf CX0 P w K mg base N qual (defScope st) f cdv A outer s H E).nox (defBody st) t ∧ t { nx := fun _ H' => Q .non H', rt := Q } (start N vs) H) : FnOkG P w K mg base CX0 (k + 1) f fd ps sp := by
  obtain ⟨oc, od, kV, doc, pm, an, ct, osl, rfl, lk, hcd⟩ := F.ex
  refine fn_ofG lk hcd S len fun A outer s H vs Q E hgd hr hsp => ?_
  obtain ⟨t, h, q⟩ := hbody A outer s H vs Q E hgd hr hsp
  exact ⟨t, h.nox, q⟩
theorem exm_ref {K : PySem.W.Frag} {C B : Addr} {b : Bool} (h1 : PySem.W.subIn K (.ref B) (.type "BaseException") = some true) (h2 : PySem.W.isClsIn K B = true) (h3 : PySem.W.typeIn K (.ref B) = some (.type "type")) (h4 : PySem.W.subIn K (.ref C) (.ref B) = some b) :
    PySem.W.exmOne K (.ref C) (.ref B) = some b := by
  have e1 : (PySem.W.subIn K (.ref B) (.type "BaseException") == some true) = true := by rw [h1] <;> rfl
  have e2 : ((PySem.W.clsIn K B).isSome && PySem.W.typeIn K (.ref B) == some (.type "type")) = true := by
    have h2' : (PySem.W.clsIn K B).isSome = true := h2
    rw [h2', h3] <;> rfl
  show (if (PySem.W.subIn K (.ref B) (.type "BaseException") == some true) = true then (if ((PySem.W.clsIn K B).isSome && PySem.W.typeIn K (.ref B) == some (.type "type")) = true then PySem.W.subIn K (.ref C) (.ref B) else none) else none) = some b
  rw [if_pos e1, if_pos e2]
  exact h4
end L2
set_option maxHeartbeats 4000000
namespace L2
open PySem PySem.Spec PyProof.Rows
/-! ### repr of data, or of a dict of ints -/
inductive KvD : List (Key × V) → List (PyData × PyData) → Prop
  | nil : KvD [] []
  | cons (k v : Int) {r : List (Key × V)} {ds : List (PyData × PyData)} (h : KvD r ds) : KvD ((Sum.inl k, V.int v) :: r) ((.int k, .int v) :: ds)
theorem kvd_reads {P : Program} {w : World} {h : Heap} : ∀ {kvs : List (Key × V)} {ds : List (PyData × PyData)} {vs : List (Key × Value)} {es : List DictEntry}, KvD kvs ds → KV kvs vs → Pairs (mixKind P w) es vs →
    ReadsAll h (es.map (·.key)) (ds.map (·.1)) [] ∧ ReadsAll h (es.map (·.val)) (ds.map (·.2)) []
  | _, _, _, _, .nil, kv, pr => by
    cases kv
    cases pr
    exact ⟨.nil, .nil⟩
  | _, _, _, _, .cons k v d, kv, pr => by
    cases kv with
    | cons h1 t1 =>
      cases pr with
      | cons a b t2 =>
        obtain ⟨i1, i2⟩ := kvd_reads (h := h) d t1 t2
        obtain ⟨ek, rv⟩ := h1
        obtain ⟨tv, ev⟩ := rv
        rw [← ek] at a
        obtain ⟨tk, eq⟩ := Value.isInt_shape (show Value.isInt k _ = true from a)
        refine ⟨?_, ?_⟩
        · rw [List.map_cons, List.map_cons, eq]
          exact ReadsAll.cons (as := []) (bs := []) (.int k tk) i1
        · rw [List.map_cons, List.map_cons, b, ev]
          exact ReadsAll.cons (as := []) (bs := []) (.int v tv) i2
structure rShowX (K : PySem.W.Frag) (xs : List V) (H : Hp) (Q : VK) : Prop where
  ex : rShow K xs H Q ∨ ∃ (p : Addr) (kvs : List (Key × V)) (ds : List (PyData × PyData)), xs = [.ref p] ∧ H p = some (.dK kvs) ∧ KvD kvs ds ∧ (PyData.dict ds).showable = true ∧ (PyData.dict ds).depth ≤ 90 ∧ (PyData.dict ds).shown.length ≤ sizeLine ∧ Q (.str (PyData.dict ds).shown) H
theorem call_reprX {X : Cx} (hgd : X.A.guards = some []) (hu : X.A.units + 100 < cLine) : CallR X (.builtin "repr") (rShowX X.K) := by
  intro pins s σ H xs us Q I r h
  rcases h.ex with h | ⟨p, kvs, ds, rfl, hp, kd, sh, dp, sz, q⟩
  · exact call_reprD hgd hu pins s σ H xs us Q I r h
  obtain ⟨u, rfl, ru⟩ := vals1 r
  obtain rfl : u = Value.ref p := ru
  obtain ⟨_, hsys, vs, kv, o, es, ep, ho, ⟨hc, hx⟩, hd, _, pr, _⟩ := (show ObjOk X.prog X.w H s.heap p (.dK kvs) from I.hok p _ hp)
  obtain ⟨r1, r2⟩ := kvd_reads (h := s.heap) kd kv pr
  have R : Reads s.heap (.ref p) (.dict ds) (p :: [] ++ []) := Reads.dict ho hc hd (by simpa using r1) (by simpa using r2)
  refine repr_of_reads' R sh (fun _ z => ?_) hgd (by omega) (fun _ _ e => e) (fun h' u tk hk => ⟨.str _, H, I.kept (t' := tk) hk, ⟨_, rfl⟩, q⟩) sz
  have e : sysModules = p := by simpa using z
  rw [e] at hsys
  simp at hsys
end L2
set_option maxHeartbeats 4000000
namespace L2
open PySem PySem.Spec PyProof.Rows
/-! ### a call of a def that says repr, where no repr is under way; an own == with a list -/
section
variable {X : Cx} {CX : CXT} {k : Nat} {f C : Addr} {fd : FuncData} {ps : List Str} {sp : Sp} {dvs : List V} {ds : List Value} {E : XK} {x : Str} {p pos : Pos} {e : Expr} {es : List Expr} {t : TA}
theorem run_fnG {pins : List (Addr × Obj)} {σ : L2.St} {H : Hp} {s : Shared} {Q : VK} {us : List Value} {vs : List V} (F : FnOkG X.prog X.w X.K X.mg X.base CX k f fd ps sp) (hgd : X.A.guards = some []) (hr : Room k X.A) (hb : Binds X.K fd ps ds) (hd : Vals dvs ds) (hx : Passes CX X E)
    (I : Inv X pins σ H s) (r : Vals vs us) (h : sp (vs ++ dvs) H Q E) : wpAny (model X.prog X.w) X.A (call (.ref f) us) (EP X pins σ Q) X.xe s := by
  have r2 : Vals (vs ++ dvs) (us ++ ds) := r.append hd
  have hl : (us ++ ds).length = ps.length := by rw [← r2.length]; exact F.len _ _ _ _ h
  refine wpAny_call (codeAny_mono (F.run X.A X.stack s H ⟨us, []⟩ (us ++ ds) (vs ++ dvs) Q E hgd hr I.env0 (hb s us I.kIn hl) r2 h) fun r s' hq => ?_)
  cases r with
  | error e => exact hx pins σ H s e s' I hq
  | ok fl =>
    cases fl with
    | ret u => exact I.after hq
    | next => exact False.elim hq
    | brk => exact False.elim hq
    | cont => exact False.elim hq
theorem pe_callG (F : FnOkG X.prog X.w X.K X.mg X.base CX k f fd ps sp) (hgd : X.A.guards = some []) (hr : Room k X.A) (hg : Gl X x) (hm : X.mg x = some (.ref f)) (hk : PySem.W.keepIn X.K (.ref f) = true) (hb : Binds X.K fd ps ds) (hd : Vals dvs ds) (hx : Passes CX X E)
    (ha : PA X (e :: es) t) (hdb : (x == ("__debug__" : Str)) = false := by decide) (he : starEach (e :: es) X.env = (false, eval e X.env) :: starEach es X.env := by rfl) (hpl : (backTo pos (starEach es X.env)).any (·.1) = false := by rfl) :
    PE X (.Call (.Name x p) (e :: es) [] pos) (tCall sp dvs E t) := by
  refine ⟨fun pins s σ H Q I h => ?_⟩
  refine wpAny_Call_Name_kw (ld_glob I hg hm ?_ hdb)
  refine PySem.W.callWith_K (h₀ := X.base) I.ok.mod.kin hk (thn (ha.run pos pins s σ H _ I h) fun us s1 ⟨vs, H1, I1, r, q⟩ => ⟨I1.kIn, ?_⟩) he hpl
  exact run_fnG F hgd hr hb hd hx I1 r q
def rEqL (C : Addr) (sp : Sp) (E : XK) : R2 := fun x y H Q => ∃ p q dx fs, x = .ref p ∧ y = .ref q ∧ H p = some (.ins C dx fs) ∧ ((∃ xs, H q = some (.lst xs)) ∨ (∃ kvs, H q = some (.dK kvs))) ∧ sp [.ref p, .ref q] H (fun v H' => ∃ r : Bool, v = .bl r ∧ Q (.bl r) H') E
theorem op_eqOwnL (F : FnOk X.prog X.w X.K X.mg X.base CX k f fd ps sp) (hr : Room k X.A) (hs : PySem.W.findIn X.K (.ref C) "__eq__" = some (some (.ref f))) (hf : PySem.W.isFn X.K (.ref f) = true) (hl : PySem.W.subIn X.K (.type "list") (.ref C) = some false) (hd : PySem.W.subIn X.K (.type "dict") (.ref C) = some false)
    (hb : Binds X.K fd ps []) (hx : Passes CX X E) : OpR X (compareOp .Eq) (rEqL C sp E) := by
  intro pins s σ H x y v u Q I rx ry h
  obtain ⟨p, q, dx, fs, rfl, rfl, hp, hq, h⟩ := h
  cases rx
  cases ry
  obtain ⟨mA, J, _⟩ := ins_get I.hok hp
  obtain ⟨od, J, _⟩ := J.look
  obtain ⟨m, hF⟩ := I.fr
  have fin : ∀ tb : Value, PySem.W.Looks (model X.prog X.w) s.heap (typeOf (.ref q)) tb → PySem.W.notFirst X.K C tb = true → wpAny (model X.prog X.w) X.A (compareOp .Eq (.ref p) (.ref q)) (EP X pins σ Q) X.xe s := fun tb lt nf => by
    show wpAny (model X.prog X.w) X.A (richCompare .Eq _ _) (EP X pins σ Q) X.xe s
    refine PySem.W.cmp_K (op := .Eq) (tb := tb) hr.units0 hF I.ok.mod.kin J lt nf hs hf (wpAny_mono (run_at (vs := [.ref p, .ref q]) rfl F hr hb hx I (.cons rfl (.cons rfl .nil)) h) (fun v s' z => ?_) fun _ _ z => z)
    obtain ⟨x, H', I', rx, r, ex, qq⟩ := z
    subst ex
    cases rx
    exact ⟨.bl r, H', I', rfl, qq⟩
  rcases hq with ⟨xs, hq⟩ | ⟨kvs, hq⟩
  · obtain ⟨_, its, c, _, e⟩ := (show ObjOk X.prog X.w H s.heap q (.lst xs) from I.hok q _ hq)
    exact fin (.type "list") (fun A Q E s k z => wpAny_typeOf_ref (k _ _ e) z) (by unfold PySem.W.notFirst; rw [hl]; rfl)
  · obtain ⟨_, _, vs, kv, o, es, ep, ho, ⟨hc, _⟩, _⟩ := (show ObjOk X.prog X.w H s.heap q (.dK kvs) from I.hok q _ hq)
    exact fin (.type "dict") (fun A Q E s k z => wpAny_typeOf_ref (k _ _ ho) (by rw [hc]; exact z)) (by unfold PySem.W.notFirst; rw [hd]; rfl)
end
end L2
set_option maxHeartbeats 1000000
namespace Z
open PySem PySem.Spec PyProof.Rows L2
/-! ### values without the heap; values of one's own -/
inductive Val where
  | non | bl (b : Bool) | int (i : Int) | str (x : Str) | ty (n : String) | st (i : Nat)
  | tup (xs : List Val) | lst (xs : List Val) | ins (c : Nat) (xs : List Val)
inductive MV where
  | f (v : Val) | lst (ms : List MV) | ins (c : Nat) (ms : List MV)
mutual
def MV.val : MV → Val
  | .f v => v
  | .lst ms => .lst (MV.vals ms)
  | .ins c ms => .ins c (MV.vals ms)
def MV.vals : List MV → List Val
  | [] => []
  | m :: r => m.val :: MV.vals r
end
theorem MV.vals_map : ∀ (xs : List Val), MV.vals (xs.map .f) = xs
  | [] => rfl
  | x :: r => by rw [List.map_cons, MV.vals, MV.vals_map r]; rfl
theorem MV.vals_eq : ∀ (ms : List MV), MV.vals ms = ms.map MV.val
  | [] => rfl
  | m :: r => by rw [MV.vals, MV.vals_eq r]; rfl
/-- what stands fixed for a law: its classes, their attributes, its static things -/
structure Gs where
  C : Nat → Addr
  flds : Nat → List Str
  st : Nat → V
section
variable (K : PySem.W.Frag) (G : Gs)
mutual
def RV (F : Hp) : Val → V → Prop
  | .non, x => x = .non
  | .bl b, x => x = .bl b
  | .int i, x => x = .int i
  | .str s, x => x = .str s
  | .ty n, x => x = .ty n
  | .st i, x => x = G.st i
  | .tup vs, x => ∃ a xs, x = .ref a ∧ SqT K F a xs ∧ RVs F vs xs
  | .lst vs, x => ∃ a xs, x = .ref a ∧ SqL K F a xs ∧ RVs F vs xs
  | .ins c vs, x => ∃ a dx xs, x = .ref a ∧ F a = some (.ins (G.C c) dx ((G.flds c).zip xs)) ∧ vs.length ≤ (G.flds c).length ∧ RVs F vs xs
def RVs (F : Hp) : List Val → List V → Prop
  | [], ys => ys = []
  | v :: vs, ys => ∃ x xs, ys = x :: xs ∧ RV F v x ∧ RVs F vs xs
end
mutual
def RM (F H : Hp) : MV → V → List Addr → Prop
  | .f v, x, fp => fp = [] ∧ RV K G F v x
  | .lst ms, x, fp => ∃ a xs fr, x = .ref a ∧ fp = a :: fr ∧ H a = some (.lst xs) ∧ RMs F H ms xs fr
  | .ins c ms, x, fp => ∃ a dx xs fr, x = .ref a ∧ fp = a :: fr ∧ H a = some (.ins (G.C c) dx ((G.flds c).zip xs)) ∧ ms.length ≤ (G.flds c).length ∧ RMs F H ms xs fr
def RMs (F H : Hp) : List MV → List V → List Addr → Prop
  | [], ys, fp => ys = [] ∧ fp = []
  | m :: ms, ys, fp => ∃ x xs f1 f2, ys = x :: xs ∧ fp = f1 ++ f2 ∧ RM F H m x f1 ∧ RMs F H ms xs f2
end
end
section
variable {K : PySem.W.Frag} {G : Gs} {F F' H H' : Hp}
theorem SqT.mono {a : Addr} {xs : List V} (s : Same F F') (h : SqT K F a xs) : SqT K F' a xs := by
  rcases h with (h | ⟨o, h⟩) | h
  · exact .inl (.inl (s _ _ h))
  · exact .inl (.inr ⟨o, s _ _ h⟩)
  · exact .inr h
mutual
theorem RV.mono (s : Same F F') : ∀ {v : Val} {x : V}, RV K G F v x → RV K G F' v x
  | .non, _, h => h
  | .bl _, _, h => h
  | .int _, _, h => h
  | .str _, _, h => h
  | .ty _, _, h => h
  | .st _, _, h => h
  | .tup vs, x, h => by
    unfold RV at h ⊢
    obtain ⟨a, xs, e, h1, h2⟩ := h
    exact ⟨a, xs, e, SqT.mono s h1, RVs.mono s h2⟩
  | .lst vs, x, h => by
    unfold RV at h ⊢
    obtain ⟨a, xs, e, h1, h2⟩ := h
    exact ⟨a, xs, e, s.seq h1, RVs.mono s h2⟩
  | .ins c vs, x, h => by
    unfold RV at h ⊢
    obtain ⟨a, dx, xs, e, h1, h2, h3⟩ := h
    exact ⟨a, dx, xs, e, s _ _ h1, h2, RVs.mono s h3⟩
theorem RVs.mono (s : Same F F') : ∀ {vs : List Val} {xs : List V}, RVs K G F vs xs → RVs K G F' vs xs
  | [], _, h => by unfold RVs at h ⊢; exact h
  | v :: vs, _, h => by
    unfold RVs at h ⊢
    obtain ⟨x, xs, e, h1, h2⟩ := h
    exact ⟨x, xs, e, RV.mono s h1, RVs.mono s h2⟩
end
theorem RVs.len : ∀ {vs : List Val} {xs : List V}, RVs K G F vs xs → xs.length = vs.length
  | [], _, h => by unfold RVs at h; subst h; rfl
  | v :: vs, _, h => by
    unfold RVs at h
    obtain ⟨x, xs, e, h1, h2⟩ := h
    subst e
    simp [RVs.len h2]
theorem RVs.get : ∀ {vs : List Val} {xs : List V} {i : Nat} {v : Val}, RVs K G F vs xs → vs[i]? = some v → ∃ x, xs[i]? = some x ∧ RV K G F v x
  | [], _, i, v, h, e => by simp at e
  | v :: vs, _, 0, w, h, e => by
    unfold RVs at h
    obtain ⟨x, xs, e1, h1, h2⟩ := h
    subst e1
    simp at e; subst e
    exact ⟨x, rfl, h1⟩
  | v :: vs, _, i + 1, w, h, e => by
    unfold RVs at h
    obtain ⟨x, xs, e1, h1, h2⟩ := h
    subst e1
    simp at e
    obtain ⟨y, e2, e3⟩ := RVs.get h2 e
    exact ⟨y, by simpa using e2, e3⟩
theorem RVs.get' {vs : List Val} {xs : List V} {i : Nat} {x : V} (h : RVs K G F vs xs) (e : xs[i]? = some x) : ∃ v, vs[i]? = some v ∧ RV K G F v x := by
  have hl := RVs.len h
  have : i < vs.length := by rw [← hl]; exact (List.getElem?_eq_some_iff.mp e).1
  obtain ⟨y, h1, h2⟩ := RVs.get h (List.getElem?_eq_getElem this)
  rw [e] at h1
  cases h1
  exact ⟨_, List.getElem?_eq_getElem this, h2⟩
theorem RVs.nil : RVs K G F [] [] := by unfold RVs; rfl
theorem RVs.cons {v : Val} {vs : List Val} {x : V} {xs : List V} (h1 : RV K G F v x) (h2 : RVs K G F vs xs) : RVs K G F (v :: vs) (x :: xs) := by
  unfold RVs; exact ⟨x, xs, rfl, h1, h2⟩
theorem RVs.app : ∀ {vs ws : List Val} {xs ys : List V}, RVs K G F vs xs → RVs K G F ws ys → RVs K G F (vs ++ ws) (xs ++ ys)
  | [], _, _, _, h, h' => by unfold RVs at h; subst h; exact h'
  | v :: vs, _, _, _, h, h' => by
    unfold RVs at h
    obtain ⟨x, xs, e, h1, h2⟩ := h
    subst e
    exact .cons h1 (RVs.app h2 h')
theorem RVs.take : ∀ {vs : List Val} {xs : List V} (n : Nat), RVs K G F vs xs → RVs K G F (vs.take n) (xs.take n)
  | _, _, 0, _ => by simp; exact .nil
  | [], _, n + 1, h => by unfold RVs at h; subst h; exact .nil
  | v :: vs, _, n + 1, h => by
    unfold RVs at h
    obtain ⟨x, xs, e, h1, h2⟩ := h
    subst e
    exact .cons h1 (RVs.take n h2)
theorem RVs.drop : ∀ {vs : List Val} {xs : List V} (n : Nat), RVs K G F vs xs → RVs K G F (vs.drop n) (xs.drop n)
  | _, _, 0, h => h
  | [], _, n + 1, h => by unfold RVs at h; subst h; exact .nil
  | v :: vs, _, n + 1, h => by
    unfold RVs at h
    obtain ⟨x, xs, e, h1, h2⟩ := h
    subst e
    exact RVs.drop n h2
theorem RVs.rev : ∀ {vs : List Val} {xs : List V}, RVs K G F vs xs → RVs K G F vs.reverse xs.reverse
  | [], _, h => by unfold RVs at h; subst h; exact .nil
  | v :: vs, _, h => by
    unfold RVs at h
    obtain ⟨x, xs, e, h1, h2⟩ := h
    subst e
    rw [List.reverse_cons, List.reverse_cons]
    exact RVs.app (RVs.rev h2) (.cons h1 .nil)
mutual
theorem RM.frame (s : Same F F') : ∀ {m : MV} {x : V} {fp : List Addr}, (∀ a ∈ fp, H' a = H a) → RM K G F H m x fp → RM K G F' H' m x fp
  | .f v, x, fp, _, h => by
    unfold RM at h ⊢
    exact ⟨h.1, RV.mono s h.2⟩
  | .lst ms, x, fp, n, h => by
    unfold RM at h ⊢
    obtain ⟨a, xs, fr, e, ef, h1, h2⟩ := h
    subst ef
    exact ⟨a, xs, fr, e, rfl, by rw [n a (List.mem_cons_self ..)]; exact h1, RMs.frame s (fun b hb => n b (List.mem_cons_of_mem _ hb)) h2⟩
  | .ins c ms, x, fp, n, h => by
    unfold RM at h ⊢
    obtain ⟨a, dx, xs, fr, e, ef, h1, h2, h3⟩ := h
    subst ef
    exact ⟨a, dx, xs, fr, e, rfl, by rw [n a (List.mem_cons_self ..)]; exact h1, h2, RMs.frame s (fun b hb => n b (List.mem_cons_of_mem _ hb)) h3⟩
theorem RMs.frame (s : Same F F') : ∀ {ms : List MV} {xs : List V} {fp : List Addr}, (∀ a ∈ fp, H' a = H a) → RMs K G F H ms xs fp → RMs K G F' H' ms xs fp
  | [], _, _, _, h => by unfold RMs at h ⊢; exact h
  | m :: ms, _, _, n, h => by
    unfold RMs at h ⊢
    obtain ⟨x, xs, f1, f2, e, ef, h1, h2⟩ := h
    subst ef
    exact ⟨x, xs, f1, f2, e, rfl, RM.frame s (fun b hb => n b (List.mem_append_left _ hb)) h1, RMs.frame s (fun b hb => n b (List.mem_append_right _ hb)) h2⟩
end
theorem RMs.len : ∀ {ms : List MV} {xs : List V} {fp : List Addr}, RMs K G F H ms xs fp → xs.length = ms.length
  | [], _, _, h => by unfold RMs at h; rw [h.1]; rfl
  | m :: ms, _, _, h => by
    unfold RMs at h
    obtain ⟨x, xs, f1, f2, e, ef, h1, h2⟩ := h
    subst e
    simp [RMs.len h2]
theorem RMs.nil : RMs K G F H [] [] [] := by unfold RMs; exact ⟨rfl, rfl⟩
theorem RMs.app : ∀ {ms ns : List MV} {xs ys : List V} {f1 f2 : List Addr}, RMs K G F H ms xs f1 → RMs K G F H ns ys f2 → RMs K G F H (ms ++ ns) (xs ++ ys) (f1 ++ f2)
  | [], _, _, _, _, _, h, h' => by unfold RMs at h; obtain ⟨rfl, rfl⟩ := h; exact h'
  | m :: ms, _, _, _, _, _, h, h' => by
    unfold RMs at h
    obtain ⟨x, xs, f1, f2, e, ef, h1, h2⟩ := h
    subst e ef
    rw [List.append_assoc, List.cons_append, List.cons_append]
    unfold RMs
    exact ⟨x, _, f1, _, rfl, rfl, h1, RMs.app h2 h'⟩
theorem RMs.one {m : MV} {x : V} {fp : List Addr} (h : RM K G F H m x fp) : RMs K G F H [m] [x] fp := by
  unfold RMs
  exact ⟨x, [], fp, [], rfl, (List.append_nil _).symm, h, .nil⟩
theorem RM.fz {v : Val} {x : V} : RM K G F H (.f v) x [] ↔ RV K G F v x := by unfold RM; exact ⟨fun h => h.2, fun h => ⟨rfl, h⟩⟩
theorem RMs.fz : ∀ {vs : List Val} {xs : List V}, RVs K G F vs xs → RMs K G F H (vs.map .f) xs []
  | [], _, h => by unfold RVs at h; subst h; exact .nil
  | v :: vs, _, h => by
    unfold RVs at h
    obtain ⟨x, xs, e, h1, h2⟩ := h
    subst e
    rw [List.map_cons]; unfold RMs
    exact ⟨x, xs, [], [], rfl, rfl, RM.fz.mpr h1, RMs.fz h2⟩
theorem RMs.unfz : ∀ {vs : List Val} {xs : List V} {fp : List Addr}, RMs K G F H (vs.map .f) xs fp → RVs K G F vs xs ∧ fp = []
  | [], _, _, h => by rw [List.map_nil] at h; unfold RMs at h; rw [h.1, h.2]; exact ⟨.nil, rfl⟩
  | v :: vs, _, _, h => by
    rw [List.map_cons] at h; unfold RMs at h
    obtain ⟨x, xs, f1, f2, e, ef, h1, h2⟩ := h
    unfold RM at h1
    obtain ⟨r1, r2⟩ := RMs.unfz h2
    rw [e, ef, h1.1, r2]
    exact ⟨.cons h1.2 r1, rfl⟩
/-- what stands at the addresses of fp is frozen, too -/
def frz (F H : Hp) (fp : List Addr) : Hp := fun a => if a ∈ fp then H a else F a
theorem frz_same {fp : List Addr} (n : ∀ a ∈ fp, F a = none) : Same F (frz F H fp) := fun a o e => by
  unfold frz
  rw [if_neg (fun m => by rw [n a m] at e; cases e)]
  exact e
theorem frz_in {fp : List Addr} {a : Addr} (m : a ∈ fp) : frz F H fp a = H a := if_pos m
theorem frz_out {fp : List Addr} {a : Addr} (m : a ∉ fp) : frz F H fp a = F a := if_neg m
mutual
theorem RM.froze (s : Same F F') : ∀ {m : MV} {x : V} {fp : List Addr}, (∀ a ∈ fp, F' a = H a) → RM K G F H m x fp → RV K G F' m.val x
  | .f v, x, fp, _, h => by
    unfold RM at h; exact RV.mono s h.2
  | .lst ms, x, fp, n, h => by
    unfold RM at h
    obtain ⟨a, xs, fr, e, ef, h1, h2⟩ := h
    subst ef
    rw [MV.val]; unfold RV
    exact ⟨a, xs, e, .inl (.inl (by rw [n a (List.mem_cons_self ..)]; exact h1)), RMs.froze s (fun b hb => n b (List.mem_cons_of_mem _ hb)) h2⟩
  | .ins c ms, x, fp, n, h => by
    unfold RM at h
    obtain ⟨a, dx, xs, fr, e, ef, h1, h2, h3⟩ := h
    subst ef
    rw [MV.val]; unfold RV
    exact ⟨a, dx, xs, e, by rw [n a (List.mem_cons_self ..)]; exact h1, by rw [MV.vals_eq, List.length_map]; exact h2, RMs.froze s (fun b hb => n b (List.mem_cons_of_mem _ hb)) h3⟩
theorem RMs.froze (s : Same F F') : ∀ {ms : List MV} {xs : List V} {fp : List Addr}, (∀ a ∈ fp, F' a = H a) → RMs K G F H ms xs fp → RVs K G F' (MV.vals ms) xs
  | [], _, _, _, h => by unfold RMs at h; rw [h.1, MV.vals]; exact .nil
  | m :: ms, _, _, n, h => by
    unfold RMs at h
    obtain ⟨x, xs, f1, f2, e, ef, h1, h2⟩ := h
    subst ef e
    rw [MV.vals]
    exact .cons (RM.froze s (fun b hb => n b (List.mem_append_left _ hb)) h1) (RMs.froze s (fun b hb => n b (List.mem_append_right _ hb)) h2)
end
theorem RMs.get : ∀ {ms : List MV} {xs : List V} {fp : List Addr} {i : Nat} {m : MV}, RMs K G F H ms xs fp → ms[i]? = some m → ∃ x f, xs[i]? = some x ∧ RM K G F H m x f ∧ (∀ a ∈ f, a ∈ fp)
  | [], _, _, i, m, h, e => by simp at e
  | m :: ms, _, _, 0, w, h, e => by
    unfold RMs at h
    obtain ⟨x, xs, f1, f2, e1, ef, h1, h2⟩ := h
    subst e1 ef
    simp at e; subst e
    exact ⟨x, f1, rfl, h1, fun a ha => List.mem_append_left _ ha⟩
  | m :: ms, _, _, i + 1, w, h, e => by
    unfold RMs at h
    obtain ⟨x, xs, f1, f2, e1, ef, h1, h2⟩ := h
    subst e1 ef
    simp at e
    obtain ⟨y, f, e2, e3, e4⟩ := RMs.get h2 e
    exact ⟨y, f, by simpa using e2, e3, fun a ha => List.mem_append_right _ (e4 a ha)⟩
/-- an item is put in another's place -/
theorem RMs.set : ∀ {ms : List MV} {xs : List V} {fp : List Addr} {m : MV} {x : V} {f : List Addr} (i : Nat), RMs K G F H ms xs fp → RM K G F H m x f → i < ms.length → ∃ fp', RMs K G F H (ms.set i m) (xs.set i x) fp' ∧ (fp.Nodup → f.Nodup → (∀ a ∈ f, a ∉ fp) → fp'.Nodup) ∧ ∀ a ∈ fp', a ∈ fp ∨ a ∈ f
  | [], _, _, m, x, f, i, h, h', l => by simp at l
  | n :: ms, _, _, m, x, f, 0, h, h', l => by
    unfold RMs at h
    obtain ⟨y, xs, f1, f2, e1, ef, h1, h2⟩ := h
    subst e1 ef
    refine ⟨f ++ f2, by rw [List.set_cons_zero, List.set_cons_zero]; unfold RMs; exact ⟨x, xs, f, f2, rfl, rfl, h', h2⟩, fun nd nf d => ?_, fun a ha => ?_⟩
    · rw [List.nodup_append] at nd ⊢
      exact ⟨nf, nd.2.1, fun a ha b hb e => d a ha (by rw [e]; exact List.mem_append_right _ hb)⟩
    · rcases List.mem_append.mp ha with z | z
      · exact .inr z
      · exact .inl (List.mem_append_right _ z)
  | n :: ms, _, _, m, x, f, i + 1, h, h', l => by
    unfold RMs at h
    obtain ⟨y, xs, f1, f2, e1, ef, h1, h2⟩ := h
    subst e1 ef
    obtain ⟨g, g1, g2, g3⟩ := RMs.set i h2 h' (by simpa using l)
    refine ⟨f1 ++ g, by rw [List.set_cons_succ, List.set_cons_succ]; unfold RMs; exact ⟨y, _, f1, g, rfl, rfl, h1, g1⟩, fun nd nf d => ?_, fun a ha => ?_⟩
    · rw [List.nodup_append] at nd ⊢
      refine ⟨nd.1, g2 nd.2.1 nf fun a ha c => d a ha (List.mem_append_right _ c), fun a ha b hb e => ?_⟩
      rcases g3 b hb with z | z
      · exact nd.2.2 a ha b z e
      · exact d b z (by rw [← e]; exact List.mem_append_left _ ha)
    · rcases List.mem_append.mp ha with z | z
      · exact .inl (List.mem_append_left _ z)
      · rcases g3 a z with y | y
        · exact .inl (List.mem_append_right _ y)
        · exact .inr y
end
end Z
set_option maxHeartbeats 1000000
namespace Z
open PySem PySem.Spec PyProof.Rows L2
/-! ### slots -/
inductive SV where
  | any | is (v : Val) | rd (v : Val) | own (m : MV) | io (m : MV) | lk (m : MV)
abbrev Env := List SV
structure Bs where
  M : List Addr
  F0 : Hp
  H0 : Hp
  A : List V
  I : Nat → List Addr
  T : List (List MV × List V)
def Bs.push (B : Bs) (ms : List MV) (xs : List V) : Bs := { B with T := B.T ++ [(ms, xs)] }
structure HeapOk (M : List Addr) (F0 H0 F H : Hp) : Prop where
  hs : ∀ b o, b ∉ M → H0 b = some o → H b = some o
  ht : ∀ b, H0 b ≠ none → H b ≠ none
  fs : Same F0 F
  fh : Same F H
  fr : ∀ a, F0 a = none → F a ≠ none → H0 a = none
section
variable (K : PySem.W.Frag) (G : Gs)
/-- to be read: its root may be another's own, its parts are frozen -/
def RR (M : List Addr) (F H : Hp) (v : Val) (x : V) : Prop := RV K G F v x ∨
  (∃ a vs ys, v = .lst vs ∧ x = .ref a ∧ a ∉ M ∧ H a = some (.lst ys) ∧ RVs K G F vs ys) ∨
  (∃ a c dx vs ys, v = .ins c vs ∧ x = .ref a ∧ a ∉ M ∧ H a = some (.ins (G.C c) dx ((G.flds c).zip ys)) ∧ vs.length ≤ (G.flds c).length ∧ RVs K G F vs ys)
def SlotOk (B : Bs) (F H : Hp) (i : Nat) : SV → Option V → List Addr → Prop
  | .any, _, fp => fp = []
  | .is v, x, fp => fp = [] ∧ ∃ y, x = some y ∧ RV K G F v y
  | .rd v, x, fp => fp = [] ∧ ∃ y, x = some y ∧ RR K G B.M B.F0 B.H0 v y
  | .own m, x, fp => (∃ y, x = some y ∧ RM K G F H m y fp) ∧ ∀ a ∈ fp, B.H0 a = none
  | .lk m, x, fp => (∃ y, x = some y ∧ RM K G F H m y fp) ∧ ∀ a ∈ fp, B.H0 a = none
  | .io m, x, fp => (∃ y, x = some y ∧ RM K G F H m y fp) ∧ (x = B.A[i]? ∧ x ≠ none) ∧ ∀ a ∈ fp, B.H0 a = none ∨ a ∈ B.I i
structure Sep (fps : Nat ⊕ Nat → List Addr) (B : Bs) (F H : Hp) : Prop where
  nd : ∀ k, (fps k).Nodup
  di : ∀ k l a, a ∈ fps k → a ∈ fps l → k = l
  nf : ∀ k a, a ∈ fps k → F a = none ∧ H a ≠ none ∧ (B.H0 a = none ∨ a ∈ B.M)
structure EOk (B : Bs) (env : Env) (σ : L2.St) (F H : Hp) : Prop where
  hp : HeapOk B.M B.F0 B.H0 F H
  len : σ.length = env.length
  ow : ∃ fps, (∀ i s, env[i]? = some s → SlotOk K G B F H i s (σ[i]?.join) (fps (.inl i))) ∧
    (∀ (j : Nat) p, B.T[j]? = some p → RMs K G F H p.1 p.2 (fps (.inr j)) ∧ ∀ a ∈ fps (.inr j), B.H0 a = none) ∧ Sep fps B F H
end
section
variable {K : PySem.W.Frag} {G : Gs} {B : Bs} {env : Env} {σ : L2.St} {F H F' H' : Hp}
theorem none_upd {H : Hp} {a b : Addr} {o : HO} (h : upd H a o b = none) : H b = none := by
  unfold upd at h; split at h
  · cases h
  · exact h
theorem upd_some {H : Hp} {a b : Addr} {o : HO} (h : H b ≠ none) : upd H a o b ≠ none := by
  unfold upd; split
  · exact Option.some_ne_none _
  · exact h
theorem HeapOk.refl {M : List Addr} (h : Same F H) : HeapOk M F H F H := ⟨fun _ _ _ e => e, fun _ e => e, Same.refl _, h, fun _ e n => absurd e n⟩
theorem HeapOk.put (fh : Same F H) {a : Addr} {o : HO} (n : H a = none) : HeapOk [] F H (upd F a o) (upd H a o) := by
  have nf : F a = none := Same.free fh n
  refine ⟨fun b u _ e => by rw [upd_ne (ne_of_none e n)]; exact e, fun b e => upd_some e, fun b u e => by rw [upd_ne (ne_of_none e nf)]; exact e, fun b u e => ?_, fun b e m => ?_⟩
  · by_cases c : b = a
    · subst c; rw [upd_same] at e ⊢; exact e
    · rw [upd_ne c] at e ⊢; exact fh _ _ e
  · by_cases c : b = a
    · subst c; exact n
    · rw [upd_ne c] at m; exact absurd e m
theorem HeapOk.new (fh : Same F H) {a : Addr} {o : HO} (n : H a = none) : HeapOk [] F H F (upd H a o) := by
  have nf : F a = none := Same.free fh n
  exact ⟨fun b u _ e => by rw [upd_ne (ne_of_none e n)]; exact e, fun b e => upd_some e, Same.refl _, fun b u e => by rw [upd_ne (ne_of_none e nf)]; exact fh _ _ e, fun b e m => absurd e m⟩
theorem HeapOk.trans {M : List Addr} {F1 H1 F2 H2 F3 H3 : Hp} (a : HeapOk M F1 H1 F2 H2) (b : HeapOk [] F2 H2 F3 H3) : HeapOk M F1 H1 F3 H3 := by
  refine ⟨fun c o nc e => b.hs c o List.not_mem_nil (a.hs c o nc e), fun c e => b.ht c (a.ht c e), a.fs.trans b.fs, b.fh, fun c n m => ?_⟩
  cases q : F2 c with
  | none =>
    have e0 := b.fr c q m
    cases z : H1 c with
    | none => rfl
    | some o => exact absurd e0 (a.ht c (by rw [z]; exact Option.some_ne_none o))
  | some u => exact a.fr c n (by rw [q]; exact Option.some_ne_none u)
theorem join_of {σ : L2.St} {i : Nat} {v : V} (h : σ[i]? = some (some v)) : σ[i]?.join = some v := by rw [h]; rfl
theorem join_some {σ : L2.St} {i : Nat} {v : V} (h : σ[i]?.join = some v) : σ[i]? = some (some v) := by
  cases e : σ[i]? with
  | none => rw [e] at h; cases h
  | some o => rw [e] at h; exact congrArg some h
theorem SlotOk.frame {i : Nat} {s : SV} {x : Option V} {fp : List Addr} (s1 : Same F F') (n : ∀ a ∈ fp, H' a = H a) (h : SlotOk K G B F H i s x fp) : SlotOk K G B F' H' i s x fp := by
  cases s with
  | any => exact h
  | is v => obtain ⟨h1, y, h2, h3⟩ := h; exact ⟨h1, y, h2, RV.mono s1 h3⟩
  | rd v => exact h
  | own m => obtain ⟨⟨y, h1, h2⟩, h3⟩ := h; exact ⟨⟨y, h1, RM.frame s1 n h2⟩, h3⟩
  | lk m => obtain ⟨⟨y, h1, h2⟩, h3⟩ := h; exact ⟨⟨y, h1, RM.frame s1 n h2⟩, h3⟩
  | io m => obtain ⟨⟨y, h1, h2⟩, h3⟩ := h; exact ⟨⟨y, h1, RM.frame s1 n h2⟩, h3⟩
/-- a step that changes nothing that is there -/
theorem EOk.step (h : EOk K G B env σ F H) (x : HeapOk [] F H F' H') : EOk K G B env σ F' H' := by
  obtain ⟨hp, hl, fps, h1, h2, sp⟩ := h
  have hs : ∀ k a, a ∈ fps k → H' a = H a := fun k a m => by
    cases z : H a with
    | none => exact absurd z (sp.nf k a m).2.1
    | some o => exact x.hs a o List.not_mem_nil z
  refine ⟨hp.trans x, hl, fps, fun i s e => SlotOk.frame x.fs (hs _) (h1 i s e), fun j p e => ⟨RMs.frame x.fs (hs _) (h2 j p e).1, (h2 j p e).2⟩, sp.nd, sp.di, fun k a m => ?_⟩
  obtain ⟨n1, n2, n3⟩ := sp.nf k a m
  refine ⟨?_, x.ht a n2, n3⟩
  cases z : F' a with
  | none => rfl
  | some o => exact absurd (x.fr a n1 (by rw [z]; exact Option.some_ne_none o)) n2
def up (fps : Nat ⊕ Nat → List Addr) (k : Nat ⊕ Nat) (f : List Addr) : Nat ⊕ Nat → List Addr := fun l => if l = k then f else fps l
theorem up_same {fps : Nat ⊕ Nat → List Addr} {k : Nat ⊕ Nat} {f : List Addr} : up fps k f k = f := if_pos rfl
theorem up_ne {fps : Nat ⊕ Nat → List Addr} {k l : Nat ⊕ Nat} {f : List Addr} (h : l ≠ k) : up fps k f l = fps l := if_neg h
/-- the footprint at k is another -/
theorem Sep.up {fps : Nat ⊕ Nat → List Addr} {k : Nat ⊕ Nat} {f : List Addr} (sp : Sep fps B F H) (nd : f.Nodup) (di : ∀ l a, l ≠ k → a ∈ f → a ∉ fps l) (nf : ∀ a ∈ f, F a = none ∧ H a ≠ none ∧ (B.H0 a = none ∨ a ∈ B.M)) : Sep (up fps k f) B F H := by
  refine ⟨fun l => ?_, fun l1 l2 a m1 m2 => ?_, fun l a m => ?_⟩
  · unfold Z.up; split
    · exact nd
    · exact sp.nd l
  · unfold Z.up at m1 m2
    split at m1 <;> split at m2
    · rename_i e1 e2; rw [e1, e2]
    · rename_i e1 e2; exact absurd m2 (di l2 a e2 m1)
    · rename_i e1 e2; exact absurd m1 (di l1 a e1 m2)
    · exact sp.di l1 l2 a m1 m2
  · unfold Z.up at m
    split at m
    · exact nf a m
    · exact sp.nf l a m
theorem push_get {ms : List MV} {xs : List V} {j : Nat} {p : List MV × List V} (e : (B.push ms xs).T[j]? = some p) : B.T[j]? = some p ∨ (j = B.T.length ∧ p = (ms, xs)) := by
  unfold Bs.push at e
  dsimp only at e
  rw [List.getElem?_append] at e
  split at e
  · exact .inl e
  · rename_i hj
    rw [List.getElem?_singleton] at e
    split at e
    · cases e
      exact .inr ⟨by omega, rfl⟩
    · cases e
theorem push_lt {ms : List MV} {xs : List V} {j : Nat} {p : List MV × List V} (e : B.T[j]? = some p) : (B.push ms xs).T[j]? = some p := by
  unfold Bs.push
  dsimp only
  rw [List.getElem?_append_left (List.getElem?_eq_some_iff.mp e).1]
  exact e
theorem push_at {ms : List MV} {xs : List V} : (B.push ms xs).T[B.T.length]? = some (ms, xs) := by
  unfold Bs.push
  dsimp only
  rw [List.getElem?_append_right (Nat.le_refl _), Nat.sub_self]
  rfl
theorem lt_of_get {j : Nat} {p : List MV × List V} (e : B.T[j]? = some p) : j < B.T.length := (List.getElem?_eq_some_iff.mp e).1
theorem inr_ne {j n : Nat} (h : j < n) : (Sum.inr j : Nat ⊕ Nat) ≠ .inr n := fun e => by cases e; exact absurd h (Nat.lt_irrefl _)
/-- something is kept beside -/
theorem EOk.pushG (h : EOk K G B env σ F H) {ms : List MV} {xs : List V} {fp : List Addr} (r : RMs K G F H ms xs fp) (nd : fp.Nodup) (nf : ∀ a ∈ fp, F a = none ∧ H a ≠ none ∧ B.H0 a = none)
    (di : ∀ fps, (∀ i s, env[i]? = some s → SlotOk K G B F H i s (σ[i]?.join) (fps (.inl i))) → Sep fps B F H → ∀ k a, a ∈ fp → a ∉ fps k) : EOk K G (B.push ms xs) env σ F H := by
  obtain ⟨hp, hl, fps, h1, h2, sp⟩ := h
  refine ⟨hp, hl, up fps (.inr B.T.length) fp, fun i s e => ?_, fun j p e => ?_, ?_⟩
  · rw [up_ne (by intro z; cases z)]
    have := h1 i s e
    cases s <;> exact this
  · rcases push_get e with e | ⟨rfl, rfl⟩
    · rw [up_ne (inr_ne (lt_of_get e))]; exact h2 j p e
    · rw [up_same]; exact ⟨r, fun a m => (nf a m).2.2⟩
  · have := Sep.up (k := .inr B.T.length) (f := fp) sp nd (fun l a _ m => di fps h1 sp l a m) (fun a m => ⟨(nf a m).1, (nf a m).2.1, .inl (nf a m).2.2⟩)
    exact ⟨this.nd, this.di, this.nf⟩
theorem EOk.pushF (h : EOk K G B env σ F H) {v : Val} {x : V} (r : RV K G F v x) : EOk K G (B.push [.f v] [x]) env σ F H :=
  h.pushG (RMs.one (RM.fz.mpr r)) List.nodup_nil (fun a m => by cases m) (fun _ _ _ _ a m => by cases m)
theorem EOk.pushE (h : EOk K G B env σ F H) : EOk K G (B.push [] []) env σ F H :=
  h.pushG RMs.nil List.nodup_nil (fun a m => by cases m) (fun _ _ _ _ a m => by cases m)
theorem EOk.pop {ms : List MV} {xs : List V} (h : EOk K G (B.push ms xs) env σ F H) : EOk K G B env σ F H := by
  obtain ⟨hp, hl, fps, h1, h2, sp⟩ := h
  refine ⟨hp, hl, fps, fun i s e => ?_, fun j p e => h2 j p (push_lt e), sp.nd, sp.di, sp.nf⟩
  have := h1 i s e
  cases s <;> exact this
/-- the last thing beside, and what is left without it -/
theorem EOk.top {ms : List MV} {xs : List V} (h : EOk K G (B.push ms xs) env σ F H) : ∃ fp fps, RMs K G F H ms xs fp ∧ fp.Nodup ∧ (∀ a ∈ fp, F a = none ∧ H a ≠ none ∧ B.H0 a = none) ∧ (∀ k a, a ∈ fp → a ∉ fps k) ∧
    (∀ i s, env[i]? = some s → SlotOk K G B F H i s (σ[i]?.join) (fps (.inl i))) ∧ (∀ (j : Nat) p, B.T[j]? = some p → RMs K G F H p.1 p.2 (fps (.inr j)) ∧ ∀ a ∈ fps (.inr j), B.H0 a = none) ∧ Sep fps B F H := by
  obtain ⟨hp, hl, fps, h1, h2, sp⟩ := h
  obtain ⟨r, n⟩ := h2 _ _ push_at
  refine ⟨fps (.inr B.T.length), up fps (.inr B.T.length) [], r, sp.nd _, fun a m => ⟨(sp.nf _ a m).1, (sp.nf _ a m).2.1, n a m⟩, fun k a m => ?_, fun i s e => ?_, fun j p e => ?_, ?_⟩
  · unfold up; split
    · exact List.not_mem_nil
    · rename_i ne; exact fun z => ne (sp.di _ _ a z m)
  · rw [up_ne (by intro z; cases z)]
    have := h1 i s e
    cases s <;> exact this
  · rw [up_ne (inr_ne (lt_of_get e))]; exact h2 j p (push_lt e)
  · have := Sep.up (k := .inr B.T.length) (f := []) sp List.nodup_nil (fun _ a _ m => by cases m) (fun a m => by cases m)
    exact ⟨this.nd, this.di, this.nf⟩
/-- two things beside are one -/
theorem EOk.merge {ms ns : List MV} {xs ys : List V} (h : EOk K G ((B.push ms xs).push ns ys) env σ F H) : EOk K G (B.push (ms ++ ns) (xs ++ ys)) env σ F H := by
  obtain ⟨f2, fps, r2, nd2, nf2, d2, h1, h2, sp⟩ := h.top
  obtain ⟨f1, gps, r1, nd1, nf1, d1, g1, g2, sp1⟩ := (h.pop).top
  have h' := h
  obtain ⟨hp, hl, _⟩ := h'
  obtain ⟨r, n⟩ := h2 _ _ push_at
  refine ⟨hp, hl, up fps (.inr B.T.length) (fps (.inr B.T.length) ++ f2), fun i s e => ?_, fun j p e => ?_, ?_⟩
  · rw [up_ne (by intro z; cases z)]
    have := h1 i s e
    cases s <;> exact this
  · rcases push_get e with e | ⟨rfl, rfl⟩
    · rw [up_ne (inr_ne (lt_of_get e))]; exact h2 j p (push_lt e)
    · rw [up_same]
      refine ⟨RMs.app r r2, fun a m => ?_⟩
      rcases List.mem_append.mp m with m | m
      · exact n a m
      · exact (nf2 a m).2.2
  · have := Sep.up (k := .inr B.T.length) (f := fps (.inr B.T.length) ++ f2) sp (List.nodup_append.mpr ⟨sp.nd _, nd2, fun a ha b hb e => by subst e; exact d2 _ a hb ha⟩) (fun l a ne m => ?_) (fun a m => ?_)
    · exact ⟨this.nd, this.di, this.nf⟩
    · rcases List.mem_append.mp m with m | m
      · exact fun z => ne (sp.di _ _ a z m)
      · exact d2 l a m
    · rcases List.mem_append.mp m with m | m
      · exact sp.nf _ a m
      · exact ⟨(nf2 a m).1, (nf2 a m).2.1, .inl (nf2 a m).2.2⟩
/-- the last thing beside is frozen -/
theorem EOk.freeze {ms : List MV} {xs : List V} (h : EOk K G (B.push ms xs) env σ F H) : ∃ F', Same F F' ∧ EOk K G B env σ F' H ∧ RVs K G F' (MV.vals ms) xs := by
  obtain ⟨fp, fps, r, nd, nf, d, h1, h2, sp⟩ := h.top
  obtain ⟨hp, hl, _⟩ := h
  have s' : Same F (frz F H fp) := frz_same fun a m => (nf a m).1
  refine ⟨frz F H fp, s', ⟨⟨hp.hs, hp.ht, hp.fs.trans s', fun b o e => ?_, fun a e0 e => ?_⟩, hl, fps, fun i s e => SlotOk.frame s' (fun _ _ => rfl) (h1 i s e), fun j p e => ⟨RMs.frame s' (fun _ _ => rfl) (h2 j p e).1, (h2 j p e).2⟩, sp.nd, sp.di, fun k a m => ⟨?_, (sp.nf k a m).2⟩⟩, RMs.froze s' (fun a m => frz_in m) r⟩
  · by_cases c : b ∈ fp
    · rw [frz_in c] at e; exact e
    · rw [frz_out c] at e; exact hp.fh _ _ e
  · by_cases c : a ∈ fp
    · exact (nf a c).2.2
    · rw [frz_out c] at e; exact hp.fr a e0 e
  · rw [frz_out (fun c => d k a c m)]; exact (sp.nf k a m).1
theorem EOk.freeze1 {m : MV} {x : V} (h : EOk K G (B.push [m] [x]) env σ F H) : ∃ F', Same F F' ∧ EOk K G B env σ F' H ∧ RV K G F' m.val x := by
  obtain ⟨F', s, h', r⟩ := h.freeze
  refine ⟨F', s, h', ?_⟩
  rw [MV.vals, MV.vals] at r
  unfold RVs at r
  obtain ⟨y, ys, e, r1, _⟩ := r
  cases e
  exact r1
/-- a new object, one's own: what lay beside is in it -/
theorem EOk.newO {ms : List MV} {xs : List V} {m : MV} {a : Addr} {o : HO} (h : EOk K G (B.push ms xs) env σ F H) (n : H a = none) (mk : ∀ H' fp, RMs K G F H' ms xs fp → H' a = some o → RM K G F H' m (.ref a) (a :: fp)) : EOk K G (B.push [m] [.ref a]) env σ F (upd H a o) := by
  obtain ⟨fp, fps, r, nd, nf, d, h1, h2, sp⟩ := h.top
  obtain ⟨hp, hl, _⟩ := h
  have hp' : HeapOk B.M B.F0 B.H0 F H := hp
  have ne : ∀ b, H b ≠ none → upd H a o b = H b := fun b hb => upd_ne fun c => hb (by rw [c]; exact n)
  have x := HeapOk.new (o := o) hp'.fh n
  have na : a ∉ fp := fun m => (nf a m).2.1 n
  have nH0 : B.H0 a = none := by
    cases z : B.H0 a with
    | none => rfl
    | some u => exact absurd n (hp'.ht a (by rw [z]; exact Option.some_ne_none u))
  have base : EOk K G B env σ F (upd H a o) := by
    refine ⟨hp'.trans x, hl, fps, fun i s e => SlotOk.frame (Same.refl _) (fun b m => ne b (sp.nf _ b m).2.1) (h1 i s e), fun j p e => ⟨RMs.frame (Same.refl _) (fun b m => ne b (sp.nf _ b m).2.1) (h2 j p e).1, (h2 j p e).2⟩, sp.nd, sp.di, fun k b m => ⟨(sp.nf k b m).1, upd_some (sp.nf k b m).2.1, (sp.nf k b m).2.2⟩⟩
  have rm : RM K G F (upd H a o) m (.ref a) (a :: fp) := mk _ fp (RMs.frame (Same.refl _) (fun b m => ne b (nf b m).2.1) r) upd_same
  refine ⟨base.hp, base.len, up fps (.inr B.T.length) (a :: fp), fun i s e => ?_, fun j p e => ?_, ?_⟩
  · rw [up_ne (by intro z; cases z)]
    have := SlotOk.frame (Same.refl _) (fun b m => ne b (sp.nf _ b m).2.1) (h1 i s e)
    cases s <;> exact this
  · rcases push_get e with e | ⟨rfl, rfl⟩
    · rw [up_ne (inr_ne (lt_of_get e))]; exact ⟨RMs.frame (Same.refl _) (fun b m => ne b (sp.nf _ b m).2.1) (h2 j p e).1, (h2 j p e).2⟩
    · rw [up_same]
      refine ⟨RMs.one rm, fun b m => ?_⟩
      rcases List.mem_cons.mp m with m | m
      · rw [m]; exact nH0
      · exact (nf b m).2.2
  · have sp' : Sep fps B F (upd H a o) := ⟨sp.nd, sp.di, fun k b m => ⟨(sp.nf k b m).1, upd_some (sp.nf k b m).2.1, (sp.nf k b m).2.2⟩⟩
    have := Sep.up (k := .inr B.T.length) (f := a :: fp) sp' (List.nodup_cons.mpr ⟨na, nd⟩) (fun l b _ m => ?_) (fun b m => ?_)
    · exact ⟨this.nd, this.di, this.nf⟩
    · rcases List.mem_cons.mp m with m | m
      · intro z; rw [m] at z; exact (sp.nf l a z).2.1 n
      · exact d l b m
    · rcases List.mem_cons.mp m with m | m
      · rw [m]; exact ⟨Same.free hp'.fh n, by rw [upd_same]; exact Option.some_ne_none o, .inl nH0⟩
      · exact ⟨(nf b m).1, upd_some (nf b m).2.1, .inl (nf b m).2.2⟩
theorem EOk.newL {ms : List MV} {xs : List V} {a : Addr} (h : EOk K G (B.push ms xs) env σ F H) (n : H a = none) : EOk K G (B.push [.lst ms] [.ref a]) env σ F (upd H a (.lst xs)) :=
  h.newO n fun H' fp r e => by unfold RM; exact ⟨a, xs, fp, rfl, rfl, e, r⟩
/-- a new list, one's own, of frozen things -/
theorem EOk.newLf {vs : List Val} {xs : List V} {a : Addr} (h : EOk K G B env σ F H) (r : RVs K G F vs xs) (n : H a = none) : EOk K G (B.push [.lst (vs.map .f)] [.ref a]) env σ F (upd H a (.lst xs)) :=
  (h.pushG (RMs.fz r) List.nodup_nil (fun a m => by cases m) (fun _ _ _ _ a m => by cases m)).newL n
/-- a new tuple -/
theorem EOk.newT {vs : List Val} {xs : List V} {a : Addr} (h : EOk K G B env σ F H) (r : RVs K G F vs xs) (n : H a = none) : ∃ F', Same F F' ∧ EOk K G B env σ F' (upd H a (.tup xs)) ∧ RV K G F' (.tup vs) (.ref a) := by
  have x := HeapOk.put (o := .tup xs) h.hp.fh n
  refine ⟨_, x.fs, h.step x, ?_⟩
  unfold RV
  exact ⟨a, xs, rfl, .inl (.inl upd_same), RVs.mono x.fs r⟩
end
end Z
set_option maxHeartbeats 1000000
namespace Z
open PySem PySem.Spec L2
/-! ### slots: set, moved, locked, read, changed -/
def SV.free : SV → Bool
  | .io _ => false
  | .lk _ => false
  | _ => true
def SV.light : SV → Bool
  | .any => true
  | .is _ => true
  | .rd _ => true
  | _ => false
def svOf : MV → SV
  | .f v => .is v
  | m => .own m
def SV.mut : SV → Option MV
  | .own m => some m
  | .io m => some m
  | _ => none
def SV.put : SV → MV → SV
  | .own _, m => .own m
  | .io _, m => .io m
  | s, _ => s
/-- what may be read there -/
def SV.read : SV → Option MV
  | .any => none
  | .is v => some (.f v)
  | .rd v => some (.f v)
  | .own m => some m
  | .io m => some m
  | .lk m => some m
section
variable {K : PySem.W.Frag} {G : Gs} {B : Bs} {env : Env} {σ : L2.St} {F H F' H' : Hp} {i : Nat} {s : SV} {m m' : MV} {v : Val} {x y : V}
theorem SlotOk.ofT {ms : List MV} {xs : List V} {o : Option V} {fp : List Addr} (h : SlotOk K G (B.push ms xs) F H i s o fp) : SlotOk K G B F H i s o fp := by cases s <;> exact h
theorem SlotOk.toT {ms : List MV} {xs : List V} {o : Option V} {fp : List Addr} (h : SlotOk K G B F H i s o fp) : SlotOk K G (B.push ms xs) F H i s o fp := by cases s <;> exact h
theorem RM.mo (s : Same F H) (h : RM K G F H m x fp) : RV K G H m.val x := RM.froze s (fun _ _ => rfl) h
theorem EOk.get (h : EOk K G B env σ F H) (e : env[i]? = some s) : ∃ fp, SlotOk K G B F H i s (σ[i]?.join) fp := by
  obtain ⟨hp, hl, fps, h1, h2, sp⟩ := h
  exact ⟨_, h1 i s e⟩
theorem EOk.read (h : EOk K G B env σ F H) (e : env[i]? = some s) (er : s.read = some m) : ∃ x, σ[i]? = some (some x) ∧ RV K G H m.val x := by
  obtain ⟨fp, z⟩ := h.get e
  cases s with
  | any => cases er
  | is v => cases er; obtain ⟨_, y, e1, e2⟩ := z; exact ⟨y, join_some e1, RV.mono h.hp.fh e2⟩
  | rd v =>
    cases er; obtain ⟨_, y, e1, e2⟩ := z
    refine ⟨y, join_some e1, ?_⟩
    have s0 : Same B.F0 H := h.hp.fs.trans h.hp.fh
    rcases e2 with e2 | ⟨a, vs, ys, rfl, rfl, n, eh, r⟩ | ⟨a, c, dx, vs, ys, rfl, rfl, n, eh, l, r⟩
    · exact RV.mono s0 e2
    · rw [MV.val]; unfold RV; exact ⟨a, ys, rfl, .inl (.inl (h.hp.hs _ _ n eh)), RVs.mono s0 r⟩
    · rw [MV.val]; unfold RV; exact ⟨a, dx, ys, rfl, h.hp.hs _ _ n eh, l, RVs.mono s0 r⟩
  | own m => cases er; obtain ⟨⟨y, e1, e2⟩, _⟩ := z; exact ⟨y, join_some e1, RM.mo h.hp.fh e2⟩
  | io m => cases er; obtain ⟨⟨y, e1, e2⟩, _⟩ := z; exact ⟨y, join_some e1, RM.mo h.hp.fh e2⟩
  | lk m => cases er; obtain ⟨⟨y, e1, e2⟩, _⟩ := z; exact ⟨y, join_some e1, RM.mo h.hp.fh e2⟩
theorem EOk.isAt (h : EOk K G B env σ F H) (e : env[i]? = some (.is v)) : ∃ x, σ[i]? = some (some x) ∧ RV K G F v x := by
  obtain ⟨fp, _, y, e1, e2⟩ := h.get e
  exact ⟨y, join_some e1, e2⟩
theorem set_at {α : Type} {l : List α} {i j : Nat} {a : α} (h : i < l.length) : (l.set i a)[j]? = if i = j then some a else l[j]? := by
  rw [List.getElem?_set]
  by_cases c : i = j
  · rw [if_pos c, if_pos c, if_pos (by omega)]
  · rw [if_neg c, if_neg c]
theorem lt_at {α : Type} {l : List α} {i : Nat} {a : α} (h : l[i]? = some a) : i < l.length := (List.getElem?_eq_some_iff.mp h).1
/-- slot i gets what lay beside -/
theorem EOk.setT (h : EOk K G (B.push [m] [x]) env σ F H) (e : env[i]? = some s) (fr : s.free = true) : EOk K G B (env.set i (svOf m)) (σ.set i (some x)) F H := by
  obtain ⟨fp, fps, r, nd, nf, d, h1, h2, sp⟩ := h.top
  have hi := lt_at e
  have hl := h.len
  have hs : i < σ.length := by omega
  have rm : RM K G F H m x fp := by
    unfold RMs at r
    obtain ⟨y, ys, f1, f2, e1, e2, r1, r2⟩ := r
    cases e1
    unfold RMs at r2
    rw [e2, r2.2, List.append_nil]
    exact r1
  refine ⟨h.hp, by rw [List.length_set, List.length_set]; exact hl, up fps (.inl i) fp, fun j t ej => ?_, fun j p ej => ?_, ?_⟩
  · rw [set_at hi] at ej
    rw [set_at hs]
    by_cases c : i = j
    · subst c
      rw [if_pos rfl] at ej ⊢
      cases ej
      rw [up_same]
      cases m with
      | f v => unfold RM at rm; exact ⟨rm.1, x, rfl, rm.2⟩
      | lst ms => exact ⟨⟨x, rfl, rm⟩, fun a m => (nf a m).2.2⟩
      | ins c ms => exact ⟨⟨x, rfl, rm⟩, fun a m => (nf a m).2.2⟩
    · rw [if_neg c] at ej ⊢
      rw [up_ne (by intro z; cases z; exact c rfl)]
      exact h1 j t ej
  · rw [up_ne (by intro z; cases z)]; exact h2 j p ej
  · exact Sep.up sp nd (fun l a _ m => d l a m) (fun a m => ⟨(nf a m).1, (nf a m).2.1, .inl (nf a m).2.2⟩)
theorem EOk.setF (h : EOk K G B env σ F H) (r : RV K G F v x) (e : env[i]? = some s) (fr : s.free = true) : EOk K G B (env.set i (.is v)) (σ.set i (some x)) F H :=
  EOk.setT (m := .f v) (h.pushF r) e fr
/-- a slot is forgotten -/
theorem EOk.setA (h : EOk K G B env σ F H) {o : Option V} (e : env[i]? = some s) : EOk K G B (env.set i .any) (σ.set i o) F H := by
  obtain ⟨hp, hl, fps, h1, h2, sp⟩ := h
  have hi := lt_at e
  have hs : i < σ.length := by omega
  refine ⟨hp, by rw [List.length_set, List.length_set]; exact hl, up fps (.inl i) [], fun j t ej => ?_, fun j p ej => ?_, Sep.up sp List.nodup_nil (fun _ a _ m => by cases m) (fun a m => by cases m)⟩
  · rw [set_at hi] at ej
    rw [set_at hs]
    by_cases c : i = j
    · subst c
      rw [if_pos rfl] at ej ⊢
      cases ej
      rw [up_same]; rfl
    · rw [if_neg c] at ej ⊢
      rw [up_ne (by intro z; cases z; exact c rfl)]
      exact h1 j t ej
  · rw [up_ne (by intro z; cases z)]; exact h2 j p ej
/-- a list of one's own is moved out of its slot -/
theorem EOk.mv (h : EOk K G B env σ F H) (e : env[i]? = some (.own m)) : ∃ x, σ[i]? = some (some x) ∧ EOk K G (B.push [m] [x]) (env.set i .any) σ F H := by
  obtain ⟨hp, hl, fps, h1, h2, sp⟩ := h
  obtain ⟨⟨x, ex, rm⟩, nf⟩ := h1 i _ e
  have hi := lt_at e
  refine ⟨x, join_some ex, hp, by rw [List.length_set]; exact hl, up (up fps (.inl i) []) (.inr B.T.length) (fps (.inl i)), fun j t ej => ?_, fun j p ej => ?_, ?_⟩
  · rw [up_ne (by intro z; cases z)]
    rw [set_at hi] at ej
    by_cases c : i = j
    · subst c
      rw [if_pos rfl] at ej
      cases ej
      rw [up_same]; rfl
    · rw [if_neg c] at ej
      rw [up_ne (by intro z; cases z; exact c rfl)]
      exact SlotOk.toT (h1 j t ej)
  · rcases push_get ej with ej | ⟨rfl, rfl⟩
    · rw [up_ne (inr_ne (lt_of_get ej)), up_ne (by intro z; cases z)]; exact h2 j p ej
    · rw [up_same]; exact ⟨RMs.one rm, nf⟩
  · have s1 := Sep.up (k := .inl i) (f := []) sp List.nodup_nil (fun _ a _ m => by cases m) (fun a m => by cases m)
    have s2 := Sep.up (k := .inr B.T.length) (f := fps (.inl i)) s1 (sp.nd _) (fun l a ne m => ?_) (fun a m => ⟨(sp.nf _ a m).1, (sp.nf _ a m).2.1, .inl (nf a m)⟩)
    · exact ⟨s2.nd, s2.di, s2.nf⟩
    · unfold up; split
      · exact List.not_mem_nil
      · rename_i c; exact fun z => c (sp.di _ _ a z m)
/-- another word for a slot -/
theorem EOk.recast (h : EOk K G B env σ F H) {t : SV} (e : env[i]? = some s) (c : ∀ o fp, SlotOk K G B F H i s o fp → SlotOk K G B F H i t o fp) : EOk K G B (env.set i t) σ F H := by
  obtain ⟨hp, hl, fps, h1, h2, sp⟩ := h
  have hi := lt_at e
  refine ⟨hp, by rw [List.length_set]; exact hl, fps, fun j u ej => ?_, h2, sp⟩
  rw [set_at hi] at ej
  by_cases c2 : i = j
  · subst c2
    rw [if_pos rfl] at ej
    cases ej
    exact c _ _ (h1 _ _ e)
  · rw [if_neg c2] at ej; exact h1 j u ej
theorem EOk.lock (h : EOk K G B env σ F H) (e : env[i]? = some (.own m)) : EOk K G B (env.set i (.lk m)) σ F H := h.recast e fun _ _ z => z
theorem EOk.unlock (h : EOk K G B env σ F H) (e : env[i]? = some (.lk m)) : EOk K G B (env.set i (.own m)) σ F H := h.recast e fun _ _ z => z
/-- a list of one's own is frozen where it stands -/
theorem EOk.frzS (h : EOk K G B env σ F H) (e : env[i]? = some (.own m)) : ∃ F', Same F F' ∧ EOk K G B (env.set i (.is m.val)) σ F' H := by
  obtain ⟨x, ex, h1⟩ := h.mv e
  obtain ⟨F', s, h2, r⟩ := h1.freeze1
  have hi := lt_at e
  have e2 : (env.set i .any)[i]? = some .any := by rw [set_at hi, if_pos rfl]
  have h3 := h2.setF r e2 rfl
  rw [List.set_set] at h3
  have : σ.set i (some x) = σ := by
    refine List.ext_getElem? fun j => ?_
    rw [List.getElem?_set]
    by_cases c : i = j
    · subst c; rw [if_pos rfl, ex, if_pos (lt_at ex)]
    · rw [if_neg c]
  rw [this] at h3
  exact ⟨F', s, h3⟩
theorem SlotOk.mutE {o : Option V} {fp : List Addr} (h : SlotOk K G B F H i s o fp) (e : s.mut = some m) : ∃ y, o = some y ∧ RM K G F H m y fp := by
  cases s with
  | any => cases e
  | is v => cases e
  | rd v => cases e
  | own n => cases e; exact h.1
  | io n => cases e; exact h.1
  | lk n => cases e
/-- one of the objects of slot i gets other contents -/
theorem EOk.put {ns : List MV} {ys : List V} (h : EOk K G (B.push ns ys) env σ F H) (e : env[i]? = some s) (em : s.mut = some m) :
    ∃ y fp ft, σ[i]? = some (some y) ∧ RM K G F H m y fp ∧ fp.Nodup ∧ RMs K G F H ns ys ft ∧ ft.Nodup ∧ (∀ b ∈ ft, b ∉ fp) ∧
      ∀ a o' m' fp', a ∈ fp → RM K G F (upd H a o') m' y fp' → fp'.Nodup → (∀ b ∈ fp', b ∈ fp ∨ b ∈ ft) → EOk K G B (env.set i (s.put m')) σ F (upd H a o') := by
  obtain ⟨ft, fps, r, nd, nf, d, h1, h2, sp⟩ := h.top
  obtain ⟨y, ey, rm⟩ := (h1 i s e).mutE em
  have hi := lt_at e
  have hl := h.len
  refine ⟨y, fps (.inl i), ft, join_some ey, rm, sp.nd _, r, nd, fun b m => d _ b m, fun a o' m' fp' ha rm' nd' sub => ?_⟩
  have ne : ∀ k, k ≠ Sum.inl i → ∀ b ∈ fps k, upd H a o' b = H b := fun k nk b hb => upd_ne fun c => nk (sp.di _ _ b hb (by rw [c]; exact ha))
  obtain ⟨fa1, fa2, fa3⟩ := sp.nf _ a ha
  have hp : HeapOk B.M B.F0 B.H0 F H := h.hp
  refine ⟨⟨fun b o nb e0 => ?_, fun b q => upd_some (hp.ht b q), hp.fs, fun b u q => ?_, hp.fr⟩, by rw [List.length_set]; exact hl, up fps (.inl i) fp', fun j t ej => ?_, fun j p ej => ?_, ?_⟩
  · have c : b ≠ a := fun c => by
      subst c
      rcases fa3 with z | z
      · rw [z] at e0; cases e0
      · exact nb z
    rw [upd_ne c]; exact hp.hs b o nb e0
  · have c : b ≠ a := fun c => by rw [c, fa1] at q; cases q
    rw [upd_ne c]; exact hp.fh b u q
  · rw [set_at hi] at ej
    by_cases c : i = j
    · subst c
      rw [if_pos rfl] at ej
      cases ej
      rw [up_same]
      have z := h1 i s e
      cases s with
      | any => cases em
      | is v => cases em
      | rd v => cases em
      | lk n => cases em
      | own n =>
        refine ⟨⟨y, ey, rm'⟩, fun b hb => ?_⟩
        rcases sub b hb with q | q
        · exact z.2 b q
        · exact (nf b q).2.2
      | io n =>
        refine ⟨⟨y, ey, rm'⟩, z.2.1, fun b hb => ?_⟩
        rcases sub b hb with q | q
        · exact z.2.2 b q
        · exact .inl (nf b q).2.2
    · rw [if_neg c] at ej
      rw [up_ne (by intro z; cases z; exact c rfl)]
      exact SlotOk.frame (Same.refl _) (ne _ (by intro z; cases z; exact c rfl)) (h1 j t ej)
  · rw [up_ne (by intro z; cases z)]
    exact ⟨RMs.frame (Same.refl _) (ne _ (by intro z; cases z)) (h2 j p ej).1, (h2 j p ej).2⟩
  · have sp' : Sep fps B F (upd H a o') := ⟨sp.nd, sp.di, fun k b m => ⟨(sp.nf k b m).1, upd_some (sp.nf k b m).2.1, (sp.nf k b m).2.2⟩⟩
    refine Sep.up sp' nd' (fun l b ne m z => ?_) (fun b m => ?_)
    · rcases sub b m with q | q
      · exact ne (sp.di _ _ b z q)
      · exact d l b q z
    · rcases sub b m with q | q
      · exact sp'.nf _ b q
      · exact ⟨(nf b q).1, upd_some (nf b q).2.1, .inl (nf b q).2.2⟩
end
end Z
set_option maxHeartbeats 1000000
namespace Z
open PySem PySem.Spec L2
/-! ### outcomes -/
structure Ex where
  c : Nat
  arg : Option Val
inductive O (α : Type) where
  | ok (a : α) (e : Env) | er (x : Ex) (e : Env) | no
abbrev M (α : Type) := Env → O α
def O.bind {α β : Type} (o : O α) (k : α → Env → O β) : O β := match o with
  | .ok a e => k a e
  | .er x e => .er x e
  | .no => .no
def M.bind {α β : Type} (m : M α) (k : α → M β) : M β := fun e => (m e).bind k
def M.pure {α : Type} (a : α) : M α := fun e => .ok a e
instance : Monad M where
  pure := M.pure
  bind := M.bind
def fail {α : Type} : M α := fun _ => .no
def opt {α : Type} : Option α → M α
  | some a => M.pure a
  | none => fail
theorem bind_def {α β : Type} {m : M α} {k : α → M β} {e : Env} : (m >>= k) e = (m e).bind k := rfl
theorem pure_def {α : Type} {a : α} {e : Env} : (pure a : M α) e = .ok a e := rfl
/-- handles: a thing that lies beside, or what a slot holds -/
inductive Hd where
  | t (m : MV) | s (i : Nat)
def rdH : Hd → M MV
  | .t m => M.pure m
  | .s i => fun e => match e[i]? with
    | some s => match s.read with
      | some m => .ok m e
      | none => .no
    | none => .no
def Bs.pushH (B : Bs) : Hd → V → Bs
  | .t m, x => B.push [m] [x]
  | .s _, _ => B
def HdAt (σ : L2.St) : Hd → V → Prop
  | .t _, _ => True
  | .s i, x => σ[i]? = some (some x)
section
variable (K : PySem.W.Frag) (G : Gs)
/-- an exception as it lies -/
def ExAt (F H : Hp) (x : Ex) (cls : Value) (d : Option Addr) : Prop := cls = .ref (G.C x.c) ∧ match x.arg with
  | none => True
  | some v => ∃ a f y, d = some a ∧ (G.flds x.c) = [f] ∧ H a = some (.xd [(f, y)]) ∧ RV K G F v y
def Out {α : Type} (E : XK) (B : Bs) (σ : L2.St) (F : Hp) (o : O α) (k : α → Env → Prop) : Prop := match o with
  | .ok a e => k a e
  | .er x e => ∀ F' H' cls d, Same F F' → EOk K G B e σ F' H' → ExAt K G F' H' x cls d → E cls d H'
  | .no => False
def tE (E : XK) (m : M MV) : TE := fun σ H Q => ∃ B F env, EOk K G B env σ F H ∧ Out K G E B σ F (m env) fun v e' => ∀ F' H' x, Same F F' → EOk K G (B.push [v] [x]) e' σ F' H' → Q x H'
def tO (E : XK) (m : M Hd) : TE := fun σ H Q => ∃ B F env, EOk K G B env σ F H ∧ Out K G E B σ F (m env) fun h e' => ∀ F' H' x, Same F F' → EOk K G (B.pushH h x) e' σ F' H' → HdAt σ h x → Q x H'
def tB' (E : XK) (m : M Bool) : TT := fun σ H Q => ∃ B F env, EOk K G B env σ F H ∧ Out K G E B σ F (m env) fun b e' => ∀ F' H', Same F F' → EOk K G B e' σ F' H' → Q b H'
end
theorem PEi {X : Cx} {e : Expr} {t t' : TE} (h : PE X e t) (i : ∀ σ H Q, t' σ H Q → t σ H Q) : PE X e t' := ⟨fun pins s σ H Q I q => h.run pins s σ H Q I (i σ H Q q)⟩
theorem PTi {X : Cx} {e : Expr} {t t' : TT} (h : PT X e t) (i : ∀ σ H Q, t' σ H Q → t σ H Q) : PT X e t' := ⟨fun pins s σ H Q I q => h.run pins s σ H Q I (i σ H Q q)⟩
theorem PWi {X : Cx} {e : Expr} {t t' : TT} (h : PW X e t) (i : ∀ σ H Q, t' σ H Q → t σ H Q) : PW X e t' := ⟨fun whole pins s σ H Q I q => h.run whole pins s σ H Q I (i σ H Q q)⟩
section
variable {K : PySem.W.Frag} {G : Gs} {E : XK} {B : Bs} {env : Env} {σ : L2.St} {F H F' H' : Hp} {α β : Type} {m m1 m2 : MV} {x y : V} {v w : Val}
theorem Out.bindE {o : O α} {k : α → Env → O β} {q : β → Env → Prop} (h : Out K G E B σ F (o.bind k) q) : Out K G E B σ F o fun a e => Out K G E B σ F (k a e) q := by
  cases o <;> exact h
theorem Out.mono {o : O α} {q q' : α → Env → Prop} (h : Out K G E B σ F o q) (i : ∀ a e, o = .ok a e → q a e → q' a e) : Out K G E B σ F o q' := by
  cases o with
  | ok a e => exact i a e rfl h
  | er x e => exact h
  | no => exact h
/-- the outcome seen from a state with more beside -/
theorem Out.push {ms : List MV} {xs : List V} {F1 : Hp} {o : O α} {q : α → Env → Prop} (s : Same F F1) (h : Out K G E B σ F o q) : Out K G E (B.push ms xs) σ F1 o q := by
  cases o with
  | ok a e => exact h
  | er x e => exact fun F' H' cls d s' h' ex => h F' H' cls d (s.trans s') h'.pop ex
  | no => exact h
theorem Out.same {F1 : Hp} {o : O α} {q : α → Env → Prop} (s : Same F F1) (h : Out K G E B σ F o q) : Out K G E B σ F1 o q := by
  cases o with
  | ok a e => exact h
  | er x e => exact fun F' H' cls d s' h' ex => h F' H' cls d (s.trans s') h' ex
  | no => exact h
theorem pushH_pop {h : Hd} (e : EOk K G (B.pushH h x) env σ F H) : EOk K G B env σ F H := by
  cases h with
  | t m => exact e.pop
  | s i => exact e
theorem Out.pushH {hd : Hd} {F1 : Hp} {o : O α} {q : α → Env → Prop} (s : Same F F1) (h : Out K G E B σ F o q) : Out K G E (B.pushH hd x) σ F1 o q := by
  cases hd with
  | t m => exact h.push s
  | s i => exact h.same s
theorem EOk.topV (h : EOk K G (B.push [m] [x]) env σ F H) : RV K G H m.val x := by
  obtain ⟨fp, fps, r, _⟩ := h.top
  unfold RMs at r
  obtain ⟨y, ys, f1, f2, e1, e2, r1, r2⟩ := r
  cases e1
  exact RM.mo h.hp.fh r1
theorem EOk.topF (h : EOk K G (B.push [.f v] [x]) env σ F H) : RV K G F v x := by
  obtain ⟨fp, fps, r, _⟩ := h.top
  unfold RMs at r
  obtain ⟨y, ys, f1, f2, e1, e2, r1, r2⟩ := r
  cases e1
  unfold RM at r1
  exact r1.2
/-- what a handle stands for -/
theorem EOk.hd {hd : Hd} {e' : Env} (h : EOk K G (B.pushH hd x) env σ F H) (a : HdAt σ hd x) (r : rdH hd env = .ok m e') : e' = env ∧ RV K G H m.val x := by
  cases hd with
  | t n => cases r; exact ⟨rfl, h.topV⟩
  | s i =>
    unfold rdH at r
    dsimp only at r
    split at r
    · rename_i s es
      split at r
      · rename_i n en
        cases r
        obtain ⟨z, e1, e2⟩ := h.read es en
        rw [show σ[i]? = some (some x) from a] at e1
        cases e1
        exact ⟨rfl, e2⟩
      · cases r
    · cases r
/-- a scalar: the same in each heap -/
def Sca (K : PySem.W.Frag) (G : Gs) (v : Val) (x : V) : Prop := ∀ F, RV K G F v x
/-- a rule on two values that hands back a scalar -/
def BiOk (K : PySem.W.Frag) (G : Gs) (r : R2) (g : Val → Val → Option Val) : Prop := ∀ (H : Hp) (x y : V) (v w z : Val) (Q : VK), RV K G H v x → RV K G H w y → g v w = some z → (∀ x', Sca K G z x' → Q x' H) → r x y H Q
def bi (g : Val → Val → Option Val) (a b : M MV) : M MV := do
  let x ← a
  let y ← b
  let z ← opt (g x.val y.val)
  pure (.f z)
def bo (g : Val → Val → Option Val) (a b : M Hd) : M MV := do
  let h ← a
  let k ← b
  let x ← rdH h
  let y ← rdH k
  let z ← opt (g x.val y.val)
  pure (.f z)
theorem Out.opt {z : Option Val} {q : MV → Env → Prop} (h : Out K G E B σ F ((do let v ← opt z; pure (.f v) : M MV) env) q) : ∃ v, z = some v ∧ q (.f v) env := by
  cases z with
  | none => exact h.elim
  | some v => exact ⟨v, rfl, h⟩
theorem Out.rd {hd : Hd} {k : MV → M β} {q : β → Env → Prop} (h : Out K G E B σ F ((rdH hd >>= k) env) q) : ∃ m, rdH hd env = .ok m env ∧ Out K G E B σ F (k m env) q := by
  cases hd with
  | t m => exact ⟨m, rfl, h⟩
  | s i =>
    have h' := Out.bindE (show Out K G E B σ F ((rdH (.s i) env).bind k) q from h)
    unfold rdH at h' ⊢
    dsimp only at h' ⊢
    cases e : env[i]? with
    | none => rw [e] at h'; exact h'.elim
    | some s =>
      rw [e] at h'
      dsimp only at h' ⊢
      cases e2 : s.read with
      | none => rw [e2] at h'; exact h'.elim
      | some m => rw [e2] at h'; exact ⟨m, rfl, h'⟩
theorem sem_bi {r : R2} {g : Val → Val → Option Val} {a b : M MV} (hr : BiOk K G r g) {Q : VK} (h : tE K G E (bi g a b) σ H Q) : tOp r (tE K G E a) (tE K G E b) σ H Q := by
  obtain ⟨B, F, env, h0, ho⟩ := h
  refine ⟨B, F, env, h0, (Out.bindE ho).mono fun m1 e1 _ ho F1 H1 x s1 h1 => ?_⟩
  refine ⟨B.push [m1] [x], F1, e1, h1, (Out.bindE (ho.push s1)).mono fun m2 e2 _ ho F2 H2 y s2 h2 => ?_⟩
  obtain ⟨z, hz, hq⟩ := Out.opt ho
  exact hr H2 x y _ _ z Q h2.pop.topV h2.topV hz fun x' sx => hq F2 H2 x' (s1.trans s2) (h2.pop.pop.pushF (sx F2))
theorem sem_bo {r : R2} {g : Val → Val → Option Val} {a b : M Hd} (hr : BiOk K G r g) {Q : VK} (h : tE K G E (bo g a b) σ H Q) : tOp r (tO K G E a) (tO K G E b) σ H Q := by
  obtain ⟨B, F, env, h0, ho⟩ := h
  refine ⟨B, F, env, h0, (Out.bindE ho).mono fun k1 e1 _ ho F1 H1 x s1 h1 a1 => ?_⟩
  refine ⟨B.pushH k1 x, F1, e1, h1, (Out.bindE (ho.pushH s1)).mono fun k2 e2 _ ho F2 H2 y s2 h2 a2 => ?_⟩
  obtain ⟨n1, r1, ho⟩ := Out.rd ho
  obtain ⟨n2, r2, ho⟩ := Out.rd ho
  obtain ⟨z, hz, hq⟩ := Out.opt ho
  exact hr H2 x y _ _ z Q ((pushH_pop h2).hd a1 r1).2 (h2.hd a2 r2).2 hz fun x' sx => hq F2 H2 x' (s1.trans s2) ((pushH_pop (pushH_pop h2)).pushF (sx F2))
end
end Z
set_option maxHeartbeats 1000000
namespace Z
open PySem PySem.Spec L2
/-! ### names, constants, ints -/
def cst (v : Val) : M MV := pure (.f v)
def vr (i : Nat) : M MV := fun e => match e[i]? with
  | some (.is v) => .ok (.f v) e
  | _ => .no
def mvv (i : Nat) : M MV := fun e => match e[i]? with
  | some (.own m) => .ok m (e.set i .any)
  | some (.is v) => .ok (.f v) e
  | _ => .no
def oE (m : M MV) : M Hd := do
  let x ← m
  pure (.t x)
def oS (i : Nat) : M Hd := fun e => .ok (.s i) e
def ii (g : Int → Int → Val) (v w : Val) : Option Val := match v, w with
  | .int i, .int j => some (g i j)
  | _, _ => none
def iig (c : Int → Int → Bool) (g : Int → Int → Val) (v w : Val) : Option Val := match v, w with
  | .int i, .int j => if c i j then some (g i j) else none
  | _, _ => none
def iadd := ii fun i j => .int (i + j)
def isub := ii fun i j => .int (i - j)
def imul := iig (fun i j => decide ((-18446744073709551616 < i ∧ i < 18446744073709551616) ∨ (-18446744073709551616 < j ∧ j < 18446744073709551616))) fun i j => .int (i * j)
def idiv := iig (fun _ j => decide (0 < j ∧ j < 1073741824)) fun i j => .int (i / j)
def imod := iig (fun _ j => decide (0 < j)) fun i j => .int (i % j)
def ipow := iig (fun i j => decide (0 ≤ j ∧ j ≤ 1000000 ∧ i.natAbs < 18446744073709551616)) fun i j => .int (i ^ j.toNat)
def ilt := ii fun i j => .bl (decide (i < j))
def ile := ii fun i j => .bl (decide (i ≤ j))
def igt := ii fun i j => .bl (decide (j < i))
def ige := ii fun i j => .bl (decide (j ≤ i))
def eqS (v w : Val) : Option Val := match v, w with
  | .int i, .int j => some (.bl (decide (i = j)))
  | .str i, .str j => some (.bl (decide (i = j)))
  | .bl i, .bl j => some (.bl (decide (i = j)))
  | .non, .non => some (.bl true)
  | _, _ => none
def neS (v w : Val) : Option Val := match v, w with
  | .int i, .int j => some (.bl (!decide (i = j)))
  | .str i, .str j => some (.bl (!decide (i = j)))
  | .bl i, .bl j => some (.bl (!decide (i = j)))
  | .non, .non => some (.bl false)
  | _, _ => none
def Val.isNon : Val → Bool
  | .non => true
  | _ => false
def isN (v w : Val) : Option Val := match w with
  | .non => match v with
    | .st _ => none
    | _ => some (.bl v.isNon)
  | _ => none
def notN (v w : Val) : Option Val := match w with
  | .non => match v with
    | .st _ => none
    | _ => some (.bl (!v.isNon))
  | _ => none
def isBl (v w : Val) : Option Val := match v, w with
  | .bl i, .bl j => some (.bl (decide (i = j)))
  | _, _ => none
def notBl (v w : Val) : Option Val := match v, w with
  | .bl i, .bl j => some (.bl (!decide (i = j)))
  | _, _ => none
section
variable {K : PySem.W.Frag} {G : Gs} {E : XK} {B : Bs} {env : Env} {σ : L2.St} {F H F' H' : Hp} {α β : Type} {m m1 m2 : MV} {x y : V} {v w : Val} {X : Cx} {e a b c : Expr} {t : TE}
theorem sca_int {i : Int} : Sca K G (.int i) (.int i) := fun F => by unfold RV; rfl
theorem sca_bl {i : Bool} : Sca K G (.bl i) (.bl i) := fun F => by unfold RV; rfl
theorem sca_str {i : Str} : Sca K G (.str i) (.str i) := fun F => by unfold RV; rfl
theorem sca_non : Sca K G .non .non := fun F => by unfold RV; rfl
theorem sca_ty {n : String} : Sca K G (.ty n) (.ty n) := fun F => by unfold RV; rfl
theorem sca_st {n : Nat} : Sca K G (.st n) (G.st n) := fun F => by unfold RV; rfl
theorem rv_int {i : Int} (h : RV K G F (.int i) x) : x = .int i := by unfold RV at h; exact h
theorem rv_bl {i : Bool} (h : RV K G F (.bl i) x) : x = .bl i := by unfold RV at h; exact h
theorem rv_str {i : Str} (h : RV K G F (.str i) x) : x = .str i := by unfold RV at h; exact h
theorem rv_non (h : RV K G F .non x) : x = .non := by unfold RV at h; exact h
theorem rv_not (h : RV K G F v x) (n : ∀ i, v ≠ .st i) : decide (x = V.non) = v.isNon := by
  cases v with
  | non => rw [rv_non h]; rfl
  | bl b => rw [rv_bl h]; rfl
  | int b => rw [rv_int h]; rfl
  | str b => rw [rv_str h]; rfl
  | ty b => unfold RV at h; rw [h]; rfl
  | st i => exact absurd rfl (n i)
  | tup xs => unfold RV at h; obtain ⟨a, ys, e, _⟩ := h; rw [e]; rfl
  | lst xs => unfold RV at h; obtain ⟨a, ys, e, _⟩ := h; rw [e]; rfl
  | ins c xs => unfold RV at h; obtain ⟨a, d, ys, e, _⟩ := h; rw [e]; rfl
theorem z_c (h : PE X e (tC x)) (s : Sca X.K G v x) : PE X e (tE X.K G E (cst v)) := PEi h fun σ H Q ⟨B, F, env, h0, ho⟩ => ho F H x (Same.refl _) (h0.pushF (s F))
theorem sem_vr {i : Nat} {Q : VK} (h : tE K G E (vr i) σ H Q) : tVar i σ H Q := by
  obtain ⟨B, F, env, h0, ho⟩ := h
  unfold vr at ho
  split at ho
  · rename_i v ev
    obtain ⟨y, e1, e2⟩ := h0.isAt ev
    exact ⟨y, e1, ho F H y (Same.refl _) (h0.pushF e2)⟩
  · exact ho.elim
theorem z_vr {i : Nat} (h : PE X e (tVar i)) : PE X e (tE X.K G E (vr i)) := PEi h fun σ H Q => sem_vr
theorem sem_mv {i : Nat} {Q : VK} (h : tE K G E (mvv i) σ H Q) : tVar i σ H Q := by
  obtain ⟨B, F, env, h0, ho⟩ := h
  unfold mvv at ho
  split at ho
  · rename_i v ev
    obtain ⟨y, e1, e2⟩ := h0.mv ev
    exact ⟨y, e1, ho F H y (Same.refl _) e2⟩
  · rename_i v ev
    obtain ⟨y, e1, e2⟩ := h0.isAt ev
    exact ⟨y, e1, ho F H y (Same.refl _) (h0.pushF e2)⟩
  · exact ho.elim
theorem z_mv {i : Nat} (h : PE X e (tVar i)) : PE X e (tE X.K G E (mvv i)) := PEi h fun σ H Q => sem_mv
theorem sem_oE {m : M MV} {Q : VK} (h : tO K G E (oE m) σ H Q) : tE K G E m σ H Q := by
  obtain ⟨B, F, env, h0, ho⟩ := h
  exact ⟨B, F, env, h0, (Out.bindE ho).mono fun v e' _ ho F' H' x s h' => ho F' H' x s h' trivial⟩
theorem z_oE {m : M MV} (h : PE X e (tE X.K G E m)) : PE X e (tO X.K G E (oE m)) := PEi h fun σ H Q => sem_oE
def hasS (i : Nat) : M Hd := fun e => match e[i]? with
  | some s => match s.read with
    | some _ => .ok (.s i) e
    | none => .no
  | none => .no
theorem sem_oS {i : Nat} {Q : VK} (h : tO K G E (hasS i) σ H Q) : tVar i σ H Q := by
  obtain ⟨B, F, env, h0, ho⟩ := h
  unfold hasS at ho
  split at ho
  · rename_i s es
    split at ho
    · rename_i m em
      obtain ⟨y, e1, e2⟩ := h0.read es em
      exact ⟨y, e1, ho F H y (Same.refl _) h0 e1⟩
    · exact ho.elim
  · exact ho.elim
theorem z_oS {i : Nat} (h : PE X e (tVar i)) : PE X e (tO X.K G E (hasS i)) := PEi h fun σ H Q => sem_oS
theorem ok_ii {g : Int → Int → V} {gv : Int → Int → Val} (s : ∀ i j, Sca K G (gv i j) (g i j)) : BiOk K G (rI0 g) (ii gv) := fun H x y v w z Q rx ry e q => by
  unfold ii at e
  split at e
  · rename_i i j
    cases e
    exact ⟨i, j, rv_int rx, rv_int ry, q _ (s i j)⟩
  · cases e
theorem ok_iig {C : Int → Int → Prop} {c : Int → Int → Bool} {g : Int → Int → V} {gv : Int → Int → Val} (s : ∀ i j, Sca K G (gv i j) (g i j)) (hc : ∀ i j, c i j = true → C i j) : BiOk K G (rI C g) (iig c gv) := fun H x y v w z Q rx ry e q => by
  unfold iig at e
  split at e
  · rename_i i j
    split at e
    · rename_i hcc
      cases e
      exact ⟨i, j, rv_int rx, rv_int ry, hc i j hcc, q _ (s i j)⟩
    · cases e
  · cases e
theorem ok_eqS : BiOk K G rEq eqS := fun H x y v w z Q rx ry e q => by
  unfold eqS at e
  split at e
  · rename_i i j; cases e
    rw [rv_int rx, rv_int ry]
    exact ⟨rfl, by rw [show decide (V.int i = V.int j) = decide (i = j) by rw [decide_eq_decide]; simp]; exact q _ sca_bl⟩
  · rename_i i j; cases e
    rw [rv_str rx, rv_str ry]
    exact ⟨rfl, by rw [show decide (V.str i = V.str j) = decide (i = j) by rw [decide_eq_decide]; simp]; exact q _ sca_bl⟩
  · rename_i i j; cases e
    rw [rv_bl rx, rv_bl ry]
    exact ⟨rfl, by rw [show decide (V.bl i = V.bl j) = decide (i = j) by rw [decide_eq_decide]; simp]; exact q _ sca_bl⟩
  · cases e
    rw [rv_non rx, rv_non ry]
    exact ⟨rfl, q _ sca_bl⟩
  · cases e
theorem ok_neS : BiOk K G rNe neS := fun H x y v w z Q rx ry e q => by
  unfold neS at e
  split at e
  · rename_i i j; cases e
    rw [rv_int rx, rv_int ry]
    exact ⟨rfl, by rw [show decide (V.int i = V.int j) = decide (i = j) by rw [decide_eq_decide]; simp]; exact q _ sca_bl⟩
  · rename_i i j; cases e
    rw [rv_str rx, rv_str ry]
    exact ⟨rfl, by rw [show decide (V.str i = V.str j) = decide (i = j) by rw [decide_eq_decide]; simp]; exact q _ sca_bl⟩
  · rename_i i j; cases e
    rw [rv_bl rx, rv_bl ry]
    exact ⟨rfl, by rw [show decide (V.bl i = V.bl j) = decide (i = j) by rw [decide_eq_decide]; simp]; exact q _ sca_bl⟩
  · cases e
    rw [rv_non rx, rv_non ry]
    exact ⟨rfl, q _ sca_bl⟩
  · cases e
theorem ok_isN : BiOk K G (fun x y H Q => y = .non ∧ Q (.bl (decide (x = .non))) H) isN := fun H x y v w z Q rx ry e q => by
  unfold isN at e
  split at e
  · refine ⟨rv_non ry, ?_⟩
    split at e
    · cases e
    · rename_i n
      cases e
      rw [rv_not rx fun i z => n i z]
      exact q _ sca_bl
  · cases e
theorem ok_notN : BiOk K G (fun x y H Q => y = .non ∧ Q (.bl (!decide (x = .non))) H) notN := fun H x y v w z Q rx ry e q => by
  unfold notN at e
  split at e
  · refine ⟨rv_non ry, ?_⟩
    split at e
    · cases e
    · rename_i n
      cases e
      rw [rv_not rx fun i z => n i z]
      exact q _ sca_bl
  · cases e
theorem ok_isBl : BiOk K G rIsB isBl := fun H x y v w z Q rx ry e q => by
  unfold isBl at e
  split at e
  · rename_i i j; cases e; exact ⟨i, j, rv_bl rx, rv_bl ry, q _ sca_bl⟩
  · cases e
theorem ok_notBl : BiOk K G rNotB notBl := fun H x y v w z Q rx ry e q => by
  unfold notBl at e
  split at e
  · rename_i i j; cases e; exact ⟨i, j, rv_bl rx, rv_bl ry, q _ sca_bl⟩
  · cases e
theorem z_op {op : Operator} {r : R2} {g : Val → Val → Option Val} {ma mb : M MV} {pos : Pos} (ho : OpR X (binaryOp op) r) (hg : BiOk X.K G r g) (ha : PE X a (tE X.K G E ma)) (hb : PE X b (tE X.K G E mb)) : PE X (.BinOp a op b pos) (tE X.K G E (bi g ma mb)) :=
  PEi (pe_op ho ha hb) fun σ H Q => sem_bi hg
theorem z_cmp {op : CmpOp} {r : R2} {g : Val → Val → Option Val} {ma mb : M MV} {pos : Pos} (ho : OpR X (compareOp op) r) (hg : BiOk X.K G r g) (hm : behindInMarks op b = false) (ha : PE X a (tE X.K G E ma)) (hb : PE X b (tE X.K G E mb)) : PE X (.Compare a [op] [b] pos) (tE X.K G E (bi g ma mb)) :=
  PEi (pe_cmpR ho ha hb hm) fun σ H Q => sem_bi hg
theorem z_cmpO {op : CmpOp} {r : R2} {g : Val → Val → Option Val} {ma mb : M Hd} {pos : Pos} (ho : OpR X (compareOp op) r) (hg : BiOk X.K G r g) (hm : behindInMarks op b = false) (ha : PE X a (tO X.K G E ma)) (hb : PE X b (tO X.K G E mb)) : PE X (.Compare a [op] [b] pos) (tE X.K G E (bo g ma mb)) :=
  PEi (pe_cmpR ho ha hb hm) fun σ H Q => sem_bo hg
theorem k_add : BiOk K G (rI0 fun i j => .int (i + j)) iadd := ok_ii fun i j => sca_int
theorem k_sub : BiOk K G (rI0 fun i j => .int (i - j)) isub := ok_ii fun i j => sca_int
theorem k_mul : BiOk K G (rI CMul fun i j => .int (i * j)) imul := ok_iig (fun i j => sca_int) fun i j h => by unfold CMul; exact of_decide_eq_true h
theorem k_div : BiOk K G (rI CDiv fun i j => .int (i / j)) idiv := ok_iig (fun i j => sca_int) fun i j h => by unfold CDiv; exact of_decide_eq_true h
theorem k_mod : BiOk K G (rI (fun _ j => 0 < j) fun i j => .int (i % j)) imod := ok_iig (fun i j => sca_int) fun i j h => of_decide_eq_true h
theorem k_pow : BiOk K G (rI CPow fun i j => .int (i ^ j.toNat)) ipow := ok_iig (fun i j => sca_int) fun i j h => by unfold CPow; exact of_decide_eq_true h
theorem k_lt : BiOk K G (rI0 fun i j => .bl (decide (i < j))) ilt := ok_ii fun i j => sca_bl
theorem k_le : BiOk K G (rI0 fun i j => .bl (decide (i ≤ j))) ile := ok_ii fun i j => sca_bl
theorem k_gt : BiOk K G (rI0 fun i j => .bl (decide (j < i))) igt := ok_ii fun i j => sca_bl
theorem k_ge : BiOk K G (rI0 fun i j => .bl (decide (j ≤ i))) ige := ok_ii fun i j => sca_bl
/-- a < b <= c -/
def chn (g g' : Val → Val → Option Val) (a b c : M MV) : M MV := do
  let x ← a
  let y ← b
  let z ← opt (g x.val y.val)
  match z with
  | .bl true => do
    let w ← c
    let z ← opt (g' y.val w.val)
    pure (.f z)
  | .bl false => pure (.f (.bl false))
  | _ => fail
theorem sem_chain {r r' : R2} {g g' : Val → Val → Option Val} {ma mb mc : M MV} (hg : BiOk K G r g) (hg' : BiOk K G r' g') {Q : VK} (h : tE K G E (chn g g' ma mb mc) σ H Q) : tChain r r' (tE K G E ma) (tE K G E mb) (tE K G E mc) σ H Q := by
    obtain ⟨B, F, env, h0, ho⟩ := h
    refine ⟨B, F, env, h0, (Out.bindE ho).mono fun m1 e1 _ ho F1 H1 x s1 h1 => ?_⟩
    refine ⟨B.push [m1] [x], F1, e1, h1, (Out.bindE (ho.push s1)).mono fun m2 e2 _ ho F2 H2 y s2 h2 => ?_⟩
    have ho := Out.bindE ho
    cases ez : g m1.val m2.val with
    | none => rw [ez] at ho; exact ho.elim
    | some z =>
      rw [ez] at ho
      refine hg H2 x y _ _ z _ h2.pop.topV h2.topV ez fun x' sx => ?_
      cases z with
      | bl k =>
        refine ⟨k, rv_bl (sx F), ?_⟩
        cases k with
        | true =>
          rw [if_pos rfl]
          have ho : Out K G E (B.push [m1] [x]) σ F1 ((mc >>= fun w => do let z ← opt (g' m2.val w.val); pure (MV.f z)) e2) (fun v e' => ∀ F' H' x, Same F F' → EOk K G (B.push [v] [x]) e' σ F' H' → Q x H') := ho
          refine ⟨(B.push [m1] [x]).push [m2] [y], F2, e2, h2, (Out.bindE (ho.push s2)).mono fun m3 e3 _ ho F3 H3 w s3 h3 => ?_⟩
          obtain ⟨z, hz, hq⟩ := Out.opt ho
          exact hg' H3 y w _ _ z Q h3.pop.topV h3.topV hz fun x' sx => hq F3 H3 x' ((s1.trans s2).trans s3) (h3.pop.pop.pop.pushF (sx F3))
        | false =>
          rw [if_neg Bool.false_ne_true]
          exact ho F2 H2 _ (s1.trans s2) (h2.pop.pop.pushF (sca_bl F2))
      | _ => exact (show False from ho).elim
theorem z_chain {op op' : CmpOp} {r r' : R2} {g g' : Val → Val → Option Val} {ma mb mc : M MV} {pos : Pos} (ho : OpR X (compareOp op) r) (ho' : OpR X (compareOp op') r') (hg : BiOk X.K G r g) (hg' : BiOk X.K G r' g')
    (hm : lastMarks [op, op'] [b, c] = false) (ha : PE X a (tE X.K G E ma)) (hb : PE X b (tE X.K G E mb)) (hc : PE X c (tE X.K G E mc)) : PE X (.Compare a [op, op'] [b, c] pos) (tE X.K G E (chn g g' ma mb mc)) :=
  PEi (pe_chain ho ho' ha hb hc hm) fun σ H Q => sem_chain hg hg'
end
end Z
set_option maxHeartbeats 1000000
namespace Z
open PySem PySem.Spec L2
/-! ### truth, and, or, not, tests -/
def band (a b : M MV) : M MV := do
  match ← a with
  | .f (.bl true) => b
  | .f (.bl false) => pure (.f (.bl false))
  | _ => fail
def bor (a b : M MV) : M MV := do
  match ← a with
  | .f (.bl true) => pure (.f (.bl true))
  | .f (.bl false) => b
  | _ => fail
def bnot (a : M MV) : M MV := do
  match ← a with
  | .f (.bl b) => pure (.f (.bl (!b)))
  | _ => fail
def truth : Val → Option Bool
  | .non => some false
  | .bl b => some b
  | .int i => some (i != 0)
  | .str y => if y.length ≤ 16777216 then some ((y.length : Int) != 0) else none
  | .lst xs => some (!xs.isEmpty)
  | .tup xs => some (!xs.isEmpty)
  | _ => none
def bnotT (a : M Hd) : M MV := do
  let h ← a
  let m ← rdH h
  let b ← opt (truth m.val)
  pure (.f (.bl (!b)))
def tst (a : M MV) : M Bool := do
  match ← a with
  | .f (.bl b) => pure b
  | _ => fail
def ttr (a : M Hd) : M Bool := do
  let h ← a
  let m ← rdH h
  opt (truth m.val)
def tand (a b : M Bool) : M Bool := do
  if ← a then b else pure false
def tor (a b : M Bool) : M Bool := do
  if ← a then pure true else b
def tnot (a : M Bool) : M Bool := do
  let b ← a
  pure (!b)
def ife (t : M Bool) (a b : M MV) : M MV := do
  if ← t then a else b
section
variable {K : PySem.W.Frag} {G : Gs} {E : XK} {B : Bs} {env : Env} {σ : L2.St} {F H F' H' : Hp} {α β : Type} {m m1 m2 : MV} {x y : V} {v w : Val} {X : Cx} {e a b c : Expr} {t : TE} {ma mb : M MV} {pos : Pos} {rest : List Expr}
theorem z_and (ha : PE X a (tE X.K G E ma)) (hb : PE X (.BoolOp .And (b :: rest) pos) (tE X.K G E mb)) : PE X (.BoolOp .And (a :: b :: rest) pos) (tE X.K G E (band ma mb)) := PEi (pe_and ha hb) fun σ H Q ⟨B, F, env, h0, ho⟩ => by
  refine ⟨B, F, env, h0, (Out.bindE ho).mono fun m1 e1 _ ho F1 H1 x s1 h1 => ?_⟩
  split at ho
  · refine ⟨true, rv_bl h1.topF, ?_⟩
    rw [if_pos rfl]
    exact ⟨B, F1, e1, h1.pop, (ho.same s1).mono fun v e' _ ho F' H' x s h' => ho F' H' x (s1.trans s) h'⟩
  · refine ⟨false, rv_bl h1.topF, ?_⟩
    rw [if_neg Bool.false_ne_true]
    exact ho F1 H1 _ s1 (h1.pop.pushF (sca_bl F1))
  · exact (show False from ho).elim
theorem z_or (ha : PE X a (tE X.K G E ma)) (hb : PE X (.BoolOp .Or (b :: rest) pos) (tE X.K G E mb)) : PE X (.BoolOp .Or (a :: b :: rest) pos) (tE X.K G E (bor ma mb)) := PEi (pe_or ha hb) fun σ H Q ⟨B, F, env, h0, ho⟩ => by
  refine ⟨B, F, env, h0, (Out.bindE ho).mono fun m1 e1 _ ho F1 H1 x s1 h1 => ?_⟩
  split at ho
  · refine ⟨true, rv_bl h1.topF, ?_⟩
    rw [if_pos rfl]
    exact ho F1 H1 _ s1 (h1.pop.pushF (sca_bl F1))
  · refine ⟨false, rv_bl h1.topF, ?_⟩
    rw [if_neg Bool.false_ne_true]
    exact ⟨B, F1, e1, h1.pop, (ho.same s1).mono fun v e' _ ho F' H' x s h' => ho F' H' x (s1.trans s) h'⟩
  · exact (show False from ho).elim
theorem z_not (ha : PE X a (tE X.K G E ma)) : PE X (.UnaryOp .Not a pos) (tE X.K G E (bnot ma)) := PEi (pe_not ha) fun σ H Q ⟨B, F, env, h0, ho⟩ => by
  refine ⟨B, F, env, h0, (Out.bindE ho).mono fun m1 e1 _ ho F1 H1 x s1 h1 => ?_⟩
  split at ho
  · exact ⟨_, rv_bl h1.topF, ho F1 H1 _ s1 (h1.pop.pushF (sca_bl F1))⟩
  · exact (show False from ho).elim
theorem RVs.emp : ∀ {vs : List Val} {xs : List V}, RVs K G F vs xs → xs.isEmpty = vs.isEmpty
  | [], _, h => by unfold RVs at h; rw [h]; rfl
  | _ :: _, _, h => by unfold RVs at h; obtain ⟨x, xs, e, _⟩ := h; rw [e]; rfl
theorem truV {k : Bool} (h : RV K G H v x) (e : truth v = some k) : TruV K x H k := by
  cases v with
  | non => cases e; rw [rv_non h]; exact rfl
  | bl b => cases e; rw [rv_bl h]; exact rfl
  | int b => cases e; rw [rv_int h]; exact rfl
  | str b =>
    rw [rv_str h]
    by_cases l : b.length ≤ 16777216
    · rw [truth, if_pos l] at e; cases e; exact ⟨l, rfl⟩
    · rw [truth, if_neg l] at e; cases e
  | ty b => cases e
  | st i => cases e
  | tup xs => cases e; unfold RV at h; obtain ⟨a, ys, e, q, r⟩ := h; rw [e]; exact .inr (.inl ⟨ys, q, by rw [RVs.emp r]⟩)
  | lst xs => cases e; unfold RV at h; obtain ⟨a, ys, e, q, r⟩ := h; rw [e]; exact .inl ⟨ys, q, by rw [RVs.emp r]⟩
  | ins c xs => cases e
theorem z_notT {mo : M Hd} (ha : PE X a (tO X.K G E mo)) : PE X (.UnaryOp .Not a pos) (tE X.K G E (bnotT mo)) := PEi (pe_notT ha) fun σ H Q ⟨B, F, env, h0, ho⟩ => by
  refine ⟨B, F, env, h0, (Out.bindE ho).mono fun k1 e1 _ ho F1 H1 x s1 h1 a1 => ?_⟩
  obtain ⟨n1, r1, ho⟩ := Out.rd ho
  have hv := (h1.hd a1 r1).2
  have ho := Out.bindE ho
  cases et : truth n1.val with
  | none => rw [et] at ho; exact (show False from ho).elim
  | some k =>
    rw [et] at ho
    exact ⟨k, truV hv et, ho F1 H1 _ s1 ((pushH_pop h1).pushF (sca_bl F1))⟩
theorem sem_tst {Q : Bool → Hp → Prop} (h : tB' K G E (tst ma) σ H Q) : tE K G E ma σ H fun x H' => ∃ k, x = .bl k ∧ Q k H' := by
  obtain ⟨B, F, env, h0, ho⟩ := h
  refine ⟨B, F, env, h0, (Out.bindE ho).mono fun m1 e1 _ ho F1 H1 x s1 h1 => ?_⟩
  split at ho
  · exact ⟨_, rv_bl h1.topF, ho F1 H1 s1 h1.pop⟩
  · exact (show False from ho).elim
theorem zt_val (ha : PE X a (tE X.K G E ma)) (he : ∀ whole, isTrue a X.env whole = (do let v ← whole; standAt a.pos; holding [v] (truthy v))) : PT X a (tB' X.K G E (tst ma)) := PTi (pt_val ha he) fun σ H Q => sem_tst
theorem zt_cmp {op : CmpOp} {r : R2} {g : Val → Val → Option Val} (ho : OpR X (compareOp op) r) (hg : BiOk X.K G r g) (hm : behindInMarks op b = false) (ha : PE X a (tE X.K G E ma)) (hb : PE X b (tE X.K G E mb)) : PT X (.Compare a [op] [b] pos) (tB' X.K G E (tst (bi g ma mb))) :=
  PTi (pt_cmpR ho ha hb hm) fun σ H Q h => sem_bi hg (sem_tst h)
theorem zt_cmpO {op : CmpOp} {r : R2} {g : Val → Val → Option Val} {ma mb : M Hd} (ho : OpR X (compareOp op) r) (hg : BiOk X.K G r g) (hm : behindInMarks op b = false) (ha : PE X a (tO X.K G E ma)) (hb : PE X b (tO X.K G E mb)) : PT X (.Compare a [op] [b] pos) (tB' X.K G E (tst (bo g ma mb))) :=
  PTi (pt_cmpR ho ha hb hm) fun σ H Q h => sem_bo hg (sem_tst h)
/-- a test that is a comparison, by its value's rule -/
theorem zt_of {ops : List CmpOp} {es : List Expr} {t : TE} (hp : PT X (.Compare a ops es pos) (tTest t)) (i : ∀ σ H Q, tE X.K G E ma σ H Q → t σ H Q) : PT X (.Compare a ops es pos) (tB' X.K G E (tst ma)) := PTi hp fun σ H Q h => i _ _ _ (sem_tst h)
theorem zt_chain {op op' : CmpOp} {r r' : R2} {g g' : Val → Val → Option Val} {ma mb mc : M MV} (ho : OpR X (compareOp op) r) (ho' : OpR X (compareOp op') r') (hg : BiOk X.K G r g) (hg' : BiOk X.K G r' g')
    (hm : lastMarks [op, op'] [b, c] = false) (ha : PE X a (tE X.K G E ma)) (hb : PE X b (tE X.K G E mb)) (hc : PE X c (tE X.K G E mc)) : PT X (.Compare a [op, op'] [b, c] pos) (tB' X.K G E (tst (chn g g' ma mb mc))) :=
  PTi (pt_chain ho ho' ha hb hc hm) fun σ H Q h => sem_chain hg hg' (sem_tst h)
theorem zt_tru {mo : M Hd} (ha : PE X a (tO X.K G E mo)) (he : ∀ whole, isTrue a X.env whole = (do let v ← whole; standAt a.pos; holding [v] (truthy v))) : PT X a (tB' X.K G E (ttr mo)) := PTi (pt_truth ha he) fun σ H Q ⟨B, F, env, h0, ho⟩ => by
  refine ⟨B, F, env, h0, (Out.bindE ho).mono fun k1 e1 _ ho F1 H1 x s1 h1 a1 => ?_⟩
  obtain ⟨n1, r1, ho⟩ := Out.rd ho
  have hv := (h1.hd a1 r1).2
  cases et : truth n1.val with
  | none => rw [et] at ho; exact (show False from ho).elim
  | some k => rw [et] at ho; exact ⟨k, truV hv et, ho F1 H1 s1 (pushH_pop h1)⟩
theorem zt_not {mt : M Bool} (ha : PT X a (tB' X.K G E mt)) : PT X (.UnaryOp .Not a pos) (tB' X.K G E (tnot mt)) := PTi (pt_not ha) fun σ H Q ⟨B, F, env, h0, ho⟩ =>
  ⟨B, F, env, h0, (Out.bindE ho).mono fun b e1 _ ho F1 H1 s1 h1 => ho F1 H1 s1 h1⟩
theorem zw_and {mt mu : M Bool} (ha : PT X a (tB' X.K G E mt)) (hb : PW X (.BoolOp .And (b :: rest) pos) (tB' X.K G E mu)) : PW X (.BoolOp .And (a :: b :: rest) pos) (tB' X.K G E (tand mt mu)) := PWi (pw_and ha hb) fun σ H Q ⟨B, F, env, h0, ho⟩ => by
  refine ⟨B, F, env, h0, (Out.bindE ho).mono fun b e1 _ ho F1 H1 s1 h1 => ?_⟩
  cases b with
  | true => rw [if_pos rfl]; exact ⟨B, F1, e1, h1, (Out.same s1 ho).mono fun v e' _ ho F' H' s h' => ho F' H' (s1.trans s) h'⟩
  | false => rw [if_neg Bool.false_ne_true]; exact ho F1 H1 s1 h1
theorem zw_or {mt mu : M Bool} (ha : PT X a (tB' X.K G E mt)) (hb : PW X (.BoolOp .Or (b :: rest) pos) (tB' X.K G E mu)) : PW X (.BoolOp .Or (a :: b :: rest) pos) (tB' X.K G E (tor mt mu)) := PWi (pw_or ha hb) fun σ H Q ⟨B, F, env, h0, ho⟩ => by
  refine ⟨B, F, env, h0, (Out.bindE ho).mono fun b e1 _ ho F1 H1 s1 h1 => ?_⟩
  cases b with
  | true => rw [if_pos rfl]; exact ho F1 H1 s1 h1
  | false => rw [if_neg Bool.false_ne_true]; exact ⟨B, F1, e1, h1, (Out.same s1 ho).mono fun v e' _ ho F' H' s h' => ho F' H' (s1.trans s) h'⟩
theorem zw_and1 {mt : M Bool} (ha : PT X a (tB' X.K G E mt)) : PW X (.BoolOp .And [a] pos) (tB' X.K G E mt) := pw_and1 ha
theorem zw_or1 {mt : M Bool} (ha : PT X a (tB' X.K G E mt)) : PW X (.BoolOp .Or [a] pos) (tB' X.K G E mt) := pw_or1 ha
theorem z_ife {mt : M Bool} (hc : PT X c (tB' X.K G E mt)) (ha : PE X a (tE X.K G E ma)) (hb : PE X b (tE X.K G E mb)) : PE X (.IfExp c a b pos) (tE X.K G E (ife mt ma mb)) := PEi (pe_ifExp hc ha hb) fun σ H Q ⟨B, F, env, h0, ho⟩ => by
  refine ⟨B, F, env, h0, (Out.bindE ho).mono fun b e1 _ ho F1 H1 s1 h1 => ?_⟩
  cases b with
  | true => rw [if_pos rfl]; exact ⟨B, F1, e1, h1, (Out.same s1 ho).mono fun v e' _ ho F' H' x s h' => ho F' H' x (s1.trans s) h'⟩
  | false => rw [if_neg Bool.false_ne_true]; exact ⟨B, F1, e1, h1, (Out.same s1 ho).mono fun v e' _ ho F' H' x s h' => ho F' H' x (s1.trans s) h'⟩
end
end Z
set_option maxHeartbeats 1000000
namespace Z
open PySem PySem.Spec L2
/-! ### displays, arguments, items, built-ins over a thing -/
inductive Ag where
  | v (v : Val) | s (i : Nat)
def allF : List MV → Option (List Val)
  | [] => some []
  | .f v :: r => (allF r).map (v :: ·)
  | _ :: _ => none
theorem allF_map : ∀ (xs : List Val), allF (xs.map .f) = some xs
  | [] => rfl
  | x :: r => by rw [List.map_cons, allF, allF_map r]; rfl
def MV.itsL : MV → Option (List Val)
  | .f (.lst xs) => some xs
  | .lst ms => allF ms
  | _ => none
def MV.itsT : MV → Option (List Val)
  | .f (.tup xs) => some xs
  | _ => none
def isNil : M (List MV) := pure []
def isCons (a : M MV) (r : M (List MV)) : M (List MV) := do
  let x ← a
  let xs ← r
  pure (x :: xs)
def eLst (r : M (List MV)) : M MV := do
  let xs ← r
  if xs.length ≤ 16777216 then pure (.lst xs) else fail
def eTup (r : M (List MV)) : M MV := do
  let xs ← r
  if xs.length ≤ 16777216 then pure (.f (.tup (MV.vals xs))) else fail
def aNil : M (List Ag) := pure []
def aV (a : M MV) (r : M (List Ag)) : M (List Ag) := do
  let x ← a
  let xs ← r
  pure (.v x.val :: xs)
def hasR (i : Nat) : M Unit := fun e => match e[i]? with
  | some s => match s.read with
    | some _ => .ok () e
    | none => .no
  | none => .no
def aS (i : Nat) (r : M (List Ag)) : M (List Ag) := do
  hasR i
  let xs ← r
  pure (.s i :: xs)
def ixV (m : MV) (j : Val) : Option Val := match j with
  | .int i => match m.itsL with
    | some xs => atI xs i
    | none => match m.itsT with
      | some xs => atI xs i
      | none => none
  | _ => none
/-- a[b] -/
def idx (a : M Hd) (b : M MV) : M MV := do
  let h ← a
  let j ← b
  let m ← rdH h
  let v ← opt (ixV m j.val)
  pure (.f v)
def cb (g : Val → Option Val) (a : M Hd) : M MV := do
  let h ← a
  let m ← rdH h
  let z ← opt (g m.val)
  pure (.f z)
/-- a new list of what is read of a list -/
def mkL (g : List Val → List Val) (a : M Hd) : M MV := do
  let h ← a
  let m ← rdH h
  let xs ← opt (m.itsL)
  pure (.lst ((g xs).map .f))
def mkLT (g : List Val → List Val) (a : M Hd) : M MV := do
  let h ← a
  let m ← rdH h
  let xs ← opt (m.itsT)
  pure (.lst ((g xs).map .f))
/-- a tuple of what is read of a list -/
def mkT (a : M Hd) : M MV := do
  let h ← a
  let m ← rdH h
  let xs ← opt (m.itsL)
  pure (.f (.tup xs))
def mkTT (a : M Hd) : M MV := do
  let h ← a
  let m ← rdH h
  let xs ← opt (m.itsT)
  pure (.f (.tup xs))
def cat (a b : M Hd) : M MV := do
  let h ← a
  let k ← b
  let m ← rdH h
  let n ← rdH k
  let xs ← opt (m.itsL)
  let ys ← opt (n.itsL)
  if xs.length + ys.length ≤ 16777216 then pure (.lst ((xs ++ ys).map .f)) else fail
def repL (k : Nat) : List Val → List Val := fun xs => (List.replicate k xs).flatten
def erep (a b : M MV) : M MV := do
  let x ← a
  let y ← b
  match x, y with
  | .lst ms, .f (.int k) => do
    let xs ← opt (allF ms)
    if -9223372036854775808 ≤ k ∧ k < 9223372036854775808 ∧ xs.length * k.toNat ≤ 16777216 then pure (.lst ((repL k.toNat xs).map .f)) else fail
  | _, _ => fail
def lenV : Val → Option Val
  | .lst xs => some (.int xs.length)
  | .tup xs => some (.int xs.length)
  | _ => none
section
variable (K : PySem.W.Frag) (G : Gs)
def tIs (E : XK) (m : M (List MV)) : TA := fun σ H Q => ∃ B F env, EOk K G B env σ F H ∧ Out K G E B σ F (m env) fun ms e' => ∀ F' H' xs, Same F F' → EOk K G (B.push ms xs) e' σ F' H' → Q xs H'
def AgAt (F : Hp) (σ : L2.St) : Ag → V → Prop
  | .v v, x => RV K G F v x
  | .s i, x => σ[i]? = some (some x)
def AgsAt (F : Hp) (σ : L2.St) : List Ag → List V → Prop
  | [], xs => xs = []
  | a :: as, xs => ∃ y ys, xs = y :: ys ∧ AgAt K G F σ a y ∧ AgsAt F σ as ys
def tA (E : XK) (m : M (List Ag)) : TA := fun σ H Q => ∃ B F env, EOk K G B env σ F H ∧ Out K G E B σ F (m env) fun as e' => ∀ F' H' xs, Same F F' → EOk K G B e' σ F' H' → AgsAt K G F' σ as xs → Q xs H'
end
section
variable {K : PySem.W.Frag} {G : Gs} {E : XK} {B : Bs} {env : Env} {σ : L2.St} {F H F' H' : Hp} {α β : Type} {m m1 m2 : MV} {x y : V} {v w : Val} {X : Cx} {e a b c : Expr} {t : TE} {ma mb : M MV} {pos : Pos} {rest : List Expr} {es : List Expr}
theorem z_isNil : PA X [] (tIs X.K G E isNil) := ⟨fun pos pins s σ H Q I ⟨B, F, env, h0, ho⟩ => pa_nil.run pos pins s σ H Q I (ho F H [] (Same.refl _) h0.pushE)⟩
theorem PAi {t t' : TA} (h : PA X es t) (i : ∀ σ H Q, t' σ H Q → t σ H Q) : PA X es t' := ⟨fun pos pins s σ H Q I q => h.run pos pins s σ H Q I (i σ H Q q)⟩
theorem z_isCons {mr : M (List MV)} (ha : PE X e (tE X.K G E ma)) (hr : PA X es (tIs X.K G E mr)) (hs : starEach (e :: es) X.env = (false, eval e X.env) :: starEach es X.env) : PA X (e :: es) (tIs X.K G E (isCons ma mr)) :=
  PAi (pa_cons ha hr hs) fun σ H Q ⟨B, F, env, h0, ho⟩ => by
    refine ⟨B, F, env, h0, (Out.bindE ho).mono fun m1 e1 _ ho F1 H1 x s1 h1 => ?_⟩
    exact ⟨B.push [m1] [x], F1, e1, h1, (Out.bindE (ho.push s1)).mono fun ms e2 _ ho F2 H2 xs s2 h2 => ho F2 H2 (x :: xs) (s1.trans s2) h2.merge⟩
theorem AgAt.mono {a : Ag} {x : V} (s : Same F F') (h : AgAt K G F σ a x) : AgAt K G F' σ a x := by
  cases a with
  | v v => exact RV.mono s h
  | s i => exact h
theorem AgsAt.mono (s : Same F F') : ∀ {as : List Ag} {xs : List V}, AgsAt K G F σ as xs → AgsAt K G F' σ as xs
  | [], _, h => h
  | _ :: _, _, ⟨y, ys, e, h1, h2⟩ => ⟨y, ys, e, h1.mono s, AgsAt.mono s h2⟩
theorem z_aNil : PA X [] (tA X.K G E aNil) := ⟨fun pos pins s σ H Q I ⟨B, F, env, h0, ho⟩ => pa_nil.run pos pins s σ H Q I (ho F H [] (Same.refl _) h0 rfl)⟩
theorem z_aV {mr : M (List Ag)} (ha : PE X e (tE X.K G E ma)) (hr : PA X es (tA X.K G E mr)) (hs : starEach (e :: es) X.env = (false, eval e X.env) :: starEach es X.env) : PA X (e :: es) (tA X.K G E (aV ma mr)) :=
  PAi (pa_cons ha hr hs) fun σ H Q ⟨B, F, env, h0, ho⟩ => by
    refine ⟨B, F, env, h0, (Out.bindE ho).mono fun m1 e1 _ ho F1 H1 x s1 h1 => ?_⟩
    obtain ⟨F2, s2, h2, rv⟩ := h1.freeze1
    exact ⟨B, F2, e1, h2, (Out.bindE (ho.same (s1.trans s2))).mono fun as e2 _ ho F3 H3 xs s3 h3 a3 => ho F3 H3 (x :: xs) ((s1.trans s2).trans s3) h3 ⟨x, xs, rfl, RV.mono s3 rv, a3⟩⟩
theorem Out.hasRd {i : Nat} {k : Unit → M β} {q : β → Env → Prop} (h0 : EOk K G B env σ F H) (h : Out K G E B σ F ((hasR i >>= k) env) q) : (∃ x, σ[i]? = some (some x)) ∧ Out K G E B σ F (k () env) q := by
  have h' := Out.bindE (show Out K G E B σ F ((hasR i env).bind k) q from h)
  unfold Z.hasR at h'
  cases e : env[i]? with
  | none => rw [e] at h'; exact h'.elim
  | some s =>
    rw [e] at h'
    dsimp only at h'
    cases e2 : s.read with
    | none => rw [e2] at h'; exact h'.elim
    | some m =>
      rw [e2] at h'
      obtain ⟨x, e3, _⟩ := h0.read e e2
      exact ⟨⟨x, e3⟩, h'⟩
theorem z_aS {i : Nat} {mr : M (List Ag)} (ha : PE X e (tVar i)) (hr : PA X es (tA X.K G E mr)) (hs : starEach (e :: es) X.env = (false, eval e X.env) :: starEach es X.env) : PA X (e :: es) (tA X.K G E (aS i mr)) :=
  PAi (pa_cons ha hr hs) fun σ H Q ⟨B, F, env, h0, ho⟩ => by
    obtain ⟨⟨x, ex⟩, ho⟩ := Out.hasRd h0 ho
    exact ⟨x, ex, B, F, env, h0, (Out.bindE ho).mono fun as e2 _ ho F3 H3 xs s3 h3 a3 => ho F3 H3 (x :: xs) s3 h3 ⟨x, xs, rfl, ex, a3⟩⟩
theorem z_lst {mr : M (List MV)} (h : PA X es (tIs X.K G E mr)) : PE X (.List es pos) (tE X.K G E (eLst mr)) := PEi (pe_lst h) fun σ H Q ⟨B, F, env, h0, ho⟩ => by
  refine ⟨B, F, env, h0, (Out.bindE ho).mono fun ms e1 _ ho F1 H1 xs s1 h1 => ?_⟩
  split at ho
  · rename_i l
    refine ⟨by obtain ⟨fp, fps, r, _⟩ := h1.top; rw [RMs.len r]; exact l, fun p hp => ho F1 _ _ s1 (h1.newL hp)⟩
  · exact (show False from ho).elim
theorem z_tup {mr : M (List MV)} {k : Nat} (h : PA X es (tIs X.K G E mr)) : PE X (.Tuple es k pos) (tE X.K G E (eTup mr)) := PEi (pe_tup h) fun σ H Q ⟨B, F, env, h0, ho⟩ => by
  refine ⟨B, F, env, h0, (Out.bindE ho).mono fun ms e1 _ ho F1 H1 xs s1 h1 => ?_⟩
  split at ho
  · rename_i l
    refine ⟨by obtain ⟨fp, fps, r, _⟩ := h1.top; rw [RMs.len r]; exact l, fun p hp => ?_⟩
    obtain ⟨F2, s2, h2, rv⟩ := h1.freeze
    obtain ⟨F3, s3, h3, rt⟩ := h2.newT rv hp
    exact ho F3 _ _ ((s1.trans s2).trans s3) (h3.pushF rt)
  · exact (show False from ho).elim
/-- what may be read at x: m, its parts frozen or one's own -/
def RX (K : PySem.W.Frag) (G : Gs) (F H : Hp) (m : MV) (x : V) : Prop := (∃ fp, RM K G F H m x fp) ∨ (∃ v, m = .f v ∧ RR K G [] F H v x)
theorem EOk.hdM {hd : Hd} {e' : Env} (h : EOk K G (B.pushH hd x) env σ F H) (a : HdAt σ hd x) (r : rdH hd env = .ok m e') : RX K G F H m x := by
  cases hd with
  | t n =>
    cases r
    obtain ⟨fp, fps, r, _⟩ := EOk.top (show EOk K G (B.push [m] [x]) env σ F H from h)
    unfold RMs at r
    obtain ⟨y, ys, f1, f2, e1, e2, r1, r2⟩ := r
    cases e1
    exact .inl ⟨f1, r1⟩
  | s i =>
    have h : EOk K G B env σ F H := h
    have a : σ[i]? = some (some x) := a
    unfold rdH at r
    dsimp only at r
    split at r
    · rename_i s es
      split at r
      · rename_i n en
        cases r
        obtain ⟨fp, z⟩ := h.get es
        rw [join_of a] at z
        cases s with
        | any => cases en
        | is v => cases en; obtain ⟨_, y, e1, e2⟩ := z; cases e1; exact .inl ⟨[], RM.fz.mpr e2⟩
        | rd v =>
          cases en; obtain ⟨_, y, e1, e2⟩ := z; cases e1
          refine .inr ⟨v, rfl, ?_⟩
          rcases e2 with e2 | ⟨a, vs, ys, e3, e4, n, eh, r⟩ | ⟨a, c, dx, vs, ys, e3, e4, n, eh, l, r⟩
          · exact .inl (RV.mono h.hp.fs e2)
          · exact .inr (.inl ⟨a, vs, ys, e3, e4, List.not_mem_nil, h.hp.hs _ _ n eh, RVs.mono h.hp.fs r⟩)
          · exact .inr (.inr ⟨a, c, dx, vs, ys, e3, e4, List.not_mem_nil, h.hp.hs _ _ n eh, l, RVs.mono h.hp.fs r⟩)
        | own m => cases en; obtain ⟨⟨y, e1, e2⟩, _⟩ := z; cases e1; exact .inl ⟨_, e2⟩
        | io m => cases en; obtain ⟨⟨y, e1, e2⟩, _⟩ := z; cases e1; exact .inl ⟨_, e2⟩
        | lk m => cases en; obtain ⟨⟨y, e1, e2⟩, _⟩ := z; cases e1; exact .inl ⟨_, e2⟩
      · cases r
    · cases r
theorem RMs.all : ∀ {ms : List MV} {vs : List Val} {xs : List V} {fp : List Addr}, RMs K G F H ms xs fp → allF ms = some vs → RVs K G F vs xs
  | [], vs, _, _, h, e => by cases e; unfold RMs at h; rw [h.1]; exact .nil
  | .f v :: ms, vs, _, _, h, e => by
    rw [allF] at e
    cases e2 : allF ms with
    | none => rw [e2] at e; cases e
    | some ws =>
      rw [e2] at e
      cases e
      unfold RMs at h
      obtain ⟨x, xs, f1, f2, e1, ef, h1, h2⟩ := h
      subst e1
      unfold RM at h1
      exact .cons h1.2 (RMs.all h2 e2)
  | .lst _ :: _, _, _, _, _, e => by cases e
  | .ins _ _ :: _, _, _, _, _, e => by cases e
theorem RX.itsL {vs : List Val} (fh : Same F H) (h : RX K G F H m x) (e : m.itsL = some vs) : ∃ a ys, x = .ref a ∧ SqL K H a ys ∧ RVs K G F vs ys := by
  rcases h with ⟨fp, h⟩ | ⟨v, rfl, h⟩
  · cases m with
    | f v =>
      cases v with
      | lst xs =>
        cases e
        unfold RM at h
        have h := h.2
        unfold RV at h
        obtain ⟨a, ys, e1, q, r⟩ := h
        exact ⟨a, ys, e1, fh.seq q, r⟩
      | _ => cases e
    | lst ms =>
      unfold RM at h
      obtain ⟨a, xs, fr, e1, _, q, r⟩ := h
      exact ⟨a, xs, e1, .inl (.inl q), RMs.all r e⟩
    | ins c ms => cases e
  · cases v with
    | lst xs =>
      cases e
      rcases h with h | ⟨a, vs, ys, e3, e4, n, eh, r⟩ | ⟨a, c, dx, vs, ys, e3, _⟩
      · unfold RV at h
        obtain ⟨a, ys, e1, q, r⟩ := h
        exact ⟨a, ys, e1, fh.seq q, r⟩
      · cases e3; exact ⟨a, ys, e4, .inl (.inl eh), r⟩
      · cases e3
    | _ => cases e
theorem RX.itsT {vs : List Val} (fh : Same F H) (h : RX K G F H m x) (e : m.itsT = some vs) : ∃ a ys, x = .ref a ∧ SqT K H a ys ∧ RVs K G F vs ys := by
  rcases h with ⟨fp, h⟩ | ⟨v, rfl, h⟩
  · cases m with
    | f v =>
      cases v with
      | tup xs =>
        cases e
        unfold RM at h
        have h := h.2
        unfold RV at h
        obtain ⟨a, ys, e1, q, r⟩ := h
        exact ⟨a, ys, e1, SqT.mono fh q, r⟩
      | _ => cases e
    | lst ms => cases e
    | ins c ms => cases e
  · cases v with
    | tup xs =>
      cases e
      rcases h with h | ⟨a, vs, ys, e3, _⟩ | ⟨a, c, dx, vs, ys, e3, _⟩
      · unfold RV at h
        obtain ⟨a, ys, e1, q, r⟩ := h
        exact ⟨a, ys, e1, SqT.mono fh q, r⟩
      · cases e3
      · cases e3
    | _ => cases e
theorem atI_rvs {vs : List Val} {xs : List V} {i : Int} (r : RVs K G F vs xs) (e : atI vs i = some v) : ∃ y, atI xs i = some y ∧ RV K G F v y := by
  unfold atI at e ⊢
  rw [RVs.len r]
  cases z : ixN vs.length i with
  | none => rw [z] at e; cases e
  | some j =>
    rw [z] at e
    exact RVs.get r e
theorem z_idx {mo : M Hd} (ha : PE X a (tO X.K G E mo)) (hb : PE X b (tE X.K G E mb)) (hs : PlainIx b) : PE X (.Subscript a b pos) (tE X.K G E (idx mo mb)) := PEi (pe_ix ix_seq ha hb hs) fun σ H Q ⟨B, F, env, h0, ho⟩ => by
  refine ⟨B, F, env, h0, (Out.bindE ho).mono fun k1 e1 _ ho F1 H1 x s1 h1 a1 => ?_⟩
  refine ⟨B.pushH k1 x, F1, e1, h1, (Out.bindE (ho.pushH s1)).mono fun m2 e2 _ ho F2 H2 y s2 h2 => ?_⟩
  obtain ⟨n1, r1, ho⟩ := Out.rd ho
  obtain ⟨v, hz, hq⟩ := Out.opt ho
  have rx := h2.pop.hdM a1 r1
  have rj := h2.topV
  have fin : ∀ y, RV X.K G F2 v y → Q y H2 := fun y ry => hq F2 H2 y (s1.trans s2) ((pushH_pop h2.pop).pushF ry)
  unfold ixV at hz
  split at hz
  · rename_i j ej
    rw [ej] at rj
    obtain rfl := rv_int rj
    split at hz
    · rename_i xs exs
      obtain ⟨p, ys, e3, q, r⟩ := rx.itsL h2.hp.fh exs
      obtain ⟨z, z1, z2⟩ := atI_rvs r hz
      exact .inl ⟨p, ys, j, z, e3, rfl, q, z1, fin z z2⟩
    · split at hz
      · rename_i xs exs
        obtain ⟨p, ys, e3, q, r⟩ := rx.itsT h2.hp.fh exs
        obtain ⟨z, z1, z2⟩ := atI_rvs r hz
        exact .inr (.inl ⟨p, ys, j, z, e3, rfl, q, z1, fin z z2⟩)
      · cases hz
  · cases hz
end
end Z
set_option maxHeartbeats 1000000
namespace Z
open PySem PySem.Spec L2
/-! ### built-ins over one or two things -/
def CbOk (K : PySem.W.Frag) (G : Gs) (r : List V → Hp → VK → Prop) (g : Val → Option Val) : Prop := ∀ (H : Hp) (x : V) (v z : Val) (Q : VK), RV K G H v x → g v = some z → (∀ x', Sca K G z x' → Q x' H) → r [x] H Q
def intsOf : List Val → Option (List Int)
  | [] => some []
  | .int i :: r => (intsOf r).map (i :: ·)
  | _ :: _ => none
theorem intsOf_map : ∀ (ns : List Int), intsOf (ns.map .int) = some ns
  | [] => rfl
  | n :: r => by rw [List.map_cons, intsOf, intsOf_map r]; rfl
def blsOf : List Val → Option (List Bool)
  | [] => some []
  | .bl i :: r => (blsOf r).map (i :: ·)
  | _ :: _ => none
theorem blsOf_map : ∀ (ns : List Bool), blsOf (ns.map .bl) = some ns
  | [] => rfl
  | n :: r => by rw [List.map_cons, blsOf, blsOf_map r]; rfl
def flatOf : Val → Option V
  | .non => some .non
  | .bl b => some (.bl b)
  | .int i => some (.int i)
  | .str s => some (.str s)
  | _ => none
def flatsOf : List Val → Option (List V)
  | [] => some []
  | v :: r => match flatOf v with
    | some x => (flatsOf r).map (x :: ·)
    | none => none
theorem flatsOf_ints : ∀ (ns : List Int), flatsOf (ns.map .int) = some (ns.map V.int)
  | [] => rfl
  | n :: r => by rw [List.map_cons, flatsOf, flatsOf_ints r]; rfl
theorem flatsOf_strs : ∀ (ns : List Str), flatsOf (ns.map .str) = some (ns.map V.str)
  | [] => rfl
  | n :: r => by rw [List.map_cons, flatsOf, flatsOf_strs r]; rfl
theorem inV_ints {n : Int} : ∀ {ns : List Int}, inV (.int n) (ns.map V.int) = decide (n ∈ ns)
  | [] => rfl
  | m :: r => by
    show (eqV (.int m) (.int n) || inV (.int n) (r.map V.int)) = _
    rw [inV_ints (ns := r)]
    show ((m == n) || decide (n ∈ r)) = decide (n ∈ m :: r)
    by_cases e : m = n
    · subst e; simp
    · have e2 : ¬ n = m := fun z => e z.symm
      simp [e, e2]
theorem inV_strs {n : Str} : ∀ {ns : List Str}, inV (.str n) (ns.map V.str) = decide (n ∈ ns)
  | [] => rfl
  | m :: r => by
    show (eqV (.str m) (.str n) || inV (.str n) (r.map V.str)) = _
    rw [inV_strs (ns := r)]
    show ((m == n) || decide (n ∈ r)) = decide (n ∈ m :: r)
    by_cases e : m = n
    · subst e; simp
    · have e2 : ¬ n = m := fun z => e z.symm
      simp [e, e2]
/-- the greatest, the least of some ints -/
def lmax : List Int → Int
  | [] => 0
  | x :: r => r.foldl (fun a b => if b > a then b else a) x
def lmin : List Int → Int
  | [] => 0
  | x :: r => r.foldl (fun a b => if b < a then b else a) x
theorem fmax_facts : ∀ (r : List Int) (x : Int), (r.foldl (fun a b => if b > a then b else a) x = x ∨ r.foldl (fun a b => if b > a then b else a) x ∈ r) ∧ x ≤ r.foldl (fun a b => if b > a then b else a) x ∧ ∀ y ∈ r, y ≤ r.foldl (fun a b => if b > a then b else a) x
  | [], x => ⟨.inl rfl, Int.le_refl _, fun y h => by cases h⟩
  | z :: r, x => by
    rw [List.foldl_cons]
    by_cases c : z > x
    · rw [if_pos c]
      obtain ⟨h1, h2, h3⟩ := fmax_facts r z
      refine ⟨.inr ?_, by omega, fun y hy => ?_⟩
      · rcases h1 with h1 | h1
        · rw [h1]; exact List.mem_cons_self ..
        · exact List.mem_cons_of_mem _ h1
      · rcases List.mem_cons.mp hy with rfl | hy
        · exact h2
        · exact h3 y hy
    · rw [if_neg c]
      obtain ⟨h1, h2, h3⟩ := fmax_facts r x
      refine ⟨?_, h2, fun y hy => ?_⟩
      · rcases h1 with h1 | h1
        · exact .inl h1
        · exact .inr (List.mem_cons_of_mem _ h1)
      · rcases List.mem_cons.mp hy with rfl | hy
        · omega
        · exact h3 y hy
theorem fmin_facts : ∀ (r : List Int) (x : Int), (r.foldl (fun a b => if b < a then b else a) x = x ∨ r.foldl (fun a b => if b < a then b else a) x ∈ r) ∧ r.foldl (fun a b => if b < a then b else a) x ≤ x ∧ ∀ y ∈ r, r.foldl (fun a b => if b < a then b else a) x ≤ y
  | [], x => ⟨.inl rfl, Int.le_refl _, fun y h => by cases h⟩
  | z :: r, x => by
    rw [List.foldl_cons]
    by_cases c : z < x
    · rw [if_pos c]
      obtain ⟨h1, h2, h3⟩ := fmin_facts r z
      refine ⟨.inr ?_, by omega, fun y hy => ?_⟩
      · rcases h1 with h1 | h1
        · rw [h1]; exact List.mem_cons_self ..
        · exact List.mem_cons_of_mem _ h1
      · rcases List.mem_cons.mp hy with rfl | hy
        · exact h2
        · exact h3 y hy
    · rw [if_neg c]
      obtain ⟨h1, h2, h3⟩ := fmin_facts r x
      refine ⟨?_, h2, fun y hy => ?_⟩
      · rcases h1 with h1 | h1
        · exact .inl h1
        · exact .inr (List.mem_cons_of_mem _ h1)
      · rcases List.mem_cons.mp hy with rfl | hy
        · omega
        · exact h3 y hy
theorem lmax_mem {ns : List Int} (h : ns ≠ []) : lmax ns ∈ ns ∧ ∀ y ∈ ns, y ≤ lmax ns := by
  cases ns with
  | nil => exact absurd rfl h
  | cons x r =>
    obtain ⟨h1, h2, h3⟩ := fmax_facts r x
    refine ⟨?_, fun y hy => ?_⟩
    · rcases h1 with h1 | h1
      · show r.foldl _ x ∈ _; rw [h1]; exact List.mem_cons_self ..
      · exact List.mem_cons_of_mem _ h1
    · rcases List.mem_cons.mp hy with rfl | hy
      · exact h2
      · exact h3 y hy
theorem lmin_mem {ns : List Int} (h : ns ≠ []) : lmin ns ∈ ns ∧ ∀ y ∈ ns, lmin ns ≤ y := by
  cases ns with
  | nil => exact absurd rfl h
  | cons x r =>
    obtain ⟨h1, h2, h3⟩ := fmin_facts r x
    refine ⟨?_, fun y hy => ?_⟩
    · rcases h1 with h1 | h1
      · show r.foldl _ x ∈ _; rw [h1]; exact List.mem_cons_self ..
      · exact List.mem_cons_of_mem _ h1
    · rcases List.mem_cons.mp hy with rfl | hy
      · exact h2
      · exact h3 y hy
theorem lmax_eq {ns : List Int} {m : Int} (h1 : m ∈ ns) (h2 : ∀ y ∈ ns, y ≤ m) : lmax ns = m := by
  have h := lmax_mem (List.ne_nil_of_mem h1)
  have a := h.2 m h1
  have b := h2 _ h.1
  omega
theorem lmin_eq {ns : List Int} {m : Int} (h1 : m ∈ ns) (h2 : ∀ y ∈ ns, m ≤ y) : lmin ns = m := by
  have h := lmin_mem (List.ne_nil_of_mem h1)
  have a := h.2 m h1
  have b := h2 _ h.1
  omega
def maxV : Val → Option Val
  | .lst xs => match intsOf xs with
    | some (n :: r) => some (.int (lmax (n :: r)))
    | _ => none
  | _ => none
def minV : Val → Option Val
  | .lst xs => match intsOf xs with
    | some (n :: r) => some (.int (lmin (n :: r)))
    | _ => none
  | _ => none
def sumV : Val → Option Val
  | .lst xs => match intsOf xs with
    | some ns => some (.int ns.sum)
    | _ => none
  | _ => none
def allV : Val → Option Val
  | .lst xs => match blsOf xs with
    | some ns => some (.bl (ns.all id))
    | _ => none
  | _ => none
def anyV : Val → Option Val
  | .lst xs => match blsOf xs with
    | some ns => some (.bl (ns.any id))
    | _ => none
  | _ => none
def intV : Val → Option Val
  | .int i => some (.int i)
  | .bl k => some (.int (if k then 1 else 0))
  | _ => none
def max2 := ii fun i j => .int (if j > i then j else i)
def min2 := ii fun i j => .int (if j < i then j else i)
def itsA : Val → Option (List Val)
  | .lst xs => some xs
  | .tup xs => some xs
  | _ => none
def inF (neg : Bool) (v w : Val) : Option Val := match flatOf v, itsA w with
  | some x, some ws => match flatsOf ws with
    | some ys => some (.bl (if neg then !inV x ys else inV x ys))
    | none => none
  | _, _ => none
section
variable {K : PySem.W.Frag} {G : Gs} {E : XK} {B : Bs} {env : Env} {σ : L2.St} {F H F' H' : Hp} {α β : Type} {m m1 m2 : MV} {x y : V} {v w : Val} {X : Cx} {e a b c : Expr} {t : TE} {ma mb : M MV} {mo mo2 : M Hd} {pos : Pos} {rest : List Expr} {es : List Expr}
theorem sem_cb {r : List V → Hp → VK → Prop} {g : Val → Option Val} (hk : CbOk K G r g) {Q : VK} (h : tE K G E (cb g mo) σ H Q) : tCB r (tCons (tO K G E mo) tNil) σ H Q := by
  obtain ⟨B, F, env, h0, ho⟩ := h
  refine ⟨B, F, env, h0, (Out.bindE ho).mono fun k1 e1 _ ho F1 H1 x s1 h1 a1 => ?_⟩
  obtain ⟨n1, r1, ho⟩ := Out.rd ho
  obtain ⟨z, hz, hq⟩ := Out.opt ho
  exact hk H1 x _ z Q (h1.hd a1 r1).2 hz fun x' sx => hq F1 H1 x' s1 ((pushH_pop h1).pushF (sx F1))
theorem z_cb {r : List V → Hp → VK → Prop} {g : Val → Option Val} (hk : CbOk X.K G r g) (hp : PE X e (tCB r (tCons (tO X.K G E mo) tNil))) : PE X e (tE X.K G E (cb g mo)) := PEi hp fun σ H Q => sem_cb hk
/-- a rule over two values as an argument list -/
theorem z_cb2 {r : List V → Hp → VK → Prop} {g : Val → Val → Option Val} (hk : BiOk X.K G (fun x y H Q => r [x, y] H Q) g) (hp : PE X e (tCB r (tCons (tE X.K G E ma) (tCons (tE X.K G E mb) tNil)))) : PE X e (tE X.K G E (bi g ma mb)) := PEi hp fun σ H Q h => sem_bi hk h
theorem k_len : CbOk K G (fun xs H Q => ∃ p ys, xs = [.ref p] ∧ (SqL K H p ys ∨ SqT K H p ys) ∧ Q (.int ys.length) H) lenV := fun H x v z Q r e q => by
  cases v with
  | lst xs => cases e; unfold RV at r; obtain ⟨a, ys, e1, h1, h2⟩ := r; exact ⟨a, ys, by rw [e1], .inl h1, by rw [RVs.len h2]; exact q _ sca_int⟩
  | tup xs => cases e; unfold RV at r; obtain ⟨a, ys, e1, h1, h2⟩ := r; exact ⟨a, ys, by rw [e1], .inr h1, by rw [RVs.len h2]; exact q _ sca_int⟩
  | _ => cases e
theorem k_int : CbOk K G (fun xs H Q => (∃ i, xs = [.int i] ∧ Q (.int i) H) ∨ ∃ k, xs = [.bl k] ∧ Q (.int (if k then 1 else 0)) H) intV := fun H x v z Q r e q => by
  cases v with
  | int i => cases e; exact .inl ⟨i, by rw [rv_int r], q _ sca_int⟩
  | bl i => cases e; exact .inr ⟨i, by rw [rv_bl r], q _ sca_int⟩
  | _ => cases e
theorem RVs.ints : ∀ {vs : List Val} {xs : List V} {ns : List Int}, RVs K G F vs xs → intsOf vs = some ns → xs = ns.map V.int
  | [], _, _, h, e => by cases e; unfold RVs at h; exact h
  | v :: vs, _, ns, h, e => by
    cases v with
    | int i =>
      rw [intsOf] at e
      cases e2 : intsOf vs with
      | none => rw [e2] at e; cases e
      | some ms =>
        rw [e2] at e; cases e
        unfold RVs at h
        obtain ⟨x, xs, e1, h1, h2⟩ := h
        rw [e1, rv_int h1, RVs.ints h2 e2]; rfl
    | _ => cases e
theorem RVs.bls : ∀ {vs : List Val} {xs : List V} {ns : List Bool}, RVs K G F vs xs → blsOf vs = some ns → xs = ns.map V.bl
  | [], _, _, h, e => by cases e; unfold RVs at h; exact h
  | v :: vs, _, ns, h, e => by
    cases v with
    | bl i =>
      rw [blsOf] at e
      cases e2 : blsOf vs with
      | none => rw [e2] at e; cases e
      | some ms =>
        rw [e2] at e; cases e
        unfold RVs at h
        obtain ⟨x, xs, e1, h1, h2⟩ := h
        rw [e1, rv_bl h1, RVs.bls h2 e2]; rfl
    | _ => cases e
theorem flat_eq {z : V} (h : RV K G F v x) (e : flatOf v = some z) : x = z ∧ flatV z = true := by
  cases v with
  | non => cases e; exact ⟨rv_non h, rfl⟩
  | bl i => cases e; exact ⟨rv_bl h, rfl⟩
  | int i => cases e; exact ⟨rv_int h, rfl⟩
  | str i => cases e; exact ⟨rv_str h, rfl⟩
  | _ => cases e
theorem RVs.flats : ∀ {vs : List Val} {xs zs : List V}, RVs K G F vs xs → flatsOf vs = some zs → xs = zs ∧ zs.all flatV = true
  | [], _, _, h, e => by cases e; unfold RVs at h; exact ⟨h, rfl⟩
  | v :: vs, _, zs, h, e => by
    rw [flatsOf] at e
    cases e1 : flatOf v with
    | none => rw [e1] at e; cases e
    | some z =>
      rw [e1] at e
      dsimp only at e
      cases e2 : flatsOf vs with
      | none => rw [e2] at e; cases e
      | some ms =>
        rw [e2] at e; cases e
        unfold RVs at h
        obtain ⟨x, xs, e3, h1, h2⟩ := h
        obtain ⟨f1, f2⟩ := flat_eq h1 e1
        obtain ⟨g1, g2⟩ := RVs.flats h2 e2
        exact ⟨by rw [e3, f1, g1], by rw [List.all_cons, f2, g2]; rfl⟩
theorem k_max : CbOk K G (rMax K) maxV := fun H x v z Q r e q => by
  cases v with
  | lst xs =>
    unfold maxV at e
    dsimp only at e
    split at e
    · rename_i n ns en
      cases e
      unfold RV at r
      obtain ⟨a, ys, e1, h1, h2⟩ := r
      have := RVs.ints h2 en
      subst this
      exact ⟨a, n :: ns, by rw [e1], h1, Nat.succ_pos _, fun m m1 m2 => by rw [← lmax_eq m1 m2]; exact q _ sca_int⟩
    · cases e
  | _ => cases e
theorem k_min : CbOk K G (rMin K) minV := fun H x v z Q r e q => by
  cases v with
  | lst xs =>
    unfold minV at e
    dsimp only at e
    split at e
    · rename_i n ns en
      cases e
      unfold RV at r
      obtain ⟨a, ys, e1, h1, h2⟩ := r
      have := RVs.ints h2 en
      subst this
      exact ⟨a, n :: ns, by rw [e1], h1, Nat.succ_pos _, fun m m1 m2 => by rw [← lmin_eq m1 m2]; exact q _ sca_int⟩
    · cases e
  | _ => cases e
theorem k_sum : CbOk K G (rSum K) sumV := fun H x v z Q r e q => by
  cases v with
  | lst xs =>
    unfold sumV at e
    dsimp only at e
    split at e
    · rename_i ns en
      cases e
      unfold RV at r
      obtain ⟨a, ys, e1, h1, h2⟩ := r
      have := RVs.ints h2 en
      subst this
      exact ⟨a, ns, by rw [e1], h1, q _ sca_int⟩
    · cases e
  | _ => cases e
theorem k_all : CbOk K G (rAll K) allV := fun H x v z Q r e q => by
  cases v with
  | lst xs =>
    unfold allV at e
    dsimp only at e
    split at e
    · rename_i ns en
      cases e
      unfold RV at r
      obtain ⟨a, ys, e1, h1, h2⟩ := r
      have := RVs.bls h2 en
      subst this
      exact ⟨a, ns, by rw [e1], h1, q _ sca_bl⟩
    · cases e
  | _ => cases e
theorem k_any : CbOk K G (rAny K) anyV := fun H x v z Q r e q => by
  cases v with
  | lst xs =>
    unfold anyV at e
    dsimp only at e
    split at e
    · rename_i ns en
      cases e
      unfold RV at r
      obtain ⟨a, ys, e1, h1, h2⟩ := r
      have := RVs.bls h2 en
      subst this
      exact ⟨a, ns, by rw [e1], h1, q _ sca_bl⟩
    · cases e
  | _ => cases e
theorem k_max2 : BiOk K G (fun x y H Q => ∃ i j, [x, y] = [V.int i, .int j] ∧ Q (.int (if j > i then j else i)) H) max2 := fun H x y v w z Q rx ry e q => by
  unfold max2 ii at e
  split at e
  · rename_i i j; cases e; exact ⟨i, j, by rw [rv_int rx, rv_int ry], q _ sca_int⟩
  · cases e
theorem k_min2 : BiOk K G (fun x y H Q => ∃ i j, [x, y] = [V.int i, .int j] ∧ Q (.int (if j < i then j else i)) H) min2 := fun H x y v w z Q rx ry e q => by
  unfold min2 ii at e
  split at e
  · rename_i i j; cases e; exact ⟨i, j, by rw [rv_int rx, rv_int ry], q _ sca_int⟩
  · cases e
theorem k_in {neg : Bool} : BiOk K G (rIn K neg) (inF neg) := fun H x y v w z Q rx ry e q => by
  unfold inF at e
  split at e
  · rename_i a ws ea ew
    split at e
    · rename_i ys ey
      cases e
      obtain ⟨rfl, f⟩ := flat_eq rx ea
      cases w with
      | lst xs =>
        cases ew
        unfold RV at ry
        obtain ⟨p, zs, e1, h1, h2⟩ := ry
        obtain ⟨rfl, g⟩ := RVs.flats h2 ey
        exact ⟨p, zs, e1, .inl h1, f, g, q _ sca_bl⟩
      | tup xs =>
        cases ew
        unfold RV at ry
        obtain ⟨p, zs, e1, h1, h2⟩ := ry
        obtain ⟨rfl, g⟩ := RVs.flats h2 ey
        exact ⟨p, zs, e1, .inr h1, f, g, q _ sca_bl⟩
      | _ => cases ew
    · cases e
  · cases e
/-! ### new lists -/
theorem Out.optL {z : Option (List Val)} {k : List Val → M β} {q : β → Env → Prop} (h : Out K G E B σ F ((Z.opt z >>= k) env) q) : ∃ v, z = some v ∧ Out K G E B σ F (k v env) q := by
  cases z with
  | none => exact h.elim
  | some v => exact ⟨v, rfl, h⟩
theorem sem_mkL {g : List Val → List Val} {gV : List V → List V} (hg : ∀ F vs xs, RVs K G F vs xs → RVs K G F (g vs) (gV xs)) {Q : VK} (h : tE K G E (mkL g mo) σ H Q) : tO K G E mo σ H fun x H1 => ∃ a xs, x = .ref a ∧ SqL K H1 a xs ∧ ∀ p, H1 p = none → Q (.ref p) (upd H1 p (.lst (gV xs))) := by
  obtain ⟨B, F, env, h0, ho⟩ := h
  refine ⟨B, F, env, h0, (Out.bindE ho).mono fun k1 e1 _ ho F1 H1 x s1 h1 a1 => ?_⟩
  obtain ⟨n1, r1, ho⟩ := Out.rd ho
  obtain ⟨vs, ev, ho⟩ := Out.optL ho
  obtain ⟨a, ys, e3, q3, rs⟩ := (h1.hdM a1 r1).itsL h1.hp.fh ev
  exact ⟨a, ys, e3, q3, fun p hp => ho F1 _ _ s1 ((pushH_pop h1).newLf (hg _ _ _ rs) hp)⟩
theorem sem_mkLT {g : List Val → List Val} {gV : List V → List V} (hg : ∀ F vs xs, RVs K G F vs xs → RVs K G F (g vs) (gV xs)) {Q : VK} (h : tE K G E (mkLT g mo) σ H Q) : tO K G E mo σ H fun x H1 => ∃ a xs, x = .ref a ∧ SqT K H1 a xs ∧ ∀ p, H1 p = none → Q (.ref p) (upd H1 p (.lst (gV xs))) := by
  obtain ⟨B, F, env, h0, ho⟩ := h
  refine ⟨B, F, env, h0, (Out.bindE ho).mono fun k1 e1 _ ho F1 H1 x s1 h1 a1 => ?_⟩
  obtain ⟨n1, r1, ho⟩ := Out.rd ho
  obtain ⟨vs, ev, ho⟩ := Out.optL ho
  obtain ⟨a, ys, e3, q3, rs⟩ := (h1.hdM a1 r1).itsT h1.hp.fh ev
  exact ⟨a, ys, e3, q3, fun p hp => ho F1 _ _ s1 ((pushH_pop h1).newLf (hg _ _ _ rs) hp)⟩
theorem z_list (hp : PE X e (tCB (fun xs H Q => ∃ p ys, xs = [.ref p] ∧ (SqL X.K H p ys ∨ SqT X.K H p ys) ∧ ∀ l, H l = none → Q (.ref l) (upd H l (.lst ys))) (tCons (tO X.K G E mo) tNil))) : PE X e (tE X.K G E (mkL id mo)) := PEi hp fun σ H Q h => by
  obtain ⟨B, F, env, h0, ho⟩ := sem_mkL (gV := id) (fun _ _ _ r => r) h
  exact ⟨B, F, env, h0, ho.mono fun k1 e1 _ ho F1 H1 x s1 h1 a1 => by obtain ⟨a, xs, e1, q, k⟩ := ho F1 H1 x s1 h1 a1; exact ⟨a, xs, by rw [e1], .inl q, k⟩⟩
theorem z_listT (hp : PE X e (tCB (fun xs H Q => ∃ p ys, xs = [.ref p] ∧ (SqL X.K H p ys ∨ SqT X.K H p ys) ∧ ∀ l, H l = none → Q (.ref l) (upd H l (.lst ys))) (tCons (tO X.K G E mo) tNil))) : PE X e (tE X.K G E (mkLT id mo)) := PEi hp fun σ H Q h => by
  obtain ⟨B, F, env, h0, ho⟩ := sem_mkLT (gV := id) (fun _ _ _ r => r) h
  exact ⟨B, F, env, h0, ho.mono fun k1 e1 _ ho F1 H1 x s1 h1 a1 => by obtain ⟨a, xs, e1, q, k⟩ := ho F1 H1 x s1 h1 a1; exact ⟨a, xs, by rw [e1], .inr q, k⟩⟩
theorem z_rev (hp : PE X e (tRevL X.K (tO X.K G E mo))) : PE X e (tE X.K G E (mkL List.reverse mo)) := PEi hp fun σ H Q h => sem_mkL (fun _ _ _ r => RVs.rev r) h
theorem z_tuple (hp : PE X e (tCB (fun xs H Q => ∃ p ys, xs = [.ref p] ∧ ((SqL X.K H p ys ∧ ∀ l, H l = none → Q (.ref l) (upd H l (.tup ys))) ∨ (SqT X.K H p ys ∧ Q (.ref p) H))) (tCons (tO X.K G E mo) tNil))) : PE X e (tE X.K G E (mkT mo)) := PEi hp fun σ H Q ⟨B, F, env, h0, ho⟩ => by
  refine ⟨B, F, env, h0, (Out.bindE ho).mono fun k1 e1 _ ho F1 H1 x s1 h1 a1 => ?_⟩
  obtain ⟨n1, r1, ho⟩ := Out.rd ho
  obtain ⟨vs, ev, ho⟩ := Out.optL ho
  obtain ⟨a, ys, e3, q3, rs⟩ := (h1.hdM a1 r1).itsL h1.hp.fh ev
  refine ⟨a, ys, by rw [e3], .inl ⟨q3, fun p hp => ?_⟩⟩
  obtain ⟨F3, s3, h3, rt⟩ := (pushH_pop h1).newT rs hp
  exact ho F3 _ _ (s1.trans s3) (h3.pushF rt)
theorem z_tupleT (hp : PE X e (tCB (fun xs H Q => ∃ p ys, xs = [.ref p] ∧ ((SqL X.K H p ys ∧ ∀ l, H l = none → Q (.ref l) (upd H l (.tup ys))) ∨ (SqT X.K H p ys ∧ Q (.ref p) H))) (tCons (tO X.K G E mo) tNil))) : PE X e (tE X.K G E (mkTT mo)) := PEi hp fun σ H Q ⟨B, F, env, h0, ho⟩ => by
  refine ⟨B, F, env, h0, (Out.bindE ho).mono fun k1 e1 _ ho F1 H1 x s1 h1 a1 => ?_⟩
  obtain ⟨n1, r1, ho⟩ := Out.rd ho
  obtain ⟨vs, ev, ho⟩ := Out.optL ho
  have rx := h1.hdM a1 r1
  obtain ⟨a, ys, e3, q3, rs⟩ := rx.itsT h1.hp.fh ev
  refine ⟨a, ys, by rw [e3], .inr ⟨q3, ?_⟩⟩
  rw [← e3]
  refine ho F1 H1 x s1 ((pushH_pop h1).pushF ?_)
  cases n1 with
  | f w =>
    cases w with
    | tup zs =>
      cases ev
      rcases rx with ⟨fp, z⟩ | ⟨w, ew, z⟩
      · unfold RM at z; exact z.2
      · cases ew
        rcases z with z | ⟨_, _, _, z, _⟩ | ⟨_, _, _, _, _, z, _⟩
        · exact z
        · cases z
        · cases z
    | _ => cases ev
  | _ => cases ev
end
end Z
set_option maxHeartbeats 1000000
namespace Z
open PySem PySem.Spec L2
/-! ### what is walked -/
def okIt : Hd → M Unit
  | .t _ => pure ()
  | .s i => fun e => match e[i]? with
    | some (.is _) => .ok () e
    | some (.rd _) => .ok () e
    | _ => .no
def itL (a : M Hd) : M (List Val) := do
  let h ← a
  okIt h
  let m ← rdH h
  opt m.itsL
def itT (a : M Hd) : M (List Val) := do
  let h ← a
  okIt h
  let m ← rdH h
  opt m.itsT
def enumV (xs : List Val) : List Val := (List.range xs.length).map fun i => .tup [.int (i : Nat), xs.getD i .non]
def itEn (a : M Hd) : M (List Val) := do
  let h ← a
  okIt h
  let m ← rdH h
  let xs ← opt m.itsL
  pure (enumV xs)
def irange (a b : Int) : List Val := (List.range (b - a).toNat).map fun (i : Nat) => .int (a + (i : Int))
def itR1 (a : M MV) : M (List Val) := do
  let x ← a
  match x with
  | .f (.int j) => if -4611686018427387904 ≤ j ∧ j < 4611686018427387904 then pure (irange 0 j) else fail
  | _ => fail
def itR2 (a b : M MV) : M (List Val) := do
  let x ← a
  let y ← b
  match x, y with
  | .f (.int i), .f (.int j) => if -4611686018427387904 ≤ i ∧ i < 4611686018427387904 ∧ -4611686018427387904 ≤ j ∧ j < 4611686018427387904 then pure (irange i j) else fail
  | _, _ => fail
/-! ### statements -/
inductive Ctl where
  | nx | rt (m : MV) | bk | ct
def setS (i : Nat) (m : MV) : M Unit := fun e => match e[i]? with
  | some s => if s.free then .ok () (e.set i (svOf m)) else .no
  | none => .no
def sSet (i : Nat) (a : M MV) : M Ctl := do
  let m ← a
  setS i m
  pure .nx
/-- stored, and one's own no more -/
def sSetF (i : Nat) (a : M MV) : M Ctl := do
  let m ← a
  setS i (.f m.val)
  pure .nx
def sRet (a : M MV) : M Ctl := do
  let m ← a
  pure (.rt m)
def sEx (a : M MV) : M Ctl := do
  let m ← a
  pure .nx
def sNext : M Ctl := pure .nx
def sBk : M Ctl := pure .bk
def sCt : M Ctl := pure .ct
def sIf (t : M Bool) (a b : M Ctl) : M Ctl := do
  if ← t then a else b
def sq (a b : M Ctl) : M Ctl := do
  match ← a with
  | .nx => b
  | .rt m => pure (.rt m)
  | .bk => pure .bk
  | .ct => pure .ct
/-- a slot's list is one's own no more -/
def sFrz (i : Nat) (b : M Ctl) : M Ctl := fun e => match e[i]? with
  | some (.own m) => b (e.set i (.is m.val))
  | some (.is v) => b e
  | _ => .no
def tgN (i : Nat) : Val → M Unit := fun v => setS i (.f v)
def tgs : List (Val → M Unit) → List Val → M Unit
  | [], [] => pure ()
  | g :: gs, v :: vs => do
    g v
    tgs gs vs
  | _, _ => fail
def tgT (gs : List (Val → M Unit)) : Val → M Unit
  | .tup vs => if vs.length = gs.length then tgs gs vs else fail
  | _ => fail
def tgL (gs : List (Val → M Unit)) : Val → M Unit
  | .lst vs => if vs.length = gs.length then tgs gs vs else fail
  | _ => fail
def sAsg (g : Val → M Unit) (a : M MV) : M Ctl := do
  let m ← a
  g m.val
  pure .nx
def forL (f : Val → M Ctl) : List Val → M Ctl
  | [] => pure .nx
  | x :: r => do
    match ← f x with
    | .rt m => pure (.rt m)
    | .bk => pure .nx
    | .nx => forL f r
    | .ct => forL f r
def sFor (g : Val → M Unit) (it : M (List Val)) (b : M Ctl) : M Ctl := do
  let xs ← it
  forL (fun x => do g x; b) xs
def whileN (t : M Bool) (b : M Ctl) : Nat → M Ctl
  | 0 => fail
  | n + 1 => do
    if ← t then
      match ← b with
      | .rt m => pure (.rt m)
      | .bk => pure .nx
      | .nx => whileN t b n
      | .ct => whileN t b n
    else pure .nx
def sWhile (t : M Bool) (b : M Ctl) : M Ctl := whileN t b 1000000
def sPar2 (i j : Nat) (r : M (List MV)) : M Ctl := do
  match ← r with
  | [m, n] => do
    setS i m
    setS j n
    pure .nx
  | _ => fail
def sPar3 (i j k : Nat) (r : M (List MV)) : M Ctl := do
  match ← r with
  | [m, n, l] => do
    setS i m
    setS j n
    setS k l
    pure .nx
  | _ => fail
section
variable (K : PySem.W.Frag) (G : Gs)
def ItOk (B : Bs) (F : Hp) (J : It) (xs : List Val) : Prop := ∃ (Gd : Hp → Prop) (Y : Nat → Hp → V → Hp → Prop), Walk J xs.length Gd Y ∧
  (∀ B' env σ F2 H2, B'.M = B.M → B'.F0 = B.F0 → B'.H0 = B.H0 → Same F F2 → EOk K G B' env σ F2 H2 → Gd H2) ∧
  (∀ i v B' env σ F2 H2 x H3, B'.M = B.M → B'.F0 = B.F0 → B'.H0 = B.H0 → Same F F2 → EOk K G B' env σ F2 H2 → xs[i]? = some v → Y i H2 x H3 → ∃ F3, HeapOk [] F2 H2 F3 H3 ∧ RV K G F3 v x)
def tI (E : XK) (m : M (List Val)) : TI := fun σ H R => ∃ B F env, EOk K G B env σ F H ∧ Out K G E B σ F (m env) fun xs e' => ∀ F' H' J, Same F F' → EOk K G B e' σ F' H' → ItOk K G B F' J xs → R J H'
def CtlK (B : Bs) (F : Hp) (D : Ends) : Ctl → Env → Prop
  | .nx, e' => ∀ σ' F' H', Same F F' → EOk K G B e' σ' F' H' → D.nx σ' H'
  | .rt m, e' => ∀ σ' F' H' x, Same F F' → EOk K G (B.push [m] [x]) e' σ' F' H' → D.rt x H'
  | .bk, e' => ∀ σ' F' H', Same F F' → EOk K G B e' σ' F' H' → D.bk σ' H'
  | .ct, e' => ∀ σ' F' H', Same F F' → EOk K G B e' σ' F' H' → D.ct σ' H'
def OutS {α : Type} (E : XK) (B : Bs) (F : Hp) (o : O α) (k : α → Env → Prop) : Prop := match o with
  | .ok c e => k c e
  | .er x e => ∀ σ' F' H' cls d, Same F F' → EOk K G B e σ' F' H' → ExAt K G F' H' x cls d → E cls d H'
  | .no => False
def tS (E : XK) (m : M Ctl) : TS := fun D σ H => ∃ B F env, EOk K G B env σ F H ∧ OutS K G E B F (m env) (CtlK K G B F D)
/-- a target: what it stores -/
def TgOk (E : XK) (g : TG) (f : Val → M Unit) : Prop := ∀ B F env σ H v x (Q : L2.St → Hp → Prop), EOk K G B env σ F H → RV K G F v x → OutS K G E B F (f v env) (fun _ e' => ∀ σ', EOk K G B e' σ' F H → Q σ' H) → g x σ H Q
def TgsOk (E : XK) (g : TGs) (f : List (Val → M Unit)) : Prop := ∀ B F env σ H vs xs (Q : L2.St → Hp → Prop), EOk K G B env σ F H → RVs K G F vs xs → OutS K G E B F (tgs f vs env) (fun _ e' => ∀ σ', EOk K G B e' σ' F H → Q σ' H) → g xs σ H Q
end
section
variable {K : PySem.W.Frag} {G : Gs} {E : XK} {B : Bs} {env : Env} {σ : L2.St} {F H F' H' : Hp} {α β : Type} {m m1 m2 : MV} {x y : V} {v w : Val} {X : Cx} {e a b c : Expr} {t : TE} {ma mb : M MV} {mo mo2 : M Hd} {pos : Pos} {rest : List Expr} {es : List Expr} {st : Stmt} {sts : List Stmt} {D : Ends} {ms1 ms2 : M Ctl} {tg iter : Expr}
theorem PIi {t t' : TI} (h : PI X tg iter t) (i : ∀ σ H R, t' σ H R → t σ H R) : PI X tg iter t' := ⟨fun pins s σ H R I q => h.run pins s σ H R I (i σ H R q)⟩
theorem PSi {t t' : TS} (h : PS X st t) (i : ∀ D σ H, t' D σ H → t D σ H) : PS X st t' := ⟨fun pins s σ H D I q => h.run pins s σ H D I (i D σ H q)⟩
theorem PSsi {t t' : TS} (h : PSs X sts t) (i : ∀ D σ H, t' D σ H → t D σ H) : PSs X sts t' := ⟨fun pins s σ H D I q => h.run pins s σ H D I (i D σ H q)⟩
theorem OutS.out {o : O α} {k : α → Env → Prop} (h : OutS K G E B F o k) : Out K G E B σ F o k := by
  cases o with
  | ok a e => exact h
  | er x e => exact h σ
  | no => exact h
theorem OutS.bindE {o : O α} {k : α → Env → O β} {q : β → Env → Prop} (h : OutS K G E B F (o.bind k) q) : OutS K G E B F o fun a e => OutS K G E B F (k a e) q := by
  cases o <;> exact h
theorem OutS.same {F1 : Hp} {o : O α} {k : α → Env → Prop} (s : Same F F1) (h : OutS K G E B F o k) : OutS K G E B F1 o k := by
  cases o with
  | ok a e => exact h
  | er x e => exact fun σ F' H' cls d s' h' ex => h σ F' H' cls d (s.trans s') h' ex
  | no => exact h
theorem OutS.mono {o : O α} {q q' : α → Env → Prop} (h : OutS K G E B F o q) (i : ∀ a e, o = .ok a e → q a e → q' a e) : OutS K G E B F o q' := by
  cases o with
  | ok a e => exact i a e rfl h
  | er x e => exact h
  | no => exact h
theorem CtlK.same {F1 : Hp} {c : Ctl} {e' : Env} (s : Same F F1) (h : CtlK K G B F D c e') : CtlK K G B F1 D c e' := by
  cases c with
  | nx => exact fun σ' F' H' s' => h σ' F' H' (s.trans s')
  | rt m => exact fun σ' F' H' x s' => h σ' F' H' x (s.trans s')
  | bk => exact fun σ' F' H' s' => h σ' F' H' (s.trans s')
  | ct => exact fun σ' F' H' s' => h σ' F' H' (s.trans s')
theorem OutS.ctl {F1 : Hp} {o : O Ctl} (s : Same F F1) (h : OutS K G E B F o (CtlK K G B F D)) : OutS K G E B F1 o (CtlK K G B F1 D) := (h.same s).mono fun _ _ _ z => z.same s
theorem allF_vals : ∀ {ms : List MV} {vs : List Val}, allF ms = some vs → MV.vals ms = vs
  | [], vs, e => by cases e; rfl
  | .f v :: r, vs, e => by
    rw [allF] at e
    cases e2 : allF r with
    | none => rw [e2] at e; cases e
    | some ws => rw [e2] at e; cases e; rw [MV.vals, allF_vals e2]; rfl
  | .lst _ :: _, _, e => by cases e
  | .ins _ _ :: _, _, e => by cases e
/-! #### walks -/
theorem okIt_facts {hd : Hd} {e' : Env} (h : EOk K G (B.pushH hd x) env σ F H) (a : HdAt σ hd x) (o : okIt hd env = .ok () e') (r : rdH hd env = .ok m e') : ∃ F', Same F F' ∧ EOk K G B env σ F' H ∧
    ∀ vs, (m.itsL = some vs → ∃ p ys, x = .ref p ∧ RVs K G F' vs ys ∧ ∀ B' env' σ' F2 H2, B'.M = B.M → B'.F0 = B.F0 → B'.H0 = B.H0 → Same F' F2 → EOk K G B' env' σ' F2 H2 → SqL K H2 p ys) ∧
      (m.itsT = some vs → ∃ p ys, x = .ref p ∧ RVs K G F' vs ys ∧ ∀ B' env' σ' F2 H2, B'.M = B.M → B'.F0 = B.F0 → B'.H0 = B.H0 → Same F' F2 → EOk K G B' env' σ' F2 H2 → SqT K H2 p ys) := by
  have main : ∀ {v : Val} {F' : Hp}, RV K G F' v x → ∀ vs, ((MV.f v).itsL = some vs → ∃ p ys, x = .ref p ∧ RVs K G F' vs ys ∧ ∀ B' env' σ' F2 H2, B'.M = B.M → B'.F0 = B.F0 → B'.H0 = B.H0 → Same F' F2 → EOk K G B' env' σ' F2 H2 → SqL K H2 p ys) ∧
      ((MV.f v).itsT = some vs → ∃ p ys, x = .ref p ∧ RVs K G F' vs ys ∧ ∀ B' env' σ' F2 H2, B'.M = B.M → B'.F0 = B.F0 → B'.H0 = B.H0 → Same F' F2 → EOk K G B' env' σ' F2 H2 → SqT K H2 p ys) := by
    intro v F' rv vs
    constructor
    · intro ev
      cases v with
      | lst xs =>
        cases ev
        unfold RV at rv
        obtain ⟨p, ys, e1, q, r⟩ := rv
        exact ⟨p, ys, e1, r, fun B' env' σ' F2 H2 _ _ _ s h2 => h2.hp.fh.seq (s.seq q)⟩
      | _ => cases ev
    · intro ev
      cases v with
      | tup xs =>
        cases ev
        unfold RV at rv
        obtain ⟨p, ys, e1, q, r⟩ := rv
        exact ⟨p, ys, e1, r, fun B' env' σ' F2 H2 _ _ _ s h2 => SqT.mono (s.trans h2.hp.fh) q⟩
      | _ => cases ev
  cases hd with
  | t n =>
    cases r
    obtain ⟨F', s, h', rv⟩ := EOk.freeze1 (show EOk K G (B.push [m] [x]) env σ F H from h)
    refine ⟨F', s, h', fun vs => ?_⟩
    have q := main rv vs
    cases m with
    | f v => exact q
    | lst ms =>
      refine ⟨fun ev => q.1 ?_, fun ev => (by cases ev)⟩
      show some (MV.vals ms) = some vs
      rw [allF_vals ev]
    | ins c ms => exact ⟨fun ev => (by cases ev), fun ev => (by cases ev)⟩
  | s i =>
    have h : EOk K G B env σ F H := h
    have a : σ[i]? = some (some x) := a
    refine ⟨F, Same.refl _, h, ?_⟩
    unfold okIt at o
    unfold rdH at r
    dsimp only at o r
    cases ee : env[i]? with
    | none => rw [ee] at o; cases o
    | some s =>
      rw [ee] at o r
      cases s with
      | any => cases o
      | own _ => cases o
      | io _ => cases o
      | lk _ => cases o
      | is v =>
        cases r
        obtain ⟨y, e1, e2⟩ := h.isAt ee
        rw [a] at e1; cases e1
        exact main e2
      | rd v =>
        cases r
        obtain ⟨fp, _, y, e1, e2⟩ := h.get ee
        rw [join_of a] at e1; cases e1
        rcases e2 with e2 | ⟨p, ws, ys, rfl, rfl, n, eh, r⟩ | ⟨p, c, dx, ws, ys, rfl, rfl, n, eh, l, r⟩
        · exact main (RV.mono h.hp.fs e2)
        · refine fun vs => ⟨fun ev => ?_, fun ev => (by cases ev)⟩
          cases ev
          exact ⟨p, ys, rfl, RVs.mono h.hp.fs r, fun B' env' σ' F2 H2 em ef eh' s h2 => .inl (.inl (h2.hp.hs p _ (by rw [em]; exact n) (by rw [eh']; exact eh)))⟩
        · exact fun vs => ⟨fun ev => (by cases ev), fun ev => (by cases ev)⟩
theorem Out.okIt {hd : Hd} {k : Unit → M β} {q : β → Env → Prop} (h : Out K G E B σ F ((Z.okIt hd >>= k) env) q) : Z.okIt hd env = .ok () env ∧ Out K G E B σ F (k () env) q := by
  cases hd with
  | t m => exact ⟨rfl, h⟩
  | s i =>
    have h' := Out.bindE (show Out K G E B σ F ((Z.okIt (.s i) env).bind k) q from h)
    unfold Z.okIt at h' ⊢
    dsimp only at h' ⊢
    cases e : env[i]? with
    | none => rw [e] at h'; exact h'.elim
    | some s =>
      rw [e] at h'
      cases s with
      | is v => exact ⟨rfl, h'⟩
      | rd v => exact ⟨rfl, h'⟩
      | any => exact h'.elim
      | own _ => exact h'.elim
      | io _ => exact h'.elim
      | lk _ => exact h'.elim
theorem it_of_yat {ys : List V} {vs : List Val} {J : It} {Gd : Hp → Prop} (hw : Walk J ys.length Gd (YAt ys)) (r : RVs K G F vs ys) (hG : ∀ B' env' σ' F2 H2, B'.M = B.M → B'.F0 = B.F0 → B'.H0 = B.H0 → Same F F2 → EOk K G B' env' σ' F2 H2 → Gd H2) : ItOk K G B F J vs := by
  refine ⟨Gd, YAt ys, by rw [← RVs.len r]; exact hw, hG, fun i v B' env σ F2 H2 x H3 _ _ _ s h2 ev ⟨y1, y2⟩ => ?_⟩
  subst y1
  obtain ⟨z, z1, z2⟩ := RVs.get r ev
  rw [y2] at z1; cases z1
  exact ⟨F2, HeapOk.refl h2.hp.fh, RV.mono s z2⟩
theorem zi_list (hp : PI X tg iter (iList X.K (tO X.K G E mo))) : PI X tg iter (tI X.K G E (itL mo)) := PIi hp fun σ H R ⟨B, F, env, h0, ho⟩ => by
  refine ⟨B, F, env, h0, (Out.bindE ho).mono fun k1 e1 _ ho F1 H1 x s1 h1 a1 => ?_⟩
  obtain ⟨o1, ho⟩ := Out.okIt ho
  obtain ⟨n1, r1, ho⟩ := Out.rd ho
  cases ev : n1.itsL with
  | none => rw [ev] at ho; exact (show False from ho).elim
  | some vs =>
    rw [ev] at ho
    obtain ⟨F2, s2, h2, f⟩ := okIt_facts h1 a1 o1 r1
    obtain ⟨p, ys, ex, rs, sq⟩ := (f vs).1 ev
    exact ⟨p, ex, ⟨ys, sq B _ σ F2 H1 rfl rfl rfl (Same.refl _) h2⟩, ho F2 H1 _ (s1.trans s2) h2 (it_of_yat walk_list rs sq)⟩
theorem zi_tup (hp : PI X tg iter (iTup X.K (tO X.K G E mo))) : PI X tg iter (tI X.K G E (itT mo)) := PIi hp fun σ H R ⟨B, F, env, h0, ho⟩ => by
  refine ⟨B, F, env, h0, (Out.bindE ho).mono fun k1 e1 _ ho F1 H1 x s1 h1 a1 => ?_⟩
  obtain ⟨o1, ho⟩ := Out.okIt ho
  obtain ⟨n1, r1, ho⟩ := Out.rd ho
  cases ev : n1.itsT with
  | none => rw [ev] at ho; exact (show False from ho).elim
  | some vs =>
    rw [ev] at ho
    obtain ⟨F2, s2, h2, f⟩ := okIt_facts h1 a1 o1 r1
    obtain ⟨p, ys, ex, rs, sq⟩ := (f vs).2 ev
    exact ⟨p, ex, ⟨ys, sq B _ σ F2 H1 rfl rfl rfl (Same.refl _) h2⟩, ho F2 H1 _ (s1.trans s2) h2 (it_of_yat walk_tup rs sq)⟩
theorem it_range {lo hi : Int} : ItOk K G B F (Itr lo (hi - lo).toNat) (irange lo hi) := by
  refine ⟨fun _ => True, YFn fun i => .int (lo + i), by unfold irange; rw [List.length_map, List.length_range]; exact walk_range, fun _ _ _ _ _ _ _ _ _ _ => trivial, fun i v B' env σ F2 H2 x H3 _ _ _ s h2 ev ⟨y1, y2⟩ => ?_⟩
  subst y1 y2
  unfold irange at ev
  rw [List.getElem?_map] at ev
  cases z : (List.range (hi - lo).toNat)[i]? with
  | none => rw [z] at ev; cases ev
  | some k =>
    rw [z] at ev
    cases ev
    have := (List.getElem?_eq_some_iff.mp z).2
    rw [List.getElem_range] at this
    subst this
    exact ⟨F2, HeapOk.refl h2.hp.fh, sca_int F2⟩
theorem zi_r1 (hp : PI X tg iter (iRng1 (tCons (tE X.K G E ma) tNil))) : PI X tg iter (tI X.K G E (itR1 ma)) := PIi hp fun σ H R ⟨B, F, env, h0, ho⟩ => by
  refine ⟨B, F, env, h0, (Out.bindE ho).mono fun m1 e1 _ ho F1 H1 x s1 h1 => ?_⟩
  split at ho
  · rename_i j _
    by_cases c : -4611686018427387904 ≤ j ∧ j < 4611686018427387904
    · rw [if_pos c] at ho
      refine ⟨j, by rw [rv_int h1.topF], c.1, c.2, ho F1 H1 _ s1 h1.pop ?_⟩
      have := it_range (K := X.K) (G := G) (B := B) (F := F1) (lo := 0) (hi := j)
      rw [Int.sub_zero] at this
      exact this
    · rw [if_neg c] at ho; exact (show False from ho).elim
  · exact (show False from ho).elim
theorem zi_r2 (hp : PI X tg iter (iRng2 (tCons (tE X.K G E ma) (tCons (tE X.K G E mb) tNil)))) : PI X tg iter (tI X.K G E (itR2 ma mb)) := PIi hp fun σ H R ⟨B, F, env, h0, ho⟩ => by
  refine ⟨B, F, env, h0, (Out.bindE ho).mono fun m1 e1 _ ho F1 H1 x s1 h1 => ?_⟩
  refine ⟨B.push [m1] [x], F1, e1, h1, (Out.bindE (ho.push s1)).mono fun m2 e2 _ ho F2 H2 y s2 h2 => ?_⟩
  split at ho
  · split at ho
    · rename_i c
      exact ⟨_, _, by rw [rv_int h2.pop.topF, rv_int h2.topF], c, ho F2 H2 _ (s1.trans s2) h2.pop.pop it_range⟩
    · exact (show False from ho).elim
  · exact (show False from ho).elim
end
end Z
set_option maxHeartbeats 1000000
namespace Z
open PySem PySem.Spec L2
section
variable {K : PySem.W.Frag} {G : Gs} {E : XK} {B : Bs} {env : Env} {σ : L2.St} {F H F' H' : Hp} {α β : Type} {m m1 m2 : MV} {x y : V} {v w : Val} {X : Cx} {e a b c : Expr} {t : TE} {ma mb : M MV} {mo mo2 : M Hd} {pos : Pos} {rest : List Expr} {es : List Expr} {st : Stmt} {sts : List Stmt} {D : Ends} {ms1 ms2 : M Ctl} {tg iter : Expr}
theorem OutS.set {i : Nat} {k : Unit → M β} {q : β → Env → Prop} (h : OutS K G E B F ((setS i m >>= k) env) q) : ∃ s, env[i]? = some s ∧ s.free = true ∧ OutS K G E B F (k () (env.set i (svOf m))) q := by
  have h' := OutS.bindE (show OutS K G E B F ((setS i m env).bind k) q from h)
  unfold setS at h'
  cases e : env[i]? with
  | none => rw [e] at h'; exact h'.elim
  | some s =>
    rw [e] at h'
    dsimp only at h'
    by_cases c : s.free = true
    · rw [if_pos c] at h'; exact ⟨s, rfl, c, h'⟩
    · rw [if_neg c] at h'; exact h'.elim
theorem Out.toS {o : O α} {k : α → Env → O β} {q : β → Env → Prop} (h : OutS K G E B F (o.bind k) q) : Out K G E B σ F o fun a e => OutS K G E B F (k a e) q := (OutS.bindE h).out
theorem z_set {i : Nat} (hp : PS X st (tAsg (tE X.K G E ma) (gName i))) : PS X st (tS X.K G E (sSet i ma)) := PSi hp fun D σ H ⟨B, F, env, h0, ho⟩ => by
  refine ⟨B, F, env, h0, (Out.toS ho).mono fun m1 e1 _ ho F1 H1 x s1 h1 => ?_⟩
  obtain ⟨s, es, fr, ho⟩ := OutS.set ho
  exact ho _ F1 H1 s1 (h1.setT es fr)
theorem z_setF {i : Nat} (hp : PS X st (tAsg (tE X.K G E ma) (gName i))) : PS X st (tS X.K G E (sSetF i ma)) := PSi hp fun D σ H ⟨B, F, env, h0, ho⟩ => by
  refine ⟨B, F, env, h0, (Out.toS ho).mono fun m1 e1 _ ho F1 H1 x s1 h1 => ?_⟩
  obtain ⟨s, es, fr, ho⟩ := OutS.set ho
  obtain ⟨F2, s2, h2, rv⟩ := h1.freeze1
  exact ho _ F2 H1 (s1.trans s2) (h2.setF rv es fr)
theorem z_ret (hp : PS X st (tRet (tE X.K G E ma))) : PS X st (tS X.K G E (sRet ma)) := PSi hp fun D σ H ⟨B, F, env, h0, ho⟩ =>
  ⟨B, F, env, h0, (Out.toS ho).mono fun m1 e1 _ ho F1 H1 x s1 h1 => ho σ F1 H1 x s1 h1⟩
theorem z_retN (hp : PS X st tRetN) : PS X st (tS X.K G E (sRet (cst .non))) := PSi hp fun D σ H ⟨B, F, env, h0, ho⟩ => ho σ F H _ (Same.refl _) (h0.pushF (sca_non F))
theorem z_ex (hp : PS X st (tDrop (tE X.K G E ma))) : PS X st (tS X.K G E (sEx ma)) := PSi hp fun D σ H ⟨B, F, env, h0, ho⟩ =>
  ⟨B, F, env, h0, (Out.toS ho).mono fun m1 e1 _ ho F1 H1 x s1 h1 => ho σ F1 H1 s1 h1.pop⟩
theorem z_bk (hp : PS X st tBreak) : PS X st (tS X.K G E sBk) := PSi hp fun D σ H ⟨B, F, env, h0, ho⟩ => ho σ F H (Same.refl _) h0
theorem z_ct (hp : PS X st tCont) : PS X st (tS X.K G E sCt) := PSi hp fun D σ H ⟨B, F, env, h0, ho⟩ => ho σ F H (Same.refl _) h0
theorem z_pass (hp : PS X st tNext) : PS X st (tS X.K G E sNext) := PSi hp fun D σ H ⟨B, F, env, h0, ho⟩ => ho σ F H (Same.refl _) h0
theorem sem_next (h : tS K G E sNext D σ H) : tNext D σ H := by
  obtain ⟨B, F, env, h0, ho⟩ := h
  exact ho σ F H (Same.refl _) h0
theorem zs_nil (hp : PSs X [] tNext) : PSs X [] (tS X.K G E sNext) := PSsi hp fun D σ H h => sem_next h
theorem sem_if {mt : M Bool} (h : tS K G E (sIf mt ms1 ms2) D σ H) : tIfS (tB' K G E mt) (tS K G E ms1) (tS K G E ms2) D σ H := by
  obtain ⟨B, F, env, h0, ho⟩ := h
  refine ⟨B, F, env, h0, (Out.toS ho).mono fun b e1 _ ho F1 H1 s1 h1 => ?_⟩
  cases b with
  | true => rw [if_pos rfl]; exact ⟨B, F1, e1, h1, OutS.ctl s1 ho⟩
  | false => rw [if_neg Bool.false_ne_true]; exact ⟨B, F1, e1, h1, OutS.ctl s1 ho⟩
theorem z_if {mt : M Bool} (hp : PS X st (tIfS (tB' X.K G E mt) (tS X.K G E ms1) (tS X.K G E ms2))) : PS X st (tS X.K G E (sIf mt ms1 ms2)) := PSi hp fun D σ H => sem_if
theorem sem_sq (h : tS K G E (sq ms1 ms2) D σ H) : tSeq (tS K G E ms1) (tS K G E ms2) D σ H := by
  obtain ⟨B, F, env, h0, ho⟩ := h
  refine ⟨B, F, env, h0, (OutS.bindE ho).mono fun c e1 _ ho => ?_⟩
  cases c with
  | nx => exact fun σ' F' H' s h' => ⟨B, F', e1, h', OutS.ctl s ho⟩
  | rt m => exact ho
  | bk => exact ho
  | ct => exact ho
theorem zs_cons (hp : PSs X sts (tSeq (tS X.K G E ms1) (tS X.K G E ms2))) : PSs X sts (tS X.K G E (sq ms1 ms2)) := PSsi hp fun D σ H => sem_sq
theorem zs_frz {i : Nat} (hp : PSs X sts (tS X.K G E ms1)) : PSs X sts (tS X.K G E (sFrz i ms1)) := PSsi hp fun D σ H ⟨B, F, env, h0, ho⟩ => by
  unfold sFrz at ho
  split at ho
  · rename_i m em
    obtain ⟨F', s, h'⟩ := h0.frzS em
    exact ⟨B, F', _, h', OutS.ctl s ho⟩
  · exact ⟨B, F, env, h0, ho⟩
  · exact (show False from ho).elim
/-! ### targets -/
theorem tg_name {i : Nat} : TgOk K G E (gName i) (tgN i) := fun B F env σ H v x Q h0 rv ho => by
  have : OutS K G E B F ((setS i (.f v) >>= fun _ => (pure () : M Unit)) env) (fun _ e' => ∀ σ', EOk K G B e' σ' F H → Q σ' H) := by
    rw [bind_def]
    unfold tgN at ho
    cases o : setS i (.f v) env with
    | ok a e => rw [o] at ho; exact ho
    | er a e => rw [o] at ho; exact ho
    | no => rw [o] at ho; exact ho
  obtain ⟨s, es, fr, ho⟩ := OutS.set this
  exact ho _ (h0.setF rv es fr)
theorem tgs_nil : TgsOk K G E gNil [] := fun B F env σ H vs xs Q h0 rv ho => by
  cases vs with
  | nil => unfold RVs at rv; exact ⟨rv, ho _ h0⟩
  | cons v vs => exact (show False from ho).elim
theorem tgs_cons {g : TG} {u : TGs} {f : Val → M Unit} {fs : List (Val → M Unit)} (h1 : TgOk K G E g f) (h2 : TgsOk K G E u fs) : TgsOk K G E (gCons g u) (f :: fs) := fun B F env σ H vs xs Q h0 rv ho => by
  cases vs with
  | nil => exact (show False from ho).elim
  | cons v vs =>
    unfold RVs at rv
    obtain ⟨x, ys, e, r1, r2⟩ := rv
    refine ⟨x, ys, e, h1 B F env σ H v x _ h0 r1 ((OutS.bindE ho).mono fun _ e1 _ ho σ' h' => ?_)⟩
    exact h2 B F e1 σ' H vs ys Q h' r2 ho
theorem tg_tup {n : Nat} {u : TGs} {fs : List (Val → M Unit)} (h : TgsOk K G E u fs) (hl : fs.length = n) : TgOk K G E (gTup K n u) (tgT fs) := fun B F env σ H v x Q h0 rv ho => by
  cases v with
  | tup vs =>
    unfold RV at rv
    obtain ⟨a, xs, e, q, r⟩ := rv
    unfold tgT at ho
    dsimp only at ho
    split at ho
    · rename_i l
      exact ⟨a, xs, e, SqT.mono h0.hp.fh q, by rw [RVs.len r, l, hl], h B F env σ H vs xs Q h0 r ho⟩
    · exact (show False from ho).elim
  | _ => exact (show False from ho).elim
theorem tg_lst {n : Nat} {u : TGs} {fs : List (Val → M Unit)} (h : TgsOk K G E u fs) (hl : fs.length = n) : TgOk K G E (gLst K n u) (tgL fs) := fun B F env σ H v x Q h0 rv ho => by
  cases v with
  | lst vs =>
    unfold RV at rv
    obtain ⟨a, xs, e, q, r⟩ := rv
    unfold tgL at ho
    dsimp only at ho
    split at ho
    · rename_i l
      exact ⟨a, xs, e, h0.hp.fh.seq q, by rw [RVs.len r, l, hl], h B F env σ H vs xs Q h0 r ho⟩
    · exact (show False from ho).elim
  | _ => exact (show False from ho).elim
theorem z_asg {g : TG} {f : Val → M Unit} (hg : TgOk X.K G E g f) (hp : PS X st (tAsg (tE X.K G E ma) g)) : PS X st (tS X.K G E (sAsg f ma)) := PSi hp fun D σ H ⟨B, F, env, h0, ho⟩ => by
  refine ⟨B, F, env, h0, (Out.toS ho).mono fun m1 e1 _ ho F1 H1 x s1 h1 => ?_⟩
  obtain ⟨F2, s2, h2, rv⟩ := h1.freeze1
  exact hg B F2 e1 σ H1 _ x _ h2 rv (((OutS.bindE ho).same (s1.trans s2)).mono fun _ e' _ ho σ' h' => ho σ' F2 H1 (s1.trans s2) h')
/-! ### loops -/
theorem sem_for {g : TG} {f : Val → M Unit} {mi : M (List Val)} (hg : TgOk K G E g f) (h : tS K G E (sFor f mi ms1) D σ H) : tFor (tI K G E mi) g (tS K G E ms1) D σ H := by
  obtain ⟨B, F, env, h0, ho⟩ := h
  refine ⟨B, F, env, h0, (Out.toS ho).mono fun xs e1 _ ho F1 H1 J s1 h1 ⟨Gd, Y, W, hG, hY⟩ => ?_⟩
  refine for_it W (fun i σ2 H2 => ∃ F2 e2, Same F1 F2 ∧ EOk K G B e2 σ2 F2 H2 ∧ OutS K G E B F2 (forL (fun x => do f x; ms1) (xs.drop i) e2) (CtlK K G B F2 D)) ⟨F1, e1, Same.refl _, h1, OutS.ctl s1 ho⟩ ?_ ?_ ?_
  · rintro i σ2 H2 _ ⟨F2, e2, s2, h2, _⟩
    exact hG B e2 σ2 F2 H2 rfl rfl rfl s2 h2
  · rintro i v σ2 H2 H3 hi ⟨F2, e2, s2, h2, ho⟩ hy
    have ex : xs[i]? = some xs[i] := List.getElem?_eq_getElem hi
    obtain ⟨F3, p3, rv⟩ := hY i _ B e2 σ2 F2 H2 v H3 rfl rfl rfl s2 h2 ex hy
    rw [List.drop_eq_getElem_cons hi] at ho
    have h3 := h2.step p3
    have ho := OutS.bindE (show OutS K G E B F2 (((f xs[i] >>= fun _ => ms1) e2).bind _) _ from ho)
    have ho := OutS.bindE (show OutS K G E B F2 ((f xs[i] e2).bind fun _ => ms1) _ from ho)
    refine hg B F3 e2 σ2 H3 _ v _ h3 rv ((ho.same p3.fs).mono fun _ e4 _ ho σ4 h4 => ?_)
    refine ⟨B, F3, e4, h4, (ho.same p3.fs).mono fun c e5 _ ho => ?_⟩
    cases c with
    | nx => exact fun σ' F' H' s h' => ⟨F', e5, s2.trans (p3.fs.trans s), h', OutS.ctl (p3.fs.trans s) ho⟩
    | ct => exact fun σ' F' H' s h' => ⟨F', e5, s2.trans (p3.fs.trans s), h', OutS.ctl (p3.fs.trans s) ho⟩
    | bk => exact fun σ' F' H' s h' => ho σ' F' H' (p3.fs.trans s) h'
    | rt m => exact fun σ' F' H' x s h' => ho σ' F' H' x (p3.fs.trans s) h'
  · rintro σ2 H2 ⟨F2, e2, s2, h2, ho⟩
    rw [List.drop_length] at ho
    exact ho σ2 F2 H2 (Same.refl _) h2
theorem z_for {g : TG} {f : Val → M Unit} {mi : M (List Val)} (hg : TgOk X.K G E g f) (hp : PS X st (tFor (tI X.K G E mi) g (tS X.K G E ms1))) : PS X st (tS X.K G E (sFor f mi ms1)) := PSi hp fun D σ H => sem_for hg
theorem sem_while {mt : M Bool} (h : tS K G E (sWhile mt ms1) D σ H) : tWhile (tB' K G E mt) (tS K G E ms1) D σ H := by
  obtain ⟨B, F, env, h0, ho⟩ := h
  refine ⟨fun n σ2 H2 => ∃ F2 e2, EOk K G B e2 σ2 F2 H2 ∧ OutS K G E B F2 (whileN mt ms1 n e2) (CtlK K G B F2 D), ⟨1000000, F, env, h0, ho⟩, ?_⟩
  rintro n σ2 H2 ⟨F2, e2, h2, ho⟩
  cases n with
  | zero => exact (show False from ho).elim
  | succ n =>
    refine ⟨B, F2, e2, h2, (Out.toS ho).mono fun b e3 _ ho F3 H3 s3 h3 => ?_⟩
    cases b with
    | true =>
      rw [if_pos rfl]
      refine ⟨fun σ' H' => ∃ F4 e4, EOk K G B e4 σ' F4 H' ∧ OutS K G E B F4 (whileN mt ms1 n e4) (CtlK K G B F4 D), fun σ' H' z => ⟨n, Nat.lt_succ_self n, z⟩, ?_⟩
      have ho := OutS.bindE (show OutS K G E B F2 ((ms1 e3).bind _) _ from ho)
      refine ⟨B, F3, e3, h3, (ho.same s3).mono fun c e5 _ ho => ?_⟩
      cases c with
      | nx => exact fun σ' F' H' s h' => ⟨F', e5, h', OutS.ctl (s3.trans s) ho⟩
      | ct => exact fun σ' F' H' s h' => ⟨F', e5, h', OutS.ctl (s3.trans s) ho⟩
      | bk => exact fun σ' F' H' s h' => ho σ' F' H' (s3.trans s) h'
      | rt m => exact fun σ' F' H' x s h' => ho σ' F' H' x (s3.trans s) h'
    | false => rw [if_neg Bool.false_ne_true]; exact ho σ2 F3 H3 s3 h3
theorem z_while {mt : M Bool} (hp : PS X st (tWhile (tB' X.K G E mt) (tS X.K G E ms1))) : PS X st (tS X.K G E (sWhile mt ms1)) := PSi hp fun D σ H => sem_while
/-! ### a, b = e, f -/
theorem EOk.split {ms : List MV} {xs : List V} (h : EOk K G (B.push (m :: ms) (x :: xs)) env σ F H) : EOk K G ((B.push ms xs).push [m] [x]) env σ F H := by
  obtain ⟨fp, fps, r, nd, nf, d, h1, h2, sp⟩ := h.top
  obtain ⟨hp, hl, _⟩ := h
  unfold RMs at r
  obtain ⟨y, ys, f1, f2, e1, e2, r1, r2⟩ := r
  cases e1
  subst e2
  rw [List.nodup_append] at nd
  have base : EOk K G B env σ F H := ⟨hp, hl, fps, h1, h2, sp⟩
  have hn : ∀ a ∈ f2, a ∉ f1 := fun a m2 m1 => nd.2.2 a m1 a m2 rfl
  refine ⟨hp, hl, up (up fps (.inr B.T.length) f2) (.inr (B.push ms xs).T.length) f1, fun i s e => ?_, fun j p e => ?_, ?_⟩
  · rw [up_ne (by intro z; cases z), up_ne (by intro z; cases z)]
    have := h1 i s e
    cases s <;> exact this
  · rcases push_get e with e | ⟨rfl, rfl⟩
    · rw [up_ne (inr_ne (lt_of_get e))]
      rcases push_get e with e | ⟨rfl, rfl⟩
      · rw [up_ne (inr_ne (lt_of_get e))]; exact h2 j p e
      · rw [up_same]; exact ⟨r2, fun a m => (nf a (List.mem_append_right _ m)).2.2⟩
    · rw [up_same]; exact ⟨RMs.one r1, fun a m => (nf a (List.mem_append_left _ m)).2.2⟩
  · have s1 := Sep.up (k := .inr B.T.length) (f := f2) sp nd.2.1 (fun l a _ m => d l a (List.mem_append_right _ m)) (fun a m => ⟨(nf a (List.mem_append_right _ m)).1, (nf a (List.mem_append_right _ m)).2.1, .inl (nf a (List.mem_append_right _ m)).2.2⟩)
    have s2 := Sep.up (k := .inr (B.push ms xs).T.length) (f := f1) s1 nd.1 (fun l a ne m => ?_) (fun a m => ⟨(nf a (List.mem_append_left _ m)).1, (nf a (List.mem_append_left _ m)).2.1, .inl (nf a (List.mem_append_left _ m)).2.2⟩)
    · exact ⟨s2.nd, s2.di, s2.nf⟩
    · unfold up; split
      · exact fun z => hn a z m
      · exact d l a (List.mem_append_left _ m)
theorem EOk.popE (h : EOk K G (B.push [] []) env σ F H) : EOk K G B env σ F H := h.pop
theorem z_par2 {i j : Nat} {mr : M (List MV)} (hp : PS X st (tPar i j (tIs X.K G E mr))) : PS X st (tS X.K G E (sPar2 i j mr)) := PSi hp fun D σ H ⟨B, F, env, h0, ho⟩ => by
  refine ⟨B, F, env, h0, (Out.toS ho).mono fun ms e1 _ ho F1 H1 xs s1 h1 => ?_⟩
  have hl : xs.length = ms.length := by obtain ⟨fp, fps, r, _⟩ := h1.top; exact RMs.len r
  match ms, xs, hl, ho, h1 with
  | [m, n], [x, y], _, ho, h1 =>
    refine ⟨x, y, rfl, ?_⟩
    obtain ⟨s, es, fr, ho⟩ := OutS.set ho
    obtain ⟨s', es', fr', ho⟩ := OutS.set ho
    exact ho _ F1 H1 s1 ((h1.split.setT es fr).setT es' fr')
  | [], _, _, ho, _ => exact (show False from ho).elim
  | [_], _, _, ho, _ => exact (show False from ho).elim
  | _ :: _ :: _ :: _, _, _, ho, _ => exact (show False from ho).elim
theorem z_par3 {i j k : Nat} {mr : M (List MV)} (hp : PS X st (tPar3 i j k (tIs X.K G E mr))) : PS X st (tS X.K G E (sPar3 i j k mr)) := PSi hp fun D σ H ⟨B, F, env, h0, ho⟩ => by
  refine ⟨B, F, env, h0, (Out.toS ho).mono fun ms e1 _ ho F1 H1 xs s1 h1 => ?_⟩
  have hl : xs.length = ms.length := by obtain ⟨fp, fps, r, _⟩ := h1.top; exact RMs.len r
  match ms, xs, hl, ho, h1 with
  | [m, n, l], [x, y, z], _, ho, h1 =>
    refine ⟨x, y, z, rfl, ?_⟩
    obtain ⟨s, es, fr, ho⟩ := OutS.set ho
    obtain ⟨s', es', fr', ho⟩ := OutS.set ho
    obtain ⟨s'', es'', fr'', ho⟩ := OutS.set ho
    exact ho _ F1 H1 s1 (((h1.split.setT es fr).split.setT es' fr').setT es'' fr'')
  | [], _, _, ho, _ => exact (show False from ho).elim
  | [_], _, _, ho, _ => exact (show False from ho).elim
  | [_, _], _, _, ho, _ => exact (show False from ho).elim
  | _ :: _ :: _ :: _ :: _, _, _, ho, _ => exact (show False from ho).elim
end
end Z
set_option maxHeartbeats 1000000
namespace Z
open PySem PySem.Spec L2
/-! ### comprehensions -/
def wipeE (e : Env) : List Nat → Env
  | [] => e
  | v :: vs => (wipeE e vs).set v .any
def lights (e : Env) (vs : List Nat) : Bool := vs.all fun i => match e[i]? with
  | some s => s.light
  | none => false
def restE (e' e : Env) : List Nat → Env
  | [] => e'
  | v :: vs => (restE e' e vs).set v (e.getD v .any)
def lcL (vs : List Nat) (g : Val → M Unit) (t : M Bool) (a : M MV) : List Val → M (List MV)
  | [] => fun e => .ok [] (wipeE e vs)
  | x :: r => fun e => ((do
      g x
      if ← t then do
        let m ← a
        let ms ← lcL vs g t a r
        pure (m :: ms)
      else lcL vs g t a r) : M (List MV)) (wipeE e vs)
def lc (vs : List Nat) (g : Val → M Unit) (it : M (List Val)) (t : M Bool) (a : M MV) : M MV := do
  let xs ← it
  fun e => if lights e vs = true ∧ xs.length ≤ 16777216 then match lcL vs g t a xs (wipeE e vs) with
    | .ok ms e' => .ok (.lst ms) (restE e' e vs)
    | _ => .no
  else .no
def tTrue : M Bool := pure true
def Okk {α : Type} (o : O α) (q : α → Env → Prop) : Prop := match o with
  | .ok a e => q a e
  | _ => False
section
variable {K : PySem.W.Frag} {G : Gs} {E : XK} {B : Bs} {env : Env} {σ : L2.St} {F H F' H' : Hp} {α β : Type} {m m1 m2 : MV} {x y : V} {v w : Val} {X : Cx} {e a b c : Expr} {t : TE} {ma mb : M MV} {mo mo2 : M Hd} {pos : Pos} {rest : List Expr} {es : List Expr} {st : Stmt} {sts : List Stmt} {D : Ends} {ms1 ms2 : M Ctl} {tg iter : Expr} {vs : List Nat}
theorem Okk.bindE {o : O α} {k : α → Env → O β} {q : β → Env → Prop} (h : Okk (o.bind k) q) : Okk o fun a e => Okk (k a e) q := by
  cases o <;> exact h
theorem Okk.out {o : O α} {q : α → Env → Prop} (h : Okk o q) : Out K G E B σ F o q := by
  cases o with
  | ok a e => exact h
  | er x e => exact (show False from h).elim
  | no => exact h
theorem Okk.outS {o : O α} {q : α → Env → Prop} (h : Okk o q) : OutS K G E B F o q := by
  cases o with
  | ok a e => exact h
  | er x e => exact (show False from h).elim
  | no => exact h
theorem Okk.mono {o : O α} {q q' : α → Env → Prop} (h : Okk o q) (i : ∀ a e, o = .ok a e → q a e → q' a e) : Okk o q' := by
  cases o with
  | ok a e => exact i a e rfl h
  | er x e => exact h
  | no => exact h
theorem wipe_at {i : Nat} (h : i ∈ vs) : (wipe σ vs)[i]? = if i < σ.length then some none else none := by
  induction vs with
  | nil => cases h
  | cons v r ih =>
    show ((wipe σ r).set v none)[i]? = _
    rw [List.getElem?_set, wipe_length]
    by_cases c : v = i
    · subst c; rw [if_pos rfl]
    · rw [if_neg c]
      rcases List.mem_cons.mp h with e | e
      · exact absurd e.symm c
      · exact ih e
theorem wipe_set {i : Nat} {o : Option V} (h : i ∈ vs) : wipe (σ.set i o) vs = wipe σ vs := by
  refine List.ext_getElem? fun j => ?_
  by_cases c : j ∈ vs
  · rw [wipe_at c, wipe_at c, List.length_set]
  · rw [wipe_out c, wipe_out c, List.getElem?_set, if_neg (fun e => c (by rw [← e]; exact h))]
theorem wipe_idem : wipe (wipe σ vs) vs = wipe σ vs := by
  refine List.ext_getElem? fun j => ?_
  by_cases c : j ∈ vs
  · rw [wipe_at c, wipe_at c, wipe_length]
  · rw [wipe_out c]
theorem wipeE_len : ∀ {vs : List Nat}, (wipeE env vs).length = env.length
  | [] => rfl
  | v :: vs => by show ((wipeE env vs).set v .any).length = _; rw [List.length_set, wipeE_len]
theorem wipeE_at {i : Nat} : ∀ {vs : List Nat}, (wipeE env vs)[i]? = if i ∈ vs then (if i < env.length then some .any else none) else env[i]?
  | [] => by rw [if_neg List.not_mem_nil]; rfl
  | v :: vs => by
    show ((wipeE env vs).set v .any)[i]? = _
    rw [List.getElem?_set, wipeE_len, wipeE_at]
    by_cases c : v = i
    · subst c; rw [if_pos rfl, if_pos (List.mem_cons_self ..)]
    · rw [if_neg c]
      by_cases d : i ∈ vs
      · rw [if_pos d, if_pos (List.mem_cons_of_mem _ d)]
      · rw [if_neg d, if_neg (by rw [List.mem_cons, not_or]; exact ⟨fun z => c z.symm, d⟩)]
theorem wipeE_idem : wipeE (wipeE env vs) vs = wipeE env vs := by
  refine List.ext_getElem? fun i => ?_
  rw [wipeE_at, wipeE_at, wipeE_len]
  by_cases d : i ∈ vs
  · rw [if_pos d, if_pos d]
  · rw [if_neg d, if_neg d]
theorem restE_len {e' : Env} : ∀ {vs : List Nat}, (restE e' env vs).length = e'.length
  | [] => rfl
  | v :: vs => by show ((restE e' env vs).set v _).length = _; rw [List.length_set, restE_len]
theorem restE_out {e' : Env} {i : Nat} : ∀ {vs : List Nat}, i ∉ vs → (restE e' env vs)[i]? = e'[i]?
  | [], _ => rfl
  | v :: vs, h => by
    show ((restE e' env vs).set v _)[i]? = _
    rw [List.mem_cons, not_or] at h
    rw [List.getElem?_set, if_neg (fun e => h.1 e.symm), restE_out h.2]
theorem restE_at {e' : Env} {i : Nat} {s : SV} : ∀ {vs : List Nat}, i ∈ vs → (restE e' env vs)[i]? = some s → s = env.getD i .any
  | [], h, _ => by cases h
  | v :: vs, h, e => by
    have e : ((restE e' env vs).set v (env.getD v .any))[i]? = some s := e
    rw [List.getElem?_set] at e
    by_cases c : v = i
    · subst c
      rw [if_pos rfl] at e
      split at e
      · cases e; rfl
      · cases e
    · rw [if_neg c] at e
      rcases List.mem_cons.mp h with z | z
      · exact absurd z.symm c
      · exact restE_at z e
theorem EOk.wipe (h : EOk K G B env σ F H) : ∀ {vs : List Nat}, (∀ i ∈ vs, i < env.length) → EOk K G B (wipeE env vs) (wipe σ vs) F H
  | [], _ => h
  | v :: vs, hl => by
    have ih := EOk.wipe h (vs := vs) fun i hi => hl i (List.mem_cons_of_mem _ hi)
    have hv : v < (wipeE env vs).length := by rw [wipeE_len]; exact hl v (List.mem_cons_self ..)
    exact ih.setA (s := (wipeE env vs)[v]) (List.getElem?_eq_getElem hv)
theorem Sep.sub {fps gps : Nat ⊕ Nat → List Addr} (sp : Sep fps B F H) (h : ∀ k, gps k = fps k ∨ gps k = []) : Sep gps B F H := by
  have sub : ∀ k a, a ∈ gps k → a ∈ fps k := fun k a m => by
    rcases h k with e | e
    · rw [e] at m; exact m
    · rw [e] at m; cases m
  refine ⟨fun k => ?_, fun k l a m1 m2 => sp.di k l a (sub k a m1) (sub l a m2), fun k a m => sp.nf k a (sub k a m)⟩
  rcases h k with e | e
  · rw [e]; exact sp.nd k
  · rw [e]; exact List.nodup_nil
theorem lights_at (h : lights env vs = true) {i : Nat} (hi : i ∈ vs) : ∃ s, env[i]? = some s ∧ s.light = true := by
  have := List.all_eq_true.mp h i hi
  split at this
  · rename_i s es; exact ⟨s, es, this⟩
  · cases this
/-- back from within a comprehension -/
theorem EOk.back {F1 H1 : Hp} {e' : Env} {B2 : Bs} (h0 : EOk K G B env σ F1 H1) (eM : B2.M = B.M) (eF : B2.F0 = B.F0) (eH : B2.H0 = B.H0) (s : Same F1 F) (l : lights env vs = true) (h : EOk K G B2 e' (L2.wipe σ vs) F H) : EOk K G B2 (restE e' env vs) σ F H := by
  obtain ⟨hp, hl, fps, h1, h2, sp⟩ := h
  rw [wipe_length] at hl
  refine ⟨hp, by rw [restE_len]; exact hl, fun k => match k with | .inl i => if i ∈ vs then [] else fps (.inl i) | .inr j => fps (.inr j), fun i t e => ?_, h2, Sep.sub sp fun k => ?_⟩
  · dsimp only
    by_cases c : i ∈ vs
    · rw [if_pos c]
      obtain ⟨t', e1, e2⟩ := lights_at l c
      have := restE_at c e
      rw [List.getD_eq_getElem?_getD, e1, Option.getD_some] at this
      subst this
      obtain ⟨fp, z⟩ := h0.get e1
      cases t with
      | any => rfl
      | is v => obtain ⟨_, y, z1, z2⟩ := z; exact ⟨rfl, y, z1, RV.mono s z2⟩
      | rd v => obtain ⟨_, y, z1, z2⟩ := z; exact ⟨rfl, y, z1, by rw [eM, eF, eH]; exact z2⟩
      | own _ => cases e2
      | io _ => cases e2
      | lk _ => cases e2
    · rw [if_neg c]
      rw [restE_out c] at e
      have := h1 i t e
      rw [wipe_out c] at this
      exact this
  · cases k with
    | inl i =>
      dsimp only
      by_cases c : i ∈ vs
      · rw [if_pos c]; exact .inr rfl
      · rw [if_neg c]; exact .inl rfl
    | inr j => exact .inl rfl
/-- the list that is being made gets an item -/
theorem EOk.appT {ms : List MV} {Dl : Addr} (h : EOk K G ((B.push [.lst ms] [.ref Dl]).push [m] [x]) env σ F H) : ∃ xs, H Dl = some (.lst xs) ∧ xs.length = ms.length ∧ EOk K G (B.push [.lst (ms ++ [m])] [.ref Dl]) env σ F (upd H Dl (.lst (xs ++ [x]))) := by
  have hm := h.merge
  obtain ⟨fp, fps, r, nd, nf, d, h1, h2, sp⟩ := hm.top
  have hp : HeapOk B.M B.F0 B.H0 F H := h.hp
  have hl := h.len
  have r : RMs K G F H (.lst ms :: [m]) (.ref Dl :: [x]) fp := r
  unfold RMs at r
  obtain ⟨y, ys, f1, f2, e1, e2, r1, r2⟩ := r
  cases e1
  subst e2
  unfold RM at r1
  obtain ⟨a, xs, fr, ea, ef, eh, rs⟩ := r1
  cases ea
  subst ef
  have nfa := nf Dl (List.mem_append_left _ (List.mem_cons_self ..))
  rw [List.nodup_append] at nd
  have ne : ∀ b, b ≠ Dl → upd H Dl (.lst (xs ++ [x])) b = H b := fun b c => upd_ne c
  have d1 : ∀ b ∈ fr, b ≠ Dl := fun b hb c => (List.nodup_cons.mp nd.1).1 (by rw [← c]; exact hb)
  have d2 : ∀ b ∈ f2, b ≠ Dl := fun b hb c => nd.2.2 Dl (List.mem_cons_self ..) b hb c.symm
  have d3 : ∀ k b, b ∈ fps k → b ≠ Dl := fun k b hb c => d k Dl (List.mem_append_left _ (List.mem_cons_self ..)) (by rw [← c]; exact hb)
  refine ⟨xs, eh, RMs.len rs, ⟨fun b o nb e => ?_, fun b q => upd_some (hp.ht b q), hp.fs, fun b u q => ?_, hp.fr⟩, hl, up fps (.inr B.T.length) (Dl :: (fr ++ f2)), fun i s e => ?_, fun j p e => ?_, ?_⟩
  · have c : b ≠ Dl := fun c => by
      have e : B.H0 b = some o := e
      rw [c, nfa.2.2] at e; cases e
    rw [ne b c]; exact hp.hs b o nb e
  · have c : b ≠ Dl := fun c => by rw [c, nfa.1] at q; cases q
    rw [ne b c]; exact hp.fh b u q
  · rw [up_ne (by intro z; cases z)]
    exact SlotOk.toT (SlotOk.frame (Same.refl _) (fun b m => ne b (d3 _ b m)) (h1 i s e))
  · rcases push_get e with e | ⟨rfl, rfl⟩
    · rw [up_ne (inr_ne (lt_of_get e))]; exact ⟨RMs.frame (Same.refl _) (fun b m => ne b (d3 _ b m)) (h2 j p e).1, (h2 j p e).2⟩
    · rw [up_same]
      refine ⟨RMs.one (by unfold RM; exact ⟨Dl, xs ++ [x], fr ++ f2, rfl, rfl, upd_same, RMs.app (RMs.frame (Same.refl _) (fun b m => ne b (d1 b m)) rs) (RMs.frame (Same.refl _) (fun b m => ne b (d2 b m)) r2)⟩), fun b m => ?_⟩
      rcases List.mem_cons.mp m with m | m
      · rw [m]; exact nfa.2.2
      · rcases List.mem_append.mp m with m | m
        · exact (nf b (List.mem_append_left _ (List.mem_cons_of_mem _ m))).2.2
        · exact (nf b (List.mem_append_right _ m)).2.2
  · have sp' : Sep fps B F (upd H Dl (.lst (xs ++ [x]))) := ⟨sp.nd, sp.di, fun k b m => ⟨(sp.nf k b m).1, upd_some (sp.nf k b m).2.1, (sp.nf k b m).2.2⟩⟩
    have mem : ∀ b ∈ Dl :: (fr ++ f2), b ∈ (Dl :: fr) ++ f2 := fun b m => by rw [List.cons_append]; exact m
    have := Sep.up (k := .inr B.T.length) (f := Dl :: (fr ++ f2)) sp' (by rw [← List.cons_append]; exact List.nodup_append.mpr nd) (fun l b _ m => d l b (mem b m)) (fun b m => ⟨(nf b (mem b m)).1, upd_some (nf b (mem b m)).2.1, .inl (nf b (mem b m)).2.2⟩)
    exact ⟨this.nd, this.di, this.nf⟩
/-- a target that stores in vs alone -/
def TcOk (K : PySem.W.Frag) (G : Gs) (vs : List Nat) (g : TG) (f : Val → M Unit) : Prop := ∀ B F env σ H v x (Q : L2.St → Hp → Prop), EOk K G B env σ F H → RV K G F v x → Okk (f v env) (fun _ e' => ∀ σ', EOk K G B e' σ' F H → wipe σ' vs = wipe σ vs → Q σ' H) → g x σ H Q
def TcsOk (K : PySem.W.Frag) (G : Gs) (vs : List Nat) (g : TGs) (f : List (Val → M Unit)) : Prop := ∀ B F env σ H ws xs (Q : L2.St → Hp → Prop), EOk K G B env σ F H → RVs K G F ws xs → Okk (tgs f ws env) (fun _ e' => ∀ σ', EOk K G B e' σ' F H → wipe σ' vs = wipe σ vs → Q σ' H) → g xs σ H Q
theorem tc_name {i : Nat} (hi : i ∈ vs) : TcOk K G vs (gName i) (tgN i) := fun B F env σ H v x Q h0 rv ho => by
  unfold tgN setS at ho
  cases e : env[i]? with
  | none => rw [e] at ho; exact (show False from ho).elim
  | some s =>
    rw [e] at ho
    dsimp only at ho
    by_cases c : s.free = true
    · rw [if_pos c] at ho; exact ho _ (h0.setF rv e c) (wipe_set hi)
    · rw [if_neg c] at ho; exact (show False from ho).elim
theorem tcs_nil : TcsOk K G vs gNil [] := fun B F env σ H ws xs Q h0 rv ho => by
  cases ws with
  | nil => unfold RVs at rv; exact ⟨rv, ho _ h0 rfl⟩
  | cons v vs => exact (show False from ho).elim
theorem tcs_cons {g : TG} {u : TGs} {f : Val → M Unit} {fs : List (Val → M Unit)} (h1 : TcOk K G vs g f) (h2 : TcsOk K G vs u fs) : TcsOk K G vs (gCons g u) (f :: fs) := fun B F env σ H ws xs Q h0 rv ho => by
  cases ws with
  | nil => exact (show False from ho).elim
  | cons v ws =>
    unfold RVs at rv
    obtain ⟨x, ys, e, r1, r2⟩ := rv
    refine ⟨x, ys, e, h1 B F env σ H v x _ h0 r1 ((Okk.bindE ho).mono fun _ e1 _ ho σ' h' w1 => ?_)⟩
    exact h2 B F e1 σ' H ws ys Q h' r2 (ho.mono fun _ e2 _ ho σ2 h2 w2 => ho σ2 h2 (w2.trans w1))
theorem tc_tup {n : Nat} {u : TGs} {fs : List (Val → M Unit)} (h : TcsOk K G vs u fs) (hl : fs.length = n) : TcOk K G vs (gTup K n u) (tgT fs) := fun B F env σ H v x Q h0 rv ho => by
  cases v with
  | tup ws =>
    unfold RV at rv
    obtain ⟨a, xs, e, q, r⟩ := rv
    unfold tgT at ho
    dsimp only at ho
    split at ho
    · rename_i l
      exact ⟨a, xs, e, SqT.mono h0.hp.fh q, by rw [RVs.len r, l, hl], h B F env σ H ws xs Q h0 r ho⟩
    · exact (show False from ho).elim
  | _ => exact (show False from ho).elim
theorem sem_lc {g : TG} {f : Val → M Unit} {mi : M (List Val)} {mt : M Bool} {tt : TT} {Q : VK} (hg : TcOk K G vs g f) (htt : ∀ σ H Q, tB' K G E mt σ H Q → tt σ H Q) (h : tE K G E (lc vs f mi mt ma) σ H Q) : tLc (tI K G E mi) g tt (tE K G E ma) vs σ H Q := by
  obtain ⟨B, F, env, h0, ho⟩ := h
  refine ⟨B, F, env, h0, (Out.bindE ho).mono fun xs e1 _ ho F1 H1 J s1 h1 ⟨Gd, Y, W, hG, hY⟩ Dl hD => ?_⟩
  split at ho
  case isFalse => exact (show False from ho).elim
  rename_i hc
  obtain ⟨hlt, hsz⟩ := hc
  have hlen : ∀ i ∈ vs, i < e1.length := fun i hi => by obtain ⟨s, es, _⟩ := lights_at hlt hi; exact lt_at es
  have strt : Okk (lcL vs f mt ma xs (wipeE e1 vs)) fun ms e' => ∀ F' H', Same F1 F' → EOk K G (B.push [.lst ([] ++ ms)] [.ref Dl]) e' (wipe σ vs) F' H' → Q (.ref Dl) H' := by
    cases o : lcL vs f mt ma xs (wipeE e1 vs) with
    | ok ms e' =>
      rw [o] at ho
      exact fun F' H' s' h' => ho F' H' _ (s1.trans s') (EOk.back h1 rfl rfl rfl s' hlt h')
    | er x e => rw [o] at ho; exact (show False from ho).elim
    | no => rw [o] at ho; exact (show False from ho).elim
  have hw : EOk K G B (wipeE e1 vs) (wipe σ vs) F1 H1 := h1.wipe hlen
  refine lc_it W (fun i H2 => ∃ F2 e2 accM, Same F1 F2 ∧ accM.length ≤ i ∧ e2.length = e1.length ∧ EOk K G (B.push [.lst accM] [.ref Dl]) e2 (wipe σ vs) F2 H2 ∧
    Okk (lcL vs f mt ma (xs.drop i) e2) fun ms e' => ∀ F' H', Same F2 F' → EOk K G (B.push [.lst (accM ++ ms)] [.ref Dl]) e' (wipe σ vs) F' H' → Q (.ref Dl) H') ⟨F1, wipeE e1 vs, [], Same.refl _, Nat.le_refl _, wipeE_len, (hw.pushE.newL hD), strt⟩ ?_ ?_ ?_
  · rintro i H2 _ ⟨F2, e2, accM, s2, _, _, h2, _⟩
    exact hG (B.push [.lst accM] [.ref Dl]) e2 _ F2 H2 rfl rfl rfl s2 h2
  · rintro i v H2 H3 hi ⟨F2, e2, accM, s2, la, le, h2, ho⟩ hy
    have ex : xs[i]? = some xs[i] := List.getElem?_eq_getElem hi
    obtain ⟨F3, p3, rv⟩ := hY i _ (B.push [.lst accM] [.ref Dl]) e2 _ F2 H2 v H3 rfl rfl rfl s2 h2 ex hy
    rw [List.drop_eq_getElem_cons hi] at ho
    have h3 := (h2.step p3).wipe (vs := vs) fun j hj => by rw [le]; exact hlen j hj
    rw [wipe_idem] at h3
    have ho := Okk.bindE (show Okk ((f xs[i] (wipeE e2 vs)).bind _) _ from ho)
    refine hg _ F3 _ _ H3 _ v _ h3 rv (ho.mono fun _ e4 _ ho σ4 h4 w4 => ⟨w4.trans wipe_idem, ?_⟩)
    have le4 : e4.length = e1.length := by rw [← h4.len, ← h1.len, ← wipe_length σ4 vs, w4, wipe_length, wipe_length]
    have ho := Okk.bindE (show Okk ((mt e4).bind _) _ from ho)
    refine htt _ _ _ ⟨_, F3, e4, h4, ho.out.mono fun b e5 _ ho F5 H5 s5 h5 => ?_⟩
    have le5 : e5.length = e1.length := by rw [← h5.len, ← h1.len, ← wipe_length σ4 vs, w4, wipe_length, wipe_length]
    have wp : ∀ {B2 : Bs} {e6 : Env} {F6 H6 : Hp}, EOk K G B2 e6 σ4 F6 H6 → EOk K G B2 (wipeE e6 vs) (wipe σ vs) F6 H6 := fun {B2 e6 F6 H6} h6 => by
      have := h6.wipe (vs := vs) fun j hj => by
        have : e6.length = e1.length := by rw [← h6.len, ← h1.len, ← wipe_length σ4 vs, w4, wipe_length, wipe_length]
        rw [this]; exact hlen j hj
      rw [w4, wipe_idem] at this
      exact this
    have wl : ∀ (ys : List Val) (e6 : Env) (q : List MV → Env → Prop), Okk (lcL vs f mt ma ys e6) q → (∀ j ∈ vs, j < e6.length) → Okk (lcL vs f mt ma ys (wipeE e6 vs)) q := fun ys e6 q h hl => by
      have ww : wipeE (wipeE e6 vs) vs = wipeE e6 vs := wipeE_idem
      cases ys with
      | nil => show Okk (.ok [] (wipeE (wipeE e6 vs) vs)) q; rw [ww]; exact h
      | cons y ys => unfold lcL at h ⊢; rw [ww]; exact h
    cases b with
    | false =>
      dsimp only
      rw [if_neg Bool.false_ne_true]
      refine ⟨F5, wipeE e5 vs, accM, s2.trans (p3.fs.trans s5), Nat.le_succ_of_le la, by rw [wipeE_len]; exact le5, wp h5, wl _ _ _ (Okk.mono ho fun ms e' _ ho F' H' s' h' => ho F' H' (p3.fs.trans (s5.trans s')) h') fun j hj => by rw [le5]; exact hlen j hj⟩
    | true =>
      dsimp only
      rw [if_pos rfl]
      have ho := Okk.bindE (show Okk ((ma e5).bind _) _ from ho)
      refine ⟨_, F5, e5, h5, ho.out.mono fun m e6 _ ho F6 H6 y s6 h6 => ?_⟩
      obtain ⟨acc, eh, el, h7⟩ := h6.appT
      have le6 : e6.length = e1.length := by rw [← h6.len, ← h1.len, ← wipe_length σ4 vs, w4, wipe_length, wipe_length]
      refine ⟨acc, eh, ?_, F6, wipeE e6 vs, accM ++ [m], s2.trans (p3.fs.trans (s5.trans s6)), ?_, by rw [wipeE_len]; exact le6, wp h7, ?_⟩
      · have : (16777216 : Nat) = sizeLine := rfl
        omega
      · rw [List.length_append]; exact Nat.add_le_add_right la 1
      · have ho := Okk.bindE (show Okk ((lcL vs f mt ma (xs.drop (i + 1)) e6).bind _) _ from ho)
        refine wl _ _ _ (ho.mono fun ms e' _ ho F' H' s' h' => ?_) fun j hj => by rw [le6]; exact hlen j hj
        rw [List.append_assoc] at h'
        exact ho F' H' (p3.fs.trans (s5.trans (s6.trans s'))) h'
  · rintro H2 ⟨F2, e2, accM, s2, _, le, h2, ho⟩
    rw [List.drop_length] at ho
    have h3 := h2.wipe (vs := vs) fun j hj => by rw [le]; exact hlen j hj
    rw [wipe_idem] at h3
    exact ho F2 H2 (Same.refl _) (by rw [List.append_nil]; exact h3)
theorem sem_true {Q : Bool → Hp → Prop} (h : tB' K G E tTrue σ H Q) : tYes σ H Q := by
  obtain ⟨B, F, env, h0, ho⟩ := h
  exact ho F H (Same.refl _) h0
theorem z_lc {g : TG} {f : Val → M Unit} {mi : M (List Val)} {mt : M Bool} (hg : TcOk X.K G vs g f) (hp : PE X e (tLc (tI X.K G E mi) g (tB' X.K G E mt) (tE X.K G E ma) vs)) : PE X e (tE X.K G E (lc vs f mi mt ma)) := PEi hp fun σ H Q => sem_lc hg fun _ _ _ h => h
theorem z_lc1 {g : TG} {f : Val → M Unit} {mi : M (List Val)} (hg : TcOk X.K G vs g f) (hp : PE X e (tLc (tI X.K G E mi) g tYes (tE X.K G E ma) vs)) : PE X e (tE X.K G E (lc vs f mi tTrue ma)) := PEi hp fun σ H Q => sem_lc hg fun _ _ _ => sem_true
theorem z_setLc {i : Nat} {g : TG} {f : Val → M Unit} {mi : M (List Val)} {mt : M Bool} (hg : TcOk X.K G vs g f) (hp : PS X st (tAsg (tLc (tI X.K G E mi) g (tB' X.K G E mt) (tE X.K G E ma) vs) (gName i))) : PS X st (tS X.K G E (sSet i (lc vs f mi mt ma))) :=
  z_set (PSi hp fun D σ H h => sem_lc hg (fun _ _ _ h => h) h)
theorem z_setLc1 {i : Nat} {g : TG} {f : Val → M Unit} {mi : M (List Val)} (hg : TcOk X.K G vs g f) (hp : PS X st (tAsg (tLc (tI X.K G E mi) g tYes (tE X.K G E ma) vs) (gName i))) : PS X st (tS X.K G E (sSet i (lc vs f mi tTrue ma))) :=
  z_set (PSi hp fun D σ H h => sem_lc hg (fun _ _ _ => sem_true) h)
theorem z_setLcF {i : Nat} {g : TG} {f : Val → M Unit} {mi : M (List Val)} {mt : M Bool} (hg : TcOk X.K G vs g f) (hp : PS X st (tAsg (tLc (tI X.K G E mi) g (tB' X.K G E mt) (tE X.K G E ma) vs) (gName i))) : PS X st (tS X.K G E (sSetF i (lc vs f mi mt ma))) :=
  z_setF (PSi hp fun D σ H h => sem_lc hg (fun _ _ _ h => h) h)
theorem z_setLcF1 {i : Nat} {g : TG} {f : Val → M Unit} {mi : M (List Val)} (hg : TcOk X.K G vs g f) (hp : PS X st (tAsg (tLc (tI X.K G E mi) g tYes (tE X.K G E ma) vs) (gName i))) : PS X st (tS X.K G E (sSetF i (lc vs f mi tTrue ma))) :=
  z_setF (PSi hp fun D σ H h => sem_lc hg (fun _ _ _ => sem_true) h)
end
end Z
set_option maxHeartbeats 1000000
namespace Z
open PySem PySem.Spec L2
/-! ### calls -/
inductive Arg where
  | v (v : Val) | io (m : MV)
inductive Md where
  | d | r | io
  deriving DecidableEq
inductive FO where
  | ok (r : MV) (outs : List MV) | er (x : Ex) (outs : List MV) | no
structure Fn where
  md : List Md
  ns : Nat
  body : M Ctl
def argSV : Md → Arg → Option SV
  | .d, .v v => some (.is v)
  | .r, .v v => some (.rd v)
  | .io, .io m => some (.io m)
  | _, _ => none
def entry : List Md → List Arg → Option Env
  | [], [] => some []
  | d :: ds, a :: as => match argSV d a with
    | some s => (entry ds as).map (s :: ·)
    | none => none
  | _, _ => none
def outsOf : List Md → Env → Option (List MV)
  | [], _ => some []
  | .io :: ds, .io m :: e => (outsOf ds e).map (m :: ·)
  | .d :: ds, _ :: e => outsOf ds e
  | .r :: ds, _ :: e => outsOf ds e
  | _, _ => none
def Fn.run (f : Fn) (as : List Arg) : FO := match entry f.md as with
  | some e0 => match f.body (e0 ++ List.replicate (f.ns - f.md.length) .any) with
    | .ok (.rt m) e => match outsOf f.md e with
      | some outs => .ok m outs
      | none => .no
    | .ok .nx e => match outsOf f.md e with
      | some outs => .ok (.f .non) outs
      | none => .no
    | .er x e => match outsOf f.md e with
      | some outs => .er x outs
      | none => .no
    | _ => .no
  | none => .no
def MV.flat : MV → Option Val
  | .f v => some v
  | .lst ms => (allF ms).map .lst
  | .ins c ms => (allF ms).map (.ins c)
def bindA (e : Env) : Md → Ag → Option Arg
  | .d, .v v => some (.v v)
  | .r, .v v => some (.v v)
  | .r, .s i => match e[i]? with
    | some s => match s.read with
      | some m => m.flat.map .v
      | none => none
    | none => none
  | .io, .s i => match e[i]? with
    | some s => s.mut.map .io
    | none => none
  | _, _ => none
def bindAs (e : Env) : List Md → List Ag → Option (List Arg)
  | [], [] => some []
  | d :: ds, a :: as => match bindA e d a with
    | some x => (bindAs e ds as).map (x :: ·)
    | none => none
  | _, _ => none
/-- the slots that a call may change; those that it reads -/
def ios : List Md → List Ag → List Nat
  | .io :: ds, .s i :: as => i :: ios ds as
  | _ :: ds, _ :: as => ios ds as
  | _, _ => []
def rds : List Md → List Ag → List Nat
  | .r :: ds, .s i :: as => i :: rds ds as
  | _ :: ds, _ :: as => rds ds as
  | _, _ => []
def putAll : Env → List Nat → List MV → Env
  | e, i :: is, m :: ms => putAll (match e[i]? with
    | some s => e.set i (s.put m)
    | none => e) is ms
  | e, _, _ => e
def apart (is js : List Nat) : Bool := decide is.Nodup && is.all fun i => !js.contains i
def callG (f : Fn) (gs : List Ag) : M MV := fun e => match bindAs e f.md gs with
  | some as => if apart (ios f.md gs) (rds f.md gs) then match f.run as with
    | .ok r outs => .ok r (putAll e (ios f.md gs) outs)
    | .er x outs => .er x (putAll e (ios f.md gs) outs)
    | .no => .no
  else .no
  | none => .no
def call (f : Fn) (dvs : List Val) (as : M (List Ag)) : M MV := do
  let gs ← as
  callG f (gs ++ dvs.map .v)
section
variable (K : PySem.W.Frag) (G : Gs)
def ArgsOk (F H : Hp) (M : List Addr) : List Md → List Arg → List V → List (V × MV × List Addr) → Prop
  | [], [], [], L => L = []
  | .d :: ds, .v v :: as, x :: xs, L => RV K G F v x ∧ ArgsOk F H M ds as xs L
  | .r :: ds, .v v :: as, x :: xs, L => RR K G M F H v x ∧ ArgsOk F H M ds as xs L
  | .io :: ds, .io m :: as, x :: xs, L => ∃ f L', L = (x, m, f) :: L' ∧ RM K G F H m x f ∧ ArgsOk F H M ds as xs L'
  | _, _, _, _ => False
def OutsOk (H0 F H : Hp) : List (V × MV × List Addr) → List MV → List (List Addr) → Prop
  | [], ms, gs => ms = [] ∧ gs = []
  | p :: L, ms, gs => ∃ m ms' g gs', ms = m :: ms' ∧ gs = g :: gs' ∧ RM K G F H m p.1 g ∧ (∀ a ∈ g, F a = none ∧ H a ≠ none ∧ (H0 a = none ∨ a ∈ p.2.2)) ∧ OutsOk H0 F H L ms' gs'
abbrev fpsOf (L : List (V × MV × List Addr)) : List Addr := (L.map fun p => p.2.2).flatten
def RunK (F H : Hp) (L : List (V × MV × List Addr)) (Q : VK) (E : XK) : FO → Prop
  | .ok r outs => ∀ F' H' x fr gs, HeapOk (fpsOf L) F H F' H' → OutsOk K G H F' H' L outs gs → RM K G F' H' r x fr → (fr ++ gs.flatten).Nodup → (∀ a ∈ fr, F' a = none ∧ H' a ≠ none ∧ H a = none) → Q x H'
  | .er ex outs => ∀ F' H' cls d gs, HeapOk (fpsOf L) F H F' H' → OutsOk K G H F' H' L outs gs → gs.flatten.Nodup → ExAt K G F' H' ex cls d → E cls d H'
  | .no => False
def spZ (f : Fn) : Sp := fun vs H Q E => ∃ as L F, Same F H ∧ ArgsOk K G F H (fpsOf L) f.md as vs L ∧ (fpsOf L).Nodup ∧ (∀ a ∈ fpsOf L, F a = none ∧ H a ≠ none) ∧ RunK K G F H L Q E (f.run as)
end
section
variable {K : PySem.W.Frag} {G : Gs} {E : XK} {B : Bs} {env : Env} {σ : L2.St} {F H F' H' : Hp} {α β : Type} {m m1 m2 : MV} {x y : V} {v w : Val} {f : Fn}
theorem ArgsOk.len {M : List Addr} : ∀ {ds : List Md} {as : List Arg} {xs : List V} {L : List (V × MV × List Addr)}, ArgsOk K G F H M ds as xs L → xs.length = ds.length
  | [], [], [], _, _ => rfl
  | .d :: ds, .v v :: as, x :: xs, L, h => by rw [List.length_cons, List.length_cons, ArgsOk.len h.2]
  | .r :: ds, .v v :: as, x :: xs, L, h => by rw [List.length_cons, List.length_cons, ArgsOk.len h.2]
  | .io :: ds, .io m :: as, x :: xs, L, h => by obtain ⟨_, _, _, _, h⟩ := h; rw [List.length_cons, List.length_cons, ArgsOk.len h]
  | [], _ :: _, _, _, h => h.elim
  | [], [], _ :: _, _, h => h.elim
  | .d :: _, [], _, _, h => h.elim
  | .d :: _, .io _ :: _, _, _, h => h.elim
  | .d :: _, .v _ :: _, [], _, h => h.elim
  | .r :: _, [], _, _, h => h.elim
  | .r :: _, .io _ :: _, _, _, h => h.elim
  | .r :: _, .v _ :: _, [], _, h => h.elim
  | .io :: _, [], _, _, h => h.elim
  | .io :: _, .v _ :: _, _, _, h => h.elim
  | .io :: _, .io _ :: _, [], _, h => h.elim
/-- the slots' side of a call: what the changed lists are -/
def SlotsAt (env : Env) (σ : L2.St) (fps : Nat ⊕ Nat → List Addr) : List Nat → List (V × MV × List Addr) → Prop
  | [], L => L = []
  | i :: is, L => ∃ x m s L', L = (x, m, fps (.inl i)) :: L' ∧ σ[i]? = some (some x) ∧ env[i]? = some s ∧ s.mut = some m ∧ SlotsAt env σ fps is L'
theorem RR.of (s : Same F H) {M : List Addr} (h : RV K G F v x) : RR K G M F H v x := .inl h
theorem RMs.allF : ∀ {ms : List MV} {vs : List Val} {xs : List V} {fp : List Addr}, RMs K G F H ms xs fp → Z.allF ms = some vs → RVs K G F vs xs := fun h e => RMs.all h e
/-- what a slot lends -/
theorem lend {i : Nat} {s : SV} {fps : Nat ⊕ Nat → List Addr} {M : List Addr} (hp : HeapOk B.M B.F0 B.H0 F H) (z : SlotOk K G B F H i s (some x) (fps (.inl i))) (nf : ∀ a ∈ fps (.inl i), a ∉ M) (hM : ∀ a ∈ M, B.H0 a = none ∨ a ∈ B.M) (er : s.read = some m) (ef : m.flat = some v) : RR K G M F H v x := by
  have own : ∀ {n : MV}, RM K G F H n x (fps (.inl i)) → n.flat = some v → RR K G M F H v x := by
    intro n h ef
    cases n with
    | f w => cases ef; unfold RM at h; exact .inl h.2
    | lst ms =>
      have ef : (allF ms).map Val.lst = some v := ef
      cases e2 : allF ms with
      | none => rw [e2] at ef; cases ef
      | some ws =>
        rw [e2] at ef; cases ef
        unfold RM at h
        obtain ⟨a, xs, fr, e1, e3, q, r⟩ := h
        exact .inr (.inl ⟨a, ws, xs, rfl, e1, nf a (by rw [e3]; exact List.mem_cons_self ..), q, RMs.all r e2⟩)
    | ins c ms =>
      have ef : (allF ms).map (Val.ins c) = some v := ef
      cases e2 : allF ms with
      | none => rw [e2] at ef; cases ef
      | some ws =>
        rw [e2] at ef; cases ef
        unfold RM at h
        obtain ⟨a, dx, xs, fr, e1, e3, q, l, r⟩ := h
        exact .inr (.inr ⟨a, c, dx, ws, xs, rfl, e1, nf a (by rw [e3]; exact List.mem_cons_self ..), q, by have := allF_vals e2; rw [← this, MV.vals_eq, List.length_map]; exact l, RMs.all r e2⟩)
  cases s with
  | any => cases er
  | is w => cases er; cases ef; obtain ⟨_, y, e1, e2⟩ := z; cases e1; exact .inl e2
  | rd w =>
    cases er; cases ef
    obtain ⟨_, y, e1, e2⟩ := z
    cases e1
    have nM : ∀ a, a ∉ B.M → B.H0 a ≠ none → a ∉ M := fun a n1 n2 n3 => by
      rcases hM a n3 with q | q
      · exact n2 q
      · exact n1 q
    rcases e2 with e2 | ⟨a, vs, ys, e3, e4, n, eh, r⟩ | ⟨a, c, dx, vs, ys, e3, e4, n, eh, l, r⟩
    · exact .inl (RV.mono hp.fs e2)
    · exact .inr (.inl ⟨a, vs, ys, e3, e4, nM a n (by rw [eh]; exact Option.some_ne_none _), hp.hs _ _ n eh, RVs.mono hp.fs r⟩)
    · exact .inr (.inr ⟨a, c, dx, vs, ys, e3, e4, nM a n (by rw [eh]; exact Option.some_ne_none _), hp.hs _ _ n eh, l, RVs.mono hp.fs r⟩)
  | own n => cases er; obtain ⟨⟨y, e1, e2⟩, _⟩ := z; cases e1; exact own e2 ef
  | io n => cases er; obtain ⟨⟨y, e1, e2⟩, _⟩ := z; cases e1; exact own e2 ef
  | lk n => cases er; obtain ⟨⟨y, e1, e2⟩, _⟩ := z; cases e1; exact own e2 ef
theorem args_of {fps : Nat ⊕ Nat → List Addr} {M : List Addr} (hp : HeapOk B.M B.F0 B.H0 F H) (h1 : ∀ i s, env[i]? = some s → SlotOk K G B F H i s (σ[i]?.join) (fps (.inl i))) (hM : ∀ a ∈ M, B.H0 a = none ∨ a ∈ B.M) :
    ∀ {ds : List Md} {gs : List Ag} {as : List Arg} {xs : List V}, bindAs env ds gs = some as → AgsAt K G F σ gs xs → (∀ i ∈ rds ds gs, ∀ a ∈ fps (.inl i), a ∉ M) →
      ∃ L, SlotsAt env σ fps (ios ds gs) L ∧ ArgsOk K G F H M ds as xs L
  | [], [], as, xs, e, ha, _ => by cases e; exact ⟨[], rfl, by rw [show xs = [] from ha]; exact rfl⟩
  | d :: ds, g :: gs, as, xs, e, ha, hr => by
    unfold bindAs at e
    cases e1 : bindA env d g with
    | none => rw [e1] at e; cases e
    | some a =>
      rw [e1] at e
      dsimp only at e
      cases e2 : bindAs env ds gs with
      | none => rw [e2] at e; cases e
      | some as' =>
        rw [e2] at e
        cases e
        obtain ⟨y, ys, rfl, ha1, ha2⟩ := ha
        cases d with
        | d =>
          cases g with
          | v v =>
            cases e1
            obtain ⟨L, l1, l2⟩ := args_of hp h1 hM e2 ha2 (fun i hi => hr i hi)
            exact ⟨L, l1, ha1, l2⟩
          | s i => cases e1
        | r =>
          cases g with
          | v v =>
            cases e1
            obtain ⟨L, l1, l2⟩ := args_of hp h1 hM e2 ha2 (fun i hi => hr i hi)
            exact ⟨L, l1, .inl ha1, l2⟩
          | s i =>
            obtain ⟨L, l1, l2⟩ := args_of hp h1 hM e2 ha2 (fun j hj => hr j (List.mem_cons_of_mem _ hj))
            unfold bindA at e1
            dsimp only at e1
            cases es : env[i]? with
            | none => rw [es] at e1; cases e1
            | some s =>
              rw [es] at e1
              dsimp only at e1
              cases er : s.read with
              | none => rw [er] at e1; cases e1
              | some m =>
                rw [er] at e1
                dsimp only at e1
                cases ef : m.flat with
                | none => rw [ef] at e1; cases e1
                | some v =>
                  rw [ef] at e1
                  cases e1
                  have z := h1 i s es
                  rw [join_of (show σ[i]? = some (some y) from ha1)] at z
                  exact ⟨L, l1, lend hp z (hr i (List.mem_cons_self ..)) hM er ef, l2⟩
        | io =>
          cases g with
          | v v => cases e1
          | s i =>
            obtain ⟨L, l1, l2⟩ := args_of hp h1 hM e2 ha2 (fun j hj => hr j hj)
            unfold bindA at e1
            dsimp only at e1
            cases es : env[i]? with
            | none => rw [es] at e1; cases e1
            | some s =>
              rw [es] at e1
              dsimp only at e1
              cases er : s.mut with
              | none => rw [er] at e1; cases e1
              | some m =>
                rw [er] at e1
                cases e1
                have z := h1 i s es
                obtain ⟨y', ey, rm⟩ := z.mutE er
                rw [join_of (show σ[i]? = some (some y) from ha1)] at ey
                cases ey
                exact ⟨(y, m, fps (.inl i)) :: L, ⟨y, m, s, L, rfl, ha1, es, er, l1⟩, fps (.inl i), L, rfl, rm, l2⟩
  | [], _ :: _, _, _, e, _, _ => by cases e
  | _ :: _, [], _, _, e, _, _ => by cases e
end
end Z
set_option maxHeartbeats 1000000
namespace Z
open PySem PySem.Spec L2
section
variable {K : PySem.W.Frag} {G : Gs} {E : XK} {B : Bs} {env : Env} {σ : L2.St} {F H F' H' : Hp} {α β : Type} {m m1 m2 : MV} {x y : V} {v w : Val} {f : Fn}
theorem putAll_out {j : Nat} : ∀ {is : List Nat} {ms : List MV} {env : Env}, j ∉ is → (putAll env is ms)[j]? = env[j]?
  | [], _, _, _ => rfl
  | _ :: _, [], _, _ => rfl
  | i :: is, m :: ms, env, h => by
    rw [List.mem_cons, not_or] at h
    unfold putAll
    rw [putAll_out h.2]
    split
    · rw [List.getElem?_set, if_neg (fun e => h.1 e.symm)]
    · rfl
theorem putAll_len : ∀ {is : List Nat} {ms : List MV} {env : Env}, (putAll env is ms).length = env.length
  | [], _, _ => rfl
  | _ :: _, [], _ => rfl
  | i :: is, m :: ms, env => by
    unfold putAll
    rw [putAll_len]
    split
    · rw [List.length_set]
    · rfl
theorem putAll_at : ∀ {is : List Nat} {ms : List MV} {env : Env} {k j : Nat} {m : MV} {s : SV}, is.Nodup → is[k]? = some j → ms[k]? = some m → env[j]? = some s → (putAll env is ms)[j]? = some (s.put m)
  | [], _, _, k, _, _, _, _, e, _, _ => by simp at e
  | _ :: _, [], _, k, _, _, _, _, _, e, _ => by simp at e
  | i :: is, m :: ms, env, 0, j, n, s, nd, e1, e2, e3 => by
    simp at e1 e2; subst e1 e2
    unfold putAll
    rw [putAll_out (List.nodup_cons.mp nd).1, e3]
    dsimp only
    rw [List.getElem?_set, if_pos rfl, if_pos (lt_at e3)]
  | i :: is, m :: ms, env, k + 1, j, n, s, nd, e1, e2, e3 => by
    simp at e1 e2
    unfold putAll
    refine putAll_at (k := k) (List.nodup_cons.mp nd).2 e1 e2 ?_
    have ne : i ≠ j := fun c => (List.nodup_cons.mp nd).1 (by rw [c]; exact List.mem_of_getElem? e1)
    split
    · rw [List.getElem?_set, if_neg ne]; exact e3
    · exact e3
/-- the place of j among the changed -/
def pos (is : List Nat) (j : Nat) : Option Nat := match is with
  | [] => none
  | i :: r => if i = j then some 0 else (pos r j).map (· + 1)
theorem pos_some : ∀ {is : List Nat} {j k : Nat}, pos is j = some k → is[k]? = some j
  | [], _, _, h => by cases h
  | i :: r, j, k, h => by
    unfold pos at h
    split at h
    · rename_i e; cases h; rw [e]; rfl
    · cases e : pos r j with
      | none => rw [e] at h; cases h
      | some n => rw [e] at h; cases h; simpa using pos_some e
theorem pos_none : ∀ {is : List Nat} {j : Nat}, pos is j = none → j ∉ is
  | [], _, _ => List.not_mem_nil
  | i :: r, j, h => by
    unfold pos at h
    split at h
    · cases h
    · rename_i ne
      cases e : pos r j with
      | some n => rw [e] at h; cases h
      | none => rw [List.mem_cons, not_or]; exact ⟨fun c => ne c.symm, pos_none e⟩
theorem OutsOk.at {H0 : Hp} : ∀ {L : List (V × MV × List Addr)} {ms : List MV} {gs : List (List Addr)} {k : Nat} {p : V × MV × List Addr}, OutsOk K G H0 F H L ms gs → L[k]? = some p → ∃ m g, ms[k]? = some m ∧ gs[k]? = some g ∧ RM K G F H m p.1 g ∧ ∀ a ∈ g, F a = none ∧ H a ≠ none ∧ (H0 a = none ∨ a ∈ p.2.2)
  | [], _, _, k, p, _, e => by simp at e
  | q :: L, _, _, 0, p, h, e => by
    obtain ⟨m, ms', g, gs', rfl, rfl, h1, h3, _⟩ := h
    simp at e; subst e
    exact ⟨m, g, rfl, rfl, h1, h3⟩
  | q :: L, _, _, k + 1, p, h, e => by
    obtain ⟨m, ms', g, gs', rfl, rfl, _, _, h2⟩ := h
    obtain ⟨m', g', e1, e2, e3⟩ := OutsOk.at h2 (by simpa using e)
    exact ⟨m', g', by simpa using e1, by simpa using e2, e3⟩
theorem OutsOk.mem {H0 : Hp} : ∀ {L : List (V × MV × List Addr)} {ms : List MV} {gs : List (List Addr)} {a : Addr}, OutsOk K G H0 F H L ms gs → a ∈ gs.flatten → F a = none ∧ H a ≠ none ∧ (H0 a = none ∨ a ∈ fpsOf L)
  | [], _, _, a, h, e => by rw [h.2] at e; cases e
  | q :: L, _, _, a, h, e => by
    obtain ⟨m, ms', g, gs', rfl, rfl, h1, h3, h2⟩ := h
    rw [List.flatten_cons] at e
    rcases List.mem_append.mp e with e | e
    · obtain ⟨z1, z2, z3⟩ := h3 a e
      exact ⟨z1, z2, z3.imp id fun z => List.mem_append_left _ z⟩
    · obtain ⟨z1, z2, z3⟩ := OutsOk.mem h2 e
      exact ⟨z1, z2, z3.imp id fun z => List.mem_append_right _ z⟩
theorem SlotsAt.at {fps : Nat ⊕ Nat → List Addr} : ∀ {is : List Nat} {L : List (V × MV × List Addr)} {k j : Nat}, SlotsAt env σ fps is L → is[k]? = some j → ∃ x m s, L[k]? = some (x, m, fps (.inl j)) ∧ σ[j]? = some (some x) ∧ env[j]? = some s ∧ s.mut = some m
  | [], _, k, j, _, e => by simp at e
  | i :: is, _, 0, j, h, e => by
    obtain ⟨x, m, s, L', rfl, h1, h2, h3, _⟩ := h
    simp at e; subst e
    exact ⟨x, m, s, rfl, h1, h2, h3⟩
  | i :: is, _, k + 1, j, h, e => by
    obtain ⟨x, m, s, L', rfl, _, _, _, h4⟩ := h
    obtain ⟨x', m', s', e1, e2, e3, e4⟩ := SlotsAt.at h4 (by simpa using e)
    exact ⟨x', m', s', by simpa using e1, e2, e3, e4⟩
theorem SlotsAt.eq {fps : Nat ⊕ Nat → List Addr} : ∀ {is : List Nat} {L L0 : List (V × MV × List Addr)}, SlotsAt env σ fps is L → SlotsAt env σ fps is L0 → L = L0
  | [], L, L0, l1, l0 => by rw [show L = [] from l1, show L0 = [] from l0]
  | i :: is, L, L0, l1, l0 => by
    obtain ⟨x, m, s, L', rfl, a1, a2, a3, a4⟩ := l0
    obtain ⟨x', m', s', L'', rfl, b1, b2, b3, b4⟩ := l1
    rw [a1] at b1; cases b1
    rw [a2] at b2; cases b2
    rw [a3] at b3; cases b3
    rw [SlotsAt.eq b4 a4]
theorem SlotsAt.mem {fps : Nat ⊕ Nat → List Addr} : ∀ {is : List Nat} {L : List (V × MV × List Addr)}, SlotsAt env σ fps is L → ∀ a, a ∈ fpsOf L ↔ ∃ i ∈ is, a ∈ fps (.inl i)
  | [], L, h, a => by rw [show L = [] from h]; simp
  | i :: is, _, h, a => by
    obtain ⟨x, m, s, L', rfl, _, _, _, h4⟩ := h
    have ih := SlotsAt.mem h4 a
    simp only [fpsOf, List.map_cons, List.flatten_cons, List.mem_append, List.mem_cons] at ih ⊢
    rw [ih]
    constructor
    · rintro (h | ⟨j, h1, h2⟩)
      · exact ⟨i, .inl rfl, h⟩
      · exact ⟨j, .inr h1, h2⟩
    · rintro ⟨j, h1 | h1, h2⟩
      · subst h1; exact .inl h2
      · exact .inr ⟨j, h1, h2⟩
theorem SlotsAt.nodup {fps : Nat ⊕ Nat → List Addr} (sp : Sep fps B F H) : ∀ {is : List Nat} {L : List (V × MV × List Addr)}, SlotsAt env σ fps is L → is.Nodup → (fpsOf L).Nodup
  | [], L, h, _ => by rw [show L = [] from h]; exact List.nodup_nil
  | i :: is, _, h, nd => by
    have h' := h
    obtain ⟨x, m, s, L', rfl, _, _, _, h4⟩ := h
    have ih := SlotsAt.nodup sp h4 (List.nodup_cons.mp nd).2
    show (fps (.inl i) ++ fpsOf L').Nodup
    refine List.nodup_append.mpr ⟨sp.nd _, ih, fun a ha b hb e => ?_⟩
    subst e
    obtain ⟨j, j1, j2⟩ := (h4.mem a).mp hb
    have := sp.di _ _ a ha j2
    cases this
    exact (List.nodup_cons.mp nd).1 j1
theorem mem_flat {gs : List (List Addr)} {k : Nat} {g : List Addr} {a : Addr} (e : gs[k]? = some g) (h : a ∈ g) : a ∈ gs.flatten := List.mem_flatten.mpr ⟨g, List.mem_of_getElem? e, h⟩
theorem flat_apart : ∀ {gs : List (List Addr)} {k l : Nat} {g g' : List Addr} {a : Addr}, gs.flatten.Nodup → gs[k]? = some g → gs[l]? = some g' → a ∈ g → a ∈ g' → k = l
  | [], k, l, g, g', a, _, e, _, _, _ => by simp at e
  | h :: r, 0, 0, _, _, _, _, _, _, _, _ => rfl
  | h :: r, 0, l + 1, g, g', a, nd, e1, e2, m1, m2 => by
    rw [List.flatten_cons, List.nodup_append] at nd
    simp at e1; subst e1
    exact absurd rfl (nd.2.2 a m1 a (mem_flat (k := l) (by simpa using e2) m2))
  | h :: r, k + 1, 0, g, g', a, nd, e1, e2, m1, m2 => by
    rw [List.flatten_cons, List.nodup_append] at nd
    simp at e2; subst e2
    exact absurd rfl (nd.2.2 a m2 a (mem_flat (k := k) (by simpa using e1) m1))
  | h :: r, k + 1, l + 1, g, g', a, nd, e1, e2, m1, m2 => by
    rw [List.flatten_cons, List.nodup_append] at nd
    rw [flat_apart (k := k) (l := l) nd.2.1 (by simpa using e1) (by simpa using e2) m1 m2]
theorem flat_nd {gs : List (List Addr)} {k : Nat} {g : List Addr} (nd : gs.flatten.Nodup) (e : gs[k]? = some g) : g.Nodup := by
  induction gs generalizing k with
  | nil => simp at e
  | cons h r ih =>
    rw [List.flatten_cons, List.nodup_append] at nd
    cases k with
    | zero => simp at e; subst e; exact nd.1
    | succ k => exact ih nd.2.1 (by simpa using e)
theorem SlotOk.putI {i : Nat} {s : SV} {o : Option V} {fp g : List Addr} (h : SlotOk K G B F H i s o fp) (em : s.mut = some m) (eo : o = some x) (r : RM K G F' H' m' x g) (n : ∀ a ∈ g, B.H0 a = none ∨ a ∈ fp) : SlotOk K G B F' H' i (s.put m') o g := by
  cases s with
  | any => cases em
  | is v => cases em
  | rd v => cases em
  | lk n => cases em
  | own k => exact ⟨⟨x, eo, r⟩, fun a ma => (n a ma).elim id (h.2 a)⟩
  | io k => exact ⟨⟨x, eo, r⟩, h.2.1, fun a ma => (n a ma).elim .inl (h.2.2 a)⟩
/-- the state behind a call -/
theorem EOk.called {fps : Nat ⊕ Nat → List Addr} {is : List Nat} {L : List (V × MV × List Addr)} {outs : List MV} {gs : List (List Addr)} {rs : List MV} {xs : List V} {fr : List Addr} (hp : HeapOk B.M B.F0 B.H0 F H) (hl : σ.length = env.length)
    (h1 : ∀ i s, env[i]? = some s → SlotOk K G B F H i s (σ[i]?.join) (fps (.inl i))) (h2 : ∀ (j : Nat) p, B.T[j]? = some p → RMs K G F H p.1 p.2 (fps (.inr j)) ∧ ∀ a ∈ fps (.inr j), B.H0 a = none) (sp : Sep fps B F H)
    (hs : SlotsAt env σ fps is L) (nd : is.Nodup) (hk : HeapOk (fpsOf L) F H F' H') (ho : OutsOk K G H F' H' L outs gs) (hr : RMs K G F' H' rs xs fr) (nn : (fr ++ gs.flatten).Nodup) (nr : ∀ a ∈ fr, F' a = none ∧ H' a ≠ none ∧ H a = none) :
    EOk K G (B.push rs xs) (putAll env is outs) σ F' H' := by
  have nn' := List.nodup_append.mp nn
  have ng : ∀ a ∈ gs.flatten, F' a = none ∧ H' a ≠ none ∧ (H a = none ∨ a ∈ fpsOf L) := fun a m => ho.mem m
  have inM : ∀ a, a ∈ fpsOf L → B.H0 a = none ∨ a ∈ B.M := fun a m => by
    obtain ⟨i, _, m2⟩ := (hs.mem a).mp m
    exact (sp.nf _ a m2).2.2
  have h0n : ∀ a, H a = none → B.H0 a = none := fun a n => by
    cases z : B.H0 a with
    | none => rfl
    | some u => exact absurd n (hp.ht a (by rw [z]; exact Option.some_ne_none u))
  have keep : ∀ k, (∀ i ∈ is, k ≠ .inl i) → ∀ a ∈ fps k, a ∉ fpsOf L ∧ H' a = H a ∧ F' a = none := fun k nk a m => by
    have nM : a ∉ fpsOf L := fun c => by
      obtain ⟨i, i1, i2⟩ := (hs.mem a).mp c
      exact nk i i1 (sp.di _ _ a m i2)
    obtain ⟨f1, f2, f3⟩ := sp.nf k a m
    refine ⟨nM, ?_, ?_⟩
    · cases z : H a with
      | none => exact absurd z f2
      | some o => exact hk.hs a o nM z
    · cases z : F' a with
      | none => rfl
      | some o => exact absurd (hk.fr a f1 (by rw [z]; exact Option.some_ne_none o)) f2
  have inFps : ∀ k, (∀ i ∈ is, k ≠ .inl i) → ∀ a ∈ fps k, a ∉ fr ∧ a ∉ gs.flatten := fun k nk a m => by
    obtain ⟨k1, k2, k3⟩ := keep k nk a m
    have f2 := (sp.nf k a m).2.1
    refine ⟨fun c => f2 (nr a c).2.2, fun c => ?_⟩
    rcases (ng a c).2.2 with z | z
    · exact f2 z
    · exact k1 z
  let nf : Nat ⊕ Nat → List Addr := fun k => match k with
    | .inl i => match pos is i with
      | some n => (gs[n]?).getD []
      | none => fps (.inl i)
    | .inr j => if j = B.T.length then fr else fps (.inr j)
  -- what stands at a footprint's place
  have cases_ : ∀ k : Nat ⊕ Nat, (∃ (n : Nat) (g : List Addr), gs[n]? = some g ∧ nf k = g ∧ ∃ i, k = .inl i ∧ is[n]? = some i) ∨ (nf k = [] ) ∨ (k = .inr B.T.length ∧ nf k = fr) ∨ (nf k = fps k ∧ ∀ i ∈ is, k ≠ .inl i) := by
    intro k
    cases k with
    | inl i =>
      cases ep : pos is i with
      | none =>
        refine .inr (.inr (.inr ⟨?_, fun j hj c => ?_⟩))
        · show (match pos is i with | some n => (gs[n]?).getD [] | none => fps (.inl i)) = _
          rw [ep]
        · cases c; exact pos_none ep hj
      | some n =>
        have e : nf (.inl i) = (gs[n]?).getD [] := by
          show (match pos is i with | some n => (gs[n]?).getD [] | none => fps (.inl i)) = _
          rw [ep]
        cases eg : gs[n]? with
        | none => exact .inr (.inl (by rw [e, eg]; rfl))
        | some g => exact .inl ⟨n, g, eg, by rw [e, eg]; rfl, i, rfl, pos_some ep⟩
    | inr j =>
      by_cases c : j = B.T.length
      · subst c; exact .inr (.inr (.inl ⟨rfl, if_pos rfl⟩))
      · exact .inr (.inr (.inr ⟨if_neg c, fun i _ z => by cases z⟩))
  refine ⟨⟨fun b o nb e => ?_, fun b e => hk.ht b (hp.ht b e), hp.fs.trans hk.fs, hk.fh, fun a n m => ?_⟩, by rw [putAll_len]; exact hl, nf, fun i s e => ?_, fun j p e => ?_, ⟨fun k => ?_, fun k l a m1 m2 => ?_, fun k a m => ?_⟩⟩
  · refine hk.hs b o (fun c => ?_) (hp.hs b o nb e)
    rcases inM b c with z | z
    · rw [show B.H0 b = some o from e] at z; cases z
    · exact nb z
  · cases q : F a with
    | none => exact h0n a (hk.fr a q m)
    | some u => exact hp.fr a n (by rw [q]; exact Option.some_ne_none u)
  · show SlotOk K G (B.push rs xs) F' H' i s (σ[i]?.join) (match pos is i with | some n => (gs[n]?).getD [] | none => fps (.inl i))
    cases ep : pos is i with
    | none =>
      have np := pos_none ep
      rw [putAll_out np] at e
      exact SlotOk.toT (SlotOk.frame hk.fs (fun a m => (keep _ (fun j hj c => by cases c; exact np hj) a m).2.1) (h1 i s e))
    | some n =>
      have en := pos_some ep
      obtain ⟨x, m, t, l1, l2, l3, l4⟩ := hs.at en
      obtain ⟨m', g, o1, o2, o3, o4⟩ := ho.at l1
      rw [putAll_at nd en o1 l3] at e
      cases e
      dsimp only
      rw [o2, Option.getD_some]
      exact SlotOk.toT (SlotOk.putI (h1 i t l3) l4 (join_of l2) o3 fun a ma => (o4 a ma).2.2.imp (h0n a) id)
  · show RMs K G F' H' p.1 p.2 (if j = B.T.length then fr else fps (.inr j)) ∧ ∀ a ∈ (if j = B.T.length then fr else fps (.inr j)), B.H0 a = none
    rcases push_get e with e | ⟨rfl, rfl⟩
    · rw [if_neg (Nat.ne_of_lt (lt_of_get e))]
      exact ⟨RMs.frame hk.fs (fun a m => (keep _ (fun j hj c => by cases c) a m).2.1) (h2 j p e).1, (h2 j p e).2⟩
    · rw [if_pos rfl]; exact ⟨hr, fun a m => h0n a (nr a m).2.2⟩
  · rcases cases_ k with ⟨n, g, eg, e, _⟩ | e | ⟨_, e⟩ | ⟨e, _⟩
    · rw [e]; exact flat_nd nn'.2.1 eg
    · rw [e]; exact List.nodup_nil
    · rw [e]; exact nn'.1
    · rw [e]; exact sp.nd k
  · rcases cases_ k with ⟨n, g, eg, e, i, ek, ei⟩ | e | ⟨ek, e⟩ | ⟨e, nk⟩ <;> rcases cases_ l with ⟨n', g', eg', e', i', ek', ei'⟩ | e' | ⟨ek', e'⟩ | ⟨e', nk'⟩ <;> rw [e] at m1 <;> rw [e'] at m2
    · have := flat_apart nn'.2.1 eg eg' m1 m2
      subst this
      rw [ei] at ei'; cases ei'
      rw [ek, ek']
    · cases m2
    · exact absurd rfl (nn'.2.2 a m2 a (mem_flat eg m1))
    · exact absurd (mem_flat eg m1) (inFps l nk' a m2).2
    · cases m1
    · cases m1
    · cases m1
    · cases m1
    · exact absurd rfl (nn'.2.2 a m1 a (mem_flat eg' m2))
    · cases m2
    · rw [ek, ek']
    · exact absurd m1 (inFps l nk' a m2).1
    · exact absurd (mem_flat eg' m2) (inFps k nk a m1).2
    · cases m2
    · exact absurd m2 (inFps k nk a m1).1
    · exact sp.di k l a m1 m2
  · rcases cases_ k with ⟨n, g, eg, e, _⟩ | e | ⟨_, e⟩ | ⟨e, nk⟩ <;> rw [e] at m
    · obtain ⟨z1, z2, z3⟩ := ng a (mem_flat eg m)
      refine ⟨z1, z2, ?_⟩
      rcases z3 with z | z
      · exact .inl (h0n a z)
      · exact inM a z
    · cases m
    · exact ⟨(nr a m).1, (nr a m).2.1, .inl (h0n a (nr a m).2.2)⟩
    · obtain ⟨k1, k2, k3⟩ := keep k nk a m
      exact ⟨k3, by rw [k2]; exact (sp.nf k a m).2.1, (sp.nf k a m).2.2⟩
/-- a call, its arguments made -/
theorem core_call {gs : List Ag} {xs : List V} {Q : VK} (h0 : EOk K G B env σ F H) (ha : AgsAt K G F σ gs xs) (ho : Out K G E B σ F (callG f gs env) fun v e' => ∀ F' H' x, Same F F' → EOk K G (B.push [v] [x]) e' σ F' H' → Q x H') : spZ K G f xs H Q E := by
  unfold callG at ho
  cases eb : bindAs env f.md gs with
  | none => rw [eb] at ho; exact ho.elim
  | some as =>
    rw [eb] at ho
    dsimp only at ho
    split at ho
    case isFalse => exact ho.elim
    rename_i ap
    rw [apart, Bool.and_eq_true, decide_eq_true_eq, List.all_eq_true] at ap
    obtain ⟨nd, ap⟩ := ap
    have h0' := h0
    obtain ⟨hp, hl, fps, h1, h2, sp⟩ := h0
    -- what may change
    obtain ⟨L0, l0, _⟩ := args_of (K := K) (G := G) (M := []) hp h1 (fun a m => by cases m) eb ha (fun i _ a _ c => by cases c)
    have hM : ∀ a ∈ fpsOf L0, B.H0 a = none ∨ a ∈ B.M := fun a m => by
      obtain ⟨i, _, m2⟩ := (l0.mem a).mp m
      exact (sp.nf _ a m2).2.2
    obtain ⟨L, l1, l2⟩ := args_of (K := K) (G := G) (M := fpsOf L0) hp h1 hM eb ha (fun i hi a ma c => by
      obtain ⟨j, j1, j2⟩ := (l0.mem a).mp c
      have e := sp.di _ _ a ma j2
      cases e
      have := ap i j1
      rw [Bool.not_eq_true'] at this
      have c2 : (rds f.md gs).contains i = true := List.contains_iff_mem.mpr hi
      rw [this] at c2; cases c2)
    have eL : L = L0 := l1.eq l0
    subst eL
    refine ⟨as, L, F, hp.fh, l2, l1.nodup sp nd, fun a m => ?_, ?_⟩
    · obtain ⟨i, _, m2⟩ := (l1.mem a).mp m
      exact ⟨(sp.nf _ a m2).1, (sp.nf _ a m2).2.1⟩
    · cases er : f.run as with
      | no => rw [er] at ho; exact ho.elim
      | ok r outs =>
        rw [er] at ho
        exact fun F' H' x fr gs hk hoo hr nn nr => ho F' H' x hk.fs (EOk.called hp hl h1 h2 sp l1 nd hk hoo (RMs.one hr) nn nr)
      | er ex outs =>
        rw [er] at ho
        exact fun F' H' cls d gs hk hoo nn hex => ho F' H' cls d hk.fs (EOk.called hp hl h1 h2 sp l1 nd hk hoo (fr := []) RMs.nil (by rw [List.nil_append]; exact nn) (fun a m => by cases m)).pop hex
end
end Z
set_option maxHeartbeats 1000000
namespace Z
open PySem PySem.Spec L2
section
variable {K : PySem.W.Frag} {G : Gs} {E : XK} {B : Bs} {env : Env} {σ : L2.St} {F H F' H' : Hp} {α β : Type} {m m1 m2 : MV} {x y : V} {v w : Val} {f : Fn}
/-- the footprints at a def's entry, by slot -/
def fpI : List Md → List (V × MV × List Addr) → Nat → List Addr
  | .io :: _, p :: _, 0 => p.2.2
  | .io :: ds, _ :: L, i + 1 => fpI ds L i
  | .d :: _, _, 0 => []
  | .r :: _, _, 0 => []
  | .d :: ds, L, i + 1 => fpI ds L i
  | .r :: ds, L, i + 1 => fpI ds L i
  | _, _, _ => []
theorem fpI_mem : ∀ {ds : List Md} {L : List (V × MV × List Addr)} {i : Nat} {a : Addr}, a ∈ fpI ds L i → a ∈ fpsOf L
  | .io :: _, p :: L, 0, a, h => List.mem_append_left _ h
  | .io :: ds, p :: L, i + 1, a, h => List.mem_append_right _ (fpI_mem (ds := ds) h)
  | .d :: ds, L, i + 1, a, h => fpI_mem (ds := ds) h
  | .r :: ds, L, i + 1, a, h => fpI_mem (ds := ds) h
  | [], _, _, _, h => by cases h
  | .io :: _, [], _, _, h => by cases h
  | .d :: _, _, 0, _, h => by cases h
  | .r :: _, _, 0, _, h => by cases h
theorem fpI_nd : ∀ {ds : List Md} {L : List (V × MV × List Addr)} {i : Nat}, (fpsOf L).Nodup → (fpI ds L i).Nodup
  | .io :: _, p :: L, 0, h => (List.nodup_append.mp (show (p.2.2 ++ fpsOf L).Nodup from h)).1
  | .io :: ds, p :: L, i + 1, h => fpI_nd (ds := ds) (List.nodup_append.mp (show (p.2.2 ++ fpsOf L).Nodup from h)).2.1
  | .d :: ds, L, i + 1, h => fpI_nd (ds := ds) h
  | .r :: ds, L, i + 1, h => fpI_nd (ds := ds) h
  | [], _, _, h => List.nodup_nil
  | .io :: _, [], _, h => by unfold fpI; exact List.nodup_nil
  | .d :: _, _, 0, h => List.nodup_nil
  | .r :: _, _, 0, h => List.nodup_nil
theorem fpI_di : ∀ {ds : List Md} {L : List (V × MV × List Addr)} {i j : Nat} {a : Addr}, (fpsOf L).Nodup → a ∈ fpI ds L i → a ∈ fpI ds L j → i = j
  | .io :: ds, p :: L, 0, 0, a, nd, h1, h2 => rfl
  | .io :: ds, p :: L, 0, j + 1, a, nd, h1, h2 => absurd rfl ((List.nodup_append.mp (show (p.2.2 ++ fpsOf L).Nodup from nd)).2.2 a h1 a (fpI_mem (ds := ds) h2))
  | .io :: ds, p :: L, i + 1, 0, a, nd, h1, h2 => absurd rfl ((List.nodup_append.mp (show (p.2.2 ++ fpsOf L).Nodup from nd)).2.2 a h2 a (fpI_mem (ds := ds) h1))
  | .io :: ds, p :: L, i + 1, j + 1, a, nd, h1, h2 => by rw [fpI_di (ds := ds) (List.nodup_append.mp (show (p.2.2 ++ fpsOf L).Nodup from nd)).2.1 h1 h2]
  | .d :: ds, L, i + 1, j + 1, a, nd, h1, h2 => by rw [fpI_di (ds := ds) nd h1 h2]
  | .r :: ds, L, i + 1, j + 1, a, nd, h1, h2 => by rw [fpI_di (ds := ds) nd h1 h2]
  | .d :: ds, L, 0, _, a, nd, h1, h2 => by cases h1
  | .r :: ds, L, 0, _, a, nd, h1, h2 => by cases h1
  | .d :: ds, L, _ + 1, 0, a, nd, h1, h2 => by cases h2
  | .r :: ds, L, _ + 1, 0, a, nd, h1, h2 => by cases h2
  | [], _, _, _, _, _, h, _ => by cases h
  | .io :: _, [], _, _, _, _, h, _ => by unfold fpI at h; cases h
/-- the arguments as slots -/
theorem entry_ok {M : List Addr} : ∀ {ds : List Md} {as : List Arg} {xs : List V} {L : List (V × MV × List Addr)}, ArgsOk K G F H M ds as xs L → ∃ e0, entry ds as = some e0 ∧ e0.length = ds.length ∧
    ∀ i s, e0[i]? = some s → ∃ x, xs[i]? = some x ∧ ((∃ v, s = .is v ∧ RV K G F v x ∧ fpI ds L i = []) ∨ (∃ v, s = .rd v ∧ RR K G M F H v x ∧ fpI ds L i = []) ∨ (∃ m, s = .io m ∧ RM K G F H m x (fpI ds L i)))
  | [], [], [], _, _ => ⟨[], rfl, rfl, fun i s e => by simp at e⟩
  | .d :: ds, .v v :: as, x :: xs, L, h => by
    obtain ⟨e0, h1, h2, h3⟩ := entry_ok h.2
    refine ⟨.is v :: e0, by unfold entry; rw [show argSV .d (.v v) = some (.is v) from rfl]; dsimp only; rw [h1]; rfl, by rw [List.length_cons, List.length_cons, h2], fun i s e => ?_⟩
    cases i with
    | zero => simp at e; subst e; exact ⟨x, rfl, .inl ⟨v, rfl, h.1, rfl⟩⟩
    | succ i => exact h3 i s (by simpa using e)
  | .r :: ds, .v v :: as, x :: xs, L, h => by
    obtain ⟨e0, h1, h2, h3⟩ := entry_ok h.2
    refine ⟨.rd v :: e0, by unfold entry; rw [show argSV .r (.v v) = some (.rd v) from rfl]; dsimp only; rw [h1]; rfl, by rw [List.length_cons, List.length_cons, h2], fun i s e => ?_⟩
    cases i with
    | zero => simp at e; subst e; exact ⟨x, rfl, .inr (.inl ⟨v, rfl, h.1, rfl⟩)⟩
    | succ i => exact h3 i s (by simpa using e)
  | .io :: ds, .io m :: as, x :: xs, L, h => by
    obtain ⟨f, L', rfl, hr, h⟩ := h
    obtain ⟨e0, h1, h2, h3⟩ := entry_ok h
    refine ⟨.io m :: e0, by unfold entry; rw [show argSV .io (.io m) = some (.io m) from rfl]; dsimp only; rw [h1]; rfl, by rw [List.length_cons, List.length_cons, h2], fun i s e => ?_⟩
    cases i with
    | zero => simp at e; subst e; exact ⟨x, rfl, .inr (.inr ⟨m, rfl, hr⟩)⟩
    | succ i => exact h3 i s (by simpa using e)
  | [], _ :: _, _, _, h => h.elim
  | [], [], _ :: _, _, h => h.elim
  | .d :: _, [], _, _, h => h.elim
  | .d :: _, .io _ :: _, _, _, h => h.elim
  | .d :: _, .v _ :: _, [], _, h => h.elim
  | .r :: _, [], _, _, h => h.elim
  | .r :: _, .io _ :: _, _, _, h => h.elim
  | .r :: _, .v _ :: _, [], _, h => h.elim
  | .io :: _, [], _, _, h => h.elim
  | .io :: _, .v _ :: _, _, _, h => h.elim
  | .io :: _, .io _ :: _, [], _, h => h.elim
/-- what stands in the changed arguments at the end -/
theorem outs_ok {fps : Nat ⊕ Nat → List Addr} (sp : Sep fps B F' H') {e' : Env} {σ' : L2.St} (h1 : ∀ i s, e'[i]? = some s → SlotOk K G B F' H' i s (σ'[i]?.join) (fps (.inl i))) {M : List Addr} :
    ∀ {ds : List Md} {as : List Arg} {xs : List V} {L : List (V × MV × List Addr)} {es : Env} {outs : List MV} (k : Nat), ArgsOk K G F H M ds as xs L → (∀ i, es[i]? = e'[k + i]?) → (∀ i x, xs[i]? = some x → B.A[k + i]? = some x) → (∀ i, fpI ds L i = B.I (k + i)) → outsOf ds es = some outs →
      ∃ gs, OutsOk K G B.H0 F' H' L outs gs ∧ gs.flatten.Nodup ∧ ∀ a ∈ gs.flatten, ∃ i, k ≤ i ∧ a ∈ fps (.inl i)
  | [], [], [], _, _, _, _, h, _, _, _, e => by cases e; exact ⟨[], by rw [show _ = [] from h]; exact ⟨rfl, rfl⟩, List.nodup_nil, fun a m => by cases m⟩
  | .d :: ds, .v v :: as, x :: xs, L, es, outs, k, h, he, hx, hi, e => by
    cases es with
    | nil => cases e
    | cons s es =>
      obtain ⟨gs, g1, g2, g3⟩ := outs_ok sp h1 (k + 1) h.2 (fun i => by have := he (i + 1); rw [show k + (i + 1) = k + 1 + i by omega] at this; simpa using this) (fun i x ex => by have := hx (i + 1) x (by simpa using ex); rw [show k + (i + 1) = k + 1 + i by omega] at this; exact this) (fun i => by have := hi (i + 1); rw [show k + (i + 1) = k + 1 + i by omega] at this; exact this) e
      exact ⟨gs, g1, g2, fun a m => by obtain ⟨i, i1, i2⟩ := g3 a m; exact ⟨i, by omega, i2⟩⟩
  | .r :: ds, .v v :: as, x :: xs, L, es, outs, k, h, he, hx, hi, e => by
    cases es with
    | nil => cases e
    | cons s es =>
      obtain ⟨gs, g1, g2, g3⟩ := outs_ok sp h1 (k + 1) h.2 (fun i => by have := he (i + 1); rw [show k + (i + 1) = k + 1 + i by omega] at this; simpa using this) (fun i x ex => by have := hx (i + 1) x (by simpa using ex); rw [show k + (i + 1) = k + 1 + i by omega] at this; exact this) (fun i => by have := hi (i + 1); rw [show k + (i + 1) = k + 1 + i by omega] at this; exact this) e
      exact ⟨gs, g1, g2, fun a m => by obtain ⟨i, i1, i2⟩ := g3 a m; exact ⟨i, by omega, i2⟩⟩
  | .io :: ds, .io m :: as, x :: xs, L, es, outs, k, h, he, hx, hi, e => by
    obtain ⟨f, L', rfl, hr, h⟩ := h
    cases es with
    | nil => cases e
    | cons s es =>
      cases s with
      | io m' =>
        have e : (outsOf ds es).map (m' :: ·) = some outs := e
        cases e2 : outsOf ds es with
        | none => rw [e2] at e; cases e
        | some os =>
          rw [e2] at e
          cases e
          obtain ⟨gs, g1, g2, g3⟩ := outs_ok sp h1 (k + 1) h (fun i => by have := he (i + 1); rw [show k + (i + 1) = k + 1 + i by omega] at this; simpa using this) (fun i x ex => by have := hx (i + 1) x (by simpa using ex); rw [show k + (i + 1) = k + 1 + i by omega] at this; exact this) (fun i => by have := hi (i + 1); rw [show k + (i + 1) = k + 1 + i by omega] at this; exact this) e2
          have ek : e'[k]? = some (.io m') := (he 0).symm
          obtain ⟨⟨y, ey, rm⟩, ⟨ea, _⟩, sub⟩ := h1 k _ ek
          have ex := hx 0 x rfl
          rw [Nat.add_zero] at ex
          rw [ey, ex] at ea
          cases ea
          have ei := hi 0
          rw [Nat.add_zero] at ei
          refine ⟨fps (.inl k) :: gs, ⟨m', os, _, gs, rfl, rfl, rm, fun a ma => ⟨(sp.nf _ a ma).1, (sp.nf _ a ma).2.1, (sub a ma).imp id fun z => by rw [← ei] at z; exact z⟩, g1⟩, ?_, fun a ma => ?_⟩
          · rw [List.flatten_cons]
            refine List.nodup_append.mpr ⟨sp.nd _, g2, fun a ha b hb c => ?_⟩
            subst c
            obtain ⟨i, i1, i2⟩ := g3 a hb
            have := sp.di _ _ a ha i2
            cases this
            omega
          · rw [List.flatten_cons] at ma
            rcases List.mem_append.mp ma with ma | ma
            · exact ⟨k, Nat.le_refl _, ma⟩
            · obtain ⟨i, i1, i2⟩ := g3 a ma; exact ⟨i, by omega, i2⟩
      | _ => cases e
  | [], _ :: _, _, _, _, _, _, h, _, _, _, _ => h.elim
  | [], [], _ :: _, _, _, _, _, h, _, _, _, _ => h.elim
  | .d :: _, [], _, _, _, _, _, h, _, _, _, _ => h.elim
  | .d :: _, .io _ :: _, _, _, _, _, _, h, _, _, _, _ => h.elim
  | .d :: _, .v _ :: _, [], _, _, _, _, h, _, _, _, _ => h.elim
  | .r :: _, [], _, _, _, _, _, h, _, _, _, _ => h.elim
  | .r :: _, .io _ :: _, _, _, _, _, _, h, _, _, _, _ => h.elim
  | .r :: _, .v _ :: _, [], _, _, _, _, h, _, _, _, _ => h.elim
  | .io :: _, [], _, _, _, _, _, h, _, _, _, _ => h.elim
  | .io :: _, .v _ :: _, _, _, _, _, _, h, _, _, _, _ => h.elim
  | .io :: _, .io _ :: _, [], _, _, _, _, h, _, _, _, _ => h.elim
/-- a def's body, entered -/
theorem enter {vs : List V} {Q : VK} {N : List Str} (h : spZ K G f vs H Q E) (hN : f.ns = N.length) (hm : f.md.length ≤ f.ns) : tS K G E f.body { nx := fun _ H' => Q .non H', rt := Q } (L2.start N vs) H := by
  obtain ⟨as, L, F, fh, ha, nd, nf, rk⟩ := h
  obtain ⟨e0, h1, h2, h3⟩ := entry_ok ha
  have hl := ha.len
  unfold Fn.run at rk
  rw [h1] at rk
  dsimp only at rk
  let B : Bs := ⟨fpsOf L, F, H, vs, fpI f.md L, []⟩
  have slen : (L2.start N vs).length = (e0 ++ List.replicate (f.ns - f.md.length) SV.any).length := by
    unfold L2.start
    rw [List.length_append, List.length_append, List.length_map, List.length_replicate, List.length_replicate, h2, hl, hN]
  have h0 : EOk K G B (e0 ++ List.replicate (f.ns - f.md.length) .any) (L2.start N vs) F H := by
    refine ⟨HeapOk.refl fh, slen, fun k => match k with
      | .inl i => fpI f.md L i
      | .inr _ => [], fun i s e => ?_, fun j p e => ?_, ⟨fun k => ?_, fun k l a m1 m2 => ?_, fun k a m => ?_⟩⟩
    · rw [List.getElem?_append] at e
      by_cases c : i < e0.length
      · rw [if_pos c] at e
        obtain ⟨x, ex, z⟩ := h3 i s e
        have eσ : (L2.start N vs)[i]?.join = some x := by
          unfold L2.start
          rw [List.getElem?_append_left (by rw [List.length_map]; exact lt_at ex), List.getElem?_map, ex]; rfl
        rw [eσ]
        rcases z with ⟨v, rfl, r, ef⟩ | ⟨v, rfl, r, ef⟩ | ⟨m, rfl, r⟩
        · exact ⟨ef, x, rfl, r⟩
        · exact ⟨ef, x, rfl, r⟩
        · exact ⟨⟨x, rfl, r⟩, ⟨ex.symm, Option.some_ne_none x⟩, fun a m => .inr m⟩
      · rw [if_neg c, List.getElem?_replicate] at e
        split at e
        · cases e
          show fpI f.md L i = []
          cases q : fpI f.md L i with
          | nil => rfl
          | cons a r =>
            exfalso
            have big : ∀ (ds : List Md) (L : List (V × MV × List Addr)) (i : Nat), ds.length ≤ i → fpI ds L i = [] := by
              intro ds
              induction ds with
              | nil => intro L i _; rfl
              | cons d ds ih =>
                intro L i hi
                cases i with
                | zero => simp at hi
                | succ i =>
                  have hi2 : ds.length ≤ i := Nat.le_of_succ_le_succ hi
                  cases d with
                  | d => exact ih L i hi2
                  | r => exact ih L i hi2
                  | io => cases L with
                    | nil => rfl
                    | cons p L => exact ih L i hi2
            rw [big f.md L i (by omega)] at q; cases q
        · cases e
    · exact absurd e (by show ([] : List (List MV × List V))[j]? ≠ some p; simp)
    · cases k with
      | inl i => exact fpI_nd nd
      | inr j => exact List.nodup_nil
    · cases k with
      | inr j => cases m1
      | inl i => cases l with
        | inr j => cases m2
        | inl j => rw [fpI_di nd m1 m2]
    · cases k with
      | inr j => cases m
      | inl i => exact ⟨(nf a (fpI_mem m)).1, (nf a (fpI_mem m)).2, .inr (fpI_mem m)⟩
  have axs : ∀ i x, vs[i]? = some x → B.A[0 + i]? = some x := fun i x e => by rw [Nat.zero_add]; exact e
  have ais : ∀ i, fpI f.md L i = B.I (0 + i) := fun i => by rw [Nat.zero_add]
  refine ⟨B, F, _, h0, ?_⟩
  cases eb : f.body (e0 ++ List.replicate (f.ns - f.md.length) .any) with
  | no => rw [eb] at rk; exact rk
  | er ex e' =>
    rw [eb] at rk
    dsimp only at rk
    intro σ' F' H' cls d s' h' hex
    obtain ⟨hp, hl', fps, g1, g2, sp⟩ := h'
    cases eo : outsOf f.md e' with
    | none => rw [eo] at rk; exact rk.elim
    | some outs =>
      rw [eo] at rk
      obtain ⟨gs, o1, o2, o3⟩ := outs_ok sp g1 0 ha (fun i => by rw [Nat.zero_add]) axs ais eo
      exact rk F' H' cls d gs hp o1 o2 hex
  | ok c e' =>
    rw [eb] at rk
    have fin : ∀ {m : MV} {outs : List MV}, outsOf f.md e' = some outs → RunK K G F H L Q E (.ok m outs) → ∀ σ' F' H' x, EOk K G (B.push [m] [x]) e' σ' F' H' → Q x H' := by
      intro m outs eo rk σ' F' H' x h'
      obtain ⟨fr, fps, r, ndr, nfr, d, g1, g2, sp⟩ := h'.top
      have hp : HeapOk (fpsOf L) F H F' H' := h'.hp
      obtain ⟨gs, o1, o2, o3⟩ := outs_ok sp g1 0 ha (fun i => by rw [Nat.zero_add]) axs ais eo
      unfold RMs at r
      obtain ⟨y, ys, f1, f2, e1, e2, r1, r2⟩ := r
      cases e1
      unfold RMs at r2
      rw [r2.2, List.append_nil] at e2
      subst e2
      refine rk F' H' x fr gs hp o1 r1 (List.nodup_append.mpr ⟨ndr, o2, fun a ha b hb c => ?_⟩) nfr
      subst c
      obtain ⟨i, _, i2⟩ := o3 a hb
      exact d _ a ha i2
    cases c with
    | rt m =>
      dsimp only at rk
      cases eo : outsOf f.md e' with
      | none => rw [eo] at rk; exact rk.elim
      | some outs => rw [eo] at rk; exact fun σ' F' H' x s' h' => fin eo rk σ' F' H' x h'
    | nx =>
      dsimp only at rk
      cases eo : outsOf f.md e' with
      | none => rw [eo] at rk; exact rk.elim
      | some outs => rw [eo] at rk; exact fun σ' F' H' s' h' => fin eo rk σ' F' H' _ (h'.pushF (sca_non F'))
    | bk => exact rk.elim
    | ct => exact rk.elim
theorem spZ_len {vs : List V} {Q : VK} {n : Nat} (hn : f.md.length = n) (h : spZ K G f vs H Q E) : vs.length = n := by
  obtain ⟨as, L, F, _, ha, _⟩ := h
  rw [ha.len, hn]
end
end Z
set_option maxHeartbeats 1000000
namespace Z
open PySem PySem.Spec L2
/-! ### calls as expressions -/
def hAg : Hd → Ag
  | .t m => .v m.val
  | .s i => .s i
/-- an instance of class c -/
def isC (c : Nat) (h : Hd) : M Unit := do
  let m ← rdH h
  match m.val with
  | .ins d _ => if d = c then pure () else fail
  | _ => fail
def callN (f : Fn) (n k : Nat) (as ks : M (List Ag)) : M MV := do
  let gs ← as
  let hs ← ks
  if gs.length = n ∧ hs.length = k then callG f (gs ++ hs) else fail
def meth (c : Nat) (f : Fn) (dvs : List Val) (o : M Hd) (as : M (List Ag)) : M MV := do
  let h ← o
  isC c h
  let gs ← as
  callG f (hAg h :: (gs ++ dvs.map .v))
def prop (c : Nat) (f : Fn) (o : M Hd) : M MV := do
  let h ← o
  isC c h
  callG f [hAg h]
def lenOwn (c : Nat) (f : Fn) (o : M Hd) : M MV := do
  let h ← o
  isC c h
  let r ← callG f [hAg h]
  match r with
  | .f (.int n) => if 0 ≤ n ∧ n < 9223372036854775808 then pure (.f (.int n)) else fail
  | _ => fail
def subOwn (c : Nat) (f : Fn) (o : M Hd) (b : M MV) : M MV := do
  let h ← o
  let j ← b
  isC c h
  callG f [hAg h, .v j.val]
def eqOwn (c : Nat) (f : Fn) (a b : M Hd) : M MV := do
  let h ← a
  let k ← b
  isC c h
  isC c k
  let r ← callG f [hAg h, hAg k]
  match r with
  | .f (.bl b) => pure (.f (.bl b))
  | _ => fail
def neOwn (c : Nat) (f : Fn) (a b : M Hd) : M MV := do
  let h ← a
  let k ← b
  isC c h
  isC c k
  let r ← callG f [hAg h, hAg k]
  match r with
  | .f (.bl b) => pure (.f (.bl (!b)))
  | _ => fail
/-- an instance made by its __init__ -/
def mk (c : Nat) (f : Fn) (dvs : List Val) (as : M (List Ag)) : M MV := do
  let gs ← as
  fun e => match f.md, bindAs e f.md.tail (gs ++ dvs.map .v) with
  | .io :: ds, some xs => if ios ds (gs ++ dvs.map .v) = [] then match f.run (.io (.ins c []) :: xs) with
    | .ok (.f .non) [m] => .ok m e
    | .er x _ => .er x e
    | _ => .no
    else .no
  | _, _ => .no
section
variable {K : PySem.W.Frag} {G : Gs} {E : XK} {B : Bs} {env : Env} {σ : L2.St} {F H F' H' : Hp} {α β : Type} {m m1 m2 : MV} {x y : V} {v w : Val} {f : Fn} {X : Cx} {e : Expr} {ma mb : M MV} {mo mo2 : M Hd} {ag ak : M (List Ag)} {c : Nat}
theorem AgsAt.cons {a : Ag} {as : List Ag} {x : V} {xs : List V} (h1 : AgAt K G F σ a x) (h2 : AgsAt K G F σ as xs) : AgsAt K G F σ (a :: as) (x :: xs) := ⟨x, xs, rfl, h1, h2⟩
theorem AgsAt.nil : AgsAt K G F σ [] [] := rfl
theorem Out.ok {o : O α} {k : α → Env → O β} {q : β → Env → Prop} {a : α} {e' : Env} (h : Out K G E B σ F (o.bind k) q) (e : o = .ok a e') : Out K G E B σ F (k a e') q := by rw [e] at h; exact h
theorem AgsAt.app : ∀ {as bs : List Ag} {xs ys : List V}, AgsAt K G F σ as xs → AgsAt K G F σ bs ys → AgsAt K G F σ (as ++ bs) (xs ++ ys)
  | [], _, _, _, h, h' => by rw [show _ = [] from h]; exact h'
  | a :: as, _, _, _, ⟨y, ys, e, h1, h2⟩, h' => by rw [e]; exact ⟨y, _, rfl, h1, AgsAt.app h2 h'⟩
theorem AgsAt.len : ∀ {as : List Ag} {xs : List V}, AgsAt K G F σ as xs → xs.length = as.length
  | [], _, h => by rw [show _ = [] from h]; rfl
  | a :: as, _, ⟨y, ys, e, h1, h2⟩ => by rw [e, List.length_cons, List.length_cons, AgsAt.len h2]
def Scas (K : PySem.W.Frag) (G : Gs) : List Val → List V → Prop
  | [], xs => xs = []
  | v :: vs, xs => ∃ y ys, xs = y :: ys ∧ Sca K G v y ∧ Scas K G vs ys
theorem Scas.at : ∀ {vs : List Val} {xs : List V}, Scas K G vs xs → AgsAt K G F σ (vs.map .v) xs
  | [], _, h => h
  | v :: vs, _, ⟨y, ys, e, h1, h2⟩ => ⟨y, ys, e, h1 F, Scas.at h2⟩
theorem z_call {dvs : List Val} {dxs : List V} (hd : Scas X.K G dvs dxs) (hp : PE X e (tCall (spZ X.K G f) dxs E (tA X.K G E ag))) : PE X e (tE X.K G E (call f dvs ag)) := PEi hp fun σ H Q ⟨B, F, env, h0, ho⟩ =>
  ⟨B, F, env, h0, (Out.bindE ho).mono fun gs e1 _ ho F1 H1 xs s1 h1 a1 => core_call h1 (a1.app hd.at) ((ho.same s1).mono fun v e' _ k F' H' x s => k F' H' x (s1.trans s))⟩
theorem z_callN {n k : Nat} (hp : PE X e (tCallN n k (spZ X.K G f) (fun vs zs => vs ++ zs) E (tA X.K G E ag) (tA X.K G E ak))) : PE X e (tE X.K G E (callN f n k ag ak)) := PEi hp fun σ H Q ⟨B, F, env, h0, ho⟩ => by
  refine ⟨B, F, env, h0, (Out.bindE ho).mono fun gs e1 _ ho F1 H1 xs s1 h1 a1 => ?_⟩
  refine ⟨B, F1, e1, h1, (Out.bindE (ho.same s1)).mono fun hs e2 eq _ F2 H2 ys s2 h2 a2 => ?_⟩
  have ho := Out.ok ho eq
  split at ho
  · rename_i l
    exact ⟨by rw [a1.len, l.1], by rw [a2.len, l.2], core_call h2 ((a1.mono s2).app a2) ((Out.same (s1.trans s2) ho).mono fun v e' _ k F' H' x s => k F' H' x ((s1.trans s2).trans s))⟩
  · exact (show False from ho).elim
theorem zk_nil : PK X [] (tA X.K G E aNil) := ⟨fun pos pins s σ H Q I ⟨B, F, env, h0, ho⟩ => pk_nil.run pos pins s σ H Q I (ho F H [] (Same.refl _) h0 rfl)⟩
theorem zk_aV {nm : Option Str} {kpos : Pos} {kws : List Keyword} (ha : PE X e (tE X.K G E ma)) (hr : PK X kws (tA X.K G E ag)) : PK X (⟨nm, e, kpos⟩ :: kws) (tA X.K G E (aV ma ag)) :=
  ⟨fun pos pins s σ H Q I ⟨B, F, env, h0, ho⟩ => (pk_cons ha hr).run pos pins s σ H Q I (by
    refine ⟨B, F, env, h0, (Out.bindE ho).mono fun m1 e1 _ ho F1 H1 x s1 h1 => ?_⟩
    obtain ⟨F2, s2, h2, rv⟩ := h1.freeze1
    exact ⟨B, F2, e1, h2, (Out.bindE (ho.same (s1.trans s2))).mono fun as e2 _ ho F3 H3 xs s3 h3 a3 => ho F3 H3 (x :: xs) ((s1.trans s2).trans s3) h3 ⟨x, xs, rfl, RV.mono s3 rv, a3⟩⟩)⟩
theorem zk_aS {nm : Option Str} {kpos : Pos} {kws : List Keyword} {i : Nat} (ha : PE X e (tVar i)) (hr : PK X kws (tA X.K G E ag)) : PK X (⟨nm, e, kpos⟩ :: kws) (tA X.K G E (aS i ag)) :=
  ⟨fun pos pins s σ H Q I ⟨B, F, env, h0, ho⟩ => (pk_cons ha hr).run pos pins s σ H Q I (by
    obtain ⟨⟨x, ex⟩, ho⟩ := Out.hasRd h0 ho
    exact ⟨x, ex, B, F, env, h0, (Out.bindE ho).mono fun as e2 _ ho F3 H3 xs s3 h3 a3 => ho F3 H3 (x :: xs) s3 h3 ⟨x, xs, rfl, ex, a3⟩⟩)⟩
/-- a handle as an argument -/
theorem EOk.hAg {h : Hd} (e : EOk K G (B.pushH h x) env σ F H) (a : HdAt σ h x) : ∃ F', Same F F' ∧ EOk K G B env σ F' H ∧ AgAt K G F' σ (Z.hAg h) x := by
  cases h with
  | t m => exact EOk.freeze1 e
  | s i => exact ⟨F, Same.refl _, e, a⟩
theorem rv_ins {vs : List Val} (h : RV K G H (.ins c vs) x) : ∃ a dx xs, x = .ref a ∧ H a = some (.ins (G.C c) dx ((G.flds c).zip xs)) ∧ RVs K G H vs xs := by
  unfold RV at h
  obtain ⟨a, dx, xs, e, h1, h2, h3⟩ := h
  exact ⟨a, dx, xs, e, h1, h3⟩
theorem Out.isC {h : Hd} {k : Unit → M β} {q : β → Env → Prop} (e : EOk K G (B.pushH h x) env σ F H) (a : HdAt σ h x) (ho : Out K G E B σ F ((Z.isC c h >>= k) env) q) : (∃ p dx xs, x = .ref p ∧ H p = some (.ins (G.C c) dx ((G.flds c).zip xs))) ∧ Out K G E B σ F (k () env) q := by
  have ho : Out K G E B σ F ((rdH h >>= fun m => (match m.val with | .ins d _ => if d = c then pure () else fail | _ => fail : M Unit) >>= k) env) q := by
    have e : (Z.isC c h >>= k) env = (rdH h >>= fun m => (match m.val with | .ins d _ => if d = c then pure () else fail | _ => fail : M Unit) >>= k) env := by
      unfold Z.isC
      rw [bind_def, bind_def, bind_def]
      cases rdH h env <;> rfl
    rw [← e]; exact ho
  obtain ⟨m, r, ho⟩ := Out.rd ho
  have rv := (e.hd a r).2
  cases ev : m.val with
  | ins d vs =>
    rw [ev] at ho rv
    dsimp only at ho
    by_cases cc : d = c
    · subst cc
      rw [if_pos rfl] at ho
      obtain ⟨p, dx, xs, e1, e2, _⟩ := rv_ins rv
      exact ⟨⟨p, dx, xs, e1, e2⟩, ho⟩
    · rw [if_neg cc] at ho; exact (show False from ho).elim
  | _ => rw [ev] at ho; exact (show False from ho).elim
theorem lookup_none {xs : List V} {g : Str} : ∀ {fs : List Str} {xs : List V}, g ∉ fs → (fs.zip xs).lookup g = none
  | [], _, _ => rfl
  | _ :: _, [], _ => rfl
  | f :: fs, x :: xs, h => by
    rw [List.mem_cons, not_or] at h
    rw [List.zip_cons_cons, List.lookup_cons, show (g == f) = false from beq_false_of_ne h.1]
    exact lookup_none (xs := xs) h.2
theorem z_meth {mn : Str} {dvs : List Val} {dxs : List V} (hn : mn ∉ G.flds c) (hd : Scas X.K G dvs dxs) (hp : PE X e (tMeth (G.C c) mn (spZ X.K G f) dxs E (tO X.K G E mo) (tA X.K G E ag))) : PE X e (tE X.K G E (meth c f dvs mo ag)) := PEi hp fun σ H Q ⟨B, F, env, h0, ho⟩ => by
  refine ⟨B, F, env, h0, (Out.bindE ho).mono fun h e1 _ ho F1 H1 x s1 h1 a1 => ?_⟩
  obtain ⟨⟨p, dx, xs, e2, e3⟩, ho⟩ := Out.isC (E := E) (F := F1) (B := B) h1 a1 (ho.same s1)
  obtain ⟨F2, s2, h2, a2⟩ := h1.hAg a1
  refine ⟨p, dx, _, e2, e3, lookup_none (xs := xs) hn, B, F2, e1, h2, (Out.bindE (ho.same s2)).mono fun gs e4 _ ho F3 H3 ys s3 h3 a3 => ?_⟩
  exact core_call h3 (.cons (a2.mono s3) (a3.app hd.at)) ((ho.same s3).mono fun v e' _ k F' H' x s => k F' H' x ((s1.trans (s2.trans s3)).trans s))
theorem z_prop (hp : PE X e (tProp (G.C c) (spZ X.K G f) [] E (tO X.K G E mo))) : PE X e (tE X.K G E (prop c f mo)) := PEi hp fun σ H Q ⟨B, F, env, h0, ho⟩ => by
  refine ⟨B, F, env, h0, (Out.bindE ho).mono fun h e1 _ ho F1 H1 x s1 h1 a1 => ?_⟩
  obtain ⟨⟨p, dx, xs, e2, e3⟩, ho⟩ := Out.isC (E := E) (F := F1) (B := B) h1 a1 (ho.same s1)
  obtain ⟨F2, s2, h2, a2⟩ := h1.hAg a1
  refine ⟨p, dx, _, e2, e3, ?_⟩
  exact core_call h2 (.cons (by rw [← e2]; exact a2) .nil) ((ho.same s2).mono fun v e' _ k F' H' x s => k F' H' x ((s1.trans s2).trans s))
theorem z_static {dvs : List Val} {dxs : List V} {C : Addr} {ta : TE} (hd : Scas X.K G dvs dxs) (hc : ∀ σ H Q, Q (.ref C) H → ta σ H Q) (hp : PE X e (tStat C (spZ X.K G f) dxs E ta (tA X.K G E ag))) : PE X e (tE X.K G E (call f dvs ag)) := PEi hp fun σ H Q ⟨B, F, env, h0, ho⟩ =>
  hc _ _ _ ⟨rfl, B, F, env, h0, (Out.bindE ho).mono fun gs e1 _ ho F1 H1 xs s1 h1 a1 => core_call h1 (a1.app hd.at) ((ho.same s1).mono fun v e' _ k F' H' x s => k F' H' x (s1.trans s))⟩
theorem z_lenOwn (hp : PE X e (tCB (rLenOwn (G.C c) (spZ X.K G f) E) (tCons (tO X.K G E mo) tNil))) : PE X e (tE X.K G E (lenOwn c f mo)) := PEi hp fun σ H Q ⟨B, F, env, h0, ho⟩ => by
  refine ⟨B, F, env, h0, (Out.bindE ho).mono fun h e1 _ ho F1 H1 x s1 h1 a1 => ?_⟩
  obtain ⟨⟨p, dx, xs, e2, e3⟩, ho⟩ := Out.isC (E := E) (F := F1) (B := B) h1 a1 (ho.same s1)
  obtain ⟨F2, s2, h2, a2⟩ := h1.hAg a1
  refine ⟨p, dx, _, by rw [e2], e3, ?_⟩
  refine core_call h2 (.cons (by rw [← e2]; exact a2) .nil) ((Out.bindE (ho.same s2)).mono fun v e' _ ho F' H' x s h' => ?_)
  split at ho
  · split at ho
    · rename_i l
      exact ⟨_, rv_int h'.topF, l.1, l.2, ho F' H' _ ((s1.trans s2).trans s) (h'.pop.pushF (sca_int F'))⟩
    · exact (show False from ho).elim
  · exact (show False from ho).elim
theorem z_subOwn (hp : PE X e (tOp (rSubOwn (G.C c) (spZ X.K G f) E) (tO X.K G E mo) (tE X.K G E mb))) : PE X e (tE X.K G E (subOwn c f mo mb)) := PEi hp fun σ H Q ⟨B, F, env, h0, ho⟩ => by
  refine ⟨B, F, env, h0, (Out.bindE ho).mono fun h e1 _ ho F1 H1 x s1 h1 a1 => ?_⟩
  refine ⟨B.pushH h x, F1, e1, h1, (Out.bindE (ho.pushH s1)).mono fun j e2 eq _ F2 H2 y s2 h2 => ?_⟩
  have ho := Out.ok ho eq
  obtain ⟨F3, s3, h3, rj⟩ := h2.freeze1
  obtain ⟨⟨p, dx, xs, e3, e4⟩, ho⟩ := Out.isC (E := E) (F := F3) (B := B) h3 a1 (Out.same ((s1.trans s2).trans s3) ho)
  obtain ⟨F4, s4, h4, a4⟩ := h3.hAg a1
  refine ⟨p, dx, _, e3, e4, ?_⟩
  exact core_call h4 (.cons (by rw [← e3]; exact a4) (.cons (show AgAt X.K G F4 σ (.v j.val) y from RV.mono s4 rj) .nil)) ((ho.same s4).mono fun v e' _ k F' H' x s => k F' H' x ((((s1.trans s2).trans s3).trans s4).trans s))
theorem two {h k : Hd} (e : EOk K G ((B.pushH h x).pushH k y) env σ F H) (a1 : HdAt σ h x) (a2 : HdAt σ k y) : ∃ F', Same F F' ∧ EOk K G B env σ F' H ∧ AgAt K G F' σ (Z.hAg h) x ∧ AgAt K G F' σ (Z.hAg k) y := by
  obtain ⟨F1, s1, h1, b1⟩ := e.hAg a2
  obtain ⟨F2, s2, h2, b2⟩ := h1.hAg a1
  exact ⟨F2, s1.trans s2, h2, b2, b1.mono s2⟩
theorem isC_ok {h : Hd} {k : Unit → M β} {q : β → Env → Prop} (ho : Out K G E B σ F ((Z.isC c h >>= k) env) q) : Z.isC c h env = .ok () env := by
  have ho : Out K G E B σ F ((rdH h >>= fun m => (match m.val with | .ins d _ => if d = c then pure () else fail | _ => fail : M Unit) >>= k) env) q := by
    have e : (Z.isC c h >>= k) env = (rdH h >>= fun m => (match m.val with | .ins d _ => if d = c then pure () else fail | _ => fail : M Unit) >>= k) env := by
      unfold Z.isC
      rw [bind_def, bind_def, bind_def]
      cases rdH h env <;> rfl
    rw [← e]; exact ho
  obtain ⟨m, r, ho⟩ := Out.rd ho
  unfold Z.isC
  rw [bind_def, r]
  show (match m.val with | .ins d _ => if d = c then pure () else fail | _ => fail : M Unit) env = _
  cases ev : m.val with
  | ins d vs =>
    rw [ev] at ho
    dsimp only at ho ⊢
    by_cases cc : d = c
    · rw [if_pos cc]; rfl
    · rw [if_neg cc] at ho; exact (show False from ho).elim
  | _ => rw [ev] at ho; exact (show False from ho).elim
theorem sem_eqOwn {Q : VK} (h : tE K G E (eqOwn c f mo mo2) σ H Q) : tOp (rEqOwn (G.C c) (spZ K G f) E) (tO K G E mo) (tO K G E mo2) σ H Q := by
  obtain ⟨B, F, env, h0, ho⟩ := h
  refine ⟨B, F, env, h0, (Out.bindE ho).mono fun h e1 _ ho F1 H1 x s1 h1 a1 => ?_⟩
  refine ⟨B.pushH h x, F1, e1, h1, (Out.bindE (ho.pushH s1)).mono fun k e2 eq _ F2 H2 y s2 h2 a2 => ?_⟩
  have ho := Out.ok ho eq
  have h2' := pushH_pop h2
  obtain ⟨⟨p, dx, xs, e3, e4⟩, ho⟩ := Out.isC (E := E) (F := F2) (B := B) h2' a1 (Out.same (s1.trans s2) ho)
  obtain ⟨⟨q, dy, ys, e5, e6⟩, _⟩ := Out.isC (E := E) (F := F2) (B := B.pushH h x) h2 a2 (Out.pushH (x := x) (Same.refl _) ho)
  obtain ⟨F3, s3, h3, b1, b2⟩ := two h2 a1 a2
  have ho := Out.ok (o := (Z.isC c k) e2) ho (isC_ok ho)
  refine ⟨p, q, dx, dy, _, _, e3, e5, e4, e6, core_call h3 (.cons (by rw [← e3]; exact b1) (.cons (by rw [← e5]; exact b2) .nil)) ((Out.bindE (ho.same s3)).mono fun v e' _ ho F' H' x s h' => ?_)⟩
  split at ho
  · exact ⟨_, rv_bl h'.topF, ho F' H' _ (((s1.trans s2).trans s3).trans s) (h'.pop.pushF (sca_bl F'))⟩
  · exact (show False from ho).elim
theorem z_eqOwn (hp : PE X e (tOp (rEqOwn (G.C c) (spZ X.K G f) E) (tO X.K G E mo) (tO X.K G E mo2))) : PE X e (tE X.K G E (eqOwn c f mo mo2)) := PEi hp fun σ H Q => sem_eqOwn
theorem sem_neOwn {Q : VK} (h : tE K G E (neOwn c f mo mo2) σ H Q) : tOp (rNeOwn (G.C c) (spZ K G f) E) (tO K G E mo) (tO K G E mo2) σ H Q := by
  obtain ⟨B, F, env, h0, ho⟩ := h
  refine ⟨B, F, env, h0, (Out.bindE ho).mono fun h e1 _ ho F1 H1 x s1 h1 a1 => ?_⟩
  refine ⟨B.pushH h x, F1, e1, h1, (Out.bindE (ho.pushH s1)).mono fun k e2 eq _ F2 H2 y s2 h2 a2 => ?_⟩
  have ho := Out.ok ho eq
  have h2' := pushH_pop h2
  obtain ⟨⟨p, dx, xs, e3, e4⟩, ho⟩ := Out.isC (E := E) (F := F2) (B := B) h2' a1 (Out.same (s1.trans s2) ho)
  obtain ⟨⟨q, dy, ys, e5, e6⟩, _⟩ := Out.isC (E := E) (F := F2) (B := B.pushH h x) h2 a2 (Out.pushH (x := x) (Same.refl _) ho)
  obtain ⟨F3, s3, h3, b1, b2⟩ := two h2 a1 a2
  have ho := Out.ok (o := (Z.isC c k) e2) ho (isC_ok ho)
  refine ⟨p, q, dx, dy, _, _, e3, e5, e4, e6, core_call h3 (.cons (by rw [← e3]; exact b1) (.cons (by rw [← e5]; exact b2) .nil)) ((Out.bindE (ho.same s3)).mono fun v e' _ ho F' H' x s h' => ?_)⟩
  split at ho
  · exact ⟨_, rv_bl h'.topF, ho F' H' _ (((s1.trans s2).trans s3).trans s) (h'.pop.pushF (sca_bl F'))⟩
  · exact (show False from ho).elim
theorem z_neOwn (hp : PE X e (tOp (rNeOwn (G.C c) (spZ X.K G f) E) (tO X.K G E mo) (tO X.K G E mo2))) : PE X e (tE X.K G E (neOwn c f mo mo2)) := PEi hp fun σ H Q => sem_neOwn
end
end Z
set_option maxHeartbeats 1000000
namespace Z
open PySem PySem.Spec L2
/-! ### attributes, instances, changed lists -/
def fldV (c j : Nat) : MV → Option Val
  | .f (.ins d vs) => if d = c then vs[j]? else none
  | .ins d ms => if d = c then match ms[j]? with
    | some (.f v) => some v
    | _ => none
    else none
  | _ => none
def fld (c j : Nat) (o : M Hd) : M MV := do
  let h ← o
  let m ← rdH h
  let v ← opt (fldV c j m)
  pure (.f v)
def setFldM (c j i : Nat) (m : MV) : M Unit := fun e => match e[i]? with
  | some s => match s.mut with
    | some (.ins d ms) => if d = c then
        if j < ms.length then .ok () (e.set i (s.put (.ins d (ms.set j m))))
        else if j = ms.length then .ok () (e.set i (s.put (.ins d (ms ++ [m]))))
        else .no
      else .no
    | _ => .no
  | none => .no
def sFldZ (c j i : Nat) (a : M MV) : M Ctl := do
  let m ← a
  setFldM c j i m
  pure .nx
def isL (i : Nat) : M Unit := fun e => match e[i]? with
  | some s => match s.mut with
    | some (.lst _) => .ok () e
    | _ => .no
  | none => .no
def appM (i : Nat) (m : MV) : M Unit := fun e => match e[i]? with
  | some s => match s.mut with
    | some (.lst ms) => if ms.length < 16777216 then .ok () (e.set i (s.put (.lst (ms ++ [m])))) else .no
    | _ => .no
  | none => .no
/-- x.append(e) -/
def sApp (i : Nat) (a : M MV) : M Ctl := do
  isL i
  let m ← a
  appM i m
  pure .nx
def setAtM (i : Nat) (k : Val) (m : MV) : M Unit := fun e => match e[i]? with
  | some s => match s.mut with
    | some (.lst ms) => match k with
      | .int z => match ixN ms.length z with
        | some j => .ok () (e.set i (s.put (.lst (ms.set j m))))
        | none => .no
      | _ => .no
    | _ => .no
  | none => .no
/-- x[j] = e -/
def sSetAt (i : Nat) (j a : M MV) : M Ctl := do
  let m ← a
  isL i
  let k ← j
  setAtM i k.val m
  pure .nx
def popM (i : Nat) : M MV := fun e => match e[i]? with
  | some s => match s.mut with
    | some (.lst ms) => match ms[ms.length - 1]? with
      | some (.f v) => .ok (.f v) (e.set i (s.put (.lst ms.dropLast)))
      | _ => .no
    | _ => .no
  | none => .no
def extM (i : Nat) (m : MV) : M Unit := fun e => match e[i]?, m with
  | some s, .lst ns => match s.mut with
    | some (.lst ms) => if ms.length + ns.length ≤ 16777216 then .ok () (e.set i (s.put (.lst (ms ++ ns)))) else .no
    | _ => .no
  | _, _ => .no
structure ClsF (K : PySem.W.Frag) (G : Gs) (c : Nat) : Prop where
  cl : Cls K (G.C c)
  nd : (G.flds c).Nodup
  na : ∀ f ∈ G.flds c, NoAttr K (G.C c) f
  sz : (G.flds c).length < 100
section
variable {K : PySem.W.Frag} {G : Gs} {E : XK} {B : Bs} {env : Env} {σ : L2.St} {F H F' H' : Hp} {α β : Type} {m m1 m2 : MV} {x y : V} {v w : Val} {f : Fn} {X : Cx} {e : Expr} {ma mb : M MV} {mo mo2 : M Hd} {ag ak : M (List Ag)} {c j i : Nat} {st : Stmt} {fn : Str}
theorem zip_look : ∀ {fs : List Str} {xs : List V} {j : Nat} {f : Str} {x : V}, fs.Nodup → fs[j]? = some f → xs[j]? = some x → (fs.zip xs).lookup f = some x
  | [], _, j, _, _, _, e, _ => by simp at e
  | _ :: _, [], j, _, _, _, _, e => by simp at e
  | g :: fs, y :: xs, 0, f, x, nd, e1, e2 => by
    simp at e1 e2; subst e1 e2
    rw [List.zip_cons_cons, List.lookup_cons, show (g == g) = true from beq_self_eq_true g]
  | g :: fs, y :: xs, j + 1, f, x, nd, e1, e2 => by
    have ne : f ≠ g := fun c => (List.nodup_cons.mp nd).1 (by rw [← c]; exact List.mem_of_getElem? (i := j) (by simpa using e1))
    rw [List.zip_cons_cons, List.lookup_cons, show (f == g) = false from beq_false_of_ne ne]
    exact zip_look (List.nodup_cons.mp nd).2 (by simpa using e1) (by simpa using e2)
theorem zip_put : ∀ {fs : List Str} {xs : List V} {j : Nat} {f : Str} {x : V}, fs.Nodup → fs[j]? = some f → j < xs.length → putF f x (fs.zip xs) = fs.zip (xs.set j x)
  | [], _, j, _, _, _, e, _ => by simp at e
  | _ :: _, [], j, _, _, _, _, e => by simp at e
  | g :: fs, y :: xs, 0, f, x, nd, e1, e2 => by
    simp at e1; subst e1
    rw [List.zip_cons_cons, List.set_cons_zero, List.zip_cons_cons]
    unfold putF
    rw [if_pos rfl]
  | g :: fs, y :: xs, j + 1, f, x, nd, e1, e2 => by
    have ne : ¬ g = f := fun c => (List.nodup_cons.mp nd).1 (by rw [c]; exact List.mem_of_getElem? (i := j) (by simpa using e1))
    rw [List.zip_cons_cons, List.set_cons_succ, List.zip_cons_cons]
    unfold putF
    rw [if_neg ne, zip_put (List.nodup_cons.mp nd).2 (by simpa using e1) (by simpa using e2)]
theorem zip_new : ∀ {fs : List Str} {xs : List V} {j : Nat} {f : Str} {x : V}, fs.Nodup → fs[j]? = some f → j = xs.length → putF f x (fs.zip xs) = fs.zip (xs ++ [x])
  | [], _, j, _, _, _, e, _ => by simp at e
  | g :: fs, [], 0, f, x, nd, e1, e2 => by
    simp at e1; subst e1
    rw [List.zip_nil_right, List.nil_append, List.zip_cons_cons, List.zip_nil_right]; rfl
  | g :: fs, [], j + 1, f, x, nd, e1, e2 => by simp at e2
  | g :: fs, y :: xs, 0, f, x, nd, e1, e2 => by simp at e2
  | g :: fs, y :: xs, j + 1, f, x, nd, e1, e2 => by
    have ne : ¬ g = f := fun c => (List.nodup_cons.mp nd).1 (by rw [c]; exact List.mem_of_getElem? (i := j) (by simpa using e1))
    rw [List.zip_cons_cons, List.cons_append, List.zip_cons_cons]
    unfold putF
    rw [if_neg ne, zip_new (List.nodup_cons.mp nd).2 (by simpa using e1) (by simpa using e2)]
theorem RX.fld (fh : Same F H) (h : RX K G F H m x) (e : fldV c j m = some v) : ∃ a dx xs y, x = .ref a ∧ H a = some (.ins (G.C c) dx ((G.flds c).zip xs)) ∧ xs[j]? = some y ∧ RV K G F v y := by
  rcases h with ⟨fp, h⟩ | ⟨w, rfl, h⟩
  · cases m with
    | f w =>
      cases w with
      | ins d vs =>
        unfold fldV at e
        dsimp only at e
        split at e
        · rename_i ed; subst ed
          unfold RM at h
          have h := h.2
          unfold RV at h
          obtain ⟨a, dx, xs, e1, e2, _, r⟩ := h
          obtain ⟨y, y1, y2⟩ := RVs.get r e
          exact ⟨a, dx, xs, y, e1, fh _ _ e2, y1, y2⟩
        · cases e
      | _ => cases e
    | lst ms => cases e
    | ins d ms =>
      unfold fldV at e
      dsimp only at e
      split at e
      · rename_i ed; subst ed
        split at e
        · rename_i w ew
          cases e
          unfold RM at h
          obtain ⟨a, dx, xs, fr, e1, e2, e3, _, r⟩ := h
          obtain ⟨y, f, y1, y2, _⟩ := RMs.get r ew
          unfold RM at y2
          exact ⟨a, dx, xs, y, e1, e3, y1, y2.2⟩
        · cases e
      · cases e
  · cases w with
    | ins d vs =>
      unfold fldV at e
      dsimp only at e
      split at e
      · rename_i ed; subst ed
        rcases h with h | ⟨a, vs, ys, e3, _⟩ | ⟨a, c, dx, vs, ys, e3, e4, n, eh, l, r⟩
        · unfold RV at h
          obtain ⟨a, dx, xs, e1, e2, _, r⟩ := h
          obtain ⟨y, y1, y2⟩ := RVs.get r e
          exact ⟨a, dx, xs, y, e1, fh _ _ e2, y1, y2⟩
        · cases e3
        · cases e3
          obtain ⟨y, y1, y2⟩ := RVs.get r e
          exact ⟨a, dx, ys, y, e4, eh, y1, y2⟩
      · cases e
    | _ => cases e
theorem z_fld (k : ClsF X.K G c) (hj : (G.flds c)[j]? = some fn) (hp : PE X e (tFld X.K (tO X.K G E mo) fn)) : PE X e (tE X.K G E (fld c j mo)) := PEi hp fun σ H Q ⟨B, F, env, h0, ho⟩ => by
  refine ⟨B, F, env, h0, (Out.bindE ho).mono fun h e1 _ ho F1 H1 x s1 h1 a1 => ?_⟩
  obtain ⟨m, r, ho⟩ := Out.rd ho
  obtain ⟨v, ev, hq⟩ := Out.opt ho
  obtain ⟨a, dx, xs, y, e2, e3, e4, e5⟩ := (h1.hdM a1 r).fld h1.hp.fh ev
  exact ⟨a, G.C c, dx, _, y, e2, e3, k.cl, k.na fn (List.mem_of_getElem? hj), zip_look k.nd hj e4, hq F1 H1 y s1 ((pushH_pop h1).pushF e5)⟩
theorem OutS.get {i : Nat} {k : Unit → M β} {q : β → Env → Prop} {g : M Unit} (h : OutS K G E B F ((g >>= k) env) q) : OutS K G E B F (g env) fun _ e => OutS K G E B F (k () e) q := OutS.bindE h
theorem z_fldS (k : ClsF X.K G c) (hj : (G.flds c)[j]? = some fn) (hp : PS X st (sFld X.K (tVar i) (tE X.K G E ma) fn)) : PS X st (tS X.K G E (sFldZ c j i ma)) := PSi hp fun D σ H ⟨B, F, env, h0, ho⟩ => by
  refine ⟨B, F, env, h0, (Out.toS ho).mono fun m e1 _ ho F1 H1 x s1 h1 => ?_⟩
  have hk := OutS.bindE (show OutS X.K G E B F ((setFldM c j i m e1).bind fun _ => (pure Ctl.nx : M Ctl)) _ from ho)
  unfold setFldM at hk
  cases es : e1[i]? with
  | none => rw [es] at hk; exact hk.elim
  | some s =>
    rw [es] at hk
    dsimp only at hk
    cases em : s.mut with
    | none => rw [em] at hk; exact hk.elim
    | some n =>
      rw [em] at hk
      cases n with
      | ins d ms =>
        dsimp only at hk
        split at hk
        case isFalse => exact hk.elim
        rename_i ed
        subst ed
        obtain ⟨y, fp, ft, ey, rm, nd, rt, ndt, dis, put⟩ := h1.put es em
        unfold RM at rm
        obtain ⟨a, dx, xs, fr, e2, e3, e4, e5, e6⟩ := rm
        subst e3
        have hl := RMs.len e6
        unfold RMs at rt
        obtain ⟨x', ys', f1, f2, e7, e8, r1, r2⟩ := rt
        cases e7
        unfold RMs at r2
        rw [r2.2, List.append_nil] at e8
        subst e8
        have na := (List.nodup_cons.mp nd).1
        have fr1 : RMs X.K G F1 (upd H1 a (.ins (G.C d) dx (putF fn x ((G.flds d).zip xs)))) ms xs fr := RMs.frame (Same.refl _) (fun b hb => upd_ne fun c => na (by rw [← c]; exact hb)) e6
        have ft1 : RM X.K G F1 (upd H1 a (.ins (G.C d) dx (putF fn x ((G.flds d).zip xs)))) m x ft := RM.frame (Same.refl _) (fun b hb => upd_ne fun c => dis b hb (by rw [c]; exact List.mem_cons_self ..)) r1
        refine ⟨y, ey, a, G.C d, dx, _, e2, e4, k.cl, k.na fn (List.mem_of_getElem? hj), by rw [List.length_zip]; exact Nat.lt_of_le_of_lt (Nat.min_le_left _ _) (Nat.lt_of_lt_of_le k.sz (by decide)), ?_⟩
        split at hk
        · rename_i hlt
          obtain ⟨fp', g1, g2, g3⟩ := RMs.set j fr1 ft1 hlt
          refine hk σ F1 _ s1 (put a _ (.ins d (ms.set j m)) (a :: fp') (List.mem_cons_self ..) ?_ ?_ ?_)
          · unfold RM
            exact ⟨a, dx, xs.set j x, fp', e2, rfl, by rw [upd_same, zip_put k.nd hj (by rw [hl]; exact hlt)], by rw [List.length_set]; exact e5, g1⟩
          · refine List.nodup_cons.mpr ⟨fun c => ?_, g2 (List.nodup_cons.mp nd).2 ndt fun b hb c => dis b hb (List.mem_cons_of_mem _ c)⟩
            rcases g3 a c with z | z
            · exact na z
            · exact dis a z (List.mem_cons_self ..)
          · intro b hb
            rcases List.mem_cons.mp hb with z | z
            · exact .inl (by rw [z]; exact List.mem_cons_self ..)
            · exact (g3 b z).imp (List.mem_cons_of_mem _) id
        · split at hk
          · rename_i hlt hjl
            refine hk σ F1 _ s1 (put a _ (.ins d (ms ++ [m])) (a :: (fr ++ ft)) (List.mem_cons_self ..) ?_ ?_ ?_)
            · unfold RM
              have := lt_at hj
              exact ⟨a, dx, xs ++ [x], fr ++ ft, e2, rfl, by rw [upd_same, zip_new k.nd hj (by rw [hl]; exact hjl)], by rw [List.length_append]; show ms.length + 1 ≤ _; omega, RMs.app fr1 (RMs.one ft1)⟩
            · rw [← List.cons_append]
              exact List.nodup_append.mpr ⟨nd, ndt, fun b hb c hc e => dis c hc (by rw [← e]; exact hb)⟩
            · intro b hb
              rw [← List.cons_append] at hb
              exact List.mem_append.mp hb
          · exact hk.elim
      | _ => exact hk.elim
end
end Z
set_option maxHeartbeats 1000000
namespace Z
open PySem PySem.Spec L2
section
variable {K : PySem.W.Frag} {G : Gs} {E : XK} {B : Bs} {env : Env} {σ : L2.St} {F H F' H' : Hp} {α β : Type} {m m1 m2 : MV} {x y : V} {v w : Val} {f : Fn} {X : Cx} {e : Expr} {ma mb : M MV} {mo mo2 : M Hd} {ag ak : M (List Ag)} {c j i : Nat} {st : Stmt} {fn : Str} {s : SV} {ms ns : List MV}
theorem RM.lst' {x : V} {fp : List Addr} (h : RM K G F H (.lst ms) x fp) : ∃ a xs fr, x = .ref a ∧ fp = a :: fr ∧ H a = some (.lst xs) ∧ RMs K G F H ms xs fr := by unfold RM at h; exact h
theorem RMs.one' {xs : List V} {fp : List Addr} (h : RMs K G F H [m] xs fp) : ∃ x, xs = [x] ∧ RM K G F H m x fp := by
  unfold RMs at h
  obtain ⟨x, ys, f1, f2, e1, e2, r1, r2⟩ := h
  unfold RMs at r2
  rw [r2.2, List.append_nil] at e2
  rw [e2, e1, r2.1]
  exact ⟨x, rfl, r1⟩
/-- the list of slot i, to be changed -/
theorem EOk.wr (h : EOk K G (B.push [m] [x]) env σ F H) (es : env[i]? = some s) (em : s.mut = some (.lst ms)) : ∃ a xs, σ[i]? = some (some (.ref a)) ∧ H a = some (.lst xs) ∧ xs.length = ms.length ∧
    EOk K G B (env.set i (s.put (.lst (ms ++ [m])))) σ F (upd H a (.lst (xs ++ [x]))) ∧ ∀ j, j < ms.length → EOk K G B (env.set i (s.put (.lst (ms.set j m)))) σ F (upd H a (.lst (xs.set j x))) := by
  obtain ⟨y, fp, ft, ey, rm, nd, rt, ndt, dis, put⟩ := h.put es em
  obtain ⟨a, xs, fr, rfl, rfl, e4, e6⟩ := rm.lst'
  have hl := RMs.len e6
  obtain ⟨x', e7, r1⟩ := rt.one'
  cases e7
  have na := (List.nodup_cons.mp nd).1
  have fr1 : ∀ o, RMs K G F (upd H a o) ms xs fr := fun o => RMs.frame (Same.refl _) (fun b hb => upd_ne fun c => na (by rw [← c]; exact hb)) e6
  have ft1 : ∀ o, RM K G F (upd H a o) m x ft := fun o => RM.frame (Same.refl _) (fun b hb => upd_ne fun c => dis b hb (by rw [c]; exact List.mem_cons_self ..)) r1
  refine ⟨a, xs, ey, e4, hl, ?_, fun j hj => ?_⟩
  · refine put a _ (.lst (ms ++ [m])) (a :: (fr ++ ft)) (List.mem_cons_self ..) ?_ ?_ ?_
    · unfold RM
      exact ⟨a, xs ++ [x], fr ++ ft, rfl, rfl, upd_same, RMs.app (fr1 _) (RMs.one (ft1 _))⟩
    · rw [← List.cons_append]
      exact List.nodup_append.mpr ⟨nd, ndt, fun b hb c hc e => dis c hc (by rw [← e]; exact hb)⟩
    · intro b hb
      rw [← List.cons_append] at hb
      exact List.mem_append.mp hb
  · obtain ⟨fp', g1, g2, g3⟩ := RMs.set j (fr1 (.lst (xs.set j x))) (ft1 (.lst (xs.set j x))) hj
    refine put a _ (.lst (ms.set j m)) (a :: fp') (List.mem_cons_self ..) ?_ ?_ ?_
    · unfold RM
      exact ⟨a, xs.set j x, fp', rfl, rfl, upd_same, g1⟩
    · refine List.nodup_cons.mpr ⟨fun c => ?_, g2 (List.nodup_cons.mp nd).2 ndt fun b hb c => dis b hb (List.mem_cons_of_mem _ c)⟩
      rcases g3 a c with z | z
      · exact na z
      · exact dis a z (List.mem_cons_self ..)
    · intro b hb
      rcases List.mem_cons.mp hb with z | z
      · exact .inl (by rw [z]; exact List.mem_cons_self ..)
      · exact (g3 b z).imp (List.mem_cons_of_mem _) id
theorem RMs.take : ∀ {ms : List MV} {xs : List V} {fp : List Addr} (n : Nat), RMs K G F H ms xs fp → ∃ fp', RMs K G F H (ms.take n) (xs.take n) fp' ∧ fp'.Sublist fp
  | _, _, _, 0, h => by rw [List.take_zero, List.take_zero]; exact ⟨[], .nil, List.nil_sublist _⟩
  | [], _, _, n + 1, h => by unfold RMs at h; rw [h.1]; exact ⟨[], .nil, List.nil_sublist _⟩
  | m :: ms, _, _, n + 1, h => by
    unfold RMs at h
    obtain ⟨x, xs, f1, f2, rfl, rfl, h1, h2⟩ := h
    obtain ⟨g, g1, g2⟩ := RMs.take n h2
    refine ⟨f1 ++ g, ?_, List.Sublist.append_left g2 f1⟩
    rw [List.take_succ_cons, List.take_succ_cons]
    unfold RMs
    exact ⟨x, _, f1, g, rfl, rfl, h1, g1⟩
theorem EOk.popL (h : EOk K G B env σ F H) (es : env[i]? = some s) (em : s.mut = some (.lst ms)) (el : ms[ms.length - 1]? = some (.f v)) : ∃ a xs y, σ[i]? = some (some (.ref a)) ∧ H a = some (.lst xs) ∧ xs[xs.length - 1]? = some y ∧ RV K G F v y ∧
    EOk K G B (env.set i (s.put (.lst ms.dropLast))) σ F (upd H a (.lst xs.dropLast)) := by
  obtain ⟨y, fp, ft, ey, rm, nd, rt, ndt, dis, put⟩ := h.pushE.put es em
  obtain ⟨a, xs, fr, rfl, rfl, e4, e6⟩ := rm.lst'
  have hl := RMs.len e6
  have na := (List.nodup_cons.mp nd).1
  obtain ⟨z, f, z1, z2, _⟩ := RMs.get e6 el
  unfold RM at z2
  have fr1 : RMs K G F (upd H a (.lst xs.dropLast)) ms xs fr := RMs.frame (Same.refl _) (fun b hb => upd_ne fun c => na (by rw [← c]; exact hb)) e6
  obtain ⟨g, g1, g2⟩ := RMs.take (ms.length - 1) fr1
  refine ⟨a, xs, z, ey, e4, by rw [hl]; exact z1, z2.2, ?_⟩
  refine put a _ (.lst ms.dropLast) (a :: g) (List.mem_cons_self ..) ?_ ?_ ?_
  · unfold RM
    refine ⟨a, xs.dropLast, g, rfl, rfl, upd_same, ?_⟩
    have q : xs.dropLast = xs.take (ms.length - 1) := by rw [List.dropLast_eq_take, hl]
    have q2 : ms.dropLast = ms.take (ms.length - 1) := List.dropLast_eq_take ..
    rw [q2]
    rw [← q] at g1
    exact g1
  · exact List.nodup_cons.mpr ⟨fun c => na (g2.subset c), (List.nodup_cons.mp nd).2.sublist g2⟩
  · intro b hb
    rcases List.mem_cons.mp hb with z | z
    · exact .inl (by rw [z]; exact List.mem_cons_self ..)
    · exact .inl (List.mem_cons_of_mem _ (g2.subset z))
theorem OutS.isLd {k : Unit → M β} {q : β → Env → Prop} (h : OutS K G E B F ((Z.isL i >>= k) env) q) : ∃ s ms, env[i]? = some s ∧ s.mut = some (.lst ms) ∧ OutS K G E B F (k () env) q := by
  have h' := OutS.bindE (show OutS K G E B F ((Z.isL i env).bind k) q from h)
  unfold Z.isL at h'
  cases e : env[i]? with
  | none => rw [e] at h'; exact h'.elim
  | some s =>
    rw [e] at h'
    dsimp only at h'
    cases e2 : s.mut with
    | none => rw [e2] at h'; exact h'.elim
    | some m =>
      rw [e2] at h'
      cases m with
      | lst ms => exact ⟨s, ms, rfl, e2, h'⟩
      | _ => exact h'.elim
theorem EOk.lstAt (h : EOk K G B env σ F H) (es : env[i]? = some s) (em : s.mut = some (.lst ms)) : ∃ a xs, σ[i]? = some (some (.ref a)) ∧ H a = some (.lst xs) := by
  obtain ⟨fp, z⟩ := h.get es
  obtain ⟨y, ey, rm⟩ := z.mutE em
  obtain ⟨a, xs, fr, rfl, rfl, e4, e6⟩ := rm.lst'
  exact ⟨a, xs, join_some ey, e4⟩
theorem z_app (hp : PS X st (tDrop (tBM X.K "list" rAppend (tVar i) (tCons (tE X.K G E ma) tNil)))) : PS X st (tS X.K G E (sApp i ma)) := PSi hp fun D σ H ⟨B, F, env, h0, ho⟩ => by
  obtain ⟨s, ms, es, em, ho⟩ := OutS.isLd ho
  obtain ⟨a, xs, ea, eh⟩ := h0.lstAt es em
  refine ⟨_, ea, .inl ⟨rfl, xs, .inl (.inl eh)⟩, B, F, env, h0, (Out.toS ho).mono fun m e1 _ ho F1 H1 x s1 h1 => ?_⟩
  have hk := OutS.bindE (show OutS X.K G E B F ((appM i m e1).bind fun _ => (pure Ctl.nx : M Ctl)) _ from ho)
  unfold appM at hk
  cases es1 : e1[i]? with
  | none => rw [es1] at hk; exact hk.elim
  | some s' =>
    rw [es1] at hk
    dsimp only at hk
    cases em1 : s'.mut with
    | none => rw [em1] at hk; exact hk.elim
    | some n =>
      rw [em1] at hk
      cases n with
      | lst ms' =>
        dsimp only at hk
        split at hk
        · rename_i l
          obtain ⟨a', xs', z1, z2, z3, z4, _⟩ := h1.wr es1 em1
          rw [ea] at z1; cases z1
          exact ⟨a, xs', x, rfl, rfl, z2, by rw [z3]; exact l, hk σ F1 _ s1 z4⟩
        · exact hk.elim
      | _ => exact hk.elim
theorem z_setAt (hp : PS X st (tAsg (tE X.K G E ma) (gSub (tVar i) (tE X.K G E mb) rSetL))) : PS X st (tS X.K G E (sSetAt i mb ma)) := PSi hp fun D σ H ⟨B, F, env, h0, ho⟩ => by
  refine ⟨B, F, env, h0, (Out.toS ho).mono fun m e1 _ ho F1 H1 x s1 h1 => ?_⟩
  obtain ⟨s, ms, es, em, ho⟩ := OutS.isLd ho
  obtain ⟨a, xs, ea, eh⟩ := h1.lstAt es em
  have hb := OutS.bindE (show OutS X.K G E B F ((mb e1).bind fun k => (do setAtM i k.val m; pure Ctl.nx : M Ctl)) _ from ho)
  refine ⟨_, ea, B.push [m] [x], F1, e1, h1, (Out.push (xs := [x]) (ms := [m]) s1 hb.out).mono fun k e2 _ ho F2 H2 y s2 h2 => ?_⟩
  have hk := OutS.bindE (show OutS X.K G E B F ((setAtM i k.val m e2).bind fun _ => (pure Ctl.nx : M Ctl)) _ from ho)
  have rk := h2.topV
  have h3 := h2.pop
  unfold setAtM at hk
  cases es1 : e2[i]? with
  | none => rw [es1] at hk; exact hk.elim
  | some s' =>
    rw [es1] at hk
    dsimp only at hk
    cases em1 : s'.mut with
    | none => rw [em1] at hk; exact hk.elim
    | some n =>
      rw [em1] at hk
      cases n with
      | lst ms' =>
        dsimp only at hk
        cases ek : k.val with
        | int z =>
          rw [ek] at hk rk
          dsimp only at hk
          cases ej : ixN ms'.length z with
          | none => rw [ej] at hk; exact hk.elim
          | some j =>
            rw [ej] at hk
            obtain ⟨a', xs', z1, z2, z3, _, z4⟩ := h3.wr es1 em1
            rw [ea] at z1; cases z1
            have hj : j < ms'.length := by
              unfold ixN at ej
              split at ej
              · split at ej
                · cases ej; omega
                · cases ej
              · split at ej
                · cases ej; omega
                · cases ej
            exact ⟨a, xs', z, j, rfl, rv_int rk, z2, by rw [z3]; exact ej, hk σ F2 _ (s1.trans s2) (z4 j hj)⟩
        | _ => rw [ek] at hk; exact hk.elim
      | _ => exact hk.elim
/-! ### instances -/
theorem ArgsOk.heap {M : List Addr} (s : ∀ a, H a ≠ none → H' a = H a) : ∀ {ds : List Md} {as : List Arg} {xs : List V}, ArgsOk K G F H M ds as xs [] → ArgsOk K G F H' M ds as xs []
  | [], [], [], h => h
  | .d :: ds, .v v :: as, x :: xs, h => ⟨h.1, ArgsOk.heap s h.2⟩
  | .r :: ds, .v v :: as, x :: xs, h => by
    refine ⟨?_, ArgsOk.heap s h.2⟩
    rcases h.1 with r | ⟨a, vs, ys, e3, e4, n, eh, r⟩ | ⟨a, c, dx, vs, ys, e3, e4, n, eh, l, r⟩
    · exact .inl r
    · exact .inr (.inl ⟨a, vs, ys, e3, e4, n, by rw [s a (by rw [eh]; exact Option.some_ne_none _)]; exact eh, r⟩)
    · exact .inr (.inr ⟨a, c, dx, vs, ys, e3, e4, n, by rw [s a (by rw [eh]; exact Option.some_ne_none _)]; exact eh, l, r⟩)
  | .io :: ds, .io m :: as, x :: xs, h => by obtain ⟨_, _, e, _⟩ := h; cases e
  | [], _ :: _, _, h => h.elim
  | [], [], _ :: _, h => h.elim
  | .d :: _, [], _, h => h.elim
  | .d :: _, .io _ :: _, _, h => h.elim
  | .d :: _, .v _ :: _, [], h => h.elim
  | .r :: _, [], _, h => h.elim
  | .r :: _, .io _ :: _, _, h => h.elim
  | .r :: _, .v _ :: _, [], h => h.elim
  | .io :: _, [], _, h => h.elim
  | .io :: _, .v _ :: _, _, h => h.elim
  | .io :: _, .io _ :: _, [], h => h.elim
/-- something new is kept beside -/
theorem EOk.stepG {ns : List MV} {ys : List V} {fr : List Addr} (h : EOk K G B env σ F H) (hk : HeapOk [] F H F' H') (r : RMs K G F' H' ns ys fr) (nd : fr.Nodup) (nr : ∀ a ∈ fr, F' a = none ∧ H' a ≠ none ∧ H a = none) : EOk K G (B.push ns ys) env σ F' H' := by
  obtain ⟨hp, hl, fps, h1, h2, sp⟩ := h
  exact EOk.called (L := []) (is := []) (outs := []) (gs := []) hp hl h1 h2 sp rfl List.nodup_nil hk ⟨rfl, rfl⟩ r (by rw [List.flatten_nil, List.append_nil]; exact nd) nr
theorem z_mk {dvs : List Val} {dxs : List V} (hd : Scas X.K G dvs dxs) (hp : PE X e (tMake (G.C c) (spZ X.K G f) dxs E (tA X.K G E ag))) : PE X e (tE X.K G E (mk c f dvs ag)) := PEi hp fun σ H Q ⟨B, F, env, h0, ho⟩ => by
  refine ⟨B, F, env, h0, (Out.bindE ho).mono fun gs e1 _ ho F1 H1 xs s1 h1 a1 => ?_⟩
  intro x dx nx ndx nex
  cases emd : f.md with
  | nil => rw [emd] at ho; exact (show False from ho).elim
  | cons d ds =>
    cases d with
    | d => rw [emd] at ho; exact (show False from ho).elim
    | r => rw [emd] at ho; exact (show False from ho).elim
    | io =>
      rw [emd] at ho
      dsimp only [List.tail] at ho
      cases eb : bindAs e1 ds (gs ++ dvs.map .v) with
      | none => rw [eb] at ho; exact (show False from ho).elim
      | some as =>
        rw [eb] at ho
        dsimp only at ho
        split at ho
        case isFalse => exact (show False from ho).elim
        rename_i eio
        have h1' := h1
        obtain ⟨hp1, hl1, fps, g1, g2, sp⟩ := h1
        have H0n : ∀ a, H1 a = none → B.H0 a = none := fun a n => by
          cases z : B.H0 a with
          | none => rfl
          | some u => exact absurd n (hp1.ht a (by rw [z]; exact Option.some_ne_none u))
        obtain ⟨L, l1, l2⟩ := args_of (K := X.K) (G := G) (M := [x]) hp1 g1 (fun a m => .inl (by rw [List.mem_singleton.mp m]; exact H0n x nx)) eb (a1.app hd.at) (fun i _ a ma c => by
          rw [List.mem_singleton.mp c] at ma
          exact (sp.nf _ x ma).2.1 nx)
        rw [eio] at l1
        have eL : L = [] := l1
        subst eL
        have hx : ∀ a, H1 a ≠ none → upd (upd H1 dx (.own x)) x (.ins (G.C c) dx []) a = H1 a := fun a ha => by
          rw [upd_ne (fun q => ha (by rw [q]; exact nx)), upd_ne (fun q => ha (by rw [q]; exact ndx))]
        have nfx : F1 x = none := Same.free hp1.fh nx
        have sm : Same F1 (upd (upd H1 dx (.own x)) x (.ins (G.C c) dx [])) := fun b o q => by
          have q1 := hp1.fh b o q
          rw [hx b (by rw [q1]; exact Option.some_ne_none _)]; exact q1
        have stp : ∀ {F' H' : Hp}, HeapOk [x] F1 (upd (upd H1 dx (.own x)) x (.ins (G.C c) dx [])) F' H' → HeapOk [] F1 H1 F' H' := fun {F' H'} hk =>
          ⟨fun b o _ q => hk.hs b o (fun z => by rw [List.mem_singleton.mp z, nx] at q; cases q) (by rw [hx b (by rw [q]; exact Option.some_ne_none _)]; exact q),
           fun b q => hk.ht b (by rw [hx b q]; exact q), hk.fs, hk.fh, fun a n q => by
            have := hk.fr a n q
            cases z : H1 a with
            | none => rfl
            | some o => rw [hx a (by rw [z]; exact Option.some_ne_none _), z] at this; cases this⟩
        have fresh : ∀ {a : Addr}, upd (upd H1 dx (.own x)) x (.ins (G.C c) dx []) a = none ∨ a ∈ [x] → H1 a = none := fun {a} z => by
          rcases z with z | z
          · cases q : H1 a with
            | none => rfl
            | some o => rw [hx a (by rw [q]; exact Option.some_ne_none _), q] at z; cases z
          · rw [List.mem_singleton.mp z]; exact nx
        refine ⟨.io (.ins c []) :: as, [(.ref x, .ins c [], [x])], F1, sm, ?_, by show [x].Nodup; simp, fun a m => ?_, ?_⟩
        · rw [emd]
          refine ⟨[x], [], rfl, ?_, ArgsOk.heap hx l2⟩
          unfold RM
          exact ⟨x, dx, [], [], rfl, rfl, by rw [upd_same, List.zip_nil_right], Nat.zero_le _, .nil⟩
        · rw [List.mem_singleton.mp (show a ∈ [x] from m)]; exact ⟨nfx, by rw [upd_same]; exact Option.some_ne_none _⟩
        · cases er : f.run (.io (.ins c []) :: as) with
          | no => rw [er] at ho; exact (show False from ho).elim
          | er ex outs =>
            rw [er] at ho
            intro F' H' cls d gs' hk ok nn hex
            exact ho F' H' cls d (s1.trans hk.fs) (h1'.step (stp hk)) hex
          | ok r outs =>
            rw [er] at ho
            split at ho
            · rename_i m eq
              cases eq
              intro F' H' xr fr gs' hk ok rr nn nr
              obtain ⟨m', ms', g, gs'', e5, e6, r1, n1, r2⟩ := ok
              cases e5
              subst e6
              unfold RM at rr
              refine ⟨rv_non rr.2, ho F' H' (.ref x) (s1.trans hk.fs) (h1'.stepG (stp hk) (RMs.one r1) ?_ fun a ma => ⟨(n1 a ma).1, (n1 a ma).2.1, fresh (n1 a ma).2.2⟩)⟩
              rw [List.flatten_cons, List.nodup_append, List.nodup_append] at nn
              exact nn.2.1.1
            · rename_i eq; cases eq
            · exact (show False from ho).elim
end
end Z
set_option maxHeartbeats 1000000
namespace L2
open PySem PySem.Spec PyProof.Rows
/-- lists put together, of any kind -/
def rCatS (K : PySem.W.Frag) : R2 := fun x y H Q => ∃ l b xs zs, x = .ref l ∧ y = .ref b ∧ SqL K H l xs ∧ SqL K H b zs ∧ xs.length + zs.length ≤ sizeLine ∧ ∀ p, H p = none → Q (.ref p) (upd H p (.lst (xs ++ zs)))
theorem op_catS {X : Cx} : OpR X (binaryOp .Add) (rCatS X.K) := by
  intro pins s σ H x y v u Q I rx ry h
  obtain ⟨l, b, xs, zs, rfl, rfl, hH, hB, hz, q⟩ := h
  cases rx
  cases ry
  obtain ⟨its, r, ⟨⟨cls, dd, data, sl⟩, n, e, hc, hd, hs⟩, hl⟩ := I.list hH
  obtain ⟨its2, r2, ⟨⟨cls2, dd2, data2, sl2⟩, n2, e2, hc2, hd2, hs2⟩, hl2⟩ := I.list hB
  have l1 := r.length
  have l2 := r2.length
  simp only at hc hd hs hc2 hd2 hs2
  subst hc hd hs hc2 hd2 hs2
  refine concat_meets ⟨_, e, rfl⟩ ⟨_, e2, rfl⟩ noFill_list_add seq_list_add PySem.F.slot_list_add PySem.F.entry_list_add (PySem.F.args_list_add_2 _ _) (list_addW l b its.toArray its2.toArray n n2 none none sl sl2 (by rw [List.size_toArray, List.size_toArray]; omega)) ⟨e, e2, ?_⟩
  have ea : its.toArray ++ its2.toArray = (its ++ its2).toArray := by simp
  rw [ea]
  exact ⟨.ref _, _, I.lnew (t' := s.toks) (r.append r2) (by rw [List.length_append]; omega), rfl, q _ I.fresh⟩
end L2
namespace Z
open PySem PySem.Spec L2
/-! ### lists put together, slices, isinstance, == and repr of data -/
def cutL (xs : List Val) (lo hi : Option Int) : List Val := (xs.drop (HT.sIx xs.length 0 lo)).take (HT.sIx xs.length xs.length hi - HT.sIx xs.length 0 lo)
def oN : M (Option Int) := pure none
def oI (a : M MV) : M (Option Int) := do
  let m ← a
  match m with
  | .f (.int i) => pure (some i)
  | _ => fail
def slL (a : M Hd) (lo hi : M (Option Int)) : M MV := do
  let h ← a
  let i ← lo
  let j ← hi
  let m ← rdH h
  let xs ← opt m.itsL
  pure (.lst ((cutL xs i j).map .f))
def slT (a : M Hd) (lo hi : M (Option Int)) : M MV := do
  let h ← a
  let i ← lo
  let j ← hi
  let m ← rdH h
  let xs ← opt m.itsT
  pure (.f (.tup (cutL xs i j)))
mutual
def Val.isD : Val → Bool
  | .non => true
  | .bl _ => true
  | .int _ => true
  | .str _ => true
  | .tup xs => Val.isDs xs
  | .lst xs => Val.isDs xs
  | _ => false
def Val.isDs : List Val → Bool
  | [] => true
  | v :: r => v.isD && Val.isDs r
end
mutual
def Val.dat : Val → PyData
  | .non => .none
  | .bl b => .bool b
  | .int i => .int i
  | .str s => .str s
  | .tup xs => .tuple (Val.dats xs)
  | .lst xs => .list (Val.dats xs)
  | _ => .none
def Val.dats : List Val → List PyData
  | [] => []
  | v :: r => v.dat :: Val.dats r
end
def eqD (v w : Val) : Option Val := if v.isD = true ∧ w.isD = true ∧ SeqAt.shaped v.dat = true ∧ SeqAt.shaped w.dat = true then some (.bl (PyData.eqv v.dat w.dat)) else none
def neD (v w : Val) : Option Val := if v.isD = true ∧ w.isD = true ∧ SeqAt.shaped v.dat = true ∧ SeqAt.shaped w.dat = true then some (.bl (!PyData.eqv v.dat w.dat)) else none
def shwV (v : Val) : Option Val := if v.isD = true ∧ v.dat.showable = true ∧ v.dat.hasDict = false ∧ v.dat.depth ≤ 90 ∧ v.dat.shown.length ≤ 16777216 then some (.str v.dat.shown) else none
def tyOf : Val → Option String
  | .non => some "NoneType"
  | .bl _ => some "bool"
  | .int _ => some "int"
  | .str _ => some "str"
  | .tup _ => some "tuple"
  | .lst _ => some "list"
  | _ => none
def isB (n : String) (v : Val) : Option Bool := (tyOf v).map fun k => k == n || (k == "bool" && n == "int")
def isBT (ns : List String) (v : Val) : Option Bool := (tyOf v).map fun k => ns.any fun n => k == n || (k == "bool" && n == "int")
def isO (c : Nat) : Val → Option Bool
  | .ins d _ => if d = c then some true else none
  | _ => none
def blO (g : Val → Option Bool) (v : Val) : Option Val := (g v).map .bl
section
variable {K : PySem.W.Frag} {G : Gs} {E : XK} {B : Bs} {env : Env} {σ : L2.St} {F H F' H' : Hp} {α β : Type} {m m1 m2 : MV} {x y : V} {v w : Val} {f : Fn} {X : Cx} {e a b : Expr} {ma mb : M MV} {mo mo2 : M Hd} {ag ak : M (List Ag)} {c j i : Nat} {st : Stmt} {fn : Str}
theorem z_cat (hp : PE X e (tOp (rCatS X.K) (tO X.K G E mo) (tO X.K G E mo2))) : PE X e (tE X.K G E (cat mo mo2)) := PEi hp fun σ H Q ⟨B, F, env, h0, ho⟩ => by
  refine ⟨B, F, env, h0, (Out.bindE ho).mono fun h e1 _ ho F1 H1 x s1 h1 a1 => ?_⟩
  refine ⟨B.pushH h x, F1, e1, h1, (Out.bindE (ho.pushH s1)).mono fun k e2 eq _ F2 H2 y s2 h2 a2 => ?_⟩
  have ho := Out.ok ho eq
  obtain ⟨n1, r1, ho⟩ := Out.rd ho
  obtain ⟨n2, r2, ho⟩ := Out.rd ho
  obtain ⟨vs, ev, ho⟩ := Out.optL ho
  obtain ⟨ws, ew, ho⟩ := Out.optL ho
  split at ho
  · rename_i l
    obtain ⟨p, xs, e3, q3, t3⟩ := ((pushH_pop h2).hdM a1 r1).itsL h2.hp.fh ev
    obtain ⟨q, ys, e4, q4, t4⟩ := (h2.hdM a2 r2).itsL h2.hp.fh ew
    exact ⟨p, q, xs, ys, e3, e4, q3, q4, by rw [RVs.len t3, RVs.len t4]; exact l, fun r hr => ho F2 _ _ (s1.trans s2) ((pushH_pop (pushH_pop h2)).newLf (t3.app t4) hr)⟩
  · exact (show False from ho).elim
theorem RVs.repl {vs : List Val} {xs : List V} (h : RVs K G F vs xs) : ∀ (k : Nat), RVs K G F (repL k vs) ((List.replicate k xs).flatten)
  | 0 => .nil
  | k + 1 => by
    show RVs K G F ((List.replicate (k + 1) vs).flatten) _
    rw [List.replicate_succ, List.replicate_succ, List.flatten_cons, List.flatten_cons]
    exact h.app (RVs.repl h k)
theorem z_rep (hp : PE X e (tOp rRep (tE X.K G E ma) (tE X.K G E mb))) : PE X e (tE X.K G E (erep ma mb)) := PEi hp fun σ H Q ⟨B, F, env, h0, ho⟩ => by
  refine ⟨B, F, env, h0, (Out.bindE ho).mono fun m1 e1 _ ho F1 H1 x s1 h1 => ?_⟩
  refine ⟨B.push [m1] [x], F1, e1, h1, (Out.bindE (ho.push s1)).mono fun m2 e2 eq _ F2 H2 y s2 h2 => ?_⟩
  have ho := Out.ok ho eq
  cases m1 with
  | lst ms =>
    cases m2 with
    | f w =>
      cases w with
      | int k =>
        obtain ⟨vs, ev, ho⟩ := Out.optL ho
        split at ho
        · rename_i l
          obtain ⟨fp, fps, r, _⟩ := h2.pop.top
          obtain ⟨x', ex, r⟩ := r.one'
          cases ex
          obtain ⟨p, xs, fr, e3, _, e4, e5⟩ := r.lst'
          have t := RMs.all e5 ev
          exact ⟨p, k, xs, e3, rv_int h2.topF, e4, l.1, l.2.1, by rw [RVs.len t]; exact l.2.2, fun q hq => ho F2 _ _ (s1.trans s2) (h2.pop.pop.newLf (t.repl _) hq)⟩
        · exact (show False from ho).elim
      | _ => exact (show False from ho).elim
    | _ => exact (show False from ho).elim
  | _ => exact (show False from ho).elim
/-! #### slices -/
def tP (K : PySem.W.Frag) (G : Gs) (E : XK) (m : M (Option Int)) : TO := fun σ H Q => ∃ B F env, EOk K G B env σ F H ∧ Out K G E B σ F (m env) fun o e' => ∀ F' H', Same F F' → EOk K G B e' σ F' H' → Q o H'
theorem POi {eo : Option Expr} {t t' : TO} (h : PO X eo t) (i : ∀ σ H Q, t' σ H Q → t σ H Q) : PO X eo t' := ⟨fun pins s σ H Q I q => h.run pins s σ H Q I (i σ H Q q)⟩
theorem zo_none : PO X none (tP X.K G E oN) := POi po_none fun σ H Q ⟨B, F, env, h0, ho⟩ => ho F H (Same.refl _) h0
theorem zo_some (ha : PE X a (tE X.K G E ma)) : PO X (some a) (tP X.K G E (oI ma)) := POi (po_some ha) fun σ H Q ⟨B, F, env, h0, ho⟩ => by
  refine ⟨B, F, env, h0, (Out.bindE ho).mono fun m1 e1 _ ho F1 H1 x s1 h1 => ?_⟩
  split at ho
  · exact ⟨_, rv_int h1.topF, ho F1 H1 s1 h1.pop⟩
  · exact (show False from ho).elim
theorem cut_rvs {vs : List Val} {xs : List V} {lo hi : Option Int} (r : RVs K G F vs xs) : RVs K G F (cutL vs lo hi) (cutV xs lo hi) := by
  unfold cutL cutV
  rw [RVs.len r]
  exact RVs.take _ (RVs.drop _ r)
theorem z_slL {lo hi : M (Option Int)} (hp : PE X e (tSl (rSlL X.K) (tO X.K G E mo) (tP X.K G E lo) (tP X.K G E hi))) : PE X e (tE X.K G E (slL mo lo hi)) := PEi hp fun σ H Q ⟨B, F, env, h0, ho⟩ => by
  refine ⟨B, F, env, h0, (Out.bindE ho).mono fun h e1 _ ho F1 H1 x s1 h1 a1 => ?_⟩
  refine ⟨B.pushH h x, F1, e1, h1, (Out.bindE (ho.pushH s1)).mono fun i e2 eq _ F2 H2 s2 h2 => ?_⟩
  have ho := Out.ok ho eq
  refine ⟨B.pushH h x, F2, e2, h2, (Out.bindE (ho.pushH (s1.trans s2))).mono fun j e3 eq _ F3 H3 s3 h3 => ?_⟩
  have ho := Out.ok ho eq
  obtain ⟨n1, r1, ho⟩ := Out.rd ho
  obtain ⟨vs, ev, ho⟩ := Out.optL ho
  obtain ⟨p, xs, e4, q4, t4⟩ := (h3.hdM a1 r1).itsL h3.hp.fh ev
  exact ⟨p, xs, e4, q4, fun r hr => ho F3 _ _ ((s1.trans s2).trans s3) ((pushH_pop h3).newLf (cut_rvs t4) hr)⟩
theorem rv_tupT {n : MV} {vs : List Val} (h : RX K G F H n x) (e : n.itsT = some vs) : RV K G F (.tup vs) x := by
  cases n with
  | f w =>
    cases w with
    | tup zs =>
      cases e
      rcases h with ⟨fp, z⟩ | ⟨w, ew, z⟩
      · unfold RM at z; exact z.2
      · cases ew
        rcases z with z | ⟨_, _, _, z, _⟩ | ⟨_, _, _, _, _, z, _⟩
        · exact z
        · cases z
        · cases z
    | _ => cases e
  | _ => cases e
theorem z_slT {lo hi : M (Option Int)} (hp : PE X e (tSl (rSlA X.K) (tO X.K G E mo) (tP X.K G E lo) (tP X.K G E hi))) : PE X e (tE X.K G E (slT mo lo hi)) := PEi hp fun σ H Q ⟨B, F, env, h0, ho⟩ => by
  refine ⟨B, F, env, h0, (Out.bindE ho).mono fun h e1 _ ho F1 H1 x s1 h1 a1 => ?_⟩
  refine ⟨B.pushH h x, F1, e1, h1, (Out.bindE (ho.pushH s1)).mono fun i e2 eq _ F2 H2 s2 h2 => ?_⟩
  have ho := Out.ok ho eq
  refine ⟨B.pushH h x, F2, e2, h2, (Out.bindE (ho.pushH (s1.trans s2))).mono fun j e3 eq _ F3 H3 s3 h3 => ?_⟩
  have ho := Out.ok ho eq
  obtain ⟨n1, r1, ho⟩ := Out.rd ho
  obtain ⟨vs, ev, ho⟩ := Out.optL ho
  have rx := h3.hdM a1 r1
  obtain ⟨p, xs, e4, q4, t4⟩ := rx.itsT h3.hp.fh ev
  refine ⟨p, xs, e4, q4, fun full => ?_, fun _ r hr => ?_⟩
  · have rv := rv_tupT rx ev
    have : cutL vs i j = vs := by
      unfold cutL
      rw [← RVs.len t4, full.1, full.2, List.drop_zero, Nat.sub_zero, RVs.len t4, List.take_length]
    rw [this] at ho
    rw [← e4]
    exact ho F3 H3 x ((s1.trans s2).trans s3) ((pushH_pop h3).pushF rv)
  · obtain ⟨F4, s4, h4, rt⟩ := (pushH_pop h3).newT (cut_rvs (lo := i) (hi := j) t4) hr
    exact ho F4 _ _ (((s1.trans s2).trans s3).trans s4) (h4.pushF rt)
/-! #### data -/
mutual
theorem RV.dp : ∀ {v : Val} {x : V}, RV K G H v x → v.isD = true → Dp K H x v.dat
  | .non, _, h, _ => by rw [rv_non h, Val.dat]; exact .non
  | .bl b, _, h, _ => by rw [rv_bl h, Val.dat]; exact .bl b
  | .int b, _, h, _ => by rw [rv_int h, Val.dat]; exact .int b
  | .str b, _, h, _ => by rw [rv_str h, Val.dat]; exact .str b
  | .ty _, _, _, e => by cases e
  | .st _, _, _, e => by cases e
  | .ins _ _, _, _, e => by cases e
  | .tup xs, _, h, e => by
    rw [Val.isD] at e
    unfold RV at h
    obtain ⟨a, ys, e1, q, r⟩ := h
    rw [e1, Val.dat]
    exact .tup q (RVs.dp r e)
  | .lst xs, _, h, e => by
    rw [Val.isD] at e
    unfold RV at h
    obtain ⟨a, ys, e1, q, r⟩ := h
    rw [e1, Val.dat]
    exact .lst q (RVs.dp r e)
theorem RVs.dp : ∀ {vs : List Val} {xs : List V}, RVs K G H vs xs → Val.isDs vs = true → DpAll K H xs (Val.dats vs)
  | [], _, h, _ => by unfold RVs at h; rw [h, Val.dats]; exact .nil
  | v :: vs, _, h, e => by
    rw [Val.isDs, Bool.and_eq_true] at e
    unfold RVs at h
    obtain ⟨x, xs, e1, r1, r2⟩ := h
    rw [e1, Val.dats]
    exact .cons (RV.dp r1 e.1) (RVs.dp r2 e.2)
end
theorem k_eqD : BiOk K G (rEqD K) eqD := fun H x y v w z Q rx ry e q => by
  unfold eqD at e
  split at e
  · rename_i c; cases e
    exact ⟨_, _, rx.dp c.1, ry.dp c.2.1, c.2.2.1, c.2.2.2, q _ sca_bl⟩
  · cases e
theorem k_neD : BiOk K G (rNeD K) neD := fun H x y v w z Q rx ry e q => by
  unfold neD at e
  split at e
  · rename_i c; cases e
    exact ⟨_, _, rx.dp c.1, ry.dp c.2.1, c.2.2.1, c.2.2.2, q _ sca_bl⟩
  · cases e
theorem k_repr : CbOk K G (rShow K) shwV := fun H x v z Q r e q => by
  unfold shwV at e
  split at e
  · rename_i c; cases e
    exact ⟨x, _, rfl, r.dp c.1, c.2.1, c.2.2.1, c.2.2.2.1, c.2.2.2.2, q _ sca_str⟩
  · cases e
/-! #### isinstance -/
structure OwnT (K : PySem.W.Frag) (C : Addr) : Prop where
  cl : Cls K C
  ha : PySem.W.findIn K (.ref C) "__class__" = some (some (.builtin "object.__class__"))
  hn : PySem.W.specialIn K (.builtin "object.__class__") "__get__" = some (some (.builtin "getset_descriptor.__get__"))
  ht : PySem.W.takesIn K (.builtin "object.__class__") = some true
  hm : PySem.W.mroIn K C (.type "object") = some true
theorem tyX_b {n : String} (h : RV K G H v x) (e : tyOf v = some n) : TyX K H x (.type n) := by
  cases v with
  | non => cases e; rw [rv_non h]; exact .base .non
  | bl b => cases e; rw [rv_bl h]; exact .base (.bl _)
  | int b => cases e; rw [rv_int h]; exact .base (.int _)
  | str b => cases e; rw [rv_str h]; exact .base (.str _)
  | tup xs =>
    cases e
    unfold RV at h
    obtain ⟨a, ys, e1, sq, _⟩ := h
    rw [e1]
    rcases sq with (h | ⟨o, h⟩) | ⟨o, its, n, h1, h2, _⟩
    · exact .base (.tup h)
    · exact .fTuple h
    · exact .kTuple h1 h2
  | lst xs =>
    cases e
    unfold RV at h
    obtain ⟨a, ys, e1, sq, _⟩ := h
    rw [e1]
    rcases sq with (h | ⟨o, h⟩) | ⟨o, its, n, h1, h2, _⟩
    · exact .base (.lst h)
    · exact .base (.frz h)
    · exact .kList h1 h2
  | _ => cases e
theorem HeapOk.same {F1 H1 F2 H2 : Hp} (a : HeapOk [] F1 H1 F2 H2) : Same H1 H2 := fun b o e => a.hs b o List.not_mem_nil e
def KitB (n : String) : Prop := ∀ k ∈ ["NoneType", "bool", "int", "str", "tuple", "list"], kitB k n = some (k == n || (k == "bool" && n == "int"))
theorem tyOf_mem {k : String} (e : tyOf v = some k) : k ∈ ["NoneType", "bool", "int", "str", "tuple", "list"] := by
  cases v <;> cases e <;> simp
theorem k_isB {n : String} (k : KitB n) : CbOk K G (fun xs H Q => rIsi K (xs ++ [.ty n]) H Q) (blO (isB n)) := fun H x v z Q r e q => by
  unfold blO isB at e
  cases et : tyOf v with
  | none => rw [et] at e; cases e
  | some t =>
    rw [et] at e
    cases e
    exact ⟨x, .ty n, .type t, .type n, _, rfl, .ty n, tyX_b r et, kit_ty (k t (tyOf_mem et)), q _ sca_bl⟩
theorem z_isB {n : String} (k : KitB n) {tc : TE} (hc : ∀ σ H Q, Q (.ty n) H → tc σ H Q) (hp : PE X e (tCB (rIsi X.K) (tCons (tO X.K G E mo) (tCons tc tNil)))) : PE X e (tE X.K G E (cb (blO (isB n)) mo)) := PEi hp fun σ H Q ⟨B, F, env, h0, ho⟩ => by
  refine ⟨B, F, env, h0, (Out.bindE ho).mono fun k1 e1 _ ho F1 H1 x s1 h1 a1 => ?_⟩
  obtain ⟨n1, r1, ho⟩ := Out.rd ho
  obtain ⟨z, hz, hq⟩ := Out.opt ho
  exact hc _ _ _ (k_isB k H1 x _ z Q (h1.hd a1 r1).2 hz fun x' sx => hq F1 H1 x' s1 ((pushH_pop h1).pushF (sx F1)))
theorem kitAny_ns {t : String} : ∀ {ns : List String}, (∀ n ∈ ns, KitB n) → t ∈ ["NoneType", "bool", "int", "str", "tuple", "list"] → PySem.W.kitAny K (.type t) (ns.map Value.type) = some (ns.any fun n => t == n || (t == "bool" && n == "int"))
  | [], _, _ => by unfold PySem.W.kitAny; rfl
  | n :: ns, h, m => by
    rw [List.map_cons, List.any_cons]
    refine kitAny_cons (kit_ty (h n (List.mem_cons_self ..) t m)) (fun e => ?_) (fun e => ?_)
    · rw [e, Bool.false_or]; exact kitAny_ns (fun k hk => h k (List.mem_cons_of_mem _ hk)) m
    · rw [e, Bool.true_or]
theorem clsV_ns : ∀ {ns : List String}, Paired ClsV (ns.map V.ty) (ns.map Value.type)
  | [] => .nil
  | n :: ns => .cons (.ty n) clsV_ns
theorem z_isBT {ns : List String} (k : ∀ n ∈ ns, KitB n) (hl : ns.length ≤ 100) {tc : TA} (hc : ∀ σ H Q, Q (ns.map V.ty) H → tc σ H Q) (hp : PE X e (tCB (rIsiT X.K) (tCons (tO X.K G E mo) (tCons (tTup tc) tNil)))) : PE X e (tE X.K G E (cb (blO (isBT ns)) mo)) := PEi hp fun σ H Q ⟨B, F, env, h0, ho⟩ => by
  refine ⟨B, F, env, h0, (Out.bindE ho).mono fun k1 e1 _ ho F1 H1 x s1 h1 a1 => ?_⟩
  obtain ⟨n1, r1, ho⟩ := Out.rd ho
  obtain ⟨z, hz, hq⟩ := Out.opt ho
  refine hc _ _ _ ⟨by rw [List.length_map]; exact Nat.le_trans hl (by decide), fun p hp => ?_⟩
  have x2 := HeapOk.put (o := .tup (ns.map V.ty)) h1.hp.fh hp
  have rv := RV.mono x2.same (h1.hd a1 r1).2
  unfold blO isBT at hz
  cases et : tyOf n1.val with
  | none => rw [et] at hz; cases hz
  | some t =>
    rw [et] at hz
    cases hz
    exact ⟨x, p, _, .type t, _, _, rfl, upd_same, clsV_ns, tyX_b rv et, kitAny_ns k (tyOf_mem et), hq _ _ _ (s1.trans x2.fs) (((pushH_pop h1).step x2).pushF (sca_bl _))⟩
theorem kit_self {t : Value} : PySem.W.kitOne K t t = some true := by
  unfold PySem.W.kitOne
  rw [if_pos (beq_iff_eq.mpr rfl)]
theorem z_isO (o : OwnT X.K (G.C c)) {tc : TE} (hc : ∀ σ H Q, Q (.ref (G.C c)) H → tc σ H Q) (hp : PE X e (tCB (rIsi X.K) (tCons (tO X.K G E mo) (tCons tc tNil)))) : PE X e (tE X.K G E (cb (blO (isO c)) mo)) := PEi hp fun σ H Q ⟨B, F, env, h0, ho⟩ => by
  refine ⟨B, F, env, h0, (Out.bindE ho).mono fun k1 e1 _ ho F1 H1 x s1 h1 a1 => ?_⟩
  obtain ⟨n1, r1, ho⟩ := Out.rd ho
  obtain ⟨z, hz, hq⟩ := Out.opt ho
  have rv := (h1.hd a1 r1).2
  unfold blO isO at hz
  cases ev : n1.val with
  | ins d vs =>
    rw [ev] at hz rv
    dsimp only at hz
    split at hz
    · rename_i ed; subst ed
      cases hz
      obtain ⟨p, dx, xs, e1, e2, _⟩ := rv_ins rv
      exact hc _ _ _ ⟨x, .ref (G.C d), _, .ref (G.C d), true, rfl, .own _, by rw [e1]; exact .base (.ins e2 o.cl o.ha o.hn o.ht o.hm), kit_self, hq F1 H1 _ s1 ((pushH_pop h1).pushF (sca_bl F1))⟩
    · cases hz
  | _ => rw [ev] at hz; cases hz
theorem kb_int : KitB "int" := by unfold KitB; decide +kernel
theorem kb_bool : KitB "bool" := by unfold KitB; decide +kernel
theorem kb_str : KitB "str" := by unfold KitB; decide +kernel
theorem kb_list : KitB "list" := by unfold KitB; decide +kernel
theorem kb_tuple : KitB "tuple" := by unfold KitB; decide +kernel
theorem kb_dict : KitB "dict" := by unfold KitB; decide +kernel
end
end Z
set_option maxHeartbeats 1000000
namespace Z
open PySem PySem.Spec L2
/-- frozen as it is made -/
def fz (a : M MV) : M MV := do
  let m ← a
  pure (.f m.val)
def un (g : Val → Option Val) (a : M MV) : M MV := do
  let x ← a
  let z ← opt (g x.val)
  pure (.f z)
def ineg : Val → Option Val
  | .int i => some (.int (-i))
  | _ => none
section
variable {K : PySem.W.Frag} {G : Gs} {E : XK} {B : Bs} {env : Env} {σ : L2.St} {F H F' H' : Hp} {α β : Type} {m m1 m2 : MV} {x y : V} {v w : Val} {f : Fn} {X : Cx} {e a b : Expr} {ma mb : M MV} {mo mo2 : M Hd} {ag ak : M (List Ag)} {c j i : Nat} {st : Stmt} {fn : Str} {pos : Pos}
theorem z_fz (ha : PE X e (tE X.K G E ma)) : PE X e (tE X.K G E (fz ma)) := PEi ha fun σ H Q ⟨B, F, env, h0, ho⟩ =>
  ⟨B, F, env, h0, (Out.bindE ho).mono fun m1 e1 _ ho F1 H1 x s1 h1 => by
    obtain ⟨F2, s2, h2, rv⟩ := h1.freeze1
    exact ho F2 H1 x (s1.trans s2) (h2.pushF rv)⟩
theorem z_neg (hp : PE X e (tUn (rU fun i => .int (-i)) (tE X.K G E ma))) : PE X e (tE X.K G E (un ineg ma)) := PEi hp fun σ H Q ⟨B, F, env, h0, ho⟩ => by
  refine ⟨B, F, env, h0, (Out.bindE ho).mono fun m1 e1 _ ho F1 H1 x s1 h1 => ?_⟩
  obtain ⟨z, hz, hq⟩ := Out.opt ho
  have rv := h1.topV
  unfold ineg at hz
  split at hz
  · rename_i i ei
    cases hz
    rw [ei] at rv
    exact ⟨i, rv_int rv, hq F1 H1 _ s1 (h1.pop.pushF (sca_int F1))⟩
  · cases hz
theorem sem_nil {Q : List V → Hp → Prop} (h : tA K G E aNil σ H Q) : tNil σ H Q := by
  obtain ⟨B, F, env, h0, ho⟩ := h
  exact ho F H [] (Same.refl _) h0 rfl
theorem z_meth0 {mn : Str} {dvs : List Val} {dxs : List V} (hn : mn ∉ G.flds c) (hd : Scas X.K G dvs dxs) (hp : PE X e (tMeth (G.C c) mn (spZ X.K G f) dxs E (tO X.K G E mo) tNil)) : PE X e (tE X.K G E (meth c f dvs mo aNil)) :=
  z_meth hn hd (PEi hp fun σ H Q ⟨B, F, env, h0, ho⟩ => ⟨B, F, env, h0, ho.mono fun h e1 _ ho F1 H1 x s1 h1 a1 => by
    obtain ⟨a, dx, fs, e2, e3, e4, h⟩ := ho F1 H1 x s1 h1 a1
    exact ⟨a, dx, fs, e2, e3, e4, sem_nil h⟩⟩)
theorem z_call0 {dvs : List Val} {dxs : List V} (hd : Scas X.K G dvs dxs) (hp : PE X e (tCall (spZ X.K G f) dxs E tNil)) : PE X e (tE X.K G E (call f dvs aNil)) := z_call hd (PEi hp fun σ H Q h => sem_nil h)
theorem z_never (hp : PS X st tNever) : PS X st (tS X.K G E fail) := PSi hp fun D σ H ⟨B, F, env, h0, ho⟩ => (show False from ho)
theorem scas_nil : Scas K G [] [] := rfl
theorem scas_cons {vs : List Val} {xs : List V} (h : Sca K G v x) (t : Scas K G vs xs) : Scas K G (v :: vs) (x :: xs) := ⟨x, xs, rfl, h, t⟩
theorem rvs_ints : ∀ {ns : List Int}, RVs K G F (ns.map .int) (ns.map V.int)
  | [] => .nil
  | n :: r => .cons (sca_int F) rvs_ints
theorem rvs_strs : ∀ {ns : List Str}, RVs K G F (ns.map .str) (ns.map V.str)
  | [] => .nil
  | n :: r => .cons (sca_str F) rvs_strs
theorem rvs_bls : ∀ {ns : List Bool}, RVs K G F (ns.map .bl) (ns.map V.bl)
  | [] => .nil
  | n :: r => .cons (sca_bl F) rvs_bls
theorem sca_tupI {a : Addr} {xs : List V} {ns : List Int} (h : ∀ H, SqT K H a xs) (e : xs = ns.map V.int) : Sca K G (.tup (ns.map .int)) (.ref a) := fun F => by
  subst e
  unfold RV
  exact ⟨a, _, rfl, h F, rvs_ints⟩
theorem sca_tupS {a : Addr} {xs : List V} {ns : List Str} (h : ∀ H, SqT K H a xs) (e : xs = ns.map V.str) : Sca K G (.tup (ns.map .str)) (.ref a) := fun F => by
  subst e
  unfold RV
  exact ⟨a, _, rfl, h F, rvs_strs⟩
theorem sca_tupB {a : Addr} {xs : List V} {ns : List Bool} (h : ∀ H, SqT K H a xs) (e : xs = ns.map V.bl) : Sca K G (.tup (ns.map .bl)) (.ref a) := fun F => by
  subst e
  unfold RV
  exact ⟨a, _, rfl, h F, rvs_bls⟩
/-- the law: it gives True for each script -/
def spLaw (K : PySem.W.Frag) : Sp := fun vs H Q _ => ∃ (s : Addr) (ns : List Int), vs = [.ref s] ∧ SqL K H s (ns.map V.int) ∧ ns.length ≤ 63 ∧ ∀ H', Q (.bl true) H'
theorem law_sp (hm : f.md = [.d]) (ht : ∀ ns : List Int, ns.length ≤ 63 → f.run [.v (.lst (ns.map .int))] = .ok (.f (.bl true)) []) {vs : List V} {Q : VK} (h : spLaw K vs H Q E) : spZ K G f vs H Q E := by
  obtain ⟨s, ns, rfl, sq, hl, q⟩ := h
  refine ⟨[.v (.lst (ns.map .int))], [], fun a => if a = s then H s else none, fun b o e => ?_, ?_, List.nodup_nil, fun a m => (by cases m), ?_⟩
  · dsimp only at e
    split at e
    · rename_i c; rw [c]; exact e
    · cases e
  · rw [hm]
    refine ⟨?_, rfl⟩
    unfold RV
    refine ⟨s, ns.map V.int, rfl, ?_, rvs_ints⟩
    rcases sq with (r | ⟨o, r⟩) | r
    · exact .inl (.inl (by show (if s = s then H s else none) = _; rw [if_pos rfl]; exact r))
    · exact .inl (.inr ⟨o, by show (if s = s then H s else none) = _; rw [if_pos rfl]; exact r⟩)
    · exact .inr r
  · rw [ht ns hl]
    intro F' H' x fr gs _ _ r _ _
    unfold RM at r
    rw [rv_bl r.2]
    exact q H'
end
end Z
set_option maxHeartbeats 1000000
namespace Z
open PySem PySem.Spec L2
theorem imp_G {P : Program} {w : World} {K : PySem.W.Frag} {mg : Str → Option Value} {base : Heap} {CX : CXT} {k : Nat} {f : Addr} {fd : FuncData} {ps : List Str} {sp sp' : Sp} (F : FnOkG P w K mg base CX k f fd ps sp)
    (h : ∀ vs H Q E, sp' vs H Q E → sp vs H Q E) : FnOkG P w K mg base CX k f fd ps sp' :=
  ⟨fun vs H Q E q => F.len vs H Q E (h _ _ _ _ q), fun A outer s H args us vs Q E hg hr he hb hv hs => F.run A outer s H args us vs Q E hg hr he hb hv (h _ _ _ _ hs)⟩
theorem rep_of {k : Nat} {A : Around} (hr : Room k A) : A.units + 100 < cLine := by have := hr.un; omega
section
variable {K : PySem.W.Frag} {G : Gs}
theorem k_modN : BiOk K G (rI (fun _ j => j ≠ 0) fun i j => .int (i.fmod j)) imod := fun H x y v w z Q rx ry e q => by
  unfold imod iig at e
  split at e
  · rename_i i j
    split at e
    · rename_i c
      have c := of_decide_eq_true c
      cases e
      exact ⟨i, j, rv_int rx, rv_int ry, by omega, by show Q (V.int (i.fmod j)) H; rw [Int.fmod_eq_emod_of_nonneg _ (by omega)]; exact q _ sca_int⟩
    · cases e
  · cases e
theorem k_divN : BiOk K G (rI CDivN fun i j => .int (i.fdiv j)) idiv := fun H x y v w z Q rx ry e q => by
  unfold idiv iig at e
  split at e
  · rename_i i j
    split at e
    · rename_i c
      have c := of_decide_eq_true c
      cases e
      refine ⟨i, j, rv_int rx, rv_int ry, by unfold CDivN; omega, by show Q (V.int (i.fdiv j)) H; rw [Int.fdiv_eq_ediv_of_nonneg _ (by omega)]; exact q _ sca_int⟩
    · cases e
  · cases e
end
section
variable {G : Gs} {E : XK} {f : Fn} {X : Cx} {a : Expr} {ops : List CmpOp} {es : List Expr} {pos : Pos} {mo mo2 : M Hd} {c : Nat}
theorem zt_eqOwn (hp : PT X (.Compare a ops es pos) (tTest (tOp (rEqOwn (G.C c) (spZ X.K G f) E) (tO X.K G E mo) (tO X.K G E mo2)))) : PT X (.Compare a ops es pos) (tB' X.K G E (tst (eqOwn c f mo mo2))) := PTi hp fun σ H Q h => sem_eqOwn (sem_tst h)
theorem zt_neOwn (hp : PT X (.Compare a ops es pos) (tTest (tOp (rNeOwn (G.C c) (spZ X.K G f) E) (tO X.K G E mo) (tO X.K G E mo2)))) : PT X (.Compare a ops es pos) (tB' X.K G E (tst (neOwn c f mo mo2))) := PTi hp fun σ H Q h => sem_neOwn (sem_tst h)
end
end Z
set_option maxHeartbeats 1000000
namespace Z
open PySem PySem.Spec L2
/-! ### running the programs -/
section
variable {α β γ : Type}
def O.map (f : α → β) : O α → O β
  | .ok a e => .ok (f a) e
  | .er x e => .er x e
  | .no => .no
theorem e_ok {a : α} {e : Env} {k : α → Env → O β} : (O.ok a e).bind k = k a e := (rfl)
theorem e_no {k : α → Env → O β} : (O.no : O α).bind k = .no := (rfl)
theorem e_er {x : Ex} {e : Env} {k : α → Env → O β} : (O.er x e : O α).bind k = .er x e := (rfl)
theorem e_congr {o o' : O α} {k : α → Env → O β} (h : o = o') : o.bind k = o'.bind k := by rw [h]
/-- a run that goes on: what comes behind stands where no simp looks -/
class Cn (α β : Type) where
  go : α → Env → O β
def bdI {α β : Type} (o : O α) [k : Cn α β] : O β := o.bind k.go
theorem e_hide {o : O α} {k : α → Env → O β} : o.bind k = @bdI α β o ⟨k⟩ := (rfl)
theorem e_ok2 {a : α} {e : Env} {k : Cn α β} : @bdI α β (.ok a e) k = k.go a e := (rfl)
theorem e_no2 {k : Cn α β} : @bdI α β .no k = .no := (rfl)
theorem e_er2 {x : Ex} {e : Env} {k : Cn α β} : @bdI α β (.er x e) k = .er x e := (rfl)
theorem e_assoc2 {o : O α} {k : Cn α β} {l : Cn β γ} : @bdI β γ (@bdI α β o k) l = @bdI α γ o ⟨fun a e => (k.go a e).bind l.go⟩ := by cases o <;> rfl
theorem e_assoc {o : O α} {k : α → Env → O β} {l : β → Env → O γ} : (o.bind k).bind l = o.bind fun a e => (k a e).bind l := by cases o <;> rfl
theorem e_ite {c : Prop} [Decidable c] {o o' : O α} {k : α → Env → O β} : (if c then o else o').bind k = if c then o.bind k else o'.bind k := by split <;> rfl
theorem e_bind {m : M α} {k : α → M β} {e : Env} : (m >>= k) e = (m e).bind k := (rfl)
theorem e_pure {a : α} {e : Env} : (pure a : M α) e = .ok a e := (rfl)
theorem e_fail {e : Env} : (fail : M α) e = .no := (rfl)
def optO : Option α → Env → O α
  | some a, e => .ok a e
  | none, _ => .no
theorem e_opt {o : Option α} {e : Env} : opt o e = optO o e := by cases o <;> rfl
theorem e_some {a : α} {e : Env} : optO (some a) e = .ok a e := (rfl)
end
section
variable {a b c : M MV} {oa ob : M Hd} {i j k : Nat} {e : Env} {v w : Val} {m n : MV} {s : SV} {t u : M Bool}
theorem e_cst : cst v e = .ok (.f v) e := (rfl)
def isAt : Option SV → Env → O MV
  | some (.is v), e => .ok (.f v) e
  | _, _ => .no
theorem e_vr : vr i e = isAt e[i]? e := by
  unfold vr isAt
  split <;> simp_all
theorem e_isAt : isAt (some (.is v)) e = .ok (.f v) e := (rfl)
def mvAt (i : Nat) : Option SV → Env → O MV
  | some (.is v), e => .ok (.f v) e
  | some (.own m), e => .ok m (e.set i .any)
  | _, _ => .no
theorem e_mv : mvv i e = mvAt i e[i]? e := by
  unfold mvv mvAt
  split <;> simp_all
theorem e_mvI : mvAt i (some (.is v)) e = .ok (.f v) e := (rfl)
theorem e_mvO : mvAt i (some (.own m)) e = .ok m (e.set i .any) := (rfl)
theorem e_oE : oE a e = (a e).bind fun x e => .ok (.t x) e := (rfl)
def hasAt (i : Nat) : Option SV → Env → O Hd
  | some s, e => match s.read with
    | some _ => .ok (.s i) e
    | none => .no
  | none, _ => .no
theorem e_hasS : hasS i e = hasAt i e[i]? e := by
  unfold hasS hasAt
  cases e[i]? <;> rfl
theorem e_hasI : hasAt i (some (.is v)) e = .ok (.s i) e := (rfl)
theorem e_hasR : hasAt i (some (.rd v)) e = .ok (.s i) e := (rfl)
theorem e_hasO : hasAt i (some (.own m)) e = .ok (.s i) e := (rfl)
theorem e_hasIo : hasAt i (some (.io m)) e = .ok (.s i) e := (rfl)
def rdAt : Option SV → Env → O MV
  | some s, e => match s.read with
    | some m => .ok m e
    | none => .no
  | none, _ => .no
theorem e_rdT : rdH (.t m) e = .ok m e := (rfl)
theorem e_rdS : rdH (.s i) e = rdAt e[i]? e := by
  unfold rdH rdAt
  dsimp only
  cases e[i]? <;> rfl
theorem e_rdI : rdAt (some (.is v)) e = .ok (.f v) e := (rfl)
theorem e_rdR : rdAt (some (.rd v)) e = .ok (.f v) e := (rfl)
theorem e_rdO : rdAt (some (.own m)) e = .ok m e := (rfl)
theorem e_rdIo : rdAt (some (.io m)) e = .ok m e := (rfl)
def fO : Option Val → Env → O MV
  | some v, e => .ok (.f v) e
  | none, _ => .no
theorem e_fO : fO (some v) e = .ok (.f v) e := (rfl)
theorem fO_eq {o : Option Val} : (opt o >>= fun z => (pure (.f z) : M MV)) e = fO o e := by cases o <;> rfl
theorem e_bi {g : Val → Val → Option Val} : bi g a b e = (a e).bind fun x e => (b e).bind fun y e => fO (g x.val y.val) e := by
  unfold bi
  rw [e_bind]; congr 1; funext x e; rw [e_bind]; congr 1; funext y e; exact fO_eq
theorem e_bo {g : Val → Val → Option Val} : bo g oa ob e = (oa e).bind fun h e => (ob e).bind fun k e => (rdH h e).bind fun x e => (rdH k e).bind fun y e => fO (g x.val y.val) e := by
  unfold bo
  rw [e_bind]; congr 1; funext x e; rw [e_bind]; congr 1; funext y e; rw [e_bind]; congr 1; funext x e; rw [e_bind]; congr 1; funext y e; exact fO_eq
theorem e_un {g : Val → Option Val} : un g a e = (a e).bind fun x e => fO (g x.val) e := by
  unfold un
  rw [e_bind]; congr 1; funext x e; exact fO_eq
theorem e_cb {g : Val → Option Val} : cb g oa e = (oa e).bind fun h e => (rdH h e).bind fun x e => fO (g x.val) e := by
  unfold cb
  rw [e_bind]; congr 1; funext x e; rw [e_bind]; congr 1; funext y e; exact fO_eq
theorem e_fz : fz a e = (a e).bind fun m e => .ok (.f m.val) e := (rfl)
/-! what the operators give -/
theorem e_add {x y : Int} : iadd (.int x) (.int y) = some (.int (x + y)) := (rfl)
theorem e_sub {x y : Int} : isub (.int x) (.int y) = some (.int (x - y)) := (rfl)
theorem e_mul {x y : Int} (h : (-18446744073709551616 < x ∧ x < 18446744073709551616) ∨ (-18446744073709551616 < y ∧ y < 18446744073709551616)) : imul (.int x) (.int y) = some (.int (x * y)) := by
  unfold imul iig; dsimp only; rw [if_pos (decide_eq_true h)]
theorem e_div {x y : Int} (h : 0 < y ∧ y < 1073741824) : idiv (.int x) (.int y) = some (.int (x / y)) := by
  unfold idiv iig; dsimp only; rw [if_pos (decide_eq_true h)]
theorem e_mod {x y : Int} (h : 0 < y) : imod (.int x) (.int y) = some (.int (x % y)) := by
  unfold imod iig; dsimp only; rw [if_pos (decide_eq_true h)]
theorem e_pow {x y : Int} (h : 0 ≤ y ∧ y ≤ 1000000 ∧ x.natAbs < 18446744073709551616) : ipow (.int x) (.int y) = some (.int (x ^ y.toNat)) := by
  unfold ipow iig; dsimp only; rw [if_pos (decide_eq_true h)]
theorem e_lt {x y : Int} : ilt (.int x) (.int y) = some (.bl (decide (x < y))) := (rfl)
theorem e_le {x y : Int} : ile (.int x) (.int y) = some (.bl (decide (x ≤ y))) := (rfl)
theorem e_gt {x y : Int} : igt (.int x) (.int y) = some (.bl (decide (y < x))) := (rfl)
theorem e_ge {x y : Int} : ige (.int x) (.int y) = some (.bl (decide (y ≤ x))) := (rfl)
theorem e_neg {x : Int} : ineg (.int x) = some (.int (-x)) := (rfl)
theorem e_eqI {x y : Int} : eqS (.int x) (.int y) = some (.bl (decide (x = y))) := (rfl)
theorem e_eqStr {x y : Str} : eqS (.str x) (.str y) = some (.bl (decide (x = y))) := (rfl)
theorem e_eqB {x y : Bool} : eqS (.bl x) (.bl y) = some (.bl (decide (x = y))) := (rfl)
theorem e_neI {x y : Int} : neS (.int x) (.int y) = some (.bl (!decide (x = y))) := (rfl)
theorem e_neStr {x y : Str} : neS (.str x) (.str y) = some (.bl (!decide (x = y))) := (rfl)
theorem e_neB {x y : Bool} : neS (.bl x) (.bl y) = some (.bl (!decide (x = y))) := (rfl)
theorem e_isB {x y : Bool} : isBl (.bl x) (.bl y) = some (.bl (decide (x = y))) := (rfl)
theorem e_notB {x y : Bool} : notBl (.bl x) (.bl y) = some (.bl (!decide (x = y))) := (rfl)
theorem e_isN0 : isN .non .non = some (.bl true) := (rfl)
theorem e_isN1 {x : Int} : isN (.int x) .non = some (.bl false) := (rfl)
theorem e_isN2 {x : List Val} : isN (.lst x) .non = some (.bl false) := (rfl)
theorem e_isN3 {x : List Val} : isN (.tup x) .non = some (.bl false) := (rfl)
theorem e_isN4 {x : List Val} : isN (.ins k x) .non = some (.bl false) := (rfl)
theorem e_isN5 {x : Str} : isN (.str x) .non = some (.bl false) := (rfl)
theorem e_notN0 : notN .non .non = some (.bl false) := (rfl)
theorem e_notN1 {x : Int} : notN (.int x) .non = some (.bl true) := (rfl)
theorem e_notN2 {x : List Val} : notN (.lst x) .non = some (.bl true) := (rfl)
theorem e_notN3 {x : List Val} : notN (.tup x) .non = some (.bl true) := (rfl)
theorem e_notN4 {x : List Val} : notN (.ins k x) .non = some (.bl true) := (rfl)
theorem e_notN5 {x : Str} : notN (.str x) .non = some (.bl true) := (rfl)
theorem e_max2 {x y : Int} : max2 (.int x) (.int y) = some (.int (if y > x then y else x)) := (rfl)
theorem e_min2 {x y : Int} : min2 (.int x) (.int y) = some (.int (if y < x then y else x)) := (rfl)
theorem e_intI {x : Int} : intV (.int x) = some (.int x) := (rfl)
theorem e_intB {x : Bool} : intV (.bl x) = some (.int (if x then 1 else 0)) := (rfl)
theorem e_lenL {xs : List Val} : lenV (.lst xs) = some (.int xs.length) := (rfl)
theorem e_lenT {xs : List Val} : lenV (.tup xs) = some (.int xs.length) := (rfl)
theorem e_blO {g : Val → Option Bool} : blO g v = (g v).map .bl := (rfl)
theorem e_isO {x : List Val} : isO k (.ins k x) = some true := (if_pos rfl)
theorem e_isB' {x : String} : isB x v = (tyOf v).map fun k => k == x || (k == "bool" && x == "int") := (rfl)
theorem e_isBT {xs : List String} : isBT xs v = (tyOf v).map fun k => xs.any fun n => k == n || (k == "bool" && n == "int") := (rfl)
theorem e_ty0 : tyOf .non = some "NoneType" := (rfl)
theorem e_ty1 {x : Bool} : tyOf (.bl x) = some "bool" := (rfl)
theorem e_ty2 {x : Int} : tyOf (.int x) = some "int" := (rfl)
theorem e_ty3 {x : Str} : tyOf (.str x) = some "str" := (rfl)
theorem e_ty4 {x : List Val} : tyOf (.tup x) = some "tuple" := (rfl)
theorem e_ty5 {x : List Val} : tyOf (.lst x) = some "list" := (rfl)
theorem e_map {α β : Type} {f : α → β} {x : α} : (some x).map f = some (f x) := (rfl)
/-! truth -/
def bAt : MV → Env → O Bool
  | .f (.bl b), e => .ok b e
  | _, _ => .no
theorem e_bAt {x : Bool} : bAt (.f (.bl x)) e = .ok x e := (rfl)
theorem e_tst : tst a e = (a e).bind bAt := by
  unfold tst
  rw [e_bind]; congr 1; funext m e
  cases m with
  | f v => cases v <;> rfl
  | _ => rfl
def iff' {α : Type} (b : Bool) (x y : O α) : O α := if b = true then x else y
theorem e_if1 {α : Type} {x y : O α} : iff' true x y = x := (rfl)
theorem e_if0 {α : Type} {x y : O α} : iff' false x y = y := (rfl)
theorem e_ifd {α : Type} {x y : O α} {p : Prop} [Decidable p] : iff' (decide p) x y = if p then x else y := by
  unfold iff'
  by_cases h : p
  · rw [if_pos h, if_pos (decide_eq_true h)]
  · rw [if_neg h, if_neg (by rw [decide_eq_false h]; exact Bool.false_ne_true)]
theorem e_ifn {α : Type} {x y : O α} {p : Bool} : iff' (!p) x y = iff' p y x := by cases p <;> rfl
theorem e_ifc {α : Type} {p q : Bool} {x y : O α} (h : p = q) : iff' p x y = iff' q x y := by rw [h]
theorem e_ifb {α β : Type} {p : Bool} {x y : O α} {k : α → Env → O β} : (iff' p x y).bind k = iff' p (x.bind k) (y.bind k) := by cases p <;> rfl
theorem e_band : band a b e = (a e).bind fun m e => (bAt m e).bind fun x e => iff' x (b e) (.ok (.f (.bl false)) e) := by
  unfold band
  rw [e_bind]; congr 1; funext m e
  cases m with
  | f v => cases v with
    | bl p => cases p <;> rfl
    | _ => rfl
  | _ => rfl
theorem e_bor : bor a b e = (a e).bind fun m e => (bAt m e).bind fun x e => iff' x (.ok (.f (.bl true)) e) (b e) := by
  unfold bor
  rw [e_bind]; congr 1; funext m e
  cases m with
  | f v => cases v with
    | bl p => cases p <;> rfl
    | _ => rfl
  | _ => rfl
theorem e_bnot : bnot a e = (a e).bind fun m e => (bAt m e).bind fun x e => .ok (.f (.bl (!x))) e := by
  unfold bnot
  rw [e_bind]; congr 1; funext m e
  cases m with
  | f v => cases v <;> rfl
  | _ => rfl
theorem e_ttr : ttr oa e = (oa e).bind fun h e => (rdH h e).bind fun m e => optO (truth m.val) e := by
  unfold ttr
  rw [e_bind]; congr 1; funext m e; rw [e_bind]; congr 1; funext m e; exact e_opt
theorem e_trL {xs : List Val} : truth (.lst xs) = some (!xs.isEmpty) := (rfl)
theorem e_trT {xs : List Val} : truth (.tup xs) = some (!xs.isEmpty) := (rfl)
theorem e_trI {x : Int} : truth (.int x) = some (x != 0) := (rfl)
theorem e_trB {x : Bool} : truth (.bl x) = some x := (rfl)
theorem e_trN : truth .non = some false := (rfl)
theorem e_bnotT : bnotT oa e = (oa e).bind fun h e => (rdH h e).bind fun m e => (optO (truth m.val) e).bind fun b e => .ok (.f (.bl (!b))) e := by
  unfold bnotT
  rw [e_bind]; congr 1; funext m e; rw [e_bind]; congr 1; funext m e; rw [e_bind, e_opt]; rfl
theorem e_tand : tand t u e = (t e).bind fun x e => iff' x (u e) (.ok false e) := by
  unfold tand; rw [e_bind]; congr 1; funext x e; cases x <;> rfl
theorem e_tor : tor t u e = (t e).bind fun x e => iff' x (.ok true e) (u e) := by
  unfold tor; rw [e_bind]; congr 1; funext x e; cases x <;> rfl
theorem e_tnot : tnot t e = (t e).bind fun x e => .ok (!x) e := (rfl)
theorem e_ife : ife t a b e = (t e).bind fun x e => iff' x (a e) (b e) := by
  unfold ife; rw [e_bind]; congr 1; funext x e; cases x <;> rfl
theorem e_tTrue : tTrue e = .ok true e := (rfl)
theorem e_chn {g g' : Val → Val → Option Val} : chn g g' a b c e = (a e).bind fun x e => (b e).bind fun y e => (fO (g x.val y.val) e).bind fun z e => (bAt z e).bind fun p e => iff' p ((c e).bind fun w e => fO (g' y.val w.val) e) (.ok (.f (.bl false)) e) := by
  unfold chn
  rw [e_bind]; congr 1; funext x e; rw [e_bind]; congr 1; funext y e
  cases h : g x.val y.val with
  | none => rfl
  | some z => cases z with
    | bl p => cases p with
      | true => exact congrArg (O.bind (c e)) (funext fun w => funext fun e => fO_eq)
      | false => rfl
    | _ => rfl
end
end Z
set_option maxHeartbeats 1000000
namespace Z
open PySem PySem.Spec L2
section
variable {a b c : M MV} {oa ob : M Hd} {i j k l : Nat} {e : Env} {v w : Val} {m n : MV} {s : SV} {t u : M Bool} {sa sb : M Ctl} {r : M (List MV)} {ag ak : M (List Ag)} {ms : List MV} {xs ys vs : List Val} {g : Val → M Unit} {gs : List (Val → M Unit)} {it : M (List Val)}
/-! values -/
theorem e_valF : (MV.f v).val = v := (rfl)
theorem e_valL : (MV.lst ms).val = .lst (MV.vals ms) := by rw [MV.val]
theorem e_valI : (MV.ins k ms).val = .ins k (MV.vals ms) := by rw [MV.val]
theorem e_vals0 : MV.vals [] = [] := (rfl)
theorem e_vals1 : MV.vals (m :: ms) = m.val :: MV.vals ms := by rw [MV.vals]
theorem e_valsM : MV.vals (xs.map .f) = xs := MV.vals_map xs
/-! lists of what is frozen: as a map -/
theorem e_l0 : MV.lst [] = .lst (List.map .f []) := (rfl)
theorem e_l1 {x1 : Val} : MV.lst [.f x1] = .lst (List.map .f [x1]) := (rfl)
theorem e_l2 {x1 x2 : Val} : MV.lst [.f x1, .f x2] = .lst (List.map .f [x1, x2]) := (rfl)
theorem e_l3 {x1 x2 x3 : Val} : MV.lst [.f x1, .f x2, .f x3] = .lst (List.map .f [x1, x2, x3]) := (rfl)
theorem e_l4 {x1 x2 x3 x4 : Val} : MV.lst [.f x1, .f x2, .f x3, .f x4] = .lst (List.map .f [x1, x2, x3, x4]) := (rfl)
theorem e_l5 {x1 x2 x3 x4 x5 : Val} : MV.lst [.f x1, .f x2, .f x3, .f x4, .f x5] = .lst (List.map .f [x1, x2, x3, x4, x5]) := (rfl)
theorem e_l6 {x1 x2 x3 x4 x5 x6 : Val} : MV.lst [.f x1, .f x2, .f x3, .f x4, .f x5, .f x6] = .lst (List.map .f [x1, x2, x3, x4, x5, x6]) := (rfl)
theorem e_l7 {x1 x2 x3 x4 x5 x6 x7 : Val} : MV.lst [.f x1, .f x2, .f x3, .f x4, .f x5, .f x6, .f x7] = .lst (List.map .f [x1, x2, x3, x4, x5, x6, x7]) := (rfl)
theorem e_l8 {x1 x2 x3 x4 x5 x6 x7 x8 : Val} : MV.lst [.f x1, .f x2, .f x3, .f x4, .f x5, .f x6, .f x7, .f x8] = .lst (List.map .f [x1, x2, x3, x4, x5, x6, x7, x8]) := (rfl)
theorem e_itsL : (MV.f (.lst xs)).itsL = some xs := (rfl)
theorem e_itsM : (MV.lst (xs.map .f)).itsL = some xs := allF_map xs
theorem e_itsT : (MV.f (.tup xs)).itsT = some xs := (rfl)
/-! displays -/
def szO {α : Type} (n : Nat) (o : O α) : O α := if n ≤ 16777216 then o else .no
theorem e_sz {α : Type} {n : Nat} {o : O α} (h : n ≤ 16777216) : szO n o = o := if_pos h
theorem szO_congr {α : Type} {n n' : Nat} {o : O α} (h : n = n') : szO n o = szO n' o := by rw [h]
theorem sz_eq {α : Type} {n : Nat} {x : M α} : (if n ≤ 16777216 then x else fail) e = szO n (x e) := by unfold szO; split <;> rfl
theorem e_isNil : isNil e = .ok [] e := (rfl)
theorem e_isCons : isCons a r e = (a e).bind fun x e => (r e).bind fun xs e => .ok (x :: xs) e := (rfl)
theorem e_eLst : eLst r e = (r e).bind fun xs e => szO xs.length (.ok (.lst xs) e) := by
  unfold eLst; rw [e_bind]; congr 1; funext xs e; exact sz_eq
theorem e_eTup : eTup r e = (r e).bind fun xs e => szO xs.length (.ok (.f (.tup (MV.vals xs))) e) := by
  unfold eTup; rw [e_bind]; congr 1; funext xs e; exact sz_eq
def lO (o : Option (List Val)) (k : List Val → O MV) : O MV := match o with
  | some xs => k xs
  | none => .no
theorem e_lO {k : List Val → O MV} : lO (some xs) k = k xs := (rfl)
theorem lO_congr {o o' : Option (List Val)} {k : List Val → O MV} (h : o = o') : lO o k = lO o' k := by rw [h]
theorem lO_eq {o : Option (List Val)} {k : List Val → M MV} : (opt o >>= k) e = lO o fun xs => k xs e := by cases o <;> rfl
theorem e_idx : idx oa b e = (oa e).bind fun h e => (b e).bind fun j e => (rdH h e).bind fun m e => fO (ixV m j.val) e := by
  unfold idx; rw [e_bind]; congr 1; funext x e; rw [e_bind]; congr 1; funext y e; rw [e_bind]; congr 1; funext y e; exact fO_eq
theorem e_ixL {z : Int} : ixV (.f (.lst xs)) (.int z) = atI xs z := (rfl)
theorem e_ixT {z : Int} : ixV (.f (.tup xs)) (.int z) = atI xs z := (rfl)
theorem e_ixM {z : Int} : ixV (.lst (xs.map .f)) (.int z) = atI xs z := by
  unfold ixV; rw [e_itsM]
theorem e_at {z : Int} {x : Val} (h : 0 ≤ z) (h2 : xs[z.toNat]? = some x) : atI xs z = some x := by
  have hl : z.toNat < xs.length := (List.getElem?_eq_some_iff.mp h2).1
  unfold atI ixN
  rw [if_pos h, if_pos (by omega)]
  exact h2
theorem e_at0 {x : Val} {xs : List Val} : atI (x :: xs) 0 = some x := e_at (by decide) rfl
theorem e_at1 {x y : Val} {xs : List Val} : atI (x :: y :: xs) 1 = some y := e_at (by decide) rfl
theorem e_at2 {x y z : Val} {xs : List Val} : atI (x :: y :: z :: xs) 2 = some z := e_at (by decide) rfl
theorem e_at3 {x y z x4 : Val} {xs : List Val} : atI (x :: y :: z :: x4 :: xs) 3 = some x4 := e_at (by decide) rfl
theorem e_mkL {f : List Val → List Val} : mkL f oa e = (oa e).bind fun h e => (rdH h e).bind fun m e => lO m.itsL fun xs => .ok (.lst ((f xs).map .f)) e := by
  unfold mkL; rw [e_bind]; congr 1; funext x e; rw [e_bind]; congr 1; funext y e; exact lO_eq
theorem e_mkLT {f : List Val → List Val} : mkLT f oa e = (oa e).bind fun h e => (rdH h e).bind fun m e => lO m.itsT fun xs => .ok (.lst ((f xs).map .f)) e := by
  unfold mkLT; rw [e_bind]; congr 1; funext x e; rw [e_bind]; congr 1; funext y e; exact lO_eq
theorem e_mkT : mkT oa e = (oa e).bind fun h e => (rdH h e).bind fun m e => lO m.itsL fun xs => .ok (.f (.tup xs)) e := by
  unfold mkT; rw [e_bind]; congr 1; funext x e; rw [e_bind]; congr 1; funext y e; exact lO_eq
theorem e_mkTT : mkTT oa e = (oa e).bind fun h e => (rdH h e).bind fun m e => lO m.itsT fun xs => .ok (.f (.tup xs)) e := by
  unfold mkTT; rw [e_bind]; congr 1; funext x e; rw [e_bind]; congr 1; funext y e; exact lO_eq
theorem e_cat : cat oa ob e = (oa e).bind fun h e => (ob e).bind fun k e => (rdH h e).bind fun m e => (rdH k e).bind fun n e => lO m.itsL fun xs => lO n.itsL fun ys => szO (xs.length + ys.length) (.ok (.lst ((xs ++ ys).map .f)) e) := by
  unfold cat; rw [e_bind]; congr 1; funext x e; rw [e_bind]; congr 1; funext y e; rw [e_bind]; congr 1; funext y e; rw [e_bind]; congr 1; funext y e
  rw [lO_eq]; congr 1; funext xs; rw [lO_eq]; congr 1; funext ys; exact sz_eq
theorem e_oN : oN e = .ok none e := (rfl)
def oiO : MV → Env → O (Option Int)
  | .f (.int i), e => .ok (some i) e
  | _, _ => .no
theorem e_oiO {x : Int} : oiO (.f (.int x)) e = .ok (some x) e := (rfl)
theorem e_oI : oI a e = (a e).bind oiO := by
  unfold oI; rw [e_bind]; congr 1; funext m e
  cases m with
  | f v => cases v <;> rfl
  | _ => rfl
theorem e_slL {lo hi : M (Option Int)} : slL oa lo hi e = (oa e).bind fun h e => (lo e).bind fun i e => (hi e).bind fun j e => (rdH h e).bind fun m e => lO m.itsL fun xs => .ok (.lst ((cutL xs i j).map .f)) e := by
  unfold slL; rw [e_bind]; congr 1; funext x e; rw [e_bind]; congr 1; funext y e; rw [e_bind]; congr 1; funext y e; rw [e_bind]; congr 1; funext y e; exact lO_eq
theorem e_slT {lo hi : M (Option Int)} : slT oa lo hi e = (oa e).bind fun h e => (lo e).bind fun i e => (hi e).bind fun j e => (rdH h e).bind fun m e => lO m.itsT fun xs => .ok (.f (.tup (cutL xs i j))) e := by
  unfold slT; rw [e_bind]; congr 1; funext x e; rw [e_bind]; congr 1; funext y e; rw [e_bind]; congr 1; funext y e; rw [e_bind]; congr 1; funext y e; exact lO_eq
def repO : MV → MV → Env → O MV
  | .lst ms, .f (.int k), e => lO (allF ms) fun xs => if -9223372036854775808 ≤ k ∧ k < 9223372036854775808 ∧ xs.length * k.toNat ≤ 16777216 then .ok (.lst ((repL k.toNat xs).map .f)) e else .no
  | _, _, _ => .no
theorem e_rep : erep a b e = (a e).bind fun x e => (b e).bind fun y e => repO x y e := by
  unfold erep; rw [e_bind]; congr 1; funext x e; rw [e_bind]; congr 1; funext y e
  cases x with
  | lst ms => cases y with
    | f v => cases v with
      | int k =>
        show (opt (allF ms) >>= _) e = _
        rw [lO_eq]; unfold repO; congr 1; funext xs
        split <;> rfl
      | _ => rfl
    | _ => rfl
  | _ => rfl
theorem e_repO {x : Val} {z : Int} (h : 0 ≤ z ∧ z ≤ 16777216) : repO (.lst (List.map .f [x])) (.f (.int z)) e = .ok (.lst ((List.replicate z.toNat x).map .f)) e := by
  unfold repO
  dsimp only
  rw [allF_map, e_lO, if_pos ⟨by omega, by omega, by rw [List.length_singleton]; omega⟩]
  unfold repL
  congr 3
  induction z.toNat with
  | zero => rfl
  | succ n ih => rw [List.replicate_succ, List.flatten_cons, ih, List.replicate_succ]; rfl
/-! statements -/
def stU (i : Nat) (m : MV) : Option SV → Env → O Unit
  | some s, e => if s.free then .ok () (e.set i (svOf m)) else .no
  | none, _ => .no
theorem setS_eq : setS i m e = stU i m e[i]? e := by
  unfold setS stU
  cases e[i]? <;> rfl
theorem e_st {s : SV} (h : s.free = true) : stU i m (some s) e = .ok () (e.set i (svOf m)) := if_pos h
theorem e_st0 : stU i m (some .any) e = .ok () (e.set i (svOf m)) := (rfl)
theorem e_st1 : stU i m (some (.is v)) e = .ok () (e.set i (svOf m)) := (rfl)
theorem e_st2 : stU i m (some (.rd v)) e = .ok () (e.set i (svOf m)) := (rfl)
theorem e_st3 : stU i m (some (.own n)) e = .ok () (e.set i (svOf m)) := (rfl)
theorem e_svF : svOf (.f v) = .is v := (rfl)
theorem e_svL : svOf (.lst ms) = .own (.lst ms) := (rfl)
theorem e_svI : svOf (.ins k ms) = .own (.ins k ms) := (rfl)
theorem e_sSet : sSet i a e = (a e).bind fun m e => (stU i m e[i]? e).bind fun _ e => .ok .nx e := by
  unfold sSet; rw [e_bind]; congr 1; funext m e; rw [e_bind, setS_eq]; rfl
theorem e_sSetF : sSetF i a e = (a e).bind fun m e => (stU i (.f m.val) e[i]? e).bind fun _ e => .ok .nx e := by
  unfold sSetF; rw [e_bind]; congr 1; funext m e; rw [e_bind, setS_eq]; rfl
theorem e_sRet : sRet a e = (a e).bind fun m e => .ok (.rt m) e := (rfl)
theorem e_sEx : sEx a e = (a e).bind fun m e => .ok .nx e := (rfl)
theorem e_sNext : sNext e = .ok .nx e := (rfl)
theorem e_sBk : sBk e = .ok .bk e := (rfl)
theorem e_sCt : sCt e = .ok .ct e := (rfl)
theorem e_sIf : sIf t sa sb e = (t e).bind fun x e => iff' x (sa e) (sb e) := by
  unfold sIf; rw [e_bind]; congr 1; funext x e; cases x <;> rfl
def seqK (b : M Ctl) : Ctl → Env → O Ctl
  | .nx, e => b e
  | .rt m, e => .ok (.rt m) e
  | .bk, e => .ok .bk e
  | .ct, e => .ok .ct e
theorem e_sq : sq sa sb e = (sa e).bind (seqK sb) := by
  unfold sq; rw [e_bind]; congr 1; funext c e; cases c <;> rfl
theorem e_sqN : seqK sb .nx e = sb e := (rfl)
theorem e_sqR : seqK sb (.rt m) e = .ok (.rt m) e := (rfl)
theorem e_sqB : seqK sb .bk e = .ok .bk e := (rfl)
theorem e_sqC : seqK sb .ct e = .ok .ct e := (rfl)
def frzAt (i : Nat) (b : M Ctl) : Option SV → Env → O Ctl
  | some (.own m), e => b (e.set i (.is m.val))
  | some (.is v), e => b e
  | _, _ => .no
theorem e_frz : sFrz i sb e = frzAt i sb e[i]? e := by
  unfold sFrz frzAt
  split <;> simp_all
theorem e_frzO : frzAt i sb (some (.own m)) e = sb (e.set i (.is m.val)) := (rfl)
theorem e_frzI : frzAt i sb (some (.is v)) e = sb e := (rfl)
theorem e_tgN : tgN i v e = stU i (.f v) e[i]? e := setS_eq
theorem e_tgs0 : tgs [] [] e = .ok () e := (rfl)
theorem e_tgs1 : tgs (g :: gs) (v :: vs) e = (g v e).bind fun _ e => tgs gs vs e := by
  rw [tgs]; rfl
theorem e_tgT (h : vs.length = gs.length) : tgT gs (.tup vs) e = tgs gs vs e := by unfold tgT; dsimp only; rw [if_pos h]
theorem e_tgL (h : vs.length = gs.length) : tgL gs (.lst vs) e = tgs gs vs e := by unfold tgL; dsimp only; rw [if_pos h]
theorem e_tgT1 {g1 : Val → M Unit} {v1 : Val} : tgT [g1] (.tup [v1]) e = (g1 v1 e).bind fun _ e => .ok () e := by rw [e_tgT rfl]; simp only [e_tgs1, e_tgs0]
theorem e_tgL1 {g1 : Val → M Unit} {v1 : Val} : tgL [g1] (.lst [v1]) e = (g1 v1 e).bind fun _ e => .ok () e := by rw [e_tgL rfl]; simp only [e_tgs1, e_tgs0]
theorem e_tgT2 {g1 g2 : Val → M Unit} {v1 v2 : Val} : tgT [g1, g2] (.tup [v1, v2]) e = (g1 v1 e).bind fun _ e => (g2 v2 e).bind fun _ e => .ok () e := by rw [e_tgT rfl]; simp only [e_tgs1, e_tgs0]
theorem e_tgL2 {g1 g2 : Val → M Unit} {v1 v2 : Val} : tgL [g1, g2] (.lst [v1, v2]) e = (g1 v1 e).bind fun _ e => (g2 v2 e).bind fun _ e => .ok () e := by rw [e_tgL rfl]; simp only [e_tgs1, e_tgs0]
theorem e_tgT3 {g1 g2 g3 : Val → M Unit} {v1 v2 v3 : Val} : tgT [g1, g2, g3] (.tup [v1, v2, v3]) e = (g1 v1 e).bind fun _ e => (g2 v2 e).bind fun _ e => (g3 v3 e).bind fun _ e => .ok () e := by rw [e_tgT rfl]; simp only [e_tgs1, e_tgs0]
theorem e_tgL3 {g1 g2 g3 : Val → M Unit} {v1 v2 v3 : Val} : tgL [g1, g2, g3] (.lst [v1, v2, v3]) e = (g1 v1 e).bind fun _ e => (g2 v2 e).bind fun _ e => (g3 v3 e).bind fun _ e => .ok () e := by rw [e_tgL rfl]; simp only [e_tgs1, e_tgs0]
theorem e_tgT4 {g1 g2 g3 g4 : Val → M Unit} {v1 v2 v3 v4 : Val} : tgT [g1, g2, g3, g4] (.tup [v1, v2, v3, v4]) e = (g1 v1 e).bind fun _ e => (g2 v2 e).bind fun _ e => (g3 v3 e).bind fun _ e => (g4 v4 e).bind fun _ e => .ok () e := by rw [e_tgT rfl]; simp only [e_tgs1, e_tgs0]
theorem e_tgL4 {g1 g2 g3 g4 : Val → M Unit} {v1 v2 v3 v4 : Val} : tgL [g1, g2, g3, g4] (.lst [v1, v2, v3, v4]) e = (g1 v1 e).bind fun _ e => (g2 v2 e).bind fun _ e => (g3 v3 e).bind fun _ e => (g4 v4 e).bind fun _ e => .ok () e := by rw [e_tgL rfl]; simp only [e_tgs1, e_tgs0]
theorem e_tgT5 {g1 g2 g3 g4 g5 : Val → M Unit} {v1 v2 v3 v4 v5 : Val} : tgT [g1, g2, g3, g4, g5] (.tup [v1, v2, v3, v4, v5]) e = (g1 v1 e).bind fun _ e => (g2 v2 e).bind fun _ e => (g3 v3 e).bind fun _ e => (g4 v4 e).bind fun _ e => (g5 v5 e).bind fun _ e => .ok () e := by rw [e_tgT rfl]; simp only [e_tgs1, e_tgs0]
theorem e_tgL5 {g1 g2 g3 g4 g5 : Val → M Unit} {v1 v2 v3 v4 v5 : Val} : tgL [g1, g2, g3, g4, g5] (.lst [v1, v2, v3, v4, v5]) e = (g1 v1 e).bind fun _ e => (g2 v2 e).bind fun _ e => (g3 v3 e).bind fun _ e => (g4 v4 e).bind fun _ e => (g5 v5 e).bind fun _ e => .ok () e := by rw [e_tgL rfl]; simp only [e_tgs1, e_tgs0]
theorem e_tgT6 {g1 g2 g3 g4 g5 g6 : Val → M Unit} {v1 v2 v3 v4 v5 v6 : Val} : tgT [g1, g2, g3, g4, g5, g6] (.tup [v1, v2, v3, v4, v5, v6]) e = (g1 v1 e).bind fun _ e => (g2 v2 e).bind fun _ e => (g3 v3 e).bind fun _ e => (g4 v4 e).bind fun _ e => (g5 v5 e).bind fun _ e => (g6 v6 e).bind fun _ e => .ok () e := by rw [e_tgT rfl]; simp only [e_tgs1, e_tgs0]
theorem e_tgL6 {g1 g2 g3 g4 g5 g6 : Val → M Unit} {v1 v2 v3 v4 v5 v6 : Val} : tgL [g1, g2, g3, g4, g5, g6] (.lst [v1, v2, v3, v4, v5, v6]) e = (g1 v1 e).bind fun _ e => (g2 v2 e).bind fun _ e => (g3 v3 e).bind fun _ e => (g4 v4 e).bind fun _ e => (g5 v5 e).bind fun _ e => (g6 v6 e).bind fun _ e => .ok () e := by rw [e_tgL rfl]; simp only [e_tgs1, e_tgs0]
theorem e_sAsg : sAsg g a e = (a e).bind fun m e => (g m.val e).bind fun _ e => .ok .nx e := (rfl)
def par2O (i j : Nat) : List MV → Env → O Ctl
  | [m, n], e => (stU i m e[i]? e).bind fun _ e => (stU j n e[j]? e).bind fun _ e => .ok .nx e
  | _, _ => .no
theorem e_par2O : par2O i j [m, n] e = (stU i m e[i]? e).bind fun _ e => (stU j n e[j]? e).bind fun _ e => .ok .nx e := (rfl)
theorem e_par2 : sPar2 i j r e = (r e).bind (par2O i j) := by
  unfold sPar2; rw [e_bind]; congr 1; funext ms e
  match ms with
  | [] => rfl
  | [_] => rfl
  | [m, n] => show (setS i m >>= fun _ => (setS j n >>= fun _ => (pure Ctl.nx : M Ctl))) e = _; unfold par2O; rw [e_bind, setS_eq]; congr 1; funext _ e; rw [e_bind, setS_eq]; rfl
  | _ :: _ :: _ :: _ => rfl
def par3O (i j k : Nat) : List MV → Env → O Ctl
  | [m, n, p], e => (stU i m e[i]? e).bind fun _ e => (stU j n e[j]? e).bind fun _ e => (stU k p e[k]? e).bind fun _ e => .ok .nx e
  | _, _ => .no
theorem e_par3O {p : MV} : par3O i j k [m, n, p] e = (stU i m e[i]? e).bind fun _ e => (stU j n e[j]? e).bind fun _ e => (stU k p e[k]? e).bind fun _ e => .ok .nx e := (rfl)
theorem e_par3 : sPar3 i j k r e = (r e).bind (par3O i j k) := by
  unfold sPar3; rw [e_bind]; congr 1; funext ms e
  match ms with
  | [] => rfl
  | [_] => rfl
  | [_, _] => rfl
  | [m, n, p] => show (setS i m >>= fun _ => (setS j n >>= fun _ => (setS k p >>= fun _ => (pure Ctl.nx : M Ctl)))) e = _; unfold par3O; rw [e_bind, setS_eq]; congr 1; funext _ e; rw [e_bind, setS_eq]; congr 1; funext _ e; rw [e_bind, setS_eq]; rfl
  | _ :: _ :: _ :: _ :: _ => rfl
/-! walks -/
theorem e_okT : okIt (.t m) e = .ok () e := (rfl)
def okAt : Option SV → Env → O Unit
  | some (.is _), e => .ok () e
  | some (.rd _), e => .ok () e
  | _, _ => .no
theorem e_okS : okIt (.s i) e = okAt e[i]? e := by
  unfold okIt okAt
  dsimp only
  cases e[i]? with
  | none => rfl
  | some s => cases s <;> rfl
theorem e_okI : okAt (some (.is v)) e = .ok () e := (rfl)
theorem e_okR : okAt (some (.rd v)) e = .ok () e := (rfl)
theorem e_itL : itL oa e = (oa e).bind fun h e => (okIt h e).bind fun _ e => (rdH h e).bind fun m e => optO m.itsL e := by
  unfold itL; rw [e_bind]; congr 1; funext h e; rw [e_bind]; congr 1; funext _ e; rw [e_bind]; congr 1; funext m e; exact e_opt
theorem e_itT : itT oa e = (oa e).bind fun h e => (okIt h e).bind fun _ e => (rdH h e).bind fun m e => optO m.itsT e := by
  unfold itT; rw [e_bind]; congr 1; funext h e; rw [e_bind]; congr 1; funext _ e; rw [e_bind]; congr 1; funext m e; exact e_opt
def rg1 : MV → Env → O (List Val)
  | .f (.int j), e => if -4611686018427387904 ≤ j ∧ j < 4611686018427387904 then .ok (irange 0 j) e else .no
  | _, _ => .no
theorem e_rg1 {z : Int} (h : -4611686018427387904 ≤ z ∧ z < 4611686018427387904) : rg1 (.f (.int z)) e = .ok (irange 0 z) e := if_pos h
theorem e_itR1 : itR1 a e = (a e).bind rg1 := by
  unfold itR1; rw [e_bind]; congr 1; funext m e
  cases m with
  | f v => cases v with
    | int j => unfold rg1; dsimp only; split <;> rfl
    | _ => rfl
  | _ => rfl
def rg2 : MV → MV → Env → O (List Val)
  | .f (.int i), .f (.int j), e => if -4611686018427387904 ≤ i ∧ i < 4611686018427387904 ∧ -4611686018427387904 ≤ j ∧ j < 4611686018427387904 then .ok (irange i j) e else .no
  | _, _, _ => .no
theorem e_rg2 {y z : Int} (h : -4611686018427387904 ≤ y ∧ y < 4611686018427387904 ∧ -4611686018427387904 ≤ z ∧ z < 4611686018427387904) : rg2 (.f (.int y)) (.f (.int z)) e = .ok (irange y z) e := if_pos h
theorem e_itR2 : itR2 a b e = (a e).bind fun x e => (b e).bind fun y e => rg2 x y e := by
  unfold itR2; rw [e_bind]; congr 1; funext m e; rw [e_bind]; congr 1; funext n e
  cases m with
  | f v => cases v with
    | int j => cases n with
      | f v => cases v with
        | int j => unfold rg2; dsimp only; split <;> rfl
        | _ => rfl
      | _ => rfl
    | _ => rfl
  | _ => rfl
def forO (g : Val → M Unit) (b : M Ctl) (xs : List Val) (e : Env) : O Ctl := forL (fun x => do g x; b) xs e
theorem e_for : sFor g it sb e = (it e).bind (forO g sb) := (rfl)
end
end Z
set_option maxHeartbeats 1000000
namespace Z
open PySem PySem.Spec L2
section
variable {a b c : M MV} {oa ob : M Hd} {i j k l d : Nat} {e : Env} {v w : Val} {m n : MV} {s : SV} {t u : M Bool} {sa sb : M Ctl} {r : M (List MV)} {ag ak : M (List Ag)} {ms : List MV} {xs ys vs : List Val} {g : Val → M Unit} {gs : List (Val → M Unit)} {it : M (List Val)} {f : Fn} {as bs : List Ag} {md : Md} {mds : List Md} {ax : Arg} {axs : List Arg}
/-! attributes, changed lists -/
def fM : Option MV → Option Val
  | some (.f v) => some v
  | _ => none
theorem e_fM : fM (some (.f v)) = some v := (rfl)
theorem e_fld : fld k j oa e = (oa e).bind fun h e => (rdH h e).bind fun m e => fO (fldV k j m) e := by
  unfold fld; rw [e_bind]; congr 1; funext x e; rw [e_bind]; congr 1; funext y e; exact fO_eq
theorem e_fldF : fldV k j (.f (.ins k vs)) = vs[j]? := (if_pos rfl)
theorem e_fldO : fldV k j (.ins k ms) = fM ms[j]? := by
  unfold fldV fM
  dsimp only
  rw [if_pos rfl]
  try (cases ms[j]? with
    | none => rfl
    | some x => cases x <;> rfl)
def sfAt (k j i : Nat) (m : MV) : Option SV → Env → O Unit
  | some s, e => match s.mut with
    | some (.ins d ms) => if d = k then
        if j < ms.length then .ok () (e.set i (s.put (.ins d (ms.set j m))))
        else if j = ms.length then .ok () (e.set i (s.put (.ins d (ms ++ [m]))))
        else .no
      else .no
    | _ => .no
  | none, _ => .no
theorem sf_eq : setFldM k j i m e = sfAt k j i m e[i]? e := by
  unfold setFldM sfAt
  cases e[i]? <;> rfl
theorem e_sFld : sFldZ k j i a e = (a e).bind fun m e => (sfAt k j i m e[i]? e).bind fun _ e => .ok .nx e := by
  unfold sFldZ; rw [e_bind]; congr 1; funext m e; rw [e_bind, sf_eq]; rfl
theorem e_sfN (h : j = ms.length) : sfAt k j i m (some (.io (.ins k ms))) e = .ok () (e.set i (.io (.ins k (ms ++ [m])))) := by
  subst h
  unfold sfAt SV.mut
  dsimp only
  rw [if_pos rfl, if_neg (Nat.lt_irrefl _), if_pos rfl]; rfl
theorem e_sfC (h : j < ms.length) : sfAt k j i m (some (.io (.ins k ms))) e = .ok () (e.set i (.io (.ins k (ms.set j m)))) := by
  unfold sfAt SV.mut
  dsimp only
  rw [if_pos rfl, if_pos h]; rfl
theorem e_sfCo (h : j < ms.length) : sfAt k j i m (some (.own (.ins k ms))) e = .ok () (e.set i (.own (.ins k (ms.set j m)))) := by
  unfold sfAt SV.mut
  dsimp only
  rw [if_pos rfl, if_pos h]; rfl
def isLAt : Option SV → Env → O Unit
  | some s, e => match s.mut with
    | some (.lst _) => .ok () e
    | _ => .no
  | none, _ => .no
theorem isL_eq : isL i e = isLAt e[i]? e := by
  unfold isL isLAt
  cases e[i]? <;> rfl
theorem e_isLO : isLAt (some (.own (.lst ms))) e = .ok () e := (rfl)
theorem e_isLI : isLAt (some (.io (.lst ms))) e = .ok () e := (rfl)
def apAt (i : Nat) (m : MV) : Option SV → Env → O Unit
  | some s, e => match s.mut with
    | some (.lst ms) => if ms.length < 16777216 then .ok () (e.set i (s.put (.lst (ms ++ [m])))) else .no
    | _ => .no
  | none, _ => .no
theorem ap_eq : appM i m e = apAt i m e[i]? e := by
  unfold appM apAt
  cases e[i]? <;> rfl
theorem e_sApp : sApp i a e = (isLAt e[i]? e).bind fun _ e => (a e).bind fun m e => (apAt i m e[i]? e).bind fun _ e => .ok .nx e := by
  unfold sApp; rw [e_bind, isL_eq]; congr 1; funext _ e; rw [e_bind]; congr 1; funext m e; rw [e_bind, ap_eq]; rfl
theorem e_apO (h : xs.length < 16777216) : apAt i (.f v) (some (.own (.lst (xs.map .f)))) e = .ok () (e.set i (.own (.lst ((xs ++ [v]).map .f)))) := by
  unfold apAt SV.mut
  dsimp only
  rw [if_pos (by rw [List.length_map]; exact h), List.map_append]; rfl
theorem e_apI (h : xs.length < 16777216) : apAt i (.f v) (some (.io (.lst (xs.map .f)))) e = .ok () (e.set i (.io (.lst ((xs ++ [v]).map .f)))) := by
  unfold apAt SV.mut
  dsimp only
  rw [if_pos (by rw [List.length_map]; exact h), List.map_append]; rfl
def saAt (i : Nat) (k : Val) (m : MV) : Option SV → Env → O Unit
  | some s, e => match s.mut with
    | some (.lst ms) => match k with
      | .int z => match ixN ms.length z with
        | some j => .ok () (e.set i (s.put (.lst (ms.set j m))))
        | none => .no
      | _ => .no
    | _ => .no
  | none, _ => .no
theorem sa_eq : setAtM i v m e = saAt i v m e[i]? e := by
  unfold setAtM saAt
  cases e[i]? <;> rfl
theorem e_sSetAt : sSetAt i b a e = (a e).bind fun m e => (isLAt e[i]? e).bind fun _ e => (b e).bind fun k e => (saAt i k.val m e[i]? e).bind fun _ e => .ok .nx e := by
  unfold sSetAt; rw [e_bind]; congr 1; funext m e; rw [e_bind, isL_eq]; congr 1; funext _ e; rw [e_bind]; congr 1; funext k e; rw [e_bind, sa_eq]; rfl
theorem ixN_nn {z : Int} {n : Nat} (h : 0 ≤ z ∧ z < n) : ixN n z = some z.toNat := by unfold ixN; rw [if_pos h.1, if_pos h.2]
theorem map_set' {y : Val} {q : Nat} : (xs.map MV.f).set q (.f y) = (xs.set q y).map .f := by rw [List.map_set]
theorem e_saO {z : Int} (h : 0 ≤ z ∧ z < xs.length) : saAt i (.int z) (.f v) (some (.own (.lst (xs.map .f)))) e = .ok () (e.set i (.own (.lst ((xs.set z.toNat v).map .f)))) := by
  unfold saAt SV.mut
  dsimp only
  rw [ixN_nn (by rw [List.length_map]; exact h)]
  dsimp only
  rw [map_set']; rfl
theorem e_saI {z : Int} (h : 0 ≤ z ∧ z < xs.length) : saAt i (.int z) (.f v) (some (.io (.lst (xs.map .f)))) e = .ok () (e.set i (.io (.lst ((xs.set z.toNat v).map .f)))) := by
  unfold saAt SV.mut
  dsimp only
  rw [ixN_nn (by rw [List.length_map]; exact h)]
  dsimp only
  rw [map_set']; rfl
/-! arguments -/
theorem e_aNil : aNil e = .ok [] e := (rfl)
theorem e_aV : aV a ag e = (a e).bind fun x e => (ag e).bind fun as e => .ok (.v x.val :: as) e := (rfl)
def hrAt : Option SV → Env → O Unit
  | some s, e => match s.read with
    | some _ => .ok () e
    | none => .no
  | none, _ => .no
theorem hr_eq : hasR i e = hrAt e[i]? e := by
  unfold hasR hrAt
  cases e[i]? <;> rfl
theorem e_hrI : hrAt (some (.is v)) e = .ok () e := (rfl)
theorem e_hrR : hrAt (some (.rd v)) e = .ok () e := (rfl)
theorem e_hrO : hrAt (some (.own m)) e = .ok () e := (rfl)
theorem e_hrIo : hrAt (some (.io m)) e = .ok () e := (rfl)
theorem e_aS : aS i ag e = (hrAt e[i]? e).bind fun _ e => (ag e).bind fun as e => .ok (.s i :: as) e := by
  unfold aS; rw [e_bind, hr_eq]; rfl
/-! binding -/
def bCons : Option Arg → Option (List Arg) → Option (List Arg)
  | some x, some xs => some (x :: xs)
  | _, _ => none
theorem e_bCons : bCons (some ax) (some axs) = some (ax :: axs) := (rfl)
theorem e_bs0 : bindAs e [] [] = some [] := (rfl)
theorem e_bs1 {x : Ag} : bindAs e (md :: mds) (x :: as) = bCons (bindA e md x) (bindAs e mds as) := by
  rw [bindAs]
  cases bindA e md x with
  | none => rfl
  | some y => cases bindAs e mds as <;> rfl
theorem e_bD : bindA e .d (.v v) = some (.v v) := (rfl)
theorem e_bR : bindA e .r (.v v) = some (.v v) := (rfl)
def bRS : Option SV → Option Arg
  | some s => match s.read with
    | some m => m.flat.map .v
    | none => none
  | none => none
def bIS : Option SV → Option Arg
  | some s => s.mut.map .io
  | none => none
theorem e_bRs : bindA e .r (.s i) = bRS e[i]? := by
  unfold bindA bRS
  try dsimp only
  try (cases e[i]? <;> rfl)
theorem e_bIs : bindA e .io (.s i) = bIS e[i]? := by
  unfold bindA bIS
  try dsimp only
  try (cases e[i]? <;> rfl)
theorem e_bRi : bRS (some (.is v)) = some (.v v) := (rfl)
theorem e_bRr : bRS (some (.rd v)) = some (.v v) := (rfl)
theorem e_bRo : bRS (some (.own (.lst (xs.map .f)))) = some (.v (.lst xs)) := by
  show ((allF (xs.map .f)).map Val.lst).map Arg.v = _
  rw [allF_map]; rfl
theorem e_bRio : bRS (some (.io (.lst (xs.map .f)))) = some (.v (.lst xs)) := by
  show ((allF (xs.map .f)).map Val.lst).map Arg.v = _
  rw [allF_map]; rfl
theorem e_bRoI : bRS (some (.own (.ins k ms))) = ((allF ms).map (Val.ins k)).map Arg.v := (rfl)
theorem e_bRioI : bRS (some (.io (.ins k ms))) = ((allF ms).map (Val.ins k)).map Arg.v := (rfl)
theorem e_allF0 : allF [] = some [] := (rfl)
theorem e_allF1 : allF (.f v :: ms) = (allF ms).map (v :: ·) := (rfl)
theorem e_bIo : bIS (some (.own m)) = some (.io m) := (rfl)
theorem e_bIi : bIS (some (.io m)) = some (.io m) := (rfl)
theorem e_ios0 : ios [] [] = [] := (rfl)
theorem e_iosD {x : Ag} : ios (.d :: mds) (x :: as) = ios mds as := by cases x <;> rfl
theorem e_iosR {x : Ag} : ios (.r :: mds) (x :: as) = ios mds as := by cases x <;> rfl
theorem e_iosI : ios (.io :: mds) (.s i :: as) = i :: ios mds as := (rfl)
def ptAt (i : Nat) (m : MV) : Option SV → Env → Env
  | some s, e => e.set i (s.put m)
  | none, e => e
theorem e_pt0 : putAll e [] [] = e := (rfl)
theorem e_pt1 {is : List Nat} : putAll e (i :: is) (m :: ms) = putAll (ptAt i m e[i]? e) is ms := by
  rw [putAll]
  unfold ptAt
  cases e[i]? <;> rfl
theorem e_ptO : ptAt i m (some (.own n)) e = e.set i (.own m) := (rfl)
theorem e_ptI : ptAt i m (some (.io n)) e = e.set i (.io m) := (rfl)
def cgO (is : List Nat) : FO → Env → O MV
  | .ok r outs, e => .ok r (putAll e is outs)
  | .er x outs, e => .er x (putAll e is outs)
  | .no, _ => .no
theorem e_cgO {is : List Nat} {outs : List MV} : cgO is (.ok m outs) e = .ok m (putAll e is outs) := (rfl)
def cgB (f : Fn) (gs : List Ag) : Option (List Arg) → Env → O MV
  | some as, e => if apart (ios f.md gs) (rds f.md gs) then cgO (ios f.md gs) (f.run as) e else .no
  | none, _ => .no
theorem e_callG {gs : List Ag} : callG f gs e = cgB f gs (bindAs e f.md gs) e := by
  unfold callG cgB
  cases bindAs e f.md gs with
  | none => rfl
  | some as =>
    dsimp only
    split
    · cases f.run as <;> rfl
    · rfl
theorem e_cgB {gs : List Ag} (h : apart (ios f.md gs) (rds f.md gs) = true) : cgB f gs (some axs) e = cgO (ios f.md gs) (f.run axs) e := if_pos h
theorem e_call : call f vs ag e = (ag e).bind fun gs e => callG f (gs ++ vs.map .v) e := (rfl)
def cnO (f : Fn) (n k : Nat) (gs hs : List Ag) (e : Env) : O MV := if gs.length = n ∧ hs.length = k then callG f (gs ++ hs) e else .no
theorem e_cnO {n k : Nat} {gs hs : List Ag} (h : gs.length = n ∧ hs.length = k) : cnO f n k gs hs e = callG f (gs ++ hs) e := if_pos h
theorem e_callN {n k : Nat} : callN f n k ag ak e = (ag e).bind fun gs e => (ak e).bind fun hs e => cnO f n k gs hs e := by
  unfold callN; rw [e_bind]; congr 1; funext gs e; rw [e_bind]; congr 1; funext hs e
  unfold cnO; split <;> rfl
theorem e_hAgT : hAg (.t m) = .v m.val := (rfl)
theorem e_hAgS : hAg (.s i) = .s i := (rfl)
def icV (c : Nat) : Val → Env → O Unit
  | .ins d _, e => if d = c then .ok () e else .no
  | _, _ => .no
theorem e_icV : icV k (.ins k vs) e = .ok () e := (if_pos rfl)
theorem e_isC {h : Hd} : isC k h e = (rdH h e).bind fun m e => icV k m.val e := by
  unfold isC; rw [e_bind]; congr 1; funext m e
  cases m.val with
  | ins d vs => unfold icV; dsimp only; split <;> rfl
  | _ => rfl
theorem e_meth : meth k f vs oa ag e = (oa e).bind fun h e => (isC k h e).bind fun _ e => (ag e).bind fun gs e => callG f (hAg h :: (gs ++ vs.map .v)) e := (rfl)
theorem e_prop : prop k f oa e = (oa e).bind fun h e => (isC k h e).bind fun _ e => callG f [hAg h] e := (rfl)
def lnO : MV → Env → O MV
  | .f (.int n), e => if 0 ≤ n ∧ n < 9223372036854775808 then .ok (.f (.int n)) e else .no
  | _, _ => .no
theorem e_lnO {z : Int} (h : 0 ≤ z ∧ z < 9223372036854775808) : lnO (.f (.int z)) e = .ok (.f (.int z)) e := if_pos h
theorem e_lenOwn : lenOwn k f oa e = (oa e).bind fun h e => (isC k h e).bind fun _ e => (callG f [hAg h] e).bind lnO := by
  unfold lenOwn; rw [e_bind]; congr 1; funext h e; rw [e_bind]; congr 1; funext _ e; rw [e_bind]; congr 1; funext m e
  cases m with
  | f v => cases v with
    | int n => unfold lnO; dsimp only; split <;> rfl
    | _ => rfl
  | _ => rfl
theorem e_subOwn : subOwn k f oa b e = (oa e).bind fun h e => (b e).bind fun j e => (isC k h e).bind fun _ e => callG f [hAg h, .v j.val] e := (rfl)
def eqO (neg : Bool) : MV → Env → O MV
  | .f (.bl b), e => .ok (.f (.bl (if neg then !b else b))) e
  | _, _ => .no
theorem e_eqO {x : Bool} : eqO false (.f (.bl x)) e = .ok (.f (.bl x)) e := (rfl)
theorem e_neO {x : Bool} : eqO true (.f (.bl x)) e = .ok (.f (.bl (!x))) e := (rfl)
theorem e_eqOwn : eqOwn k f oa ob e = (oa e).bind fun h e => (ob e).bind fun h2 e => (isC k h e).bind fun _ e => (isC k h2 e).bind fun _ e => (callG f [hAg h, hAg h2] e).bind (eqO false) := by
  unfold eqOwn; rw [e_bind]; congr 1; funext h e; rw [e_bind]; congr 1; funext h2 e; rw [e_bind]; congr 1; funext _ e; rw [e_bind]; congr 1; funext _ e; rw [e_bind]; congr 1; funext m e
  cases m with
  | f v => cases v <;> rfl
  | _ => rfl
theorem e_neOwn : neOwn k f oa ob e = (oa e).bind fun h e => (ob e).bind fun h2 e => (isC k h e).bind fun _ e => (isC k h2 e).bind fun _ e => (callG f [hAg h, hAg h2] e).bind (eqO true) := by
  unfold neOwn; rw [e_bind]; congr 1; funext h e; rw [e_bind]; congr 1; funext h2 e; rw [e_bind]; congr 1; funext _ e; rw [e_bind]; congr 1; funext _ e; rw [e_bind]; congr 1; funext m e
  cases m with
  | f v => cases v <;> rfl
  | _ => rfl
def mkR : FO → Env → O MV
  | .ok (.f .non) [m], e => .ok m e
  | .er x _, e => .er x e
  | _, _ => .no
theorem e_mkR : mkR (.ok (.f .non) [m]) e = .ok m e := (rfl)
def mkB (k : Nat) (f : Fn) : Option (List Arg) → Env → O MV
  | some xs, e => mkR (f.run (.io (.ins k []) :: xs)) e
  | none, _ => .no
theorem e_mkB : mkB k f (some axs) e = mkR (f.run (.io (.ins k []) :: axs)) e := (rfl)
def mkO (k : Nat) (f : Fn) (gs : List Ag) (e : Env) : O MV := match f.md with
  | .io :: ds => if ios ds gs = [] then mkB k f (bindAs e ds gs) e else .no
  | _ => .no
theorem e_mkO {gs : List Ag} (h : f.md = .io :: mds) (h2 : ios mds gs = []) : mkO k f gs e = mkB k f (bindAs e mds gs) e := by
  unfold mkO; rw [h]; dsimp only; rw [if_pos h2]
theorem e_mk : mk k f vs ag e = (ag e).bind fun gs e => mkO k f (gs ++ vs.map .v) e := by
  unfold mk; rw [e_bind]; congr 1; funext gs e
  unfold mkO
  cases hm : f.md with
  | nil => cases bindAs e ([] : List Md).tail (gs ++ vs.map .v) <;> rfl
  | cons md mds =>
    cases md with
    | io =>
      dsimp only [List.tail_cons]
      cases hb : bindAs e mds (gs ++ vs.map .v) with
      | none => dsimp only; split <;> rfl
      | some xs =>
        dsimp only
        split
        · unfold mkB mkR; dsimp only
          cases f.run (.io (.ins k []) :: xs) with
          | ok r outs =>
            cases r with
            | f v => cases v with
              | non => match outs with
                | [] => rfl
                | [m] => rfl
                | _ :: _ :: _ => rfl
              | _ => rfl
            | _ => rfl
          | er x outs => rfl
          | no => rfl
        · rfl
    | d => cases bindAs e mds (gs ++ vs.map .v) <;> rfl
    | r => cases bindAs e mds (gs ++ vs.map .v) <;> rfl
/-! a def run -/
def eCons : SV → Option Env → Option Env
  | s, some e => some (s :: e)
  | _, none => none
theorem e_eCons : eCons s (some e) = some (s :: e) := (rfl)
theorem e_en0 : entry [] [] = some [] := (rfl)
theorem e_enD : entry (.d :: mds) (.v v :: axs) = eCons (.is v) (entry mds axs) := by
  rw [entry]; dsimp only [argSV]; cases entry mds axs <;> rfl
theorem e_enR : entry (.r :: mds) (.v v :: axs) = eCons (.rd v) (entry mds axs) := by
  rw [entry]; dsimp only [argSV]; cases entry mds axs <;> rfl
theorem e_enI : entry (.io :: mds) (.io m :: axs) = eCons (.io m) (entry mds axs) := by
  rw [entry]; dsimp only [argSV]; cases entry mds axs <;> rfl
def oCons : MV → Option (List MV) → Option (List MV)
  | m, some ms => some (m :: ms)
  | _, none => none
theorem e_oCons : oCons m (some ms) = some (m :: ms) := (rfl)
theorem e_os0 : outsOf [] e = some [] := by cases e <;> rfl
theorem e_osD : outsOf (.d :: mds) (s :: e) = outsOf mds e := by rw [outsOf]
theorem e_osR : outsOf (.r :: mds) (s :: e) = outsOf mds e := by rw [outsOf]
theorem e_osI : outsOf (.io :: mds) (.io m :: e) = oCons m (outsOf mds e) := by
  rw [outsOf]; cases outsOf mds e <;> rfl
def foO (m : MV) : Option (List MV) → FO
  | some outs => .ok m outs
  | none => .no
theorem e_foO : foO m (some ms) = .ok m ms := (rfl)
def runO (mds : List Md) : O Ctl → FO
  | .ok (.rt m) e => foO m (outsOf mds e)
  | .ok .nx e => foO (.f .non) (outsOf mds e)
  | .er x e => match outsOf mds e with
    | some outs => .er x outs
    | none => .no
  | _ => .no
theorem e_runR : runO mds (.ok (.rt m) e) = foO m (outsOf mds e) := (rfl)
theorem e_runN : runO mds (.ok .nx e) = foO (.f .non) (outsOf mds e) := (rfl)
theorem e_run {ns : Nat} (h : entry mds axs = some e) : Fn.run ⟨mds, ns, sa⟩ axs = runO mds (sa (e ++ List.replicate (ns - mds.length) .any)) := by
  unfold Fn.run
  dsimp only
  rw [h]
  dsimp only
  unfold runO foO
  cases sa (e ++ List.replicate (ns - mds.length) .any) with
  | ok c e2 => cases c <;> (dsimp only; try (cases outsOf mds e2 <;> rfl))
  | er x e2 => rfl
  | no => rfl
end
/-! ### loops -/
section
variable {i j k : Nat} {e : Env} {xs : List Val} {g : Val → M Unit} {sb : M Ctl} {t : M Bool}
theorem forO_nil : forO g sb [] e = .ok .nx e := rfl
theorem forO_cons {x : Val} : forO g sb (x :: xs) e = ((g x e).bind fun _ e => sb e).bind fun c e => match c with
    | .rt m => .ok (.rt m) e
    | .bk => .ok .nx e
    | _ => forO g sb xs e := by
  unfold forO
  rw [forL, e_bind]
  congr 1; funext c e
  cases c <;> rfl
/-- each round ends at its end -/
theorem for_inv (P : Nat → Env → Prop) (h0 : P 0 e) (h : ∀ n x e, xs[n]? = some x → P n e → ∃ e', ((g x e).bind fun _ e => sb e) = .ok .nx e' ∧ P (n + 1) e') : ∃ e', forO g sb xs e = .ok .nx e' ∧ P xs.length e' := by
  induction xs generalizing e P with
  | nil => exact ⟨e, rfl, h0⟩
  | cons x xs ih =>
    obtain ⟨e1, h1, h2⟩ := h 0 x e rfl h0
    obtain ⟨e2, h3, h4⟩ := ih (fun n => P (n + 1)) h2 fun n y e hn hp => h (n + 1) y e hn hp
    refine ⟨e2, ?_, by rw [List.length_cons]; exact h4⟩
    rw [forO_cons, h1]
    exact h3
/-- a round may go on early -/
theorem for_invC (P : Nat → Env → Prop) (h0 : P 0 e) (h : ∀ n x e, xs[n]? = some x → P n e → ∃ e', (((g x e).bind fun _ e => sb e) = .ok .nx e' ∨ ((g x e).bind fun _ e => sb e) = .ok .ct e') ∧ P (n + 1) e') : ∃ e', forO g sb xs e = .ok .nx e' ∧ P xs.length e' := by
  induction xs generalizing e P with
  | nil => exact ⟨e, rfl, h0⟩
  | cons x xs ih =>
    obtain ⟨e1, h1, h2⟩ := h 0 x e rfl h0
    obtain ⟨e2, h3, h4⟩ := ih (fun n => P (n + 1)) h2 fun n y e hn hp => h (n + 1) y e hn hp
    refine ⟨e2, ?_, by rw [List.length_cons]; exact h4⟩
    rcases h1 with h1 | h1 <;> (rw [forO_cons, h1]; exact h3)
/-- rounds up to the first that hands something over -/
theorem for_first (P : Nat → Env → Prop) (q : Val → Bool) (R : Val → MV → Env → Prop) (h0 : P 0 e)
    (h : ∀ n x e, xs[n]? = some x → P n e → (q x = false → ∃ e', ((g x e).bind fun _ e => sb e) = .ok .nx e' ∧ P (n + 1) e') ∧ (q x = true → ∃ m e', ((g x e).bind fun _ e => sb e) = .ok (.rt m) e' ∧ R x m e')) :
    (∃ e', forO g sb xs e = .ok .nx e' ∧ P xs.length e' ∧ ∀ x ∈ xs, q x = false) ∨ ∃ x m e', x ∈ xs ∧ q x = true ∧ forO g sb xs e = .ok (.rt m) e' ∧ R x m e' := by
  induction xs generalizing e P with
  | nil => exact .inl ⟨e, rfl, h0, fun x hx => nomatch hx⟩
  | cons x xs ih =>
    cases hq : q x with
    | false =>
      obtain ⟨e1, h1, h2⟩ := (h 0 x e rfl h0).1 hq
      rcases ih (fun n => P (n + 1)) h2 fun n y e hn hp => h (n + 1) y e hn hp with ⟨e2, h3, h4, h5⟩ | ⟨y, m, e2, h3, h4, h5, h6⟩
      · refine .inl ⟨e2, by rw [forO_cons, h1]; exact h3, by rw [List.length_cons]; exact h4, fun z hz => ?_⟩
        rcases List.mem_cons.mp hz with rfl | hz
        · exact hq
        · exact h5 z hz
      · exact .inr ⟨y, m, e2, List.mem_cons_of_mem _ h3, h4, by rw [forO_cons, h1]; exact h5, h6⟩
    | true =>
      obtain ⟨m, e1, h1, h2⟩ := (h 0 x e rfl h0).2 hq
      exact .inr ⟨x, m, e1, List.mem_cons_self .., hq, by rw [forO_cons, h1]; rfl, h2⟩
theorem whileN_eq {n : Nat} : whileN t sb (n + 1) e = (t e).bind fun x e => iff' x ((sb e).bind fun c e => match c with
    | .rt m => .ok (.rt m) e
    | .bk => .ok .nx e
    | _ => whileN t sb n e) (.ok .nx e) := by
  rw [whileN, e_bind]
  congr 1; funext x e
  cases x with
  | false => rfl
  | true =>
    show (sb >>= _) e = _
    rw [e_bind]
    unfold iff'
    rw [if_pos rfl]
    congr 1; funext c e
    cases c <;> rfl
/-- a while that goes on as long as the measure falls -/
theorem while_inv (P : Nat → Env → Prop) {n0 : Nat} (hn : n0 < 1000000) (h0 : P n0 e)
    (h : ∀ n e, P n e → (∃ e1, t e = .ok false e1 ∧ P 0 e1) ∨ ∃ e1 n' e2, t e = .ok true e1 ∧ sb e1 = .ok .nx e2 ∧ n' < n ∧ P n' e2) : ∃ e', sWhile t sb e = .ok .nx e' ∧ P 0 e' := by
  unfold sWhile
  have : ∀ N n e, n < N → P n e → ∃ e', whileN t sb N e = .ok .nx e' ∧ P 0 e' := by
    intro N
    induction N with
    | zero => intro n e hn; exact absurd hn (Nat.not_lt_zero _)
    | succ N ih =>
      intro n e hn hp
      rcases h n e hp with ⟨e1, h1, h2⟩ | ⟨e1, n', e2, h1, h2, h3, h4⟩
      · exact ⟨e1, by rw [whileN_eq, h1]; rfl, h2⟩
      · obtain ⟨e3, h5, h6⟩ := ih n' e2 (by omega) h4
        refine ⟨e3, ?_, h6⟩
        rw [whileN_eq, h1, e_ok, e_if1, h2, e_ok]
        exact h5
  exact this 1000000 n0 e hn h0
end
/-! ### comprehensions -/
section
variable {vs : List Nat} {g : Val → M Unit} {it : M (List Val)} {t : M Bool} {a : M MV} {e e1 : Env} {xs : List Val}
theorem lcL_eval {E0 : Env} (F : Val → Option MV) (hF : ∀ x ∈ xs, match F x with
    | some m => ∃ e2 e3, ((g x E0).bind fun _ e => t e) = .ok true e2 ∧ a e2 = .ok m e3 ∧ wipeE e3 vs = E0
    | none => ∃ e2, ((g x E0).bind fun _ e => t e) = .ok false e2 ∧ wipeE e2 vs = E0) {e : Env} (he : wipeE e vs = E0) : ∃ e', lcL vs g t a xs e = .ok (xs.filterMap F) e' ∧ e' = E0 := by
  induction xs generalizing e with
  | nil => exact ⟨_, rfl, he⟩
  | cons x xs ih =>
    have hx := hF x (List.mem_cons_self ..)
    have ih := @ih fun y hy => hF y (List.mem_cons_of_mem _ hy)
    rw [lcL]
    dsimp only
    rw [he, e_bind]
    cases hq : F x with
    | none =>
      rw [hq] at hx
      obtain ⟨e2, h1, h2⟩ := hx
      obtain ⟨e3, h3, h4⟩ := ih h2
      refine ⟨e3, ?_, h4⟩
      rw [List.filterMap_cons_none hq]
      cases hg : g x E0 with
      | ok y e5 =>
        rw [hg, e_ok] at h1
        rw [e_ok, e_bind, h1]
        exact h3
      | er y e5 => rw [hg] at h1; cases h1
      | no => rw [hg] at h1; cases h1
    | some m =>
      rw [hq] at hx
      obtain ⟨e2, e3, h1, h2, h3⟩ := hx
      obtain ⟨e4, h4, h5⟩ := ih h3
      refine ⟨e4, ?_, h5⟩
      rw [List.filterMap_cons_some hq]
      cases hg : g x E0 with
      | ok y e5 =>
        rw [hg, e_ok] at h1
        rw [e_ok, e_bind, h1, e_ok, if_pos rfl, e_bind, h2, e_ok, e_bind, h4]
        rfl
      | er y e5 => rw [hg] at h1; cases h1
      | no => rw [hg] at h1; cases h1
theorem e_lc (hi : it e = .ok xs e1) (hl : lights e1 vs = true) (hn : xs.length ≤ 16777216) (hw : wipeE (wipeE e1 vs) vs = wipeE e1 vs) (hr : restE (wipeE e1 vs) e1 vs = e1) (F : Val → Option MV)
    (hF : ∀ x ∈ xs, match F x with
    | some m => ∃ e2 e3, ((g x (wipeE e1 vs)).bind fun _ e => t e) = .ok true e2 ∧ a e2 = .ok m e3 ∧ wipeE e3 vs = wipeE e1 vs
    | none => ∃ e2, ((g x (wipeE e1 vs)).bind fun _ e => t e) = .ok false e2 ∧ wipeE e2 vs = wipeE e1 vs) : lc vs g it t a e = .ok (.lst (xs.filterMap F)) e1 := by
  unfold lc
  rw [e_bind, hi, e_ok]
  obtain ⟨e2, h1, h2⟩ := lcL_eval (E0 := wipeE e1 vs) (vs := vs) (g := g) (t := t) (a := a) F hF hw
  rw [if_pos ⟨hl, hn⟩, h1, h2]
  dsimp only
  rw [hr]
/-- each item gives one: no test -/
theorem e_lcM (hi : it e = .ok xs e1) (hl : lights e1 vs = true) (hn : xs.length ≤ 16777216) (hw : wipeE (wipeE e1 vs) vs = wipeE e1 vs) (hr : restE (wipeE e1 vs) e1 vs = e1) (F : Val → Val)
    (hF : ∀ x ∈ xs, ∃ e2 e3, ((g x (wipeE e1 vs)).bind fun _ e => t e) = .ok true e2 ∧ a e2 = .ok (.f (F x)) e3 ∧ wipeE e3 vs = wipeE e1 vs) : lc vs g it t a e = .ok (.lst ((xs.map F).map .f)) e1 := by
  rw [e_lc hi hl hn hw hr (fun x => some (.f (F x))) hF, List.map_map, List.filterMap_eq_map']; rfl
end
end Z
set_option maxHeartbeats 1000000
namespace Z
open PySem PySem.Spec L2
section
variable {e : Env} {p x : Bool} {v w : Val}
theorem e_m1 : iff' p (.ok (MV.f (.bl x)) e) (.ok (.f (.bl false)) e) = .ok (.f (.bl (p && x))) e := by cases p <;> rfl
theorem e_m2 : iff' p (.ok (MV.f (.bl true)) e) (.ok (.f (.bl x)) e) = .ok (.f (.bl (p || x))) e := by cases p <;> rfl
theorem e_m3 : iff' p (.ok x e) (.ok false e) = .ok (p && x) e := by cases p <;> rfl
theorem e_m4 : iff' p (.ok true e) (.ok x e) = .ok (p || x) e := by cases p <;> rfl
theorem e_m7 : iff' p (.ok (MV.f (.bl false)) e) (.ok (.f (.bl x)) e) = .ok (.f (.bl (!p && x))) e := by cases p <;> rfl
theorem e_m8 : iff' p (.ok (MV.f (.bl x)) e) (.ok (.f (.bl true)) e) = .ok (.f (.bl (!p || x))) e := by cases p <;> rfl
theorem e_m9 : iff' p (.ok false e) (.ok x e) = .ok (!p && x) e := by cases p <;> rfl
theorem e_m10 : iff' p (.ok x e) (.ok true e) = .ok (!p || x) e := by cases p <;> rfl
theorem e_m5 : iff' p (.ok (MV.f v) e) (.ok (.f w) e) = .ok (.f (if p = true then v else w)) e := by cases p <;> rfl
theorem e_m6 {α : Type} {o : O α} : iff' p o o = o := by cases p <;> rfl
end
section
variable {e : Env} {f : Fn} {gs as : List Ag} {axs : List Arg} {i j : Nat} {is js : List Nat} {md : Md} {mds : List Md} {x : Ag}
def apO (b : Bool) (o : O MV) : O MV := if b then o else .no
theorem e_apO' {o : O MV} : apO true o = o := (rfl)
theorem apO_congr {b b' : Bool} {o : O MV} (h : b = b') : apO b o = apO b' o := by rw [h]
theorem e_cgA : cgB f gs (some axs) e = apO (apart (ios f.md gs) (rds f.md gs)) (cgO (ios f.md gs) (f.run axs) e) := (rfl)
theorem e_rds0 : rds [] [] = [] := (rfl)
theorem e_rdsD : rds (.d :: mds) (x :: as) = rds mds as := by cases x <;> rfl
theorem e_rdsI : rds (.io :: mds) (x :: as) = rds mds as := by cases x <;> rfl
theorem e_rdsV {v : Val} : rds (.r :: mds) (.v v :: as) = rds mds as := (rfl)
theorem e_rdsS : rds (.r :: mds) (.s i :: as) = i :: rds mds as := (rfl)
theorem e_ap0 : apart [] js = true := (rfl)
theorem e_ap1 : apart [i] [] = true := by unfold apart; simp
theorem e_ap2 : apart [i] (j :: js) = (!(i == j) && apart [i] js) := by
  unfold apart
  simp only [List.nodup_cons, List.not_mem_nil, not_false_eq_true, List.nodup_nil, and_self, decide_true, Bool.true_and, List.all_cons, List.all_nil, Bool.and_true, List.contains_cons]
  cases i == j <;> rfl
theorem e_ap3 : apart (i :: j :: is) js = (!((j :: is).contains i) && apart [i] js && apart (j :: is) js) := by
  unfold apart
  rw [Bool.eq_iff_iff]
  simp only [List.nodup_cons, Bool.and_eq_true, decide_eq_true_eq, List.all_cons, List.all_nil, Bool.not_eq_true', List.contains_eq_mem, decide_eq_false_iff_not, List.not_mem_nil, not_false_eq_true, List.nodup_nil, and_true, true_and]
  constructor
  · rintro ⟨⟨h1, h2, h3⟩, h4, h5, h6⟩; exact ⟨⟨h1, h4⟩, ⟨h2, h3⟩, h5, h6⟩
  · rintro ⟨⟨h1, h4⟩, ⟨h2, h3⟩, h5, h6⟩; exact ⟨⟨h1, h2, h3⟩, h4, h5, h6⟩
end
section
variable {i k : Nat} {m x1 x2 x3 x4 x5 x6 x7 x8 : MV} {e : Env}
theorem e_sf0 : sfAt k 0 i m (some (.io (.ins k []))) e = .ok () (e.set i (.io (.ins k [m]))) := e_sfN rfl
theorem e_sf1 : sfAt k 1 i m (some (.io (.ins k [x1]))) e = .ok () (e.set i (.io (.ins k [x1, m]))) := e_sfN rfl
theorem e_sf2 : sfAt k 2 i m (some (.io (.ins k [x1, x2]))) e = .ok () (e.set i (.io (.ins k [x1, x2, m]))) := e_sfN rfl
theorem e_sf3 : sfAt k 3 i m (some (.io (.ins k [x1, x2, x3]))) e = .ok () (e.set i (.io (.ins k [x1, x2, x3, m]))) := e_sfN rfl
theorem e_sf4 : sfAt k 4 i m (some (.io (.ins k [x1, x2, x3, x4]))) e = .ok () (e.set i (.io (.ins k [x1, x2, x3, x4, m]))) := e_sfN rfl
theorem e_sf5 : sfAt k 5 i m (some (.io (.ins k [x1, x2, x3, x4, x5]))) e = .ok () (e.set i (.io (.ins k [x1, x2, x3, x4, x5, m]))) := e_sfN rfl
theorem e_sf6 : sfAt k 6 i m (some (.io (.ins k [x1, x2, x3, x4, x5, x6]))) e = .ok () (e.set i (.io (.ins k [x1, x2, x3, x4, x5, x6, m]))) := e_sfN rfl
theorem e_sf7 : sfAt k 7 i m (some (.io (.ins k [x1, x2, x3, x4, x5, x6, x7]))) e = .ok () (e.set i (.io (.ins k [x1, x2, x3, x4, x5, x6, x7, m]))) := e_sfN rfl
end
section
variable {k : Nat} {f : Fn} {gs : List Ag} {e : Env} {mds : List Md} {o : O MV}
def mkI (is : List Nat) (o : O MV) : O MV := if is = [] then o else .no
theorem e_mkI : mkI [] o = o := if_pos rfl
theorem mkI_congr {is js : List Nat} {o : O MV} (h : is = js) : mkI is o = mkI js o := by rw [h]
def mkM (k : Nat) (f : Fn) (mds : List Md) (gs : List Ag) (e : Env) : O MV := match mds with
  | .io :: ds => mkI (ios ds gs) (mkB k f (bindAs e ds gs) e)
  | _ => .no
theorem e_mkM : mkM k f (.io :: mds) gs e = mkI (ios mds gs) (mkB k f (bindAs e mds gs) e) := (rfl)
theorem e_mkO' : mkO k f gs e = mkM k f f.md gs e := (rfl)
end
def cnT (b c : Bool) (o : O MV) : O MV := if b && c then o else .no
theorem e_cnT {o : O MV} : cnT true true o = o := (rfl)
theorem e_cnO' {f : Fn} {n k : Nat} {gs hs : List Ag} {e : Env} : cnO f n k gs hs e = cnT (decide (gs.length = n)) (decide (hs.length = k)) (callG f (gs ++ hs) e) := by
  unfold cnO cnT
  by_cases h : gs.length = n <;> by_cases h2 : hs.length = k <;> simp [h, h2]
theorem e_mapAg {v : Val} {vs : List Val} : List.map Ag.v (v :: vs) = .v v :: List.map Ag.v vs := (rfl)
/-- rounds over numbers, told by their state -/
theorem at_of {α : Type} {l : List α} {n : Nat} {x : α} (h : l[n]? = some x) : x ∈ l := List.mem_of_getElem? h
theorem irange_get {a b : Int} {n : Nat} {x : Val} (h : (irange a b)[n]? = some x) : x = .int (a + n) ∧ a + n < b := by
  unfold irange at h
  rw [List.getElem?_map] at h
  cases q : (List.range (b - a).toNat)[n]? with
  | none => rw [q] at h; cases h
  | some k =>
    rw [q] at h
    cases h
    obtain ⟨h1, h2⟩ := List.getElem?_eq_some_iff.mp q
    rw [List.getElem_range] at h2
    rw [List.length_range] at h1
    subst h2
    exact ⟨rfl, by omega⟩
theorem irange_len {a b : Int} : (irange a b).length = (b - a).toNat := by unfold irange; rw [List.length_map, List.length_range]
theorem map_get {α : Type} {f : α → Val} {xs : List α} {n : Nat} {x : Val} (h : (xs.map f)[n]? = some x) : ∃ y, xs[n]? = some y ∧ x = f y := by
  rw [List.getElem?_map] at h
  cases q : xs[n]? with
  | none => rw [q] at h; cases h
  | some y => rw [q] at h; cases h; exact ⟨y, rfl, rfl⟩
end Z
set_option maxHeartbeats 1000000
namespace Z
open PySem PySem.Spec L2
/-! ### data: repr and == -/
mutual
def Val.sm : Val → Bool
  | .non => true
  | .bl _ => true
  | .int i => decide (i.natAbs < 10 ^ 20)
  | .str x => PyData.strOk x && x.cps.toList.all fun c => decide (c < 16 ^ 8)
  | .tup xs => Val.sms xs
  | .lst xs => Val.sms xs
  | _ => false
def Val.sms : List Val → Bool
  | [] => true
  | v :: r => v.sm && Val.sms r
end
mutual
def Val.bk : Val → Nat
  | .str x => x.cps.size
  | .tup xs => Val.bks xs
  | .lst xs => Val.bks xs
  | _ => 0
def Val.bks : List Val → Nat
  | [] => 0
  | v :: r => v.bk + 1 + Val.bks r
end
mutual
def Val.dp : Val → Nat
  | .tup xs => Val.dps xs + 1
  | .lst xs => Val.dps xs + 1
  | _ => 0
def Val.dps : List Val → Nat
  | [] => 0
  | v :: r => max v.dp (Val.dps r)
end
theorem int_len {i : Int} (h : i.natAbs < 10 ^ 20) : (PyData.shown (.int i)).length ≤ 21 := by
  show (Str.ofString (toString i)).length ≤ 21
  have := int_text_length_le10 (k := 20) (by decide) h
  rw [PySem.ofString_length]
  exact this
mutual
theorem sm_facts : ∀ v : Val, v.sm = true → v.isD = true ∧ v.dat.showable = true ∧ v.dat.hasDict = false ∧ v.dat.canLay0 = true ∧ v.dat.leavesShort 21 = true ∧ v.dat.depth = v.dp ∧ v.dat.bulk = v.bk
  | .non, _ => ⟨rfl, rfl, rfl, rfl, rfl, rfl, rfl⟩
  | .bl _, _ => ⟨rfl, rfl, rfl, rfl, rfl, rfl, rfl⟩
  | .int i, h => by
    have h : i.natAbs < 10 ^ 20 := of_decide_eq_true h
    refine ⟨rfl, ?_, rfl, rfl, decide_eq_true (int_len h), rfl, rfl⟩
    show decide (i.natAbs.log2 < 1920) = true
    refine decide_eq_true ?_
    by_cases z : i.natAbs = 0
    · rw [z]; decide
    · rw [Nat.log2_lt z]
      exact Nat.lt_trans h (by decide)
  | .str x, h => by
    have h : (PyData.strOk x && x.cps.toList.all fun c => decide (c < 16 ^ 8)) = true := by unfold Val.sm at h; exact h
    obtain ⟨h1, h2⟩ := Bool.and_eq_true_iff.mp h
    exact ⟨rfl, rfl, rfl, h1, h2, rfl, rfl⟩
  | .tup xs, h => by
    unfold Val.sm at h
    obtain ⟨h1, h2, h3, h4, h5, h6, h7⟩ := sms_facts xs h
    unfold Val.isD Val.dat Val.dp Val.bk
    exact ⟨h1, h2, h3, h4, h5, by show PyData.depthAll _ + 1 = _; rw [h6], h7⟩
  | .lst xs, h => by
    unfold Val.sm at h
    obtain ⟨h1, h2, h3, h4, h5, h6, h7⟩ := sms_facts xs h
    unfold Val.isD Val.dat Val.dp Val.bk
    exact ⟨h1, h2, h3, h4, h5, by show PyData.depthAll _ + 1 = _; rw [h6], h7⟩
  | .ty _, h => by unfold Val.sm at h; cases h
  | .st _, h => by unfold Val.sm at h; cases h
  | .ins _ _, h => by unfold Val.sm at h; cases h
theorem sms_facts : ∀ vs : List Val, Val.sms vs = true → Val.isDs vs = true ∧ PyData.showableAll (Val.dats vs) = true ∧ PyData.hasDictAll (Val.dats vs) = false ∧ PyData.canLayAll0 (Val.dats vs) = true ∧ PyData.leavesShortAll 21 (Val.dats vs) = true ∧ PyData.depthAll (Val.dats vs) = Val.dps vs ∧ PyData.bulkAll (Val.dats vs) = Val.bks vs
  | [], _ => ⟨rfl, rfl, rfl, rfl, rfl, rfl, rfl⟩
  | v :: r, h => by
    unfold Val.sms at h
    obtain ⟨h1, h2⟩ := Bool.and_eq_true_iff.mp h
    obtain ⟨a1, a2, a3, a4, a5, a6, a7⟩ := sm_facts v h1
    obtain ⟨b1, b2, b3, b4, b5, b6, b7⟩ := sms_facts r h2
    unfold Val.isDs Val.dats Val.dps Val.bks
    refine ⟨by rw [a1, b1]; rfl, ?_, ?_, ?_, ?_, ?_, ?_⟩
    · show (PyData.showable _ && PyData.showableAll _) = true; rw [a2, b2]; rfl
    · show (PyData.hasDict _ || PyData.hasDictAll _) = false; rw [a3, b3]; rfl
    · show (PyData.canLay0 _ && PyData.canLayAll0 _) = true; rw [a4, b4]; rfl
    · show (PyData.leavesShort _ _ && PyData.leavesShortAll _ _) = true; rw [a5, b5]; rfl
    · show max (PyData.depth _) (PyData.depthAll _) = _; rw [a6, b6]
    · show PyData.bulk _ + 1 + PyData.bulkAll _ = _; rw [a7, b7]
end
/-- small data -/
def Val.okd (v : Val) : Prop := v.sm = true ∧ v.bk ≤ 600000 ∧ v.dp ≤ 60
theorem shw_ok {v : Val} (h : v.okd) : shwV v = some (.str v.dat.shown) := by
  obtain ⟨h1, h2, h3⟩ := h
  obtain ⟨a1, a2, a3, a4, a5, a6, a7⟩ := sm_facts v h1
  have := PyData.shown_le_bulk 21 (by decide) v.dat a5
  rw [a7] at this
  unfold shwV
  rw [if_pos ⟨a1, a2, a3, by omega, by omega⟩]
theorem shaped_ok {v : Val} (h : v.okd) : v.isD = true ∧ SeqAt.shaped v.dat = true := by
  obtain ⟨h1, h2, h3⟩ := h
  obtain ⟨a1, a2, a3, a4, a5, a6, a7⟩ := sm_facts v h1
  refine ⟨a1, ?_⟩
  unfold SeqAt.shaped
  rw [a4, decide_eq_true (by omega)]; rfl
theorem eqD_self {v : Val} (h : v.okd) : eqD v v = some (.bl true) := by
  have a := shaped_ok h
  unfold eqD
  rw [if_pos ⟨a.1, a.1, a.2, a.2⟩, SeqAt.eqv_refl _ (sm_facts v h.1).2.2.2.1]
theorem neD_self {v : Val} (h : v.okd) : neD v v = some (.bl false) := by
  have a := shaped_ok h
  unfold neD
  rw [if_pos ⟨a.1, a.1, a.2, a.2⟩, SeqAt.eqv_refl _ (sm_facts v h.1).2.2.2.1]; rfl
theorem dats_eq : ∀ (xs : List Val), Val.dats xs = xs.map Val.dat
  | [] => rfl
  | x :: r => by rw [Val.dats, List.map_cons, dats_eq r]
theorem eqvAll_ints : ∀ ns ms : List Int, PyData.eqvAll (ns.map PyData.int) (ms.map PyData.int) = decide (ns = ms)
  | [], [] => by simp [PyData.eqvAll]
  | [], m :: r => by simp [PyData.eqvAll]
  | n :: r, [] => by simp [PyData.eqvAll]
  | n :: r, m :: t => by
    have ih := eqvAll_ints r t
    simp only [List.map_cons, PyData.eqvAll, PyData.eqv, ih]
    by_cases h : n = m
    · subst h
      by_cases h2 : r = t <;> simp [h2]
    · simp [h]
theorem dats_ints (ns : List Int) : Val.dats (ns.map Val.int) = ns.map PyData.int := by rw [dats_eq, List.map_map]; rfl
theorem sms_map {α : Type} {f : α → Val} : ∀ {xs : List α}, (∀ x ∈ xs, (f x).sm = true) → Val.sms (xs.map f) = true
  | [], _ => rfl
  | x :: r, h => by
    rw [List.map_cons]; unfold Val.sms
    rw [h x (List.mem_cons_self ..), sms_map fun y hy => h y (List.mem_cons_of_mem _ hy)]; rfl
theorem bks_map {α : Type} {f : α → Val} {b : Nat} : ∀ {xs : List α}, (∀ x ∈ xs, (f x).bk ≤ b) → Val.bks (xs.map f) ≤ (b + 1) * xs.length
  | [], _ => Nat.zero_le _
  | x :: r, h => by
    rw [List.map_cons, List.length_cons, Nat.mul_succ]; unfold Val.bks
    have h1 := h x (List.mem_cons_self ..)
    have h2 := bks_map (xs := r) fun y hy => h y (List.mem_cons_of_mem _ hy)
    omega
theorem dps_map {α : Type} {f : α → Val} {b : Nat} : ∀ {xs : List α}, (∀ x ∈ xs, (f x).dp ≤ b) → Val.dps (xs.map f) ≤ b
  | [], _ => Nat.zero_le _
  | x :: r, h => by
    rw [List.map_cons]; unfold Val.dps
    have h1 := h x (List.mem_cons_self ..)
    have h2 := dps_map (xs := r) fun y hy => h y (List.mem_cons_of_mem _ hy)
    omega
/-- a list of small things -/
theorem okd_lst {α : Type} {f : α → Val} {xs : List α} {b d : Nat} (h : ∀ x ∈ xs, (f x).sm = true ∧ (f x).bk ≤ b ∧ (f x).dp ≤ d) (hd : d ≤ 59) (hb : (b + 1) * xs.length ≤ 600000) : (Val.lst (xs.map f)).okd := by
  refine ⟨?_, ?_, ?_⟩
  · unfold Val.sm; exact sms_map fun x hx => (h x hx).1
  · unfold Val.bk; exact Nat.le_trans (bks_map fun x hx => (h x hx).2.1) hb
  · unfold Val.dp
    have := dps_map (xs := xs) fun x hx => (h x hx).2.2
    omega
theorem okd_tup {α : Type} {f : α → Val} {xs : List α} {b d : Nat} (h : ∀ x ∈ xs, (f x).sm = true ∧ (f x).bk ≤ b ∧ (f x).dp ≤ d) (hd : d ≤ 59) (hb : (b + 1) * xs.length ≤ 600000) : (Val.tup (xs.map f)).okd := by
  refine ⟨?_, ?_, ?_⟩
  · unfold Val.sm; exact sms_map fun x hx => (h x hx).1
  · unfold Val.bk; exact Nat.le_trans (bks_map fun x hx => (h x hx).2.1) hb
  · unfold Val.dp
    have := dps_map (xs := xs) fun x hx => (h x hx).2.2
    omega
theorem sm_int {i : Int} (h : i.natAbs < 10 ^ 20) : (Val.int i).sm = true := by unfold Val.sm; exact decide_eq_true h
theorem okd_ints {ns : List Int} (h : ∀ x ∈ ns, x.natAbs < 10 ^ 20) (hn : ns.length ≤ 600000) : (Val.lst (ns.map .int)).okd :=
  okd_lst (b := 0) (d := 0) (fun x hx => ⟨sm_int (h x hx), Nat.le_refl _, Nat.le_refl _⟩) (by decide) (by omega)
theorem okd_tints {ns : List Int} (h : ∀ x ∈ ns, x.natAbs < 10 ^ 20) (hn : ns.length ≤ 600000) : (Val.tup (ns.map .int)).okd :=
  okd_tup (b := 0) (d := 0) (fun x hx => ⟨sm_int (h x hx), Nat.le_refl _, Nat.le_refl _⟩) (by decide) (by omega)
theorem eqD_tints {ns ms : List Int} (h : (Val.tup (ns.map .int)).okd) (h' : (Val.tup (ms.map .int)).okd) : eqD (.tup (ns.map .int)) (.tup (ms.map .int)) = some (.bl (decide (ns = ms))) := by
  have a := shaped_ok h; have b := shaped_ok h'
  unfold eqD
  rw [if_pos ⟨a.1, b.1, a.2, b.2⟩]
  congr 2
  unfold Val.dat
  show PyData.eqvAll _ _ = _
  rw [dats_ints, dats_ints, eqvAll_ints]
theorem eqD_ints {ns ms : List Int} (h : (Val.lst (ns.map .int)).okd) (h' : (Val.lst (ms.map .int)).okd) : eqD (.lst (ns.map .int)) (.lst (ms.map .int)) = some (.bl (decide (ns = ms))) := by
  have a := shaped_ok h; have b := shaped_ok h'
  unfold eqD
  rw [if_pos ⟨a.1, b.1, a.2, b.2⟩]
  congr 2
  unfold Val.dat
  show PyData.eqvAll _ _ = _
  rw [dats_ints, dats_ints, eqvAll_ints]
theorem neD_ints {ns ms : List Int} (h : (Val.lst (ns.map .int)).okd) (h' : (Val.lst (ms.map .int)).okd) : neD (.lst (ns.map .int)) (.lst (ms.map .int)) = some (.bl (!decide (ns = ms))) := by
  have a := shaped_ok h; have b := shaped_ok h'
  unfold neD
  rw [if_pos ⟨a.1, b.1, a.2, b.2⟩]
  congr 2
  unfold Val.dat
  show (!PyData.eqvAll _ _) = _
  rw [dats_ints, dats_ints, eqvAll_ints]
end Z
set_option maxHeartbeats 1000000
namespace Z
open PySem PySem.Spec L2
/-! ### goals: what a run comes to -/
inductive Go {α : Type} : O α → (α → Env → Prop) → Prop
  | mk {a : α} {e : Env} {q : α → Env → Prop} (h : q a e) : Go (.ok a e) q
inductive FOk : FO → (MV → List MV → Prop) → Prop
  | mk {m : MV} {o : List MV} {q : MV → List MV → Prop} (h : q m o) : FOk (.ok m o) q
section
variable {α β : Type} {q q' : α → Env → Prop} {e e1 : Env} {a : α}
theorem e_Go : Go (.ok a e) q = q a e := propext ⟨fun h => by cases h; assumption, .mk⟩
theorem Go_congr {o o' : O α} (h : o = o') : Go o q = Go o' q := by rw [h]
theorem Go.ex {o : O α} (h : Go o q) : ∃ a e, o = .ok a e ∧ q a e := by
  cases h with
  | mk h => exact ⟨_, _, rfl, h⟩
theorem Go.mono' {o : O α} (h : Go o q) (i : ∀ a e, q a e → q' a e) : Go o q' := by
  cases h with
  | mk h => exact .mk (i _ _ h)
theorem Go.bind {o : O α} {k : α → Env → O β} {r : β → Env → Prop} (h : Go o q) (i : ∀ a e, q a e → Go (k a e) r) : Go (o.bind k) r := by
  cases h with
  | mk h => exact i _ _ h
theorem FOk.ex {fo : FO} {q : MV → List MV → Prop} (h : FOk fo q) : ∃ m outs, fo = .ok m outs ∧ q m outs := by
  cases h with
  | mk h => exact ⟨_, _, rfl, h⟩
theorem FOk.eq {fo : FO} {m : MV} {outs : List MV} (h : FOk fo fun r o => r = m ∧ o = outs) : fo = .ok m outs := by
  obtain ⟨r, o, h1, h2, h3⟩ := h.ex
  rw [h1, h2, h3]
def outq (q : List MV → Prop) : Option (List MV) → Prop
  | some outs => q outs
  | none => False
theorem e_outq {q : List MV → Prop} {outs : List MV} : outq q (some outs) = q outs := (rfl)
def retq (mds : List Md) (q : MV → List MV → Prop) : Ctl → Env → Prop
  | .rt m, e => outq (q m) (outsOf mds e)
  | .nx, e => outq (q (.f .non)) (outsOf mds e)
  | _, _ => False
theorem e_retR {mds : List Md} {q : MV → List MV → Prop} {m : MV} : retq mds q (.rt m) e = outq (q m) (outsOf mds e) := (rfl)
theorem e_retN {mds : List Md} {q : MV → List MV → Prop} : retq mds q .nx e = outq (q (.f .non)) (outsOf mds e) := (rfl)
theorem run_ok {mds : List Md} {axs : List Arg} {ns : Nat} {b : M Ctl} {q : MV → List MV → Prop} (h : entry mds axs = some e) (hb : Go (b (e ++ List.replicate (ns - mds.length) .any)) (retq mds q)) : FOk (Fn.run ⟨mds, ns, b⟩ axs) q := by
  rw [e_run h]
  obtain ⟨c, e2, ho, hb⟩ := hb.ex
  rw [ho]
  · cases c with
    | rt m =>
      have hb : outq (q m) (outsOf mds e2) := hb
      rw [e_runR]
      cases h2 : outsOf mds e2 with
      | none => rw [h2] at hb; exact hb.elim
      | some outs => rw [h2] at hb; exact .mk hb
    | nx =>
      have hb : outq (q (.f .non)) (outsOf mds e2) := hb
      rw [e_runN]
      cases h2 : outsOf mds e2 with
      | none => rw [h2] at hb; exact hb.elim
      | some outs => rw [h2] at hb; exact .mk hb
    | bk => exact hb.elim
    | ct => exact hb.elim
end
theorem run_go {f : Fn} {axs : List Arg} {q : MV → List MV → Prop} {e : Env} {mds : List Md} {ns : Nat} (b : M Ctl) (hf : f = ⟨mds, ns, b⟩) (h : entry mds axs = some e) (hk : Go (b (e ++ List.replicate (ns - mds.length) .any)) (retq mds q)) : FOk (f.run axs) q := by
  subst hf
  exact run_ok h hk
theorem e_nc {n : Nat} : ((no_index (OfNat.ofNat n) : Nat) : Int) = OfNat.ofNat n := (rfl)
theorem e_nc0 : ((0 : Nat) : Int) = 0 := (rfl)
theorem e_nc1 : ((1 : Nat) : Int) = 1 := (rfl)
theorem cutL_from {xs : List Val} {z : Int} (h0 : 0 ≤ z) (h1 : z ≤ xs.length) : cutL xs (some z) none = xs.drop z.toNat := by
  unfold cutL HT.sIx
  dsimp only
  rw [if_neg (by omega), Nat.min_eq_left (by omega), List.take_of_length_le (by rw [List.length_drop]; omega)]
theorem cutL_to {xs : List Val} {z : Int} (h0 : 0 ≤ z) (h1 : z ≤ xs.length) : cutL xs none (some z) = xs.take z.toNat := by
  unfold cutL HT.sIx
  dsimp only
  rw [if_neg (by omega), Nat.min_eq_left (by omega), List.drop_zero, Nat.sub_zero]
/-! loops -/
section
variable {i j k : Nat} {e : Env} {xs : List Val} {g : Val → M Unit} {sb : M Ctl} {t : M Bool} {β : Type} {K : Cn Ctl β} {q : β → Env → Prop}
/-- what a round may end in -/
def rdq (P : Env → Prop) (B : Env → Prop) (R : MV → Env → Prop) : Ctl → Env → Prop
  | .nx, e => P e
  | .ct, e => P e
  | .bk, e => B e
  | .rt m, e => R m e
theorem e_rdqN {P B : Env → Prop} {R : MV → Env → Prop} : rdq P B R .nx e = P e := (rfl)
theorem e_rdqC {P B : Env → Prop} {R : MV → Env → Prop} : rdq P B R .ct e = P e := (rfl)
theorem e_rdqB {P B : Env → Prop} {R : MV → Env → Prop} : rdq P B R .bk e = B e := (rfl)
theorem e_rdqR {P B : Env → Prop} {R : MV → Env → Prop} {m : MV} : rdq P B R (.rt m) e = R m e := (rfl)
def No (_ : Env) : Prop := False
def NoR (_ : MV) (_ : Env) : Prop := False
theorem for_gen (P : Nat → Env → Prop) (B : Env → Prop) (R : MV → Env → Prop) (h0 : P 0 e) (h : ∀ n x e, xs[n]? = some x → P n e → Go ((g x e).bind fun _ e => sb e) (rdq (P (n + 1)) B R)) :
    (∃ e', forO g sb xs e = .ok .nx e' ∧ (P xs.length e' ∨ B e')) ∨ ∃ m e', forO g sb xs e = .ok (.rt m) e' ∧ R m e' := by
  induction xs generalizing e P with
  | nil => exact .inl ⟨e, rfl, .inl h0⟩
  | cons x xs ih =>
    obtain ⟨c, e1, h1, h2⟩ := (h 0 x e rfl h0).ex
    rw [forO_cons, h1, e_ok]
    have ih := @ih e1 (fun n => P (n + 1))
    rw [List.length_cons]
    cases c with
    | nx => exact ih h2 fun n y e hn hp => h (n + 1) y e hn hp
    | ct => exact ih h2 fun n y e hn hp => h (n + 1) y e hn hp
    | bk => exact .inl ⟨e1, rfl, .inr h2⟩
    | rt m => exact .inr ⟨m, e1, rfl, h2⟩
theorem go_for (P : Nat → Env → Prop) (h0 : P 0 e) (h : ∀ n x e, xs[n]? = some x → P n e → Go ((g x e).bind fun _ e => sb e) (rdq (P (n + 1)) No NoR)) (hk : ∀ e', P xs.length e' → Go (K.go .nx e') q) : Go (@bdI _ _ (forO g sb xs e) K) q := by
  rcases for_gen P No NoR h0 h with ⟨e', h1, h2 | h2⟩ | ⟨m, e', h1, h2⟩
  · rw [h1]; exact hk e' h2
  · exact h2.elim
  · exact h2.elim
theorem go_forE {q : Ctl → Env → Prop} (P : Nat → Env → Prop) (h0 : P 0 e) (h : ∀ n x e, xs[n]? = some x → P n e → Go ((g x e).bind fun _ e => sb e) (rdq (P (n + 1)) No NoR)) (hk : ∀ e', P xs.length e' → q .nx e') : Go (forO g sb xs e) q := by
  rcases for_gen P No NoR h0 h with ⟨e', h1, h2 | h2⟩ | ⟨m, e', h1, h2⟩
  · rw [h1]; exact .mk (hk e' h2)
  · exact h2.elim
  · exact h2.elim
/-- a loop that may break off or hand over -/
theorem go_forX (P : Nat → Env → Prop) (B : Env → Prop) (R : MV → Env → Prop) (h0 : P 0 e) (h : ∀ n x e, xs[n]? = some x → P n e → Go ((g x e).bind fun _ e => sb e) (rdq (P (n + 1)) B R))
    (hk : ∀ e', P xs.length e' → Go (K.go .nx e') q) (hb : ∀ e', B e' → Go (K.go .nx e') q) (hr : ∀ m e', R m e' → Go (K.go (.rt m) e') q) : Go (@bdI _ _ (forO g sb xs e) K) q := by
  rcases for_gen P B R h0 h with ⟨e', h1, h2 | h2⟩ | ⟨m, e', h1, h2⟩
  · rw [h1]; exact hk e' h2
  · rw [h1]; exact hb e' h2
  · rw [h1]; exact hr m e' h2
def whO (t : M Bool) (b : M Ctl) (e : Env) : O Ctl := sWhile t b e
theorem e_while : sWhile t sb e = whO t sb e := (rfl)
theorem go_while (P : Nat → Env → Prop) (n0 : Nat) (hn : n0 < 1000000) (h0 : P n0 e)
    (h : ∀ n e, P n e → Go (t e) fun b e1 => (b = true → Go (sb e1) (rdq (fun e2 => ∃ n', n' < n ∧ P n' e2) No NoR)) ∧ (b = false → P 0 e1)) (hk : ∀ e', P 0 e' → Go (K.go .nx e') q) : Go (@bdI _ _ (whO t sb e) K) q := by
  have main : ∀ N n e, n < N → P n e → ∃ e', whileN t sb N e = .ok .nx e' ∧ P 0 e' := by
    intro N
    induction N with
    | zero => intro n e hn; exact absurd hn (Nat.not_lt_zero _)
    | succ N ih =>
      intro n e hn hp
      obtain ⟨b, e1, h1, h2, h3⟩ := (h n e hp).ex
      cases b with
      | false => exact ⟨e1, by rw [whileN_eq, h1]; rfl, h3 rfl⟩
      | true =>
        obtain ⟨c, e2, h4, h5⟩ := (h2 rfl).ex
        rw [whileN_eq, h1, e_ok, e_if1, h4, e_ok]
        cases c with
        | nx => obtain ⟨n', h6, h7⟩ := h5; exact ih n' e2 (by omega) h7
        | ct => obtain ⟨n', h6, h7⟩ := h5; exact ih n' e2 (by omega) h7
        | bk => exact h5.elim
        | rt m => exact h5.elim
  obtain ⟨e', h1, h2⟩ := main 1000000 n0 e hn h0
  unfold whO sWhile
  rw [h1]
  exact hk e' h2
end
/-! comprehensions -/
section
variable {vs : List Nat} {v : Nat} {g : Val → M Unit} {it : M (List Val)} {t : M Bool} {a : M MV} {e e1 : Env} {xs : List Val} {β : Type} {K : Cn MV β} {q : β → Env → Prop}
theorem e_wi0 : wipeE e [] = e := (rfl)
theorem e_wi1 : wipeE e (v :: vs) = (wipeE e vs).set v .any := (rfl)
theorem e_re0 : restE e e1 [] = e := (rfl)
theorem e_re1 : restE e e1 (v :: vs) = (restE e e1 vs).set v (e1.getD v .any) := (rfl)
theorem wipe_get : ∀ (vs : List Nat) (e : Env) (i : Nat), (wipeE e vs)[i]? = if i ∈ vs ∧ i < e.length then some .any else e[i]?
  | [], e, i => by rw [if_neg (fun h => nomatch h.1)]; rfl
  | v :: vs, e, i => by
    have hlen : ∀ (vs : List Nat), (wipeE e vs).length = e.length := fun vs => by
      induction vs with
      | nil => rfl
      | cons w vs ih => rw [e_wi1, List.length_set, ih]
    rw [e_wi1, List.getElem?_set, hlen, wipe_get vs e i]
    by_cases c : v = i
    · subst c
      rw [if_pos rfl]
      by_cases d : v < e.length
      · rw [if_pos d, if_pos ⟨List.mem_cons_self .., d⟩]
      · rw [if_neg d, if_neg (fun h => d h.2), List.getElem?_eq_none (by omega)]
    · rw [if_neg c]
      by_cases d : i ∈ vs ∧ i < e.length
      · rw [if_pos d, if_pos ⟨List.mem_cons_of_mem _ d.1, d.2⟩]
      · rw [if_neg d, if_neg (fun h => d ⟨(List.mem_cons.mp h.1).resolve_left (fun z => c z.symm), h.2⟩)]
theorem wipe_len : ∀ (vs : List Nat) (e : Env), (wipeE e vs).length = e.length
  | [], e => rfl
  | v :: vs, e => by rw [e_wi1, List.length_set, wipe_len vs e]
theorem wipe_wipe {vs : List Nat} {e : Env} : wipeE (wipeE e vs) vs = wipeE e vs := List.ext_getElem? fun i => by
  rw [wipe_get, wipe_get, wipe_len]
  by_cases d : i ∈ vs ∧ i < e.length
  · rw [if_pos d, if_pos d]
  · rw [if_neg d, if_neg d]
def liO : Option SV → Bool
  | some s => s.light
  | none => false
theorem e_li0 : lights e [] = true := (rfl)
theorem e_li1 : lights e (v :: vs) = (liO e[v]? && lights e vs) := by
  unfold lights
  rw [List.all_cons]
  congr 1
theorem e_liA : liO (some .any) = true := (rfl)
theorem e_liI {x : Val} : liO (some (.is x)) = true := (rfl)
theorem e_liR {x : Val} : liO (some (.rd x)) = true := (rfl)
def lcO (vs : List Nat) (g : Val → M Unit) (t : M Bool) (a : M MV) (xs : List Val) (e : Env) : O MV := if lights e vs = true ∧ xs.length ≤ 16777216 then match lcL vs g t a xs (wipeE e vs) with
    | .ok ms e' => .ok (.lst ms) (restE e' e vs)
    | _ => .no
  else .no
theorem e_lc' : lc vs g it t a e = (it e).bind (lcO vs g t a) := (rfl)
/-- each item is looked at alone -/
theorem lcO_eq (hl : lights e vs = true) (hn : xs.length ≤ 16777216) (hw : wipeE (wipeE e vs) vs = wipeE e vs) (hr : restE (wipeE e vs) e vs = e) (F : Val → Option MV)
    (hF : ∀ x ∈ xs, Go ((g x (wipeE e vs)).bind fun _ e => t e) fun b e2 => (b = true → Go (a e2) fun m e3 => F x = some m ∧ wipeE e3 vs = wipeE e vs) ∧ (b = false → F x = none ∧ wipeE e2 vs = wipeE e vs)) : lcO vs g t a xs e = .ok (.lst (xs.filterMap F)) e := by
  unfold lcO
  obtain ⟨e2, h1, h2⟩ := lcL_eval (E0 := wipeE e vs) (vs := vs) (g := g) (t := t) (a := a) (xs := xs) F (fun x hx => by
    obtain ⟨b, e2, h1, h2, h3⟩ := (hF x hx).ex
    cases b with
    | true =>
      obtain ⟨m, e3, h4, h5, h6⟩ := (h2 rfl).ex
      rw [h5]
      exact ⟨e2, e3, h1, h4, h6⟩
    | false =>
      rw [(h3 rfl).1]
      exact ⟨e2, h1, (h3 rfl).2⟩) hw
  rw [if_pos ⟨hl, hn⟩, h1, h2]
  dsimp only
  rw [hr]
theorem go_lc (hl : lights e vs = true) (hn : xs.length ≤ 16777216) (hw : wipeE (wipeE e vs) vs = wipeE e vs) (hr : restE (wipeE e vs) e vs = e) (F : Val → Option MV)
    (hF : ∀ x ∈ xs, Go ((g x (wipeE e vs)).bind fun _ e => t e) fun b e2 => (b = true → Go (a e2) fun m e3 => F x = some m ∧ wipeE e3 vs = wipeE e vs) ∧ (b = false → F x = none ∧ wipeE e2 vs = wipeE e vs))
    (hk : Go (K.go (.lst (xs.filterMap F)) e) q) : Go (@bdI _ _ (lcO vs g t a xs e) K) q := by
  rw [lcO_eq hl hn hw hr F hF]
  exact hk
/-- a comprehension with a side: its state is followed -/
theorem go_lcX (hl : lights e vs = true) (hn : xs.length ≤ 16777216) (P : Nat → List MV → Env → Prop) (h0 : P 0 [] (wipeE e vs))
    (hF : ∀ n x ms e, xs[n]? = some x → P n ms e → Go ((g x (wipeE e vs)).bind fun _ e => t e) fun b e2 => (b = true → Go (a e2) fun m e3 => P (n + 1) (ms ++ [m]) e3) ∧ (b = false → P (n + 1) ms e2))
    (hk : ∀ ms e', P xs.length ms e' → Go (K.go (.lst ms) (restE (wipeE e' vs) e vs)) q) : Go (@bdI _ _ (lcO vs g t a xs e) K) q := by
  have main : ∀ (ys : List Val) (n : Nat) (ms : List MV) (e1 : Env), (∀ m, ys[m]? = xs[n + m]?) → n + ys.length = xs.length → P n ms e1 → ∃ ns e2, lcL vs g t a ys e1 = .ok ns (wipeE e2 vs) ∧ P xs.length (ms ++ ns) e2 := by
    intro ys
    induction ys with
    | nil =>
      intro n ms e1 _ hl hp
      rw [List.length_nil] at hl
      refine ⟨[], e1, rfl, ?_⟩
      rw [List.append_nil, ← hl]; exact hp
    | cons y ys ih =>
      intro n ms e1 hy hl hp
      rw [List.length_cons] at hl
      have hx : xs[n]? = some y := (hy 0).symm
      have hy' : ∀ m, ys[m]? = xs[n + 1 + m]? := fun m => by
        have := hy (m + 1)
        rw [List.getElem?_cons_succ] at this
        rw [this]; congr 1; omega
      obtain ⟨b, e2, h1, h2, h3⟩ := (hF n y ms e1 hx hp).ex
      rw [lcL]
      dsimp only
      rw [e_bind]
      cases hg : g y (wipeE e1 vs) with
      | er x e5 => rw [hg] at h1; cases h1
      | no => rw [hg] at h1; cases h1
      | ok u e5 =>
        rw [hg, e_ok] at h1
        rw [e_ok, e_bind, h1, e_ok]
        cases b with
        | true =>
          obtain ⟨m, e3, h4, h5⟩ := (h2 rfl).ex
          obtain ⟨ns, e4, h6, h7⟩ := ih (n + 1) (ms ++ [m]) e3 hy' (by omega) h5
          refine ⟨m :: ns, e4, ?_, by rw [List.append_assoc] at h7; exact h7⟩
          rw [if_pos rfl, e_bind, h4, e_ok, e_bind, h6]
          rfl
        | false =>
          obtain ⟨ns, e4, h6, h7⟩ := ih (n + 1) ms e2 hy' (by omega) (h3 rfl)
          exact ⟨ns, e4, by rw [if_neg Bool.false_ne_true]; exact h6, h7⟩
  obtain ⟨ns, e2, h1, h2⟩ := main xs 0 [] (wipeE e vs) (fun m => by rw [Nat.zero_add]) (Nat.zero_add _) h0
  unfold lcO
  rw [if_pos ⟨hl, hn⟩, h1]
  exact hk ns e2 h2
/-- over a mapped list: what is let by is mapped -/
theorem go_lcM {α : Type} {l : List α} {f : α → Val} (q' : α → Bool) (G : α → Val) (hl : lights e vs = true) (hn : l.length ≤ 16777216) (hr : restE (wipeE e vs) e vs = e)
    (hF : ∀ x ∈ l, Go ((g (f x) (wipeE e vs)).bind fun _ e' => t e') fun b e2 => b = q' x ∧ (b = true → Go (a e2) fun m e3 => m = .f (G x) ∧ wipeE e3 vs = wipeE e vs) ∧ (b = false → wipeE e2 vs = wipeE e vs))
    (hk : Go (K.go (.lst (((l.filter q').map G).map .f)) e) q) : Go (@bdI _ _ (lcO vs g t a (l.map f) e) K) q := by
  refine go_lcX hl (by rw [List.length_map]; exact hn) (fun n ms e' => ms = (((l.take n).filter q').map G).map .f ∧ wipeE e' vs = wipeE e vs ∨ (n = 0 ∧ ms = [] ∧ e' = wipeE e vs)) (.inr ⟨rfl, rfl, rfl⟩) (fun n x ms e' hx hp => ?_) (fun ms e' hp => ?_)
  · obtain ⟨y, hy, rfl⟩ := map_get hx
    have hw : wipeE e' vs = wipeE e vs ∨ e' = wipeE e vs := by rcases hp with ⟨_, h⟩ | ⟨_, _, h⟩; exact .inl h; exact .inr h
    have hms : ms = (((l.take n).filter q').map G).map .f := by
      rcases hp with ⟨h, _⟩ | ⟨h1, h2, _⟩
      · exact h
      · rw [h1, h2]; rfl
    have hww : wipeE e' vs = wipeE e vs := by
      rcases hw with h | h
      · exact h
      · rw [h]; exact wipe_wipe
    rw [hww]
    refine (hF y (at_of hy)).mono' fun b e2 ⟨h1, h2, h3⟩ => ⟨fun hb => (h2 hb).mono' fun m e3 ⟨h4, h5⟩ => .inl ⟨?_, h5⟩, fun hb => .inl ⟨?_, h3 hb⟩⟩
    · rw [h4, hms, List.take_add_one, hy, List.filter_append]
      have : [y].filter q' = [y] := by rw [List.filter_cons_of_pos (by rw [← h1]; exact hb)]; rfl
      rw [Option.toList_some, this, List.map_append, List.map_append]; rfl
    · rw [hms, List.take_add_one, hy, List.filter_append]
      have : [y].filter q' = [] := by rw [List.filter_cons_of_neg (by rw [← h1, hb]; exact Bool.false_ne_true)]; rfl
      rw [Option.toList_some, this, List.append_nil]
  · rw [List.length_map] at hp
    have h1 : ms = ((l.filter q').map G).map .f := by
      rcases hp with ⟨h, _⟩ | ⟨h1, h2, _⟩
      · rw [h, List.take_length]
      · rw [h2, List.length_eq_zero_iff.mp h1]; rfl
    have h2 : wipeE e' vs = wipeE e vs := by
      rcases hp with ⟨_, h⟩ | ⟨_, _, h⟩
      · exact h
      · rw [h]; exact wipe_wipe
    rw [h1, h2, hr]
    exact hk
end
end Z
set_option maxHeartbeats 1000000
namespace Z
open PySem PySem.Spec L2
/-! ### an instance made with keywords -/
def mkG (c : Nat) (f : Fn) (ga : List Ag) : M MV := fun e => match f.md, bindAs e f.md.tail ga with
  | .io :: ds, some xs => if ios ds ga = [] then match f.run (.io (.ins c []) :: xs) with
    | .ok (.f .non) [m] => .ok m e
    | .er x _ => .er x e
    | _ => .no
    else .no
  | _, _ => .no
def mkK (c : Nat) (f : Fn) (n k : Nat) (as ks : M (List Ag)) : M MV := do
  let gs ← as
  let hs ← ks
  if gs.length = n ∧ hs.length = k then mkG c f (gs ++ hs) else fail
section
variable {K : PySem.W.Frag} {G : Gs} {E : XK} {B : Bs} {env e1 : Env} {σ : L2.St} {F H F1 H1 F' H' : Hp} {x y : V} {v w : Val} {f : Fn} {X : Cx} {e : Expr} {ag ak : M (List Ag)} {c : Nat} {ga : List Ag} {ys : List V} {Q : VK}
theorem core_mk (h1 : EOk K G B e1 σ F1 H1) (a1 : AgsAt K G F1 σ ga ys) (ho : Out K G E B σ F1 (mkG c f ga e1) fun v e' => ∀ F' H' x, Same F1 F' → EOk K G (B.push [v] [x]) e' σ F' H' → Q x H') :
    ∀ x dx, H1 x = none → H1 dx = none → dx ≠ x → spZ K G f (.ref x :: ys) (upd (upd H1 dx (.own x)) x (.ins (G.C c) dx [])) (fun v H3 => v = .non ∧ Q (.ref x) H3) E := by
  unfold mkG at ho
  intro x dx nx ndx nex
  cases emd : f.md with
  | nil => rw [emd] at ho; exact (show False from ho).elim
  | cons d ds =>
    cases d with
    | d => rw [emd] at ho; exact (show False from ho).elim
    | r => rw [emd] at ho; exact (show False from ho).elim
    | io =>
      rw [emd] at ho
      dsimp only [List.tail] at ho
      cases eb : bindAs e1 ds (ga) with
      | none => rw [eb] at ho; exact (show False from ho).elim
      | some as =>
        rw [eb] at ho
        dsimp only at ho
        split at ho
        case isFalse => exact (show False from ho).elim
        rename_i eio
        have h1' := h1
        obtain ⟨hp1, hl1, fps, g1, g2, sp⟩ := h1
        have H0n : ∀ a, H1 a = none → B.H0 a = none := fun a n => by
          cases z : B.H0 a with
          | none => rfl
          | some u => exact absurd n (hp1.ht a (by rw [z]; exact Option.some_ne_none u))
        obtain ⟨L, l1, l2⟩ := args_of (K := K) (G := G) (M := [x]) hp1 g1 (fun a m => .inl (by rw [List.mem_singleton.mp m]; exact H0n x nx)) eb a1 (fun i _ a ma c => by
          rw [List.mem_singleton.mp c] at ma
          exact (sp.nf _ x ma).2.1 nx)
        rw [eio] at l1
        have eL : L = [] := l1
        subst eL
        have hx : ∀ a, H1 a ≠ none → upd (upd H1 dx (.own x)) x (.ins (G.C c) dx []) a = H1 a := fun a ha => by
          rw [upd_ne (fun q => ha (by rw [q]; exact nx)), upd_ne (fun q => ha (by rw [q]; exact ndx))]
        have nfx : F1 x = none := Same.free hp1.fh nx
        have sm : Same F1 (upd (upd H1 dx (.own x)) x (.ins (G.C c) dx [])) := fun b o q => by
          have q1 := hp1.fh b o q
          rw [hx b (by rw [q1]; exact Option.some_ne_none _)]; exact q1
        have stp : ∀ {F' H' : Hp}, HeapOk [x] F1 (upd (upd H1 dx (.own x)) x (.ins (G.C c) dx [])) F' H' → HeapOk [] F1 H1 F' H' := fun {F' H'} hk =>
          ⟨fun b o _ q => hk.hs b o (fun z => by rw [List.mem_singleton.mp z, nx] at q; cases q) (by rw [hx b (by rw [q]; exact Option.some_ne_none _)]; exact q),
           fun b q => hk.ht b (by rw [hx b q]; exact q), hk.fs, hk.fh, fun a n q => by
            have := hk.fr a n q
            cases z : H1 a with
            | none => rfl
            | some o => rw [hx a (by rw [z]; exact Option.some_ne_none _), z] at this; cases this⟩
        have fresh : ∀ {a : Addr}, upd (upd H1 dx (.own x)) x (.ins (G.C c) dx []) a = none ∨ a ∈ [x] → H1 a = none := fun {a} z => by
          rcases z with z | z
          · cases q : H1 a with
            | none => rfl
            | some o => rw [hx a (by rw [q]; exact Option.some_ne_none _), q] at z; cases z
          · rw [List.mem_singleton.mp z]; exact nx
        refine ⟨.io (.ins c []) :: as, [(.ref x, .ins c [], [x])], F1, sm, ?_, by show [x].Nodup; simp, fun a m => ?_, ?_⟩
        · rw [emd]
          refine ⟨[x], [], rfl, ?_, ArgsOk.heap hx l2⟩
          unfold RM
          exact ⟨x, dx, [], [], rfl, rfl, by rw [upd_same, List.zip_nil_right], Nat.zero_le _, .nil⟩
        · rw [List.mem_singleton.mp (show a ∈ [x] from m)]; exact ⟨nfx, by rw [upd_same]; exact Option.some_ne_none _⟩
        · cases er : f.run (.io (.ins c []) :: as) with
          | no => rw [er] at ho; exact (show False from ho).elim
          | er ex outs =>
            rw [er] at ho
            intro F' H' cls d gs' hk ok nn hex
            exact ho F' H' cls d hk.fs (h1'.step (stp hk)) hex
          | ok r outs =>
            rw [er] at ho
            split at ho
            · rename_i m eq
              cases eq
              intro F' H' xr fr gs' hk ok rr nn nr
              obtain ⟨m', ms', g, gs'', e5, e6, r1, n1, r2⟩ := ok
              cases e5
              subst e6
              unfold RM at rr
              refine ⟨rv_non rr.2, ho F' H' (.ref x) hk.fs (h1'.stepG (stp hk) (RMs.one r1) ?_ fun a ma => ⟨(n1 a ma).1, (n1 a ma).2.1, fresh (n1 a ma).2.2⟩)⟩
              rw [List.flatten_cons, List.nodup_append, List.nodup_append] at nn
              exact nn.2.1.1
            · rename_i eq; cases eq
            · exact (show False from ho).elim

theorem z_mkK {n k : Nat} (hp : PE X e (tMakeK (G.C c) n k (spZ X.K G f) (fun vs zs => vs ++ zs) E (tA X.K G E ag) (tA X.K G E ak))) : PE X e (tE X.K G E (mkK c f n k ag ak)) := PEi hp fun σ H Q ⟨B, F, env, h0, ho⟩ => by
  refine ⟨B, F, env, h0, (Out.bindE ho).mono fun gs e1 _ ho F1 H1 xs s1 h1 a1 => ?_⟩
  refine ⟨B, F1, e1, h1, (Out.bindE (ho.same s1)).mono fun hs e2 eq _ F2 H2 ys s2 h2 a2 => ?_⟩
  have ho := Out.ok ho eq
  split at ho
  · rename_i l
    exact ⟨by rw [a1.len, l.1], by rw [a2.len, l.2], core_mk (Q := Q) h2 ((a1.mono s2).app a2) ((Out.same (s1.trans s2) ho).mono fun v e' _ k F' H' x s => k F' H' x ((s1.trans s2).trans s))⟩
  · exact (show False from ho).elim
theorem z_mkK0 {k : Nat} (hp : PE X e (tMakeK (G.C c) 0 k (spZ X.K G f) (fun vs zs => vs ++ zs) E tNil (tA X.K G E ak))) : PE X e (tE X.K G E (mkK c f 0 k aNil ak)) := z_mkK (PEi hp fun σ H Q h => sem_nil h)
end
end Z
set_option maxHeartbeats 1000000
namespace Z
open PySem PySem.Spec L2
section
variable {f : Fn} {ga gs hs : List Ag} {e : Env} {c n k : Nat} {ag ak : M (List Ag)}
theorem e_mkG : mkG c f ga e = mkO c f ga e := by
  have h := e_mk (k := c) (f := f) (vs := []) (ag := pure ga) (e := e)
  rw [e_pure] at h
  have h2 : mk c f [] (pure ga) e = mkG c f (ga ++ []) e := rfl
  rw [h2] at h
  have h3 : ga ++ ([] : List Val).map Ag.v = ga := List.append_nil ga
  rw [List.append_nil] at h
  rw [h]
  show mkO c f (ga ++ ([] : List Val).map Ag.v) e = _
  rw [h3]
def mkKO (c : Nat) (f : Fn) (n k : Nat) (gs hs : List Ag) (e : Env) : O MV := cnT (decide (gs.length = n)) (decide (hs.length = k)) (mkO c f (gs ++ hs) e)
theorem e_mkKO : mkKO c f n k gs hs e = cnT (decide (gs.length = n)) (decide (hs.length = k)) (mkO c f (gs ++ hs) e) := (rfl)
theorem e_mkK : mkK c f n k ag ak e = (ag e).bind fun gs e => (ak e).bind fun hs e => mkKO c f n k gs hs e := by
  unfold mkK; rw [e_bind]; congr 1; funext gs e; rw [e_bind]; congr 1; funext hs e
  unfold mkKO cnT
  by_cases h : gs.length = n ∧ hs.length = k
  · rw [if_pos h, e_mkG, decide_eq_true h.1, decide_eq_true h.2]; rfl
  · rw [if_neg h]
    by_cases h1 : gs.length = n
    · rw [decide_eq_true h1, decide_eq_false fun z => h ⟨h1, z⟩]; rfl
    · rw [decide_eq_false h1]; rfl
end
end Z
set_option maxHeartbeats 4000000
namespace Rt
open PySem PySem.Spec PyProof.Rows L2
/-! ### for i, x in enumerate(t, start=k) over a tuple: a rule of this file's own -/
theorem callWith_type_kwE {M : Model} {A : Around} {E : Value → Shared → Prop} {s : Shared} {env : Env} {pos : Pos} {T : String} {e : Expr} {rest : List Expr} {kws : List Keyword} {Q : Value → Shared → Prop}
    (h : wpAny M A (spliced (backTo pos (starEach (e :: rest) env))) (fun vs s₁ => wpAny M A (evalAll ((backToKw pos (keywordEach kws env)).map (·.2)))
      (fun kvs s₂ => wpAny M A (call (.type T) vs (((backToKw pos (keywordEach kws env)).filterMap (·.1)).zip kvs)) Q E s₂) E s₁) E s)
    (he : backTo pos (starEach (e :: rest) env) = (false, eval e env) :: backTo pos (starEach rest env))
    (hplain : (backTo pos (starEach (e :: rest) env)).any (·.1) = false)
    (hall : (backToKw pos (keywordEach kws env)).all (·.1.isSome) = true)
    (hkw : (backToKw pos (keywordEach kws env)).any (·.1.isNone) = false) :
    wpAny M A (callWith pos (.type T) [] (backTo pos (starEach (e :: rest) env)) (backToKw pos (keywordEach kws env))) Q E s := by
  have h2 : wpAny M A (evalArgs (.type T) true (backTo pos (starEach (e :: rest) env)) (backToKw pos (keywordEach kws env))) (fun a s₁ => wpAny M A (call (.type T) ([] ++ a.pos) a.kw) Q E s₁) E s := by
    rw [he] at h ⊢
    exact evalArgs_kwB hall h
  unfold callWith
  refine wpAny_bind (wpAny_holding (wpAny_mono h2 (fun a s₁ h₁ => wpAny_bind (wpAny_standAt ?_)) fun _ _ x => x))
  simp only [hplain, hkw, Bool.or_false]
  refine wpAny_bind (wpAny_pure ?_)
  exact wpAny_bind (wpAny_mono h₁ (fun r s₂ hr => wpAny_bind (wpAny_holding (wpAny_point (wpAny_pure hr)))) fun _ _ x => x)
/-- the tuple at a as it stands at each turn, each item in a new pair, counted from k0 on -/
def IteT (K : PySem.W.Frag) (a : Addr) (k0 : Int) : It :=
  ⟨fun i H => ∃ (xs : List V) (x : V), SqT K H a xs ∧ xs[i]? = some x, fun i H v H' => ∃ T x, v = .ref T ∧ H T = none ∧ H' = upd H T (.tup [.int (k0 + (i : Nat)), x]) ∧ ∀ xs, SqT K H a xs → xs[i]? = some x, fun i H => ∃ xs : List V, SqT K H a xs ∧ xs.length = i⟩
theorem turn_enumT {P : Program} {w : World} {K : PySem.W.Frag} {elts : List Expr} {kk : Nat} {tpos : Pos} (a e it : Addr) (k0 : Int) :
    Turn P w K (.Tuple elts kk tpos) (IteT K a k0) [e, it] e (fun i h => (∃ old, IsEnum h e it (k0 + (i : Nat)) old) ∧ h.IsTupleIter it a i ∧ e ≠ it ∧ a ≠ it ∧ e ≠ a) where
  mem := by simp
  obj := fun i h st b hb => by
    obtain ⟨⟨old, he⟩, ⟨o, ho, hc, hd⟩, _⟩ := st
    have e' : b = e ∨ b = it := by simpa using hb
    rcases e' with z | z
    · rw [z]; exact ⟨_, he, fun v q => nomatch q⟩
    · rw [z]; exact ⟨o, ho, fun v q => by rw [hd] at q; cases q⟩
  keep := fun i h h' st k => let ⟨⟨old, he⟩, hi, hne⟩ := st; ⟨⟨old, k e (by simp) _ he⟩, hi.at fun o q => k it (by simp) o q, hne⟩
  item := by
    intro X hP hw hK hc i pins s σ H E I hf st hg
    subst hP hw hK
    obtain ⟨⟨old, he⟩, hit, hne, hai, hea⟩ := st
    obtain ⟨xs, x, hq, hx⟩ := hg
    obtain ⟨its, rv, p, hz⟩ := I.tuple hq
    obtain ⟨u, hu, ru⟩ := rv.get hx
    have hel : e < s.heap.objs.size := Heap.lt_size he
    have hil : it < s.heap.objs.size := by obtain ⟨_, q, _⟩ := hit; exact Heap.lt_size q
    have hh : X.A.in1.handled = none := I.ok.hd hc
    have hiu : i < its.toArray.size := by
      have := (List.getElem?_eq_some_iff.mp hu).1
      simpa using this
    refine wpAny_pyNext_enum_itemC (Draws.tuple (prog := X.prog) (w := X.w) hh it a hai its.toArray) he ⟨hit, p⟩ hiu hne (by simp [hne, hea]) fun y h' tk hy ho hst hT hsz hk => ?_
    obtain ⟨hit', _⟩ := hst
    have ey : y = u := by
      have : its.toArray[i]? = some u := by simpa using hu
      rw [this] at hy
      exact (Option.some.inj hy).symm
    subst ey
    refine ⟨_, rfl, wpAny_letOwnedTupleGo_enum (s := { s with heap := h', toks := tk + 1 }) ho fun h'' he' sb => ?_⟩
    have hT2 : h''.get? s.heap.objs.size = some { cls := .type "tuple", data := .seq #[.int (k0 + (i : Nat)) tk, y] } := (sb.2 _ (Nat.ne_of_gt hel)).trans hT
    have new : ObjOk X.prog X.w (upd H s.heap.objs.size (.tup [.int (k0 + (i : Nat)), x])) h'' s.heap.objs.size (.tup [.int (k0 + (i : Nat)), x]) :=
      ⟨by show 2 ≤ sizeLine; decide, [.int (k0 + (i : Nat)) tk, y], .cons ⟨_, rfl⟩ (.cons ru .nil), ⟨_, hT2, rfl, _, rfl⟩⟩
    have I1 : Inv X pins σ (upd H s.heap.objs.size (.tup [.int (k0 + (i : Nat)), x])) { s with heap := h'', toks := tk + 1 } :=
      I.turnedNew (ch := [e, it]) (fun b ob hb q => (sb.2 b (fun z => hb (by simp [z]))).trans (hk b ob (fun z => hb (by simp [z])) (fun z => hb (by simp [z])) q)) hf (Nat.le_refl _) new
    refine ⟨.ref s.heap.objs.size, _, I1, rfl, ⟨_, x, rfl, I.hok.fresh (Nat.le_refl _), rfl, fun ys hy => by rw [I.tuple_inj hy hq]; exact hx⟩, ⟨⟨y, ?_⟩, hit'.at fun o q => (sb.2 it (Ne.symm hne)).trans q, hne, hai, hea⟩, fun b hb => ?_⟩
    · have e1 : k0 + ((i + 1 : Nat) : Int) = k0 + (i : Int) + 1 := by omega
      rw [e1]; exact he'
    · have hb' : b < s.heap.objs.size := by
        have e' : b = e ∨ b = it := by simpa using hb
        rcases e' with z | z
        · rw [z]; exact hel
        · rw [z]; exact hil
      rw [upd_ne (Nat.ne_of_lt hb')]
      exact (hf b hb).1
  done := by
    intro X hP hw hK hc i pins s σ H E I hf st hg
    subst hP hw hK
    obtain ⟨⟨old, he⟩, hit, hne, hai, hea⟩ := st
    obtain ⟨xs, hq, hx⟩ := hg
    obtain ⟨its, rv, p, hz⟩ := I.tuple hq
    obtain ⟨f0, f1, f2, f3, f4, f5⟩ := hf it (by simp)
    have hl := rv.length
    have hh : X.A.in1.handled = none := I.ok.hd hc
    have ei : i = its.toArray.size := by simp; omega
    rw [ei] at hit
    exact wpAny_pyNext_enum_endD (Draws.tuple (prog := X.prog) (w := X.w) hh it a hai its.toArray) he ⟨hit, p⟩ fun h' eb => ⟨rfl, I.turned (t' := s.toks) (fun b o hb q => eb b o hb q) f0 f1 f3 f4 f5⟩
  self := fun A i s Q E st h => let ⟨⟨_, he⟩, _⟩ := st; wpAny_pyIter_enum he h
def iEnumT (K : PySem.W.Frag) (ta : TA) (tk : TA) : TI := fun σ H R => ta σ H fun vs H1 => tk σ H1 fun zs H2 => ∃ a xs k0, vs = [.ref a] ∧ zs = [.int k0] ∧ -(2 ^ 62) ≤ k0 ∧ k0 < 2 ^ 62 ∧ SqT K H2 a xs ∧ R (IteT K a k0) H2
theorem pi_enumT {X : Cx} {e ke : Expr} {ta tk : TA} {p pos tpos kp : Pos} {elts : List Expr} {kk : Nat} (hg : Gl X "enumerate") (hm : X.mg "enumerate" = none) (ha : PA X [e] ta) (hk : PK X [⟨some (Str.ofString "start"), ke, kp⟩] tk)
    (he : backTo pos (starEach [e] X.env) = (false, eval e X.env) :: backTo pos (starEach [] X.env) := by rfl) (hpl : (backTo pos (starEach [e] X.env)).any (·.1) = false := by rfl) :
    PI X (.Tuple elts kk tpos) (.Call (.Name "enumerate" p) [e] [⟨some (Str.ofString "start"), ke, kp⟩] pos) (iEnumT X.K ta tk) := by
  refine ⟨fun pins s σ H R I h => ?_⟩
  refine wpAny_Call_Name_kw (ld_blt I hg hm boot_enumerate ?_)
  refine callWith_type_kwE (thn (ha.run pos pins s σ H _ I h) fun us s0 ⟨vs, H0, I0, r1, q0⟩ => thn (hk.run pos pins s0 σ H0 _ I0 q0) fun ws s1 ⟨zs, H1, I1, r2, q1⟩ => ?_) he hpl rfl rfl
  obtain ⟨a, xs, k0, ex, ez, b1, b2, hq, q⟩ := q1
  subst ex ez
  cases r1 with
  | cons r rr =>
    cases rr
    cases r
    cases r2 with
    | cons r' rr' =>
      cases rr'
      obtain ⟨t, rfl⟩ := r'
      obtain ⟨its, rv, p', hz⟩ := I1.tuple hq
      have hal : a < s1.heap.objs.size := by obtain ⟨_, q, _⟩ := p'; exact Heap.lt_size q
      refine enum_begins_start (begins_tuple a its.toArray) p' (by omega) (by omega) fun h' he' hit hsz hkp => wpAny_pyIter_enum he' ?_
      have I2 : Inv X pins σ H1 { s1 with heap := h' } := I1.kept (t' := s1.toks) hkp
      refine ⟨s1.heap.objs.size + 1, [s1.heap.objs.size + 1, s1.heap.objs.size], _, _, H1, rfl, I2, turn_enumT a (s1.heap.objs.size + 1) s1.heap.objs.size k0, ⟨⟨.none, ?_⟩, ⟨_, hit, rfl, rfl⟩, Nat.succ_ne_self _, Nat.ne_of_lt hal, Nat.ne_of_gt (Nat.lt_succ_of_lt hal)⟩, fun b hb => ?_, q⟩
      · have e0 : k0 + ((0 : Nat) : Int) = k0 := by omega
        rw [e0]; exact he'
      · have e' : b = s1.heap.objs.size + 1 ∨ b = s1.heap.objs.size := by simpa using hb
        have hle : s1.heap.objs.size ≤ b := by
          rcases e' with z | z
          · rw [z]; exact Nat.le_add_right _ _
          · rw [z]; exact Nat.le_refl _
        exact I1.fpOk hle (I1.hok.fresh hle)
/-- a for over it: its invariant -/
theorem for_enumT {K : PySem.W.Frag} {a : Addr} {k0 : Int} {xs : List V} {g : TG} {tb : TS} {D : Ends} {σ : L2.St} {H : Hp} (Pv : Nat → L2.St → Hp → Prop) (h0 : Pv 0 σ H) (hl : ∀ i σ H, i ≤ xs.length → Pv i σ H → SqT K H a xs)
    (hs : ∀ i x T σ H, xs[i]? = some x → Pv i σ H → H T = none → g (.ref T) σ (upd H T (.tup [.int (k0 + (i : Nat)), x])) fun σ2 H2 => tb { D with nx := Pv (i + 1), ct := Pv (i + 1), bk := D.nx } σ2 H2) (hd : ∀ σ H, Pv xs.length σ H → D.nx σ H) :
    ∃ W : Nat → Nat → L2.St → Hp → Prop, (∃ m, W 0 m σ H) ∧ ∀ i m σ H, W i m σ H →
      ((IteT K a k0).stop i H ∧ D.nx σ H) ∨ ((IteT K a k0).go i H ∧ ∃ N : L2.St → Hp → Prop, (∀ σ' H', N σ' H' → ∃ m', m' < m ∧ W (i + 1) m' σ' H') ∧ ∀ x H', (IteT K a k0).yld i H x H' → g x σ H' fun σ2 H2 => tb { D with nx := N, ct := N, bk := D.nx } σ2 H2) := by
  refine ⟨fun i m σ H => m = xs.length - i ∧ i ≤ xs.length ∧ Pv i σ H, ⟨xs.length, by simp, Nat.zero_le _, h0⟩, ?_⟩
  rintro i m σ H ⟨rfl, hi, p⟩
  have q := hl i σ H hi p
  by_cases hlt : i < xs.length
  · refine .inr ⟨⟨xs, xs[i], q, by simp [hlt]⟩, Pv (i + 1), fun σ' H' p' => ⟨xs.length - (i + 1), by omega, rfl, hlt, p'⟩, fun x H' y => ?_⟩
    obtain ⟨T, z, e, hT, e2, hz⟩ := y
    subst e e2
    exact hs i z T σ H (hz xs q) p hT
  · have e : i = xs.length := by omega
    subst e
    exact .inl ⟨⟨xs, q, rfl⟩, hd σ H p⟩
end Rt
set_option maxHeartbeats 1000000
namespace Z
open PySem PySem.Spec L2
/-! ### pairs with numbers: enumerate -/
def enumF (f : Nat → Int) (vs : List Val) : List Val := vs.mapIdx fun i v => .tup [.int (f i), v]
theorem enumF_len {f : Nat → Int} {vs : List Val} : (enumF f vs).length = vs.length := List.length_mapIdx
theorem enum_get {f : Nat → Int} {vs : List Val} {n : Nat} {x : Val} (h : (enumF f vs)[n]? = some x) : ∃ y, vs[n]? = some y ∧ x = .tup [.int (f n), y] := by
  unfold enumF at h
  rw [List.getElem?_mapIdx] at h
  cases q : vs[n]? with
  | none => rw [q] at h; cases h
  | some y => rw [q] at h; cases h; exact ⟨y, rfl, rfl⟩
def itE (a : M Hd) : M (List Val) := do
  let h ← a
  okIt h
  let m ← rdH h
  let vs ← opt (m.itsL)
  pure (enumF (fun i => (i : Nat)) vs)
def itET (a : M Hd) : M (List Val) := do
  let h ← a
  okIt h
  let m ← rdH h
  let vs ← opt (m.itsT)
  pure (enumF (fun i => (i : Nat)) vs)
/-- enumerate(t, start=k) -/
def itEK (k : Int) (a : M Hd) : M (List Val) := do
  let h ← a
  okIt h
  let m ← rdH h
  let vs ← opt (m.itsT)
  pure (enumF (fun i => k + (i : Nat)) vs)
/-- range(i, j, -1) -/
def drange (i j : Int) : List Val := (List.range (i - j).toNat).map fun k => .int (i - (k : Nat))
def itRd (a b : M MV) : M (List Val) := do
  let x ← a
  let y ← b
  match x, y with
  | .f (.int i), .f (.int j) => if -1000000000 ≤ i ∧ i < 1000000000 ∧ -1000000000 ≤ j ∧ j < 1000000000 then pure (drange i j) else fail
  | _, _ => fail
/-- list(range(i, j)) -/
def lrg (a b : M MV) : M MV := do
  let x ← a
  let y ← b
  match x, y with
  | .f (.int i), .f (.int j) => if -4611686018427387904 ≤ i ∧ i < 4611686018427387904 ∧ -4611686018427387904 ≤ j ∧ j < 4611686018427387904 ∧ (j - i).toNat ≤ 16777216 then pure (.lst ((irange i j).map .f)) else fail
  | _, _ => fail
/-- tuple + tuple -/
def catT (a b : M Hd) : M MV := do
  let h ← a
  let k ← b
  let m ← rdH h
  let n ← rdH k
  let xs ← opt (m.itsT)
  let ys ← opt (n.itsT)
  if xs.length + ys.length ≤ 16777216 then pure (.f (.tup (xs ++ ys))) else fail
/-- sorted(ints) -/
def srtL (ns : List Int) : List Int := ns.mergeSort (fun a b => decide (a ≤ b))
theorem srt_eq {ns ms : List Int} (h1 : ms.Perm ns) (h2 : ms.Pairwise (· ≤ ·)) : ms = srtL ns := by
  have h3 : (srtL ns).Pairwise (· ≤ ·) := by
    have := List.pairwise_mergeSort (le := fun (a b : Int) => decide (a ≤ b)) (fun a b c h1 h2 => decide_eq_true (Int.le_trans (of_decide_eq_true h1) (of_decide_eq_true h2))) (fun a b => by
      rcases Int.le_total a b with h | h
      · rw [decide_eq_true h]; rfl
      · rw [decide_eq_true h, Bool.or_true]) ns
    exact this.imp fun h => of_decide_eq_true h
  exact List.Perm.eq_of_pairwise (fun a b _ _ h1 h2 => Int.le_antisymm h1 h2) h2 h3 (h1.trans (List.mergeSort_perm ns _).symm)
def srt (a : M Hd) : M MV := do
  let h ← a
  let m ← rdH h
  let xs ← opt (m.itsL)
  match intsOf xs with
  | some ns => pure (.lst (((srtL ns).map .int).map .f))
  | none => fail
section
variable {K : PySem.W.Frag} {G : Gs} {E : XK} {B : Bs} {env : Env} {σ : L2.St} {F H F' H' : Hp} {α β : Type} {m m1 m2 : MV} {x y : V} {v w : Val} {X : Cx} {e a b c : Expr} {t : TE} {ma mb : M MV} {mo mo2 : M Hd} {pos : Pos} {rest : List Expr} {es : List Expr} {tg iter : Expr}
theorem it_of_pair {f : Nat → Int} {ys : List V} {vs : List Val} {J : It} {Gd : Hp → Prop} (hw : Walk J ys.length Gd (YPair (fun i => some (.int (f i))) (fun i => ys[i]?))) (r : RVs K G F vs ys) (hG : ∀ B' env' σ' F2 H2, B'.M = B.M → B'.F0 = B.F0 → B'.H0 = B.H0 → Same F F2 → EOk K G B' env' σ' F2 H2 → Gd H2) : ItOk K G B F J (enumF f vs) := by
  refine ⟨Gd, YPair (fun i => some (.int (f i))) (fun i => ys[i]?), by rw [enumF_len, ← RVs.len r]; exact hw, hG, fun i v B' env σ F2 H2 x H3 _ _ _ s h2 ev ⟨T, p, q, e1, e2, e3, e4, e5⟩ => ?_⟩
  cases e4
  subst e1 e3
  obtain ⟨w, hw', rfl⟩ := enum_get ev
  obtain ⟨z, z1, z2⟩ := RVs.get r hw'
  have e5 : ys[i]? = some q := e5
  rw [z1] at e5
  cases e5
  have xx := HeapOk.put (o := .tup [.int (f i), q]) h2.hp.fh e2
  refine ⟨_, xx, ?_⟩
  unfold RV
  exact ⟨T, _, rfl, .inl (.inl upd_same), .cons (sca_int _) (.cons (RV.mono (s.trans xx.fs) z2) .nil)⟩
theorem zi_enum (hp : PI X tg iter (iEnum X.K (tCons (tO X.K G E mo) tNil))) : PI X tg iter (tI X.K G E (itE mo)) := PIi hp fun σ H R ⟨B, F, env, h0, ho⟩ => by
  refine ⟨B, F, env, h0, (Out.bindE ho).mono fun k1 e1 _ ho F1 H1 x s1 h1 a1 => ?_⟩
  obtain ⟨o1, ho⟩ := Out.okIt ho
  obtain ⟨n1, r1, ho⟩ := Out.rd ho
  cases ev : n1.itsL with
  | none => rw [ev] at ho; exact (show False from ho).elim
  | some vs =>
    rw [ev] at ho
    obtain ⟨F2, s2, h2, f⟩ := okIt_facts h1 a1 o1 r1
    obtain ⟨p, ys, ex, rs, sq⟩ := (f vs).1 ev
    exact ⟨p, ys, by rw [ex], sq B _ σ F2 H1 rfl rfl rfl (Same.refl _) h2, ho F2 H1 _ (s1.trans s2) h2 (it_of_pair walk_enum rs sq)⟩
theorem walk_enumT {K : PySem.W.Frag} {a : Addr} {k0 : Int} {xs : List V} : Walk (Rt.IteT K a k0) xs.length (fun H => SqT K H a xs) (YPair (fun i => some (.int (k0 + (i : Nat)))) (fun i => xs[i]?)) := by
  refine ⟨fun i _ hi q => ⟨xs, xs[i], q, by simp [hi]⟩, fun _ q => ⟨xs, q, rfl⟩, fun i H v H' _ q y => ?_⟩
  obtain ⟨T, x, h1, h2, h3, h4⟩ := y
  exact ⟨T, .int (k0 + (i : Nat)), x, h1, h2, h3, rfl, h4 xs q⟩
theorem zi_enumK {k : Int} (hk : -4611686018427387904 ≤ k ∧ k < 4611686018427387904) {mk : TE} (hm : ∀ σ H Q, Q (.int k) H → mk σ H Q) (hp : PI X tg iter (Rt.iEnumT X.K (tCons (tO X.K G E mo) tNil) (tCons mk tNil))) : PI X tg iter (tI X.K G E (itEK k mo)) := PIi hp fun σ H R ⟨B, F, env, h0, ho⟩ => by
  refine ⟨B, F, env, h0, (Out.bindE ho).mono fun k1 e1 _ ho F1 H1 x s1 h1 a1 => ?_⟩
  obtain ⟨o1, ho⟩ := Out.okIt ho
  obtain ⟨n1, r1, ho⟩ := Out.rd ho
  cases ev : n1.itsT with
  | none => rw [ev] at ho; exact (show False from ho).elim
  | some vs =>
    rw [ev] at ho
    obtain ⟨F2, s2, h2, f⟩ := okIt_facts h1 a1 o1 r1
    obtain ⟨p, ys, ex, rs, sq⟩ := (f vs).2 ev
    exact hm _ _ _ ⟨p, ys, k, by rw [ex], rfl, hk.1, hk.2, sq B _ σ F2 H1 rfl rfl rfl (Same.refl _) h2, ho F2 H1 _ (s1.trans s2) h2 (it_of_pair walk_enumT rs sq)⟩
theorem rg_d {i j : Int} (h : -1000000000 ≤ i ∧ i < 1000000000 ∧ -1000000000 ≤ j ∧ j < 1000000000) : RgC i j (-1) (i - j).toNat := RgC.neg (by omega) (by omega) (by omega) (by omega)
theorem it_drange {i j : Int} : ItOk K G B F (Itc i (-1) (i - j).toNat) (drange i j) := by
  refine ⟨fun _ => True, YFn fun k => .int (i + (k : Nat) * (-1)), by unfold drange; rw [List.length_map, List.length_range]; exact walk_rangeC, fun _ _ _ _ _ _ _ _ _ _ => trivial, fun k v B' env σ F2 H2 x H3 _ _ _ s h2 ev ⟨y1, y2⟩ => ?_⟩
  subst y1 y2
  unfold drange at ev
  rw [List.getElem?_map] at ev
  cases z : (List.range (i - j).toNat)[k]? with
  | none => rw [z] at ev; cases ev
  | some l =>
    rw [z] at ev
    cases ev
    have := (List.getElem?_eq_some_iff.mp z).2
    rw [List.getElem_range] at this
    subst this
    refine ⟨F2, HeapOk.refl h2.hp.fh, ?_⟩
    show RV K G F2 (.int (i - (k : Nat))) (.int (i + ((k : Nat) : Int) * (-1)))
    rw [show i + ((k : Nat) : Int) * (-1) = i - (k : Nat) by omega]
    exact sca_int F2
theorem zi_rd {mk : TE} (hm : ∀ σ H Q, Q (.int (-1)) H → mk σ H Q) (hp : PI X tg iter (iRng3 (tCons (tE X.K G E ma) (tCons (tE X.K G E mb) (tCons mk tNil))))) : PI X tg iter (tI X.K G E (itRd ma mb)) := PIi hp fun σ H R ⟨B, F, env, h0, ho⟩ => by
  refine ⟨B, F, env, h0, (Out.bindE ho).mono fun m1 e1 _ ho F1 H1 x s1 h1 => ?_⟩
  refine ⟨B.push [m1] [x], F1, e1, h1, (Out.bindE (ho.push s1)).mono fun m2 e2 _ ho F2 H2 y s2 h2 => hm _ _ _ ?_⟩
  split at ho
  · split at ho
    · rename_i c
      exact ⟨_, _, -1, _, by rw [rv_int h2.pop.topF, rv_int h2.topF], rg_d c, ho F2 H2 _ (s1.trans s2) h2.pop.pop it_drange⟩
    · exact (show False from ho).elim
  · exact (show False from ho).elim
theorem rvs_range {i j : Int} : RVs K G F (irange i j) (rgV i j) := by
  unfold irange rgV
  generalize (j - i).toNat = n
  induction n with
  | zero => exact .nil
  | succ n ih => rw [List.range_succ, List.map_append, List.map_append]; exact RVs.app ih (.cons (sca_int F) .nil)
theorem z_lrg {tr : L2.St → Hp → (Int → Int → Hp → Prop) → Prop} (hr : ∀ σ H Q, (tE X.K G E ma) σ H (fun x H1 => (tE X.K G E mb) σ H1 fun y H2 => ∃ i j, x = .int i ∧ y = .int j ∧ Q i j H2) → tr σ H Q) (hp : PE X e (tLstRg tr)) : PE X e (tE X.K G E (lrg ma mb)) := PEi hp fun σ H Q ⟨B, F, env, h0, ho⟩ => hr _ _ _ (by
  refine ⟨B, F, env, h0, (Out.bindE ho).mono fun m1 e1 _ ho F1 H1 x s1 h1 => ?_⟩
  refine ⟨B.push [m1] [x], F1, e1, h1, (Out.bindE (ho.push s1)).mono fun m2 e2 _ ho F2 H2 y s2 h2 => ?_⟩
  split at ho
  · split at ho
    · rename_i c
      refine ⟨_, _, rv_int h2.pop.topF, rv_int h2.topF, ⟨c.1, c.2.1, c.2.2.1, c.2.2.2.1, c.2.2.2.2⟩, fun q hq => ?_⟩
      exact ho F2 _ _ (s1.trans s2) (h2.pop.pop.newLf rvs_range hq)
    · exact (show False from ho).elim
  · exact (show False from ho).elim)
theorem Out.optT {z : Option (List Val)} {k : List Val → M β} {q : β → Env → Prop} (h : Out K G E B σ F ((Z.opt z >>= k) env) q) : ∃ v, z = some v ∧ Out K G E B σ F (k v env) q := Out.optL h
theorem rv_tupX {vs : List Val} (rx : RX K G F H m x) (e : m.itsT = some vs) : RV K G F (.tup vs) x := by
  cases m with
  | f w =>
    cases w with
    | tup zs =>
      cases e
      rcases rx with ⟨fp, z⟩ | ⟨w, ew, z⟩
      · unfold RM at z; exact z.2
      · cases ew
        rcases z with z | ⟨_, _, _, z, _⟩ | ⟨_, _, _, _, _, z, _⟩
        · exact z
        · cases z
        · cases z
    | _ => cases e
  | _ => cases e
theorem z_catT (hp : PE X e (tOp (rCatA X.K) (tO X.K G E mo) (tO X.K G E mo2))) : PE X e (tE X.K G E (catT mo mo2)) := PEi hp fun σ H Q ⟨B, F, env, h0, ho⟩ => by
  refine ⟨B, F, env, h0, (Out.bindE ho).mono fun k1 e1 _ ho F1 H1 x s1 h1 a1 => ?_⟩
  refine ⟨B.pushH k1 x, F1, e1, h1, (Out.bindE (ho.pushH s1)).mono fun k2 e2 _ ho F2 H2 y s2 h2 a2 => ?_⟩
  obtain ⟨n1, r1, ho⟩ := Out.rd ho
  obtain ⟨n2, r2, ho⟩ := Out.rd ho
  obtain ⟨xs, ev1, ho⟩ := Out.optL ho
  obtain ⟨ys, ev2, ho⟩ := Out.optL ho
  split at ho
  case isFalse => exact (show False from ho).elim
  rename_i l
  have rx1 := (pushH_pop h2).hdM a1 r1
  have rx2 := h2.hdM a2 r2
  obtain ⟨p, us, e3, q1, rs1⟩ := rx1.itsT h2.hp.fh ev1
  obtain ⟨q, ws, e4, q2, rs2⟩ := rx2.itsT h2.hp.fh ev2
  have hx := rv_tupX rx1 ev1
  have hy := rv_tupX rx2 ev2
  have h3 := pushH_pop (pushH_pop h2)
  refine ⟨p, q, us, ws, e3, e4, q1, q2, by rw [RVs.len rs1, RVs.len rs2]; exact l, fun c => ?_, fun c d => ?_, fun c d r hr => ?_⟩
  · have : xs = [] := List.length_eq_zero_iff.mp (by rw [← RVs.len rs1, c]; rfl)
    subst this
    rw [← e4]
    exact ho F2 H2 _ (s1.trans s2) (h3.pushF hy)
  · have : ys = [] := List.length_eq_zero_iff.mp (by rw [← RVs.len rs2, d]; rfl)
    subst this
    rw [← e3]
    rw [List.append_nil] at ho
    exact ho F2 H2 _ (s1.trans s2) (h3.pushF hx)
  · obtain ⟨F3, s3, h4, rt⟩ := h3.newT (RVs.app rs1 rs2) hr
    exact ho F3 _ _ ((s1.trans s2).trans s3) (h4.pushF rt)
theorem RVs.ofInts : ∀ {ns : List Int}, RVs K G F (ns.map .int) (ns.map V.int)
  | [] => .nil
  | n :: r => .cons (sca_int F) RVs.ofInts
theorem z_srt (hp : PE X e (tCB (rSortedI X.K) (tCons (tO X.K G E mo) tNil))) : PE X e (tE X.K G E (srt mo)) := PEi hp fun σ H Q ⟨B, F, env, h0, ho⟩ => by
  refine ⟨B, F, env, h0, (Out.bindE ho).mono fun k1 e1 _ ho F1 H1 x s1 h1 a1 => ?_⟩
  obtain ⟨n1, r1, ho⟩ := Out.rd ho
  obtain ⟨vs, ev, ho⟩ := Out.optL ho
  obtain ⟨a, ys, e3, q3, rs⟩ := (h1.hdM a1 r1).itsL h1.hp.fh ev
  cases en : intsOf vs with
  | none => rw [en] at ho; exact (show False from ho).elim
  | some ns =>
    rw [en] at ho
    have := RVs.ints rs en
    subst this
    refine ⟨a, ns, by rw [e3], q3, fun ms p hp1 hp2 hq => ?_⟩
    have := srt_eq hp1 hp2
    subst this
    exact ho F1 _ _ s1 ((pushH_pop h1).newLf RVs.ofInts hq)
end
end Z
set_option maxHeartbeats 1000000
namespace Z
open PySem PySem.Spec PyProof.Rows L2
/-! ### o.m(k = v, ..), what lacks from the defaults -/
def weave {α : Type} : List Bool → List α → List α → List α
  | true :: p, ms, z :: zs => z :: weave p ms zs
  | false :: p, m :: ms, zs => m :: weave p ms zs
  | _, _, _ => []
theorem weave_vals : ∀ {p : List Bool} {mz zs : List V} {mv ws : List Value}, Vals mz mv → Vals zs ws → Vals (weave p mz zs) (weave p mv ws)
  | true :: p, mz, z :: zs, mv, w :: ws, h1, .cons r h2 => .cons r (weave_vals h1 h2)
  | true :: p, mz, [], mv, [], h1, .nil => .nil
  | false :: p, m :: mz, zs, w :: mv, ws, .cons r h1, h2 => .cons r (weave_vals h1 h2)
  | false :: p, [], zs, [], ws, .nil, h2 => .nil
  | [], mz, zs, mv, ws, h1, h2 => by cases h1 <;> cases h2 <;> exact .nil
def tMethK (C : Addr) (mn : Str) (n : Nat) (sp : Sp) (gV : List V → List V → List V) (E : XK) (ta : TE) (tk : TA) : TE := fun σ H Q => ta σ H fun x H1 => ∃ a dx fs, x = .ref a ∧ H1 a = some (.ins C dx fs) ∧ fs.lookup mn = none ∧ tk σ H1 fun zs H2 => zs.length = n ∧ sp (gV [x] zs) H2 Q E
section
variable {X : Cx} {CX : CXT} {k n : Nat} {f C : Addr} {fd : FuncData} {ps ks : List Str} {sp : Sp} {E : XK} {m : Str} {pos apos : Pos} {e o : Expr} {es : List Expr} {kws : List Keyword} {ta : TE} {t tk : TA} {g : List Value → List Value → List Value} {gV : List V → List V → List V}
theorem pe_methK0 {pl : Sem Bool} (he : PE X o ta) (c : Cls X.K C) (hm : Meth X.K C m f) (F : FnOk X.prog X.w X.K X.mg X.base CX k f fd ps sp) (hr : Room k X.A) (hb : KBn X.K fd ps 1 ks g gV) (hx : Passes CX X E) (hkw : PK X kws tk)
    (hall : (backToKw pos (keywordEach kws X.env)).all (·.1.isSome) = true := by rfl) (hks : (backToKw pos (keywordEach kws X.env)).filterMap (·.1) = ks := by rfl)
    (hpl : ((backTo pos (starEach [] X.env)).any (·.1) || (backToKw pos (keywordEach kws X.env)).any (·.1.isNone)) = false := by rfl)
    (ht : eval (.Call (.Attribute o m apos) [] kws pos) X.env = (do
      let ov ← eval o X.env
      standAt apos.atName
      let (f, first) ← holding [ov] (getMethod ov m pl)
      callWith pos f first (backTo pos (starEach [] X.env)) (backToKw pos (keywordEach kws X.env))) := by rfl) :
    PE X (.Call (.Attribute o m apos) [] kws pos) (tMethK C m ks.length sp gV E ta tk) := by
  refine ⟨fun pins s σ H Q I h => ?_⟩
  refine PySem.W.methodCall_KW (pl := pl) (thn (he.run pins s σ H _ I h) fun u s1 ⟨x, H1, I1, rx, a, dx, fs, ex, ea, l, q⟩ => ?_) ht
  subst ex
  obtain rfl : u = Value.ref a := rx
  refine getmeth_ok I1 ea c hm l ?_
  refine PySem.W.callWith_KW0 (first := [.ref a]) (h₀ := X.base) I1.ok.mod.kin hm.kp hall (thn (hkw.run pos pins s1 σ H1 _ I1 q) fun ws s2 ⟨zs, H2, I2, rz, l2, q2⟩ => ⟨I2.kIn, ?_⟩) hpl
  rw [hks]
  exact run_fnN (us := [.ref a]) (vs := [.ref a]) F hr hb hx I2 (.cons rfl .nil) rz rfl l2 q2
end
def methK (c : Nat) (f : Fn) (k : Nat) (p : List Bool) (dvs : List Val) (a : M Hd) (ks : M (List Ag)) : M MV := do
  let h ← a
  isC c h
  let hs ← ks
  if hs.length = k then callG f (hAg h :: weave p (dvs.map .v) hs) else fail
section
variable {K : PySem.W.Frag} {G : Gs} {E : XK} {B : Bs} {env : Env} {σ : L2.St} {F H F' H' : Hp} {α β : Type} {m m1 m2 : MV} {x y : V} {v w : Val} {f : Fn} {X : Cx} {e : Expr} {ma mb : M MV} {mo mo2 : M Hd} {ag ak : M (List Ag)} {c : Nat}
theorem AgsAt.weave : ∀ {p : List Bool} {ms zs : List Ag} {xs ys : List V}, AgsAt K G F σ ms xs → AgsAt K G F σ zs ys → AgsAt K G F σ (weave p ms zs) (weave p xs ys)
  | true :: p, ms, z :: zs, xs, _, h1, ⟨y, ys, e, h2, h3⟩ => by subst e; exact .cons h2 (AgsAt.weave h1 h3)
  | true :: p, ms, [], xs, _, h1, h2 => by rw [show _ = [] from h2]; cases ms <;> cases xs <;> exact .nil
  | false :: p, m :: ms, zs, _, ys, ⟨y, xs, e, h2, h3⟩, h1 => by
    subst e
    cases zs with
    | nil => rw [show ys = [] from h1]; exact .cons h2 (AgsAt.weave h3 .nil)
    | cons z zs =>
      obtain ⟨y', ys', e', h4, h5⟩ := h1
      subst e'
      exact .cons h2 (AgsAt.weave h3 (.cons h4 h5))
  | false :: p, [], zs, _, ys, h2, h1 => by
    rw [show _ = [] from h2]
    cases zs with
    | nil => rw [show ys = [] from h1]; exact .nil
    | cons z zs => obtain ⟨y', ys', e', h4, h5⟩ := h1; subst e'; exact .nil
  | [], ms, zs, xs, ys, h1, h2 => by cases ms <;> cases zs <;> cases xs <;> cases ys <;> exact .nil
theorem z_methK {mn : Str} {k : Nat} {p : List Bool} {dvs : List Val} {dxs : List V} (hn : mn ∉ G.flds c) (hd : Scas X.K G dvs dxs) (hp : PE X e (tMethK (G.C c) mn k (spZ X.K G f) (fun vs zs => vs ++ weave p dxs zs) E (tO X.K G E mo) (tA X.K G E ak))) : PE X e (tE X.K G E (methK c f k p dvs mo ak)) := PEi hp fun σ H Q ⟨B, F, env, h0, ho⟩ => by
  refine ⟨B, F, env, h0, (Out.bindE ho).mono fun h e1 _ ho F1 H1 x s1 h1 a1 => ?_⟩
  obtain ⟨⟨q, dx, xs, e2, e3⟩, ho⟩ := Out.isC (E := E) (F := F1) (B := B) h1 a1 (ho.same s1)
  obtain ⟨F2, s2, h2, a2⟩ := h1.hAg a1
  refine ⟨q, dx, _, e2, e3, lookup_none (xs := xs) hn, B, F2, e1, h2, (Out.bindE (ho.same s2)).mono fun hs e4 eq _ F3 H3 ys s3 h3 a3 => ?_⟩
  have ho := Out.ok (ho.same s2) eq
  split at ho
  · rename_i l
    exact ⟨by rw [a3.len, l], core_call h3 (.cons (a2.mono s3) (AgsAt.weave hd.at a3)) ((Out.same s3 ho).mono fun v e' _ k F' H' x s => k F' H' x ((s1.trans (s2.trans s3)).trans s))⟩
  · exact (show False from ho).elim
end
end Z
set_option maxHeartbeats 4000000
namespace Rt
open PySem PySem.Spec PyProof.Rows L2
theorem meets_enum1 {v : Value} {o : Obj} {H : Heap → Prop} (B : Begins v o H) :
    Meets (Builtin.«enumerate.__new__» ⟨[.type "enumerate", v], []⟩) (fun _ R s => H s.heap ∧
      R (.ok (.ret (.ref (s.heap.push o).objs.size))) { s with heap := (s.heap.push o).push { cls := .type "enumerate", data := .fields #[.none, .bool false, .ref s.heap.objs.size, rawInt 0, .none, .none] } }) :=
  .of_wp fun prog w A R s h => by
    obtain ⟨hp, g, d, tk, os⟩ := s; obtain ⟨h1, h⟩ := h
    have hsub := sub_enumerate
    have q1 : ∀ {A' : Around} {E : Value → Shared → Prop} {Q : Value → Shared → Prop}, Q (.ref hp.objs.size) ⟨hp.push o, g, d, tk, os⟩ → wpAny (model prog w) A' (pyIter v) Q E ⟨hp, g, d, tk, os⟩ :=
      fun q => B.iter prog w _ _ ⟨hp, g, d, tk, os⟩ _ h1 q
    wp_walk using q1
    refine wpAny_stack_any fun st => wpAny_pure ?_
    split
    · rename_i c _ _ _ _ _
      cases (c == Value.type "enumerate")
      · wp_walk using q1
        exact ⟨_, rfl, h⟩
      · wp_walk using q1
        exact ⟨_, rfl, h⟩
    · wp_walk using q1
      exact ⟨_, rfl, h⟩
section
variable {prog : Program} {w : World} {A : Around} {E : Value → Shared → Prop} {s : Shared}
theorem enum_begins1 {v : Value} {o : Obj} {H : Heap → Prop} {Q : Value → Shared → Prop} (B : Begins v o H) (h1 : H s.heap)
    (h : ∀ h', IsEnum h' (s.heap.objs.size + 1) s.heap.objs.size 0 .none → h'.get? s.heap.objs.size = some o → h'.objs.size = s.heap.objs.size + 2 →
      (∀ b o, s.heap.get? b = some o → h'.get? b = some o) → Q (.ref (s.heap.objs.size + 1)) { s with heap := h' }) :
    wpAny (model prog w) A (call (.type "enumerate") [v]) Q E s := by
  refine callType_new F.called_enumerate (by decide) (F.typeCall_enumerate_1 _) (F.newCall_enumerate_1 _) (fun obj => F.args_object_init_2 obj _) F.entry_enumerate_new
    (meets_enum1 B) ⟨h1, ?_⟩
  have hz : (s.heap.push o).objs.size = s.heap.objs.size + 1 := Heap.size_push ..
  show _ ∧ _
  rw [hz]
  have he : IsEnum ((s.heap.push o).push { cls := .type "enumerate", data := .fields #[.none, .bool false, .ref s.heap.objs.size, rawInt 0, .none, .none] }) (s.heap.objs.size + 1) s.heap.objs.size 0 .none := by
    have := Heap.get?_push_size (s.heap.push o) (o := { cls := .type "enumerate", data := .fields #[.none, .bool false, .ref s.heap.objs.size, rawInt 0, .none, .none] }) rfl
    rw [hz] at this; exact this
  refine ⟨⟨_, he, rfl⟩, h _ he (Heap.get?_push_of_some _ (Heap.get?_push_size _ B.free)) (by rw [Heap.size_push, hz]) fun b o x => Heap.get?_push_of_some _ (Heap.get?_push_of_some _ x)⟩
end
/-- enumerate of a list or a tuple -/
def iEnumA (K : PySem.W.Frag) (ta : TA) : TI := fun σ H R => ta σ H fun vs H1 => ∃ a, vs = [.ref a] ∧ ((∃ xs, SqL K H1 a xs ∧ R (Ite K a) H1) ∨ (∃ xs, SqT K H1 a xs ∧ R (IteT K a 0) H1))
theorem pi_enumA {X : Cx} {e : Expr} {ta : TA} {p pos tpos : Pos} {elts : List Expr} {kk : Nat} (hg : Gl X "enumerate") (hm : X.mg "enumerate" = none) (ha : PA X [e] ta) (hs : starEach [e] X.env = [(false, eval e X.env)] := by rfl) :
    PI X (.Tuple elts kk tpos) (.Call (.Name "enumerate" p) [e] [] pos) (iEnumA X.K ta) := by
  refine ⟨fun pins s σ H R I h => ?_⟩
  refine Call_ (ld_blt I hg hm boot_enumerate (PyProof.Rows.callWith_type1 (thn (ha.run pos pins s σ H _ I h) fun us s1 ⟨vs, H1, I1, r1, q1⟩ => ?_) hs rfl))
  obtain ⟨a, ex, q1⟩ := q1
  subst ex
  cases r1 with
  | cons r rr =>
    cases rr
    cases r
    rcases q1 with ⟨xs, hq, q⟩ | ⟨xs, hq, q⟩
    · obtain ⟨its, rv, p', hz⟩ := I1.list hq
      refine call_enumerate_list p'.isList fun h' he hit hsz hk => wpAny_pyIter_enum he ?_
      have I2 : Inv X pins σ H1 { s1 with heap := h' } := I1.kept (t' := s1.toks) hk
      refine ⟨s1.heap.objs.size + 1, [s1.heap.objs.size + 1, s1.heap.objs.size], _, _, H1, rfl, I2, turn_enum a (s1.heap.objs.size + 1) s1.heap.objs.size, ⟨⟨.none, he⟩, hit, Nat.succ_ne_self _⟩, fun b hb => ?_, q⟩
      have e' : b = s1.heap.objs.size + 1 ∨ b = s1.heap.objs.size := by simpa using hb
      have hle : s1.heap.objs.size ≤ b := by
        rcases e' with z | z
        · rw [z]; exact Nat.le_add_right _ _
        · rw [z]; exact Nat.le_refl _
      exact I1.fpOk hle (I1.hok.fresh hle)
    · obtain ⟨its, rv, p', hz⟩ := I1.tuple hq
      have hal : a < s1.heap.objs.size := by obtain ⟨_, q, _⟩ := p'; exact Heap.lt_size q
      refine enum_begins1 (begins_tuple a its.toArray) p' fun h' he' hit hsz hkp => wpAny_pyIter_enum he' ?_
      have I2 : Inv X pins σ H1 { s1 with heap := h' } := I1.kept (t' := s1.toks) hkp
      refine ⟨s1.heap.objs.size + 1, [s1.heap.objs.size + 1, s1.heap.objs.size], _, _, H1, rfl, I2, turn_enumT a (s1.heap.objs.size + 1) s1.heap.objs.size 0, ⟨⟨.none, ?_⟩, ⟨_, hit, rfl, rfl⟩, Nat.succ_ne_self _, Nat.ne_of_lt hal, Nat.ne_of_gt (Nat.lt_succ_of_lt hal)⟩, fun b hb => ?_, q⟩
      · have e0 : (0 : Int) + ((0 : Nat) : Int) = 0 := by omega
        rw [e0]; exact he'
      · have e' : b = s1.heap.objs.size + 1 ∨ b = s1.heap.objs.size := by simpa using hb
        have hle : s1.heap.objs.size ≤ b := by
          rcases e' with z | z
          · rw [z]; exact Nat.le_add_right _ _
          · rw [z]; exact Nat.le_refl _
        exact I1.fpOk hle (I1.hok.fresh hle)
end Rt
set_option maxHeartbeats 1000000
namespace Z
open PySem PySem.Spec L2
/-! ### a thing that may be a list or a tuple -/
def MV.itsQ (m : MV) : Option (List Val) := match m.itsL with
  | some xs => some xs
  | none => m.itsT
/-- for x in v -/
def itQ (i : Nat) : M (List Val) := do
  okIt (.s i)
  let m ← rdH (.s i)
  opt (m.itsQ)
/-- enumerate(v) -/
def itEQ (a : M Hd) : M (List Val) := do
  let h ← a
  okIt h
  let m ← rdH h
  let vs ← opt (m.itsQ)
  pure (enumF (fun i => (i : Nat)) vs)
def mkLQ (a : M Hd) : M MV := do
  let h ← a
  let m ← rdH h
  let xs ← opt (m.itsQ)
  pure (.lst (xs.map .f))
def mkTQ (a : M Hd) : M MV := do
  let h ← a
  let m ← rdH h
  let xs ← opt (m.itsQ)
  pure (.f (.tup xs))
def iSeq (K : PySem.W.Frag) (tl : TE) : TI := fun σ H R => tl σ H fun x H1 => ∃ a, x = .ref a ∧ (((∃ xs, SqL K H1 a xs) ∧ R (Itl K a) H1) ∨ ((∃ xs, SqT K H1 a xs) ∧ R (Itt K a) H1))
/-- the list that lacks an item -/
def popAtM (i : Nat) (b : M MV) : M MV := do
  isL i
  let k ← b
  fun e => match e[i]? with
  | some s => match s.mut with
    | some (.lst ms) => match k with
      | .f (.int z) => if 0 ≤ z ∧ z < 9223372036854775808 then match ms[z.toNat]? with
        | some (.f v) => .ok (.f v) (e.set i (s.put (.lst (ms.eraseIdx z.toNat))))
        | _ => .no
        else .no
      | _ => .no
    | _ => .no
  | none => .no
section
variable {K : PySem.W.Frag} {G : Gs} {E : XK} {B : Bs} {env : Env} {σ : L2.St} {F H F' H' : Hp} {α β : Type} {m m1 m2 : MV} {x y : V} {v w : Val} {X : Cx} {e a b c : Expr} {t : TE} {ma mb : M MV} {mo mo2 : M Hd} {pos p : Pos} {rest : List Expr} {es : List Expr} {tg iter : Expr} {nm : Str} {i : Nat} {s : SV} {ms : List MV}
theorem pi_seqV (h1 : PE X e (tVar i)) : PI X tg e (iSeq X.K (tVar i)) := ⟨fun pins s σ H R I ⟨v, ev, a, ea, h⟩ => by
  rcases h with ⟨hx, hR⟩ | ⟨hx, hR⟩
  · exact (pi_list h1).run pins s σ H R I ⟨v, ev, a, ea, hx, hR⟩
  · exact (pi_tup h1).run pins s σ H R I ⟨v, ev, a, ea, hx, hR⟩⟩
theorem itsQ_or {vs : List Val} (h : m.itsQ = some vs) : m.itsL = some vs ∨ m.itsT = some vs := by
  unfold MV.itsQ at h
  cases q : m.itsL with
  | none => rw [q] at h; exact .inr h
  | some xs => rw [q] at h; exact .inl h
theorem zi_seq (hp : PI X tg iter (iSeq X.K (tVar i))) : PI X tg iter (tI X.K G E (itQ i)) := PIi hp fun σ H R ⟨B, F, env, h0, ho⟩ => by
  obtain ⟨o1, ho⟩ := Out.okIt (h := ho)
  obtain ⟨n1, r1, ho⟩ := Out.rd ho
  cases ev : n1.itsQ with
  | none => rw [ev] at ho; exact (show False from ho).elim
  | some vs =>
    rw [ev] at ho
    have r1' := r1
    unfold rdH at r1'
    dsimp only at r1'
    split at r1'
    · rename_i s es
      split at r1'
      · rename_i n en
        cases r1'
        obtain ⟨x, ex, _⟩ := h0.read es en
        obtain ⟨F2, s2, h2, f⟩ := okIt_facts (hd := .s i) (x := x) h0 ex o1 r1
        refine ⟨x, ex, ?_⟩
        rcases itsQ_or ev with ev | ev
        · obtain ⟨p, ys, ex, rs, sq⟩ := (f vs).1 ev
          exact ⟨p, ex, .inl ⟨⟨ys, sq B _ σ F2 H rfl rfl rfl (Same.refl _) h2⟩, ho F2 H _ s2 h2 (it_of_yat walk_list rs sq)⟩⟩
        · obtain ⟨p, ys, ex, rs, sq⟩ := (f vs).2 ev
          exact ⟨p, ex, .inr ⟨⟨ys, sq B _ σ F2 H rfl rfl rfl (Same.refl _) h2⟩, ho F2 H _ s2 h2 (it_of_yat walk_tup rs sq)⟩⟩
      · cases r1'
    · cases r1'
theorem zi_enumQ (hp : PI X tg iter (Rt.iEnumA X.K (tCons (tO X.K G E mo) tNil))) : PI X tg iter (tI X.K G E (itEQ mo)) := PIi hp fun σ H R ⟨B, F, env, h0, ho⟩ => by
  refine ⟨B, F, env, h0, (Out.bindE ho).mono fun k1 e1 _ ho F1 H1 x s1 h1 a1 => ?_⟩
  obtain ⟨o1, ho⟩ := Out.okIt ho
  obtain ⟨n1, r1, ho⟩ := Out.rd ho
  cases ev : n1.itsQ with
  | none => rw [ev] at ho; exact (show False from ho).elim
  | some vs =>
    rw [ev] at ho
    obtain ⟨F2, s2, h2, f⟩ := okIt_facts h1 a1 o1 r1
    rcases itsQ_or ev with ev | ev
    · obtain ⟨p, ys, ex, rs, sq⟩ := (f vs).1 ev
      exact ⟨p, by rw [ex], .inl ⟨ys, sq B _ σ F2 H1 rfl rfl rfl (Same.refl _) h2, ho F2 H1 _ (s1.trans s2) h2 (it_of_pair walk_enum rs sq)⟩⟩
    · obtain ⟨p, ys, ex, rs, sq⟩ := (f vs).2 ev
      refine ⟨p, by rw [ex], .inr ⟨ys, sq B _ σ F2 H1 rfl rfl rfl (Same.refl _) h2, ho F2 H1 _ (s1.trans s2) h2 ?_⟩⟩
      have := it_of_pair (f := fun i => (0 : Int) + (i : Nat)) (walk_enumT (K := X.K) (a := p) (k0 := 0)) rs sq
      have q : (fun i : Nat => (0 : Int) + (i : Nat)) = fun i => ((i : Nat) : Int) := funext fun i => Int.zero_add _
      rw [q] at this
      exact this
theorem z_listQ (hp : PE X e (tCB (fun xs H Q => ∃ p ys, xs = [.ref p] ∧ (SqL X.K H p ys ∨ SqT X.K H p ys) ∧ ∀ l, H l = none → Q (.ref l) (upd H l (.lst ys))) (tCons (tO X.K G E mo) tNil))) : PE X e (tE X.K G E (mkLQ mo)) := PEi hp fun σ H Q ⟨B, F, env, h0, ho⟩ => by
  refine ⟨B, F, env, h0, (Out.bindE ho).mono fun k1 e1 _ ho F1 H1 x s1 h1 a1 => ?_⟩
  obtain ⟨n1, r1, ho⟩ := Out.rd ho
  obtain ⟨vs, ev, ho⟩ := Out.optL ho
  rcases itsQ_or ev with ev | ev
  · obtain ⟨a, ys, e3, q3, rs⟩ := (h1.hdM a1 r1).itsL h1.hp.fh ev
    exact ⟨a, ys, by rw [e3], .inl q3, fun p hp => ho F1 _ _ s1 ((pushH_pop h1).newLf rs hp)⟩
  · obtain ⟨a, ys, e3, q3, rs⟩ := (h1.hdM a1 r1).itsT h1.hp.fh ev
    exact ⟨a, ys, by rw [e3], .inr q3, fun p hp => ho F1 _ _ s1 ((pushH_pop h1).newLf rs hp)⟩
theorem z_tupleQ (hp : PE X e (tCB (fun xs H Q => ∃ p ys, xs = [.ref p] ∧ ((SqL X.K H p ys ∧ ∀ l, H l = none → Q (.ref l) (upd H l (.tup ys))) ∨ (SqT X.K H p ys ∧ Q (.ref p) H))) (tCons (tO X.K G E mo) tNil))) : PE X e (tE X.K G E (mkTQ mo)) := PEi hp fun σ H Q ⟨B, F, env, h0, ho⟩ => by
  refine ⟨B, F, env, h0, (Out.bindE ho).mono fun k1 e1 _ ho F1 H1 x s1 h1 a1 => ?_⟩
  obtain ⟨n1, r1, ho⟩ := Out.rd ho
  obtain ⟨vs, ev, ho⟩ := Out.optL ho
  have rx := h1.hdM a1 r1
  rcases itsQ_or ev with ev | ev
  · obtain ⟨a, ys, e3, q3, rs⟩ := rx.itsL h1.hp.fh ev
    refine ⟨a, ys, by rw [e3], .inl ⟨q3, fun p hp => ?_⟩⟩
    obtain ⟨F3, s3, h3, rt⟩ := (pushH_pop h1).newT rs hp
    exact ho F3 _ _ (s1.trans s3) (h3.pushF rt)
  · obtain ⟨a, ys, e3, q3, rs⟩ := rx.itsT h1.hp.fh ev
    refine ⟨a, ys, by rw [e3], .inr ⟨q3, ?_⟩⟩
    rw [← e3]
    exact ho F1 H1 x s1 ((pushH_pop h1).pushF (rv_tupX rx ev))
theorem RMs.era : ∀ {ms : List MV} {xs : List V} {fp : List Addr} (k : Nat), RMs K G F H ms xs fp → ∃ g, RMs K G F H (ms.eraseIdx k) (xs.eraseIdx k) g ∧ g.Sublist fp
  | [], _, _, k, h => by unfold RMs at h; obtain ⟨rfl, rfl⟩ := h; exact ⟨[], by cases k <;> exact .nil, List.Sublist.refl _⟩
  | m :: ms, _, _, 0, h => by
    unfold RMs at h
    obtain ⟨x, xs, f1, f2, e1, ef, h1, h2⟩ := h
    subst e1 ef
    exact ⟨f2, h2, List.sublist_append_right ..⟩
  | m :: ms, _, _, k + 1, h => by
    unfold RMs at h
    obtain ⟨x, xs, f1, f2, e1, ef, h1, h2⟩ := h
    subst e1 ef
    obtain ⟨g, g1, g2⟩ := RMs.era k h2
    refine ⟨f1 ++ g, ?_, List.Sublist.append_left g2 f1⟩
    rw [List.eraseIdx_cons_succ, List.eraseIdx_cons_succ]
    unfold RMs
    exact ⟨x, _, f1, g, rfl, rfl, h1, g1⟩
theorem EOk.popA {k : Nat} (h : EOk K G B env σ F H) (es : env[i]? = some s) (em : s.mut = some (.lst ms)) (el : ms[k]? = some (.f v)) : ∃ a xs y, σ[i]? = some (some (.ref a)) ∧ H a = some (.lst xs) ∧ xs.length = ms.length ∧ xs[k]? = some y ∧ RV K G F v y ∧
    EOk K G B (env.set i (s.put (.lst (ms.eraseIdx k)))) σ F (upd H a (.lst (xs.eraseIdx k))) := by
  obtain ⟨y, fp, ft, ey, rm, nd, rt, ndt, dis, put⟩ := h.pushE.put es em
  obtain ⟨a, xs, fr, rfl, rfl, e4, e6⟩ := rm.lst'
  have hl := RMs.len e6
  have na := (List.nodup_cons.mp nd).1
  obtain ⟨z, f, z1, z2, _⟩ := RMs.get e6 el
  unfold RM at z2
  have fr1 : RMs K G F (upd H a (.lst (xs.eraseIdx k))) ms xs fr := RMs.frame (Same.refl _) (fun b hb => upd_ne fun c => na (by rw [← c]; exact hb)) e6
  obtain ⟨g, g1, g2⟩ := RMs.era k fr1
  refine ⟨a, xs, z, ey, e4, hl, z1, z2.2, ?_⟩
  refine put a _ (.lst (ms.eraseIdx k)) (a :: g) (List.mem_cons_self ..) ?_ ?_ ?_
  · unfold RM
    exact ⟨a, xs.eraseIdx k, g, rfl, rfl, upd_same, g1⟩
  · exact List.nodup_cons.mpr ⟨fun c => na (g2.subset c), (List.nodup_cons.mp nd).2.sublist g2⟩
  · intro b hb
    rcases List.mem_cons.mp hb with z | z
    · exact .inl (by rw [z]; exact List.mem_cons_self ..)
    · exact .inl (List.mem_cons_of_mem _ (g2.subset z))
theorem Out.isLd {k : Unit → M β} {q : β → Env → Prop} (h : Out K G E B σ F ((Z.isL i >>= k) env) q) : ∃ s ms, env[i]? = some s ∧ s.mut = some (.lst ms) ∧ Out K G E B σ F (k () env) q := by
  have h' := Out.bindE (show Out K G E B σ F ((Z.isL i env).bind k) q from h)
  unfold Z.isL at h'
  cases e : env[i]? with
  | none => rw [e] at h'; exact h'.elim
  | some s =>
    rw [e] at h'
    dsimp only at h'
    cases e2 : s.mut with
    | none => rw [e2] at h'; exact h'.elim
    | some m =>
      rw [e2] at h'
      cases m with
      | lst ms => exact ⟨s, ms, rfl, e2, h'⟩
      | _ => exact h'.elim
theorem z_popAt (hp : PE X e (tBM X.K "list" rPopAt (tVar i) (tCons (tE X.K G E mb) tNil))) : PE X e (tE X.K G E (popAtM i mb)) := PEi hp fun σ H Q ⟨B, F, env, h0, ho⟩ => by
  obtain ⟨s, ms, es, em, ho⟩ := Out.isLd ho
  obtain ⟨a, xs, ea, eh⟩ := h0.lstAt es em
  refine ⟨_, ea, .inl ⟨rfl, xs, .inl (.inl eh)⟩, B, F, env, h0, (Out.bindE ho).mono fun m e1 _ ho F1 H1 x s1 h1 => ?_⟩
  cases es1 : e1[i]? with
  | none => rw [es1] at ho; exact (show False from ho).elim
  | some s' =>
    rw [es1] at ho
    dsimp only at ho
    cases em1 : s'.mut with
    | none => rw [em1] at ho; exact (show False from ho).elim
    | some n =>
      rw [em1] at ho
      cases n with
      | lst ms' =>
        dsimp only at ho
        split at ho
        · rename_i z _
          split at ho
          · rename_i hz
            split at ho
            · rename_i v el
              obtain rfl := rv_int h1.topF
              obtain ⟨a', xs', y, z1, z2, z3, z4, z5, z6⟩ := h1.pop.popA es1 em1 el
              rw [ea] at z1; cases z1
              refine ⟨a, xs', z, z.toNat, y, rfl, rfl, z2, by omega, by omega, ?_, z4, ho F1 _ _ s1 (z6.pushF z5)⟩
              have hlt : z.toNat < ms'.length := (List.getElem?_eq_some_iff.mp el).1
              rw [← z3] at hlt
              unfold seqIndex?
              have n0 : ¬ z < 0 := by omega
              simp only [if_neg n0]
              rw [decide_eq_true hz.1, decide_eq_true (show z < (xs'.length : Nat) by omega)]
              rfl
            · exact (show False from ho).elim
          · exact (show False from ho).elim
        · exact (show False from ho).elim
      | _ => exact (show False from ho).elim
end
end Z
set_option maxHeartbeats 1000000
namespace Z
open PySem PySem.Spec L2
section
variable {a b c : M MV} {oa ob : M Hd} {i j k : Nat} {e : Env} {v w : Val} {m n : MV} {s : SV} {xs ys vs ds : List Val} {f : Fn} {ak : M (List Ag)} {p : List Bool} {hs gs : List Ag} {g : Ag}
def enO (o : Option (List Val)) (f : Nat → Int) (e : Env) : O (List Val) := match o with
  | some vs => .ok (enumF f vs) e
  | none => .no
theorem e_enO {f : Nat → Int} : enO (some vs) f e = .ok (enumF f vs) e := (rfl)
theorem e_itE : itE oa e = (oa e).bind fun h e => (okIt h e).bind fun _ e => (rdH h e).bind fun m e => enO m.itsL (fun i => (i : Nat)) e := by
  unfold itE; rw [e_bind]; congr 1; funext h e; rw [e_bind]; congr 1; funext _ e; rw [e_bind]; congr 1; funext m e
  cases m.itsL <;> rfl
theorem e_itEK {z : Int} : itEK z oa e = (oa e).bind fun h e => (okIt h e).bind fun _ e => (rdH h e).bind fun m e => enO m.itsT (fun i => z + (i : Nat)) e := by
  unfold itEK; rw [e_bind]; congr 1; funext h e; rw [e_bind]; congr 1; funext _ e; rw [e_bind]; congr 1; funext m e
  cases m.itsT <;> rfl
theorem e_itEQ : itEQ oa e = (oa e).bind fun h e => (okIt h e).bind fun _ e => (rdH h e).bind fun m e => enO m.itsQ (fun i => (i : Nat)) e := by
  unfold itEQ; rw [e_bind]; congr 1; funext h e; rw [e_bind]; congr 1; funext _ e; rw [e_bind]; congr 1; funext m e
  cases m.itsQ <;> rfl
theorem e_itQ : itQ i e = (okIt (.s i) e).bind fun _ e => (rdH (.s i) e).bind fun m e => optO m.itsQ e := by
  unfold itQ; rw [e_bind]; congr 1; funext h e; rw [e_bind]; congr 1; funext m e; exact e_opt
theorem e_qL : (MV.f (.lst xs)).itsQ = some xs := (rfl)
theorem e_qT : (MV.f (.tup xs)).itsQ = some xs := (rfl)
theorem e_qM : (MV.lst (xs.map .f)).itsQ = some xs := by unfold MV.itsQ; rw [e_itsM]
def lrgO : MV → MV → Env → O MV
  | .f (.int i), .f (.int j), e => if -4611686018427387904 ≤ i ∧ i < 4611686018427387904 ∧ -4611686018427387904 ≤ j ∧ j < 4611686018427387904 ∧ (j - i).toNat ≤ 16777216 then .ok (.lst ((irange i j).map .f)) e else .no
  | _, _, _ => .no
theorem e_lrg : lrg a b e = (a e).bind fun x e => (b e).bind fun y e => lrgO x y e := by
  unfold lrg; rw [e_bind]; congr 1; funext x e; rw [e_bind]; congr 1; funext y e
  cases x with
  | f v => cases v with
    | int i => cases y with
      | f w => cases w with
        | int j => show (if _ then pure _ else fail : M MV) e = _; unfold lrgO; dsimp only; split <;> rfl
        | _ => rfl
      | _ => rfl
    | _ => rfl
  | _ => rfl
theorem e_lrgO {z y : Int} (h : -4611686018427387904 ≤ z ∧ z < 4611686018427387904 ∧ -4611686018427387904 ≤ y ∧ y < 4611686018427387904 ∧ (y - z).toNat ≤ 16777216) : lrgO (.f (.int z)) (.f (.int y)) e = .ok (.lst ((irange z y).map .f)) e := if_pos h
def rdO : MV → MV → Env → O (List Val)
  | .f (.int i), .f (.int j), e => if -1000000000 ≤ i ∧ i < 1000000000 ∧ -1000000000 ≤ j ∧ j < 1000000000 then .ok (drange i j) e else .no
  | _, _, _ => .no
theorem e_itRd : itRd a b e = (a e).bind fun x e => (b e).bind fun y e => rdO x y e := by
  unfold itRd; rw [e_bind]; congr 1; funext x e; rw [e_bind]; congr 1; funext y e
  cases x with
  | f v => cases v with
    | int i => cases y with
      | f w => cases w with
        | int j => show (if _ then pure _ else fail : M (List Val)) e = _; unfold rdO; dsimp only; split <;> rfl
        | _ => rfl
      | _ => rfl
    | _ => rfl
  | _ => rfl
theorem e_rdO' {z y : Int} (h : -1000000000 ≤ z ∧ z < 1000000000 ∧ -1000000000 ≤ y ∧ y < 1000000000) : rdO (.f (.int z)) (.f (.int y)) e = .ok (drange z y) e := if_pos h
theorem e_catT : catT oa ob e = (oa e).bind fun h e => (ob e).bind fun k e => (rdH h e).bind fun m e => (rdH k e).bind fun n e => lO m.itsT fun xs => lO n.itsT fun ys => szO (xs.length + ys.length) (.ok (.f (.tup (xs ++ ys))) e) := by
  unfold catT; rw [e_bind]; congr 1; funext x e; rw [e_bind]; congr 1; funext y e; rw [e_bind]; congr 1; funext y e; rw [e_bind]; congr 1; funext y e
  rw [lO_eq]; congr 1; funext xs; rw [lO_eq]; congr 1; funext ys; exact sz_eq
def srtO (o : Option (List Int)) (e : Env) : O MV := match o with
  | some ns => .ok (.lst (((srtL ns).map .int).map .f)) e
  | none => .no
theorem e_srtO {ns : List Int} : srtO (some ns) e = .ok (.lst (((srtL ns).map .int).map .f)) e := (rfl)
theorem e_srt : srt oa e = (oa e).bind fun h e => (rdH h e).bind fun m e => lO m.itsL fun xs => srtO (intsOf xs) e := by
  unfold srt; rw [e_bind]; congr 1; funext x e; rw [e_bind]; congr 1; funext y e; rw [lO_eq]; congr 1; funext xs
  cases intsOf xs <;> rfl
theorem e_ints {ns : List Int} : intsOf (ns.map .int) = some ns := intsOf_map ns
theorem e_mkLQ : mkLQ oa e = (oa e).bind fun h e => (rdH h e).bind fun m e => lO m.itsQ fun xs => .ok (.lst (xs.map .f)) e := by
  unfold mkLQ; rw [e_bind]; congr 1; funext x e; rw [e_bind]; congr 1; funext y e; exact lO_eq
theorem e_mkTQ : mkTQ oa e = (oa e).bind fun h e => (rdH h e).bind fun m e => lO m.itsQ fun xs => .ok (.f (.tup xs)) e := by
  unfold mkTQ; rw [e_bind]; congr 1; funext x e; rw [e_bind]; congr 1; funext y e; exact lO_eq
def mkcT (b : Bool) (o : O MV) : O MV := if b then o else .no
theorem e_mkcT {o : O MV} : mkcT true o = o := (rfl)
theorem e_methK : methK k f j p ds oa ak e = (oa e).bind fun h e => (isC k h e).bind fun _ e => (ak e).bind fun hs e => mkcT (decide (hs.length = j)) (callG f (hAg h :: weave p (ds.map .v) hs) e) := by
  unfold methK; rw [e_bind]; congr 1; funext h e; rw [e_bind]; congr 1; funext _ e; rw [e_bind]; congr 1; funext hs e
  unfold mkcT
  by_cases q : hs.length = j
  · rw [if_pos q, decide_eq_true q]; rfl
  · rw [if_neg q, decide_eq_false q]; rfl
theorem e_wv1 {α : Type} {ms zs : List α} {z : α} : weave (true :: p) ms (z :: zs) = z :: weave p ms zs := (rfl)
theorem e_wv2 {α : Type} {ms zs : List α} {z : α} : weave (false :: p) (z :: ms) zs = z :: weave p ms zs := by rw [weave]
theorem e_wv3 {α : Type} {ms zs : List α} : weave [] ms zs = [] := (rfl)
theorem era_map {α β : Type} {f : α → β} : ∀ (l : List α) (k : Nat), (l.map f).eraseIdx k = (l.eraseIdx k).map f
  | [], k => by cases k <;> rfl
  | x :: l, 0 => rfl
  | x :: l, k + 1 => by rw [List.map_cons, List.eraseIdx_cons_succ, List.eraseIdx_cons_succ, List.map_cons, era_map l k]
def popO (i : Nat) (k : MV) : Option SV → Env → O MV
  | some s, e => match s.mut with
    | some (.lst ms) => match k with
      | .f (.int z) => if 0 ≤ z ∧ z < 9223372036854775808 then match ms[z.toNat]? with
        | some (.f v) => .ok (.f v) (e.set i (s.put (.lst (ms.eraseIdx z.toNat))))
        | _ => .no
        else .no
      | _ => .no
    | _ => .no
  | none, _ => .no
theorem e_popAt : popAtM i b e = (isL i e).bind fun _ e => (b e).bind fun k e => popO i k e[i]? e := by
  unfold popAtM; rw [e_bind]; congr 1; funext x e; rw [e_bind]; congr 1; funext y e
  unfold popO
  cases e[i]? <;> rfl
theorem e_popO {z : Int} {x : Val} (h : 0 ≤ z ∧ z < 9223372036854775808) (hx : xs[z.toNat]? = some x) : popO i (.f (.int z)) (some (.own (.lst (xs.map .f)))) e = .ok (.f x) (e.set i (.own (.lst ((xs.eraseIdx z.toNat).map .f)))) := by
  unfold popO
  dsimp only [SV.mut, SV.put]
  rw [if_pos h, List.getElem?_map, hx]
  dsimp only [Option.map]
  rw [era_map]
end
end Z
set_option maxHeartbeats 1000000
namespace Z
open PySem PySem.Spec PyProof.Rows L2
/-! ### isinstance of an own class, of any value -/
theorem kit_tyN {K : PySem.W.Frag} {R : PySem.Addr} {t : String} (h2 : PySem.W.isClsIn K R = true) (h3 : PySem.W.typeIn K (.ref R) = some (.type "type")) (h4 : PySem.W.subIn K (.type t) (.ref R) = some false) : PySem.W.kitOne K (.type t) (.ref R) = some false := by
  have e2 : ((PySem.W.clsIn K R).isSome && PySem.W.typeIn K (.ref R) == some (.type "type")) = true := by
    have h2' : (PySem.W.clsIn K R).isSome = true := h2
    rw [h2', h3] <;> rfl
  unfold PySem.W.kitOne
  by_cases c : (PySem.Value.type t == PySem.Value.ref R) = true
  · have e : PySem.Value.type t = PySem.Value.ref R := beq_iff_eq.mp c
    cases e
  · rw [if_neg c]
    show (if ((PySem.W.clsIn K R).isSome && PySem.W.typeIn K (.ref R) == some (.type "type")) = true then PySem.W.subIn K (.type t) (.ref R) else none) = some false
    rw [if_pos e2, h4]
theorem kit_reN {K : PySem.W.Frag} {B R : Addr} (h2 : PySem.W.isClsIn K R = true) (h3 : PySem.W.typeIn K (.ref R) = some (.type "type")) (h4 : PySem.W.subIn K (.ref B) (.ref R) = some false) (h5 : PySem.W.subIn K (.ref B) (.ref B) = some true) : PySem.W.kitOne K (.ref B) (.ref R) = some false := by
  have e2 : ((PySem.W.clsIn K R).isSome && PySem.W.typeIn K (.ref R) == some (.type "type")) = true := by
    have h2' : (PySem.W.clsIn K R).isSome = true := h2
    rw [h2', h3] <;> rfl
  unfold PySem.W.kitOne
  by_cases c : (PySem.Value.ref B == PySem.Value.ref R) = true
  · have e : PySem.Value.ref B = PySem.Value.ref R := beq_iff_eq.mp c
    cases e
    rw [h4] at h5; cases h5
  · rw [if_neg c]
    show (if ((PySem.W.clsIn K R).isSome && PySem.W.typeIn K (.ref R) == some (.type "type")) = true then PySem.W.subIn K (.ref B) (.ref R) else none) = some false
    rw [if_pos e2, h4]
def rEqL2 (K : PySem.W.Frag) (C : Addr) (sp : Sp) (E : XK) : R2 := fun x y H Q => ∃ p q dx fs, x = .ref p ∧ y = .ref q ∧ H p = some (.ins C dx fs) ∧ (∃ xs, SqL K H q xs) ∧ sp [.ref p, .ref q] H (fun v H' => ∃ r : Bool, v = .bl r ∧ Q (.bl r) H') E
theorem op_eqOwnL2 {X : Cx} {CX : CXT} {k : Nat} {f C : Addr} {fd : FuncData} {ps : List Str} {sp : Sp} {E : XK} (F : FnOk X.prog X.w X.K X.mg X.base CX k f fd ps sp) (hr : Room k X.A) (hs : PySem.W.findIn X.K (.ref C) "__eq__" = some (some (.ref f))) (hf : PySem.W.isFn X.K (.ref f) = true) (hl : PySem.W.subIn X.K (.type "list") (.ref C) = some false)
    (hb : Binds X.K fd ps []) (hx : Passes CX X E) : OpR X (compareOp .Eq) (rEqL2 X.K C sp E) := by
  intro pins s σ H x y v u Q I rx ry h
  obtain ⟨p, q, dx, fs, rfl, rfl, hp, ⟨xs, hq⟩, h⟩ := h
  cases rx
  cases ry
  obtain ⟨mA, J, _⟩ := ins_get I.hok hp
  obtain ⟨od, J, _⟩ := J.look
  obtain ⟨m, hF⟩ := I.fr
  obtain ⟨its, rv, pl, hz⟩ := I.list hq
  obtain ⟨o, e, hc, _⟩ := pl.isList
  show wpAny (model X.prog X.w) X.A (richCompare .Eq _ _) (EP X pins σ Q) X.xe s
  refine PySem.W.cmp_K (op := .Eq) (tb := .type "list") hr.units0 hF I.ok.mod.kin J (fun A Q E s k z => wpAny_typeOf_ref (k _ _ e) (by rw [hc]; exact z)) (by unfold PySem.W.notFirst; rw [hl]; rfl) hs hf (wpAny_mono (run_at (vs := [.ref p, .ref q]) rfl F hr hb hx I (.cons rfl (.cons rfl .nil)) h) (fun v s' z => ?_) fun _ _ z => z)
  obtain ⟨x, H', I', rx, r, ex, qq⟩ := z
  subst ex
  cases rx
  exact ⟨.bl r, H', I', rfl, qq⟩
structure OwnN (K : PySem.W.Frag) (G : Gs) (c : Nat) (n : List Nat) : Prop where
  ty : ∀ k ∈ ["NoneType", "bool", "int", "str", "tuple", "list"], PySem.W.kitOne K (.type k) (.ref (G.C c)) = some false
  ot : ∀ d, n.contains d = true → d ≠ c → OwnT K (G.C d) ∧ PySem.W.kitOne K (.ref (G.C d)) (.ref (G.C c)) = some false
  me : OwnT K (G.C c)
def pkB : Bool → Bool → Option Bool
  | true, _ => some true
  | false, true => some false
  | false, false => none
def isOX (c : Nat) (n : List Nat) (v : Val) : Option Bool := match v with
  | .ins d _ => pkB (d == c) (n.contains d)
  | v => (tyOf v).map fun _ => false
/-- x == y of an own class, y maybe a list -/
def isCL (c : Nat) (h : Hd) : M Unit := do
  let m ← rdH h
  match m.val with
  | .ins d _ => if d = c then pure () else fail
  | .lst _ => pure ()
  | _ => fail
section
variable {K : PySem.W.Frag} {G : Gs} {E : XK} {B : Bs} {env : Env} {σ : L2.St} {F H F' H' : Hp} {α β : Type} {m m1 m2 : MV} {x y : V} {v w : Val} {f : Fn} {X : Cx} {e a b : Expr} {ma mb : M MV} {mo mo2 : M Hd} {ag ak : M (List Ag)} {c j i k : Nat} {n : List Nat} {st : Stmt} {fn : Str}
theorem z_isOX (o : OwnN X.K G c n) {tc : TE} (hc : ∀ σ H Q, Q (.ref (G.C c)) H → tc σ H Q) (hp : PE X e (tCB (rIsi X.K) (tCons (tO X.K G E mo) (tCons tc tNil)))) : PE X e (tE X.K G E (cb (blO (isOX c n)) mo)) := PEi hp fun σ H Q ⟨B, F, env, h0, ho⟩ => by
  refine ⟨B, F, env, h0, (Out.bindE ho).mono fun k1 e1 _ ho F1 H1 x s1 h1 a1 => ?_⟩
  obtain ⟨n1, r1, ho⟩ := Out.rd ho
  obtain ⟨z, hz, hq⟩ := Out.opt ho
  have rv := (h1.hd a1 r1).2
  have gen : ∀ t, tyOf n1.val = some t → z = .bl false → tc σ H1 fun c' H2 => rIsi X.K [x, c'] H2 Q := fun t et ez => by
    subst ez
    exact hc _ _ _ ⟨x, .ref (G.C c), .type t, .ref (G.C c), false, rfl, .own _, tyX_b rv et, o.ty t (tyOf_mem et), hq F1 H1 _ s1 ((pushH_pop h1).pushF (sca_bl F1))⟩
  unfold blO isOX at hz
  cases ev : n1.val with
  | ins d vs =>
    rw [ev] at hz rv
    dsimp only at hz
    cases ed : d == c with
    | true =>
      rw [ed] at hz
      have ed : d = c := beq_iff_eq.mp ed
      subst ed
      cases hz
      obtain ⟨p, dx, xs, e1, e2, _⟩ := rv_ins rv
      exact hc _ _ _ ⟨x, .ref (G.C d), _, .ref (G.C d), true, rfl, .own _, by rw [e1]; exact .base (.ins e2 o.me.cl o.me.ha o.me.hn o.me.ht o.me.hm), kit_self, hq F1 H1 _ s1 ((pushH_pop h1).pushF (sca_bl F1))⟩
    | false =>
      rw [ed] at hz
      have ne : d ≠ c := fun z => by rw [beq_iff_eq.mpr z] at ed; cases ed
      cases l : n.contains d with
      | true =>
        rw [l] at hz
        cases hz
        obtain ⟨p, dx, xs, e1, e2, _⟩ := rv_ins rv
        obtain ⟨q1, q2⟩ := o.ot d l ne
        exact hc _ _ _ ⟨x, .ref (G.C c), _, .ref (G.C c), false, rfl, .own _, by rw [e1]; exact .base (.ins e2 q1.cl q1.ha q1.hn q1.ht q1.hm), q2, hq F1 H1 _ s1 ((pushH_pop h1).pushF (sca_bl F1))⟩
      | false => rw [l] at hz; cases hz
  | non => rw [ev] at hz gen; cases hz; exact gen _ rfl rfl
  | bl p => rw [ev] at hz gen; cases hz; exact gen _ rfl rfl
  | int p => rw [ev] at hz gen; cases hz; exact gen _ rfl rfl
  | str p => rw [ev] at hz gen; cases hz; exact gen _ rfl rfl
  | tup p => rw [ev] at hz gen; cases hz; exact gen _ rfl rfl
  | lst p => rw [ev] at hz gen; cases hz; exact gen _ rfl rfl
  | ty p => rw [ev] at hz; cases hz
  | st p => rw [ev] at hz; cases hz
def eqOwnA (c : Nat) (f : Fn) (a b : M Hd) : M MV := do
  let h ← a
  let k ← b
  isC c h
  isCL c k
  let r ← callG f [hAg h, hAg k]
  match r with
  | .f (.bl b) => pure (.f (.bl b))
  | _ => fail
theorem Out.isCL {h : Hd} {k : Unit → M β} {q : β → Env → Prop} (e : EOk K G (B.pushH h x) env σ F H) (a : HdAt σ h x) (ho : Out K G E B σ F ((Z.isCL c h >>= k) env) q) : ((∃ p dx xs, x = .ref p ∧ H p = some (.ins (G.C c) dx ((G.flds c).zip xs))) ∨ (∃ p xs, x = .ref p ∧ SqL K H p xs)) ∧ Out K G E B σ F (k () env) q := by
  have ho : Out K G E B σ F ((rdH h >>= fun m => (match m.val with | .ins d _ => if d = c then pure () else fail | .lst _ => pure () | _ => fail : M Unit) >>= k) env) q := by
    have e : (Z.isCL c h >>= k) env = (rdH h >>= fun m => (match m.val with | .ins d _ => if d = c then pure () else fail | .lst _ => pure () | _ => fail : M Unit) >>= k) env := by
      unfold Z.isCL
      rw [bind_def, bind_def, bind_def]
      cases rdH h env <;> rfl
    rw [← e]; exact ho
  obtain ⟨m, r, ho⟩ := Out.rd ho
  have rv := (e.hd a r).2
  cases ev : m.val with
  | ins d vs =>
    rw [ev] at ho rv
    dsimp only at ho
    by_cases cc : d = c
    · subst cc
      rw [if_pos rfl] at ho
      obtain ⟨p, dx, xs, e1, e2, _⟩ := rv_ins rv
      exact ⟨.inl ⟨p, dx, xs, e1, e2⟩, ho⟩
    · rw [if_neg cc] at ho; exact (show False from ho).elim
  | lst vs =>
    rw [ev] at ho rv
    unfold RV at rv
    obtain ⟨p, xs, e1, e2, _⟩ := rv
    exact ⟨.inr ⟨p, xs, e1, e2⟩, ho⟩
  | _ => rw [ev] at ho; exact (show False from ho).elim
theorem isCL_ok {h : Hd} {β : Type} {k : Unit → M β} {q : β → Env → Prop} {F : Hp} {B : Bs} {σ : L2.St} (ho : Out K G E B σ F ((Z.isCL c h >>= k) env) q) : (Z.isCL c h) env = .ok () env := by
  have ho := Out.bindE (show Out K G E B σ F (((Z.isCL c h) env).bind k) q from ho)
  unfold Z.isCL at ho ⊢
  rw [bind_def] at ho ⊢
  cases r : rdH h env with
  | ok m e' =>
    have e'e : e' = env := by
      unfold rdH at r
      cases h with
      | t n => cases r; rfl
      | s i =>
        dsimp only at r
        split at r
        · split at r
          · cases r; rfl
          · cases r
        · cases r
    subst e'e
    rw [r] at ho
    dsimp only [O.bind] at ho ⊢
    cases ev : m.val with
    | ins d vs =>
      rw [ev] at ho
      dsimp only at ho ⊢
      split at ho
      · rename_i cc; rw [if_pos cc]; rfl
      · exact (show False from ho).elim
    | lst vs => rfl
    | _ => rw [ev] at ho; exact (show False from ho).elim
  | er x e' => rw [r] at ho; 
               unfold rdH at r
               cases h with
               | t n => cases r
               | s i =>
                 dsimp only at r
                 split at r
                 · split at r <;> cases r
                 · cases r
  | no => rw [r] at ho; exact (show False from ho).elim
theorem sem_eqOwnA {Q : VK} (h : tE K G E (eqOwnA c f mo mo2) σ H Q) : tOp (fun x y H Q => rEqOwn (G.C c) (spZ K G f) E x y H Q ∨ rEqL2 K (G.C c) (spZ K G f) E x y H Q) (tO K G E mo) (tO K G E mo2) σ H Q := by
  obtain ⟨B, F, env, h0, ho⟩ := h
  refine ⟨B, F, env, h0, (Out.bindE ho).mono fun h e1 _ ho F1 H1 x s1 h1 a1 => ?_⟩
  refine ⟨B.pushH h x, F1, e1, h1, (Out.bindE (ho.pushH s1)).mono fun k e2 eq _ F2 H2 y s2 h2 a2 => ?_⟩
  have ho := Out.ok ho eq
  have h2' := pushH_pop h2
  obtain ⟨⟨p, dx, xs, e3, e4⟩, ho⟩ := Out.isC (E := E) (F := F2) (B := B) h2' a1 (Out.same (s1.trans s2) ho)
  obtain ⟨q1, _⟩ := Out.isCL (E := E) (F := F2) (B := B.pushH h x) h2 a2 (Out.pushH (x := x) (Same.refl _) ho)
  obtain ⟨F3, s3, h3, b1, b2⟩ := two h2 a1 a2
  have ho := Out.ok (o := (Z.isCL c k) e2) ho (isCL_ok ho)
  have fin : spZ K G f [x, y] H2 (fun v H' => ∃ r : Bool, v = .bl r ∧ Q (.bl r) H') E := core_call h3 (.cons b1 (.cons b2 .nil)) ((Out.bindE (ho.same s3)).mono fun v e' _ ho F' H' x s h' => by
    split at ho
    · exact ⟨_, rv_bl h'.topF, ho F' H' _ (((s1.trans s2).trans s3).trans s) (h'.pop.pushF (sca_bl F'))⟩
    · exact (show False from ho).elim)
  rcases q1 with ⟨q, dy, ys, e5, e6⟩ | ⟨q, ys, e5, e6⟩
  · exact .inl ⟨p, q, dx, dy, _, _, e3, e5, e4, e6, by rw [← e3, ← e5]; exact fin⟩
  · exact .inr ⟨p, q, dx, _, e3, e5, e4, ⟨ys, e6⟩, by rw [← e3, ← e5]; exact fin⟩
theorem z_eqOwnA (hp : PE X e (tOp (fun x y H Q => rEqOwn (G.C c) (spZ X.K G f) E x y H Q ∨ rEqL2 X.K (G.C c) (spZ X.K G f) E x y H Q) (tO X.K G E mo) (tO X.K G E mo2))) : PE X e (tE X.K G E (eqOwnA c f mo mo2)) := PEi hp fun σ H Q => sem_eqOwnA
theorem zt_eqOwnA {ops : List CmpOp} {es : List Expr} {pos : Pos} (hp : PT X (.Compare a ops es pos) (tTest (tOp (fun x y H Q => rEqOwn (G.C c) (spZ X.K G f) E x y H Q ∨ rEqL2 X.K (G.C c) (spZ X.K G f) E x y H Q) (tO X.K G E mo) (tO X.K G E mo2)))) : PT X (.Compare a ops es pos) (tB' X.K G E (tst (eqOwnA c f mo mo2))) := zt_of hp fun σ H Q => sem_eqOwnA
/-- C() -/
theorem z_mk0 {dvs : List Val} {dxs : List V} (hd : Scas X.K G dvs dxs) (hp : PE X e (tMake (G.C c) (spZ X.K G f) dxs E tNil)) : PE X e (tE X.K G E (mk c f dvs aNil)) := z_mk hd (PEi hp fun σ H Q h => sem_nil h)
/-! running -/
theorem e_isX {n : List Nat} {d k : Nat} {x : List Val} : isOX k n (.ins d x) = pkB (d == k) (n.contains d) := (rfl)
theorem e_pk1 {b : Bool} : pkB true b = some true := (rfl)
theorem e_pk2 : pkB false true = some false := (rfl)
theorem e_isX0 {n : List Nat} {k : Nat} : isOX k n .non = some false := (rfl)
theorem e_isX1 {n : List Nat} {k : Nat} {x : Bool} : isOX k n (.bl x) = some false := (rfl)
theorem e_isX2 {n : List Nat} {k : Nat} {x : Int} : isOX k n (.int x) = some false := (rfl)
theorem e_isX3 {n : List Nat} {k : Nat} {x : Str} : isOX k n (.str x) = some false := (rfl)
theorem e_isX4 {n : List Nat} {k : Nat} {x : List Val} : isOX k n (.tup x) = some false := (rfl)
theorem e_isX5 {n : List Nat} {k : Nat} {x : List Val} : isOX k n (.lst x) = some false := (rfl)
def icL (c : Nat) : Val → Env → O Unit
  | .ins d _, e => if d = c then .ok () e else .no
  | .lst _, e => .ok () e
  | _, _ => .no
theorem e_icLi {k : Nat} {vs : List Val} {e : Env} : icL k (.ins k vs) e = .ok () e := (if_pos rfl)
theorem e_icLl {k : Nat} {vs : List Val} {e : Env} : icL k (.lst vs) e = .ok () e := (rfl)
theorem e_isCL {k : Nat} {h : Hd} {e : Env} : isCL k h e = (rdH h e).bind fun m e => icL k m.val e := by
  unfold isCL; rw [e_bind]; congr 1; funext m e
  cases m.val with
  | ins d vs => unfold icL; dsimp only; split <;> rfl
  | _ => rfl
theorem e_eqOwnA {k : Nat} {f : Fn} {oa ob : M Hd} {e : Env} : eqOwnA k f oa ob e = (oa e).bind fun h e => (ob e).bind fun h2 e => (isC k h e).bind fun _ e => (isCL k h2 e).bind fun _ e => (callG f [hAg h, hAg h2] e).bind (eqO false) := by
  unfold eqOwnA; rw [e_bind]; congr 1; funext h e; rw [e_bind]; congr 1; funext h2 e; rw [e_bind]; congr 1; funext _ e; rw [e_bind]; congr 1; funext _ e; rw [e_bind]; congr 1; funext m e
  cases m with
  | f v => cases v <;> rfl
  | _ => rfl
end
end Z
set_option maxHeartbeats 1000000
namespace Z
open PySem PySem.Spec L2
/-! ### == of data -/
def qv (v w : Val) : Bool := PyData.eqv v.dat w.dat
def qvs (vs ws : List Val) : Bool := PyData.eqvAll (Val.dats vs) (Val.dats ws)
theorem eqD_q {v w : Val} (h : v.okd) (h' : w.okd) : eqD v w = some (.bl (qv v w)) := by
  have a := shaped_ok h; have b := shaped_ok h'
  unfold eqD
  rw [if_pos ⟨a.1, b.1, a.2, b.2⟩]; rfl
theorem neD_q {v w : Val} (h : v.okd) (h' : w.okd) : neD v w = some (.bl (!qv v w)) := by
  have a := shaped_ok h; have b := shaped_ok h'
  unfold neD
  rw [if_pos ⟨a.1, b.1, a.2, b.2⟩]; rfl
theorem qv_lst {vs ws : List Val} : qv (.lst vs) (.lst ws) = qvs vs ws := by
  unfold qv; rw [Val.dat, Val.dat, PyData.eqv]; rfl
theorem qv_tup {vs ws : List Val} : qv (.tup vs) (.tup ws) = qvs vs ws := by
  unfold qv; rw [Val.dat, Val.dat, PyData.eqv]; rfl
theorem qv_int {i j : Int} : qv (.int i) (.int j) = decide (i = j) := by
  unfold qv; rw [Val.dat, Val.dat, PyData.eqv]; rfl
theorem qv_bl {i j : Bool} : qv (.bl i) (.bl j) = decide (i = j) := by
  unfold qv; rw [Val.dat, Val.dat, PyData.eqv]; cases i <;> cases j <;> rfl
theorem qv_str {i j : Str} : qv (.str i) (.str j) = decide (i = j) := by
  unfold qv; rw [Val.dat, Val.dat, PyData.eqv]
  by_cases h : i = j
  · subst h; simp
  · simp [h]
theorem qv_non : qv .non .non = true := by unfold qv; rw [Val.dat, PyData.eqv]
theorem qvs_0 : qvs [] [] = true := by unfold qvs; rw [Val.dats, PyData.eqvAll]
theorem qvs_1 {v w : Val} {vs ws : List Val} : qvs (v :: vs) (w :: ws) = (qv v w && qvs vs ws) := by
  unfold qvs; rw [Val.dats, Val.dats, PyData.eqvAll]; rfl
theorem qvs_2 {v : Val} {vs : List Val} : qvs (v :: vs) [] = false := by
  unfold qvs; rw [Val.dats, Val.dats, PyData.eqvAll]
theorem qvs_3 {v : Val} {vs : List Val} : qvs [] (v :: vs) = false := by
  unfold qvs; rw [Val.dats, Val.dats, PyData.eqvAll]
theorem qv_lt {vs ws : List Val} : qv (.lst vs) (.tup ws) = false := by unfold qv; rw [Val.dat, Val.dat, PyData.eqv]
theorem qv_tl {vs ws : List Val} : qv (.tup vs) (.lst ws) = false := by unfold qv; rw [Val.dat, Val.dat, PyData.eqv]
theorem qv_refl {v : Val} (h : v.okd) : qv v v = true := SeqAt.eqv_refl _ (sm_facts v h.1).2.2.2.1
/-- lists of like things -/
theorem qvs_map {α : Type} [DecidableEq α] {f : α → Val} (hf : ∀ x y, qv (f x) (f y) = decide (x = y)) : ∀ {xs ys : List α}, qvs (xs.map f) (ys.map f) = decide (xs = ys)
  | [], [] => by rw [List.map_nil, qvs_0]; rfl
  | [], y :: ys => by rw [List.map_nil, List.map_cons, qvs_3]; rfl
  | x :: xs, [] => by rw [List.map_nil, List.map_cons, qvs_2]; rfl
  | x :: xs, y :: ys => by
    rw [List.map_cons, List.map_cons, qvs_1, hf, qvs_map hf]
    by_cases h : x = y
    · subst h
      by_cases h2 : xs = ys
      · simp [h2]
      · simp [h2]
    · simp [h]
theorem qvs_ints {xs ys : List Int} : qvs (xs.map .int) (ys.map .int) = decide (xs = ys) := qvs_map fun _ _ => qv_int
theorem okd_cons {v : Val} {vs : List Val} (h : v.okd) (h2 : (Val.lst vs).okd) (h3 : v.bk + (Val.lst vs).bk ≤ 599999) (h4 : v.dp ≤ 59) : (Val.lst (v :: vs)).okd := by
  obtain ⟨a1, a2, a3⟩ := h
  obtain ⟨b1, b2, b3⟩ := h2
  unfold Val.sm at b1; unfold Val.dp at b3
  rw [show (Val.lst vs).bk = Val.bks vs by rw [Val.bk]] at b2 h3
  refine ⟨?_, ?_, ?_⟩
  · unfold Val.sm Val.sms; rw [a1, b1]; rfl
  · unfold Val.bk Val.bks; omega
  · unfold Val.dp Val.dps; omega
def Val.small (v : Val) : Prop := v.sm = true ∧ v.bk ≤ 100 ∧ v.dp ≤ 5
theorem okd_all {vs : List Val} (h : ∀ v ∈ vs, v.small) (hl : vs.length ≤ 1000) : (Val.lst vs).okd ∧ (Val.tup vs).okd := by
  have a := okd_lst (f := fun v : Val => v) (xs := vs) (b := 100) (d := 5) h (by decide) (by omega)
  have b := okd_tup (f := fun v : Val => v) (xs := vs) (b := 100) (d := 5) h (by decide) (by omega)
  rw [List.map_id''] at a b
  · exact ⟨a, b⟩
  · exact fun _ => rfl
  · exact fun _ => rfl
def Val.mid (v : Val) : Prop := v.sm = true ∧ v.bk ≤ 20000 ∧ v.dp ≤ 20
theorem mid_all {vs : List Val} (h : ∀ v ∈ vs, v.small) (hl : vs.length ≤ 150) : (Val.lst vs).mid ∧ (Val.tup vs).mid := by
  have a := bks_map (f := fun v : Val => v) (xs := vs) (b := 100) fun v hv => (h v hv).2.1
  have b := dps_map (f := fun v : Val => v) (xs := vs) (b := 5) fun v hv => (h v hv).2.2
  have c := sms_map (f := fun v : Val => v) (xs := vs) fun v hv => (h v hv).1
  have e : List.map (fun v : Val => v) vs = vs := List.map_id'' (fun _ => rfl) vs
  rw [e] at a b c
  refine ⟨⟨?_, ?_, ?_⟩, ⟨?_, ?_, ?_⟩⟩
  · unfold Val.sm; exact c
  · rw [Val.bk]; omega
  · rw [Val.dp]; omega
  · unfold Val.sm; exact c
  · rw [Val.bk]; omega
  · rw [Val.dp]; omega
theorem okd_mids {vs : List Val} (h : ∀ v ∈ vs, v.mid) (hl : vs.length ≤ 25) : (Val.lst vs).okd ∧ (Val.tup vs).okd := by
  have a := okd_lst (f := fun v : Val => v) (xs := vs) (b := 20000) (d := 20) h (by decide) (by omega)
  have b := okd_tup (f := fun v : Val => v) (xs := vs) (b := 20000) (d := 20) h (by decide) (by omega)
  have e : List.map (fun v : Val => v) vs = vs := List.map_id'' (fun _ => rfl) vs
  rw [e] at a b
  exact ⟨a, b⟩
theorem okd_pair {v w : Val} (h1 : v.mid) (h2 : w.mid) : (Val.lst [v, w]).okd :=
  (okd_mids (vs := [v, w]) (fun x hx => by
    rcases List.mem_cons.mp hx with rfl | hx
    · exact h1
    · rw [List.mem_singleton.mp hx]; exact h2) (by show 2 ≤ 25; decide)).1
theorem small_bl {b : Bool} : (Val.bl b).small := ⟨rfl, Nat.zero_le _, Nat.zero_le _⟩
theorem small_non : Val.non.small := ⟨rfl, Nat.zero_le _, Nat.zero_le _⟩
theorem small_int {i : Int} (h : i.natAbs < 10 ^ 20) : (Val.int i).small := ⟨sm_int h, Nat.zero_le _, Nat.zero_le _⟩
theorem okd_nil : (Val.lst []).okd := ⟨rfl, by decide, by decide⟩
theorem okd_bl {b : Bool} : (Val.bl b).okd := ⟨rfl, Nat.zero_le _, Nat.zero_le _⟩
theorem okd_int {i : Int} (h : i.natAbs < 10 ^ 20) : (Val.int i).okd := ⟨sm_int h, Nat.zero_le _, Nat.zero_le _⟩
theorem e_isN6 {x : Bool} : isN (.bl x) .non = some (.bl false) := (rfl)
theorem e_notN6 {x : Bool} : notN (.bl x) .non = some (.bl true) := (rfl)
theorem shw_q {v : Val} (h : v.okd) : shwV v = some (.str v.dat.shown) := shw_ok h
end Z
set_option maxHeartbeats 4000000
namespace Rt
open PySem L2
/-- told classes of a tree with n pages -/
structure Told (c : Int) (ts : List Int) (n : Nat) : Prop where
  c1 : 1 ≤ c
  c8 : c ≤ 8
  lo : ∀ z ∈ ts, 0 ≤ z
  hi : ∀ z ∈ ts, z ≤ c
  num : n = 2 ∨ n = 4 ∨ n = 8 ∨ n = 16 ∨ n = 32
  len : ts.length + 1 = 2 * n
theorem Told.n2 {c : Int} {ts : List Int} {n : Nat} (g : Told c ts n) : 2 ≤ n ∧ n ≤ 32 := by
  rcases g.num with h | h | h | h | h <;> omega
/-- what node k is told -/
def val (ts : List Int) (k : Nat) : Int := ts.getD (k - 1) 0
theorem val_at {ts : List Int} {k : Nat} (h1 : 1 ≤ k) (h2 : k ≤ ts.length) : ts[k - 1]? = some (val ts k) := by
  unfold val
  rw [List.getD_eq_getElem?_getD]
  have : k - 1 < ts.length := by omega
  rw [List.getElem?_eq_getElem this]; rfl
/-! ### the way of a page -/
def anc (k : Nat) : List Nat := if h : k ≤ 1 then [k] else k :: anc (k / 2)
termination_by k
decreasing_by omega
theorem anc_1 {k : Nat} (h : k ≤ 1) : anc k = [k] := by rw [anc, dif_pos h]
theorem anc_2 {k : Nat} (h : ¬ k ≤ 1) : anc k = k :: anc (k / 2) := by rw [anc, dif_neg h]
theorem anc_mem : ∀ (k : Nat), 1 ≤ k → ∀ j ∈ anc k, 1 ≤ j ∧ j ≤ k
  | k, h1, j, hj => by
    by_cases h : k ≤ 1
    · rw [anc_1 h] at hj
      rw [List.mem_singleton.mp hj]
      omega
    · rw [anc_2 h] at hj
      rcases List.mem_cons.mp hj with rfl | hj
      · omega
      · have := anc_mem (k / 2) (by omega) j hj
        omega
termination_by k => k
decreasing_by omega
theorem anc_ne (k : Nat) : anc k ≠ [] := by
  by_cases h : k ≤ 1
  · rw [anc_1 h]; simp
  · rw [anc_2 h]; simp
theorem anc_self (k : Nat) : k ∈ anc k := by
  by_cases h : k ≤ 1
  · rw [anc_1 h]; simp
  · rw [anc_2 h]; simp
/-- the nodes of the way of leaf f, from the root on -/
def way (f : Nat) : List Nat := (anc f).reverse
def missB (ts : List Int) (f : Nat) : Bool := (anc f).any fun k => decide (val ts k < val ts f)
def missL (ts : List Int) (n : Nat) : List Nat := (List.range n).filter fun p => missB ts (p + n)
theorem ft_T {α : Type} {f : α → Bool} {l : List α} {i : Nat} {z : α} (h : l[i]? = some z) (c : f z = true) : (l.take (i + 1)).filter f = (l.take i).filter f ++ [z] := by
  rw [List.take_add_one, h, List.filter_append]
  simp [c]
theorem ft_F {α : Type} {f : α → Bool} {l : List α} {i : Nat} {z : α} (h : l[i]? = some z) (c : f z = false) : (l.take (i + 1)).filter f = (l.take i).filter f := by
  rw [List.take_add_one, h, List.filter_append]
  simp [c]
theorem fr_T {f : Nat → Bool} {i : Nat} (c : f i = true) : (List.range (i + 1)).filter f = (List.range i).filter f ++ [i] := by
  rw [List.range_succ, List.filter_append]
  simp [c]
theorem fr_F {f : Nat → Bool} {i : Nat} (c : f i = false) : (List.range (i + 1)).filter f = (List.range i).filter f := by
  rw [List.range_succ, List.filter_append]
  simp [c]
/-! ### mending -/
def mx (x y : Int) : Int := if y > x then y else x
def mstep (ts : List Int) (k : Nat) : List Int := ts.set (k - 1) (mx (val ts (2 * k)) (val ts (2 * k + 1)))
def mendI (ts : List Int) (n : Nat) : Nat → List Int
  | 0 => ts
  | i + 1 => mstep (mendI ts n i) (n - 1 - i)
def mend (ts : List Int) (n : Nat) : List Int := mendI ts n (n - 1)
theorem mstep_len (ts : List Int) (k : Nat) : (mstep ts k).length = ts.length := by unfold mstep; rw [List.length_set]
theorem mendI_len (ts : List Int) (n : Nat) : ∀ i, (mendI ts n i).length = ts.length
  | 0 => rfl
  | i + 1 => by
    show (mstep (mendI ts n i) (n - 1 - i)).length = _
    rw [mstep_len, mendI_len ts n i]
theorem val_mem {ts : List Int} {k : Nat} (h1 : 1 ≤ k) (h2 : k ≤ ts.length) : val ts k ∈ ts := List.mem_of_getElem? (val_at h1 h2)
theorem mx_or (x y : Int) : mx x y = x ∨ mx x y = y := by unfold mx; split; exact .inr rfl; exact .inl rfl
theorem mx_le (x y : Int) : x ≤ mx x y ∧ y ≤ mx x y := by unfold mx; split <;> omega
theorem Told.step {c : Int} {ts : List Int} {n k : Nat} (g : Told c ts n) (h1 : 1 ≤ k) (h2 : k < n) : Told c (mstep ts k) n := by
  have hl := g.len
  have m1 : val ts (2 * k) ∈ ts := val_mem (by omega) (by omega)
  have m2 : val ts (2 * k + 1) ∈ ts := val_mem (by omega) (by omega)
  have mm : mx (val ts (2 * k)) (val ts (2 * k + 1)) ∈ ts := by
    rcases mx_or (val ts (2 * k)) (val ts (2 * k + 1)) with e | e <;> rw [e] <;> assumption
  refine ⟨g.c1, g.c8, fun z hz => ?_, fun z hz => ?_, g.num, by rw [mstep_len]; exact hl⟩
  · rcases List.mem_or_eq_of_mem_set hz with h | h
    · exact g.lo z h
    · rw [h]; exact g.lo _ mm
  · rcases List.mem_or_eq_of_mem_set hz with h | h
    · exact g.hi z h
    · rw [h]; exact g.hi _ mm
theorem Told.mendI {c : Int} {ts : List Int} {n : Nat} (g : Told c ts n) : ∀ i, i ≤ n - 1 → Told c (mendI ts n i) n
  | 0, _ => g
  | i + 1, h => (Told.mendI g i (by omega)).step (by omega) (by omega)
theorem Told.mend {c : Int} {ts : List Int} {n : Nat} (g : Told c ts n) : Told c (mend ts n) n := g.mendI _ (Nat.le_refl _)
/-! ### upright -/
def uprB (ts : List Int) : Bool := (List.range (ts.length - 1)).all fun i => decide (val ts (i + 2) ≤ val ts ((i + 2) / 2))
def toI (ks : List Nat) : List Int := ks.map fun k => ((k : Nat) : Int)
theorem toI_nil (ks : List Nat) : toI ks = [] ↔ ks = [] := by unfold toI; exact List.map_eq_nil_iff
theorem anc_len : ∀ m : Nat, 1 ≤ m → (anc m).length ≤ m := fun m => by
  induction m using Nat.strongRecOn with
  | ind m ih =>
    intro h1
    by_cases h : m ≤ 1
    · rw [anc_1 h]; exact h1
    · rw [anc_2 h, List.length_cons]
      have := ih (m / 2) (by omega) (by omega)
      omega
/-! ### the mathematics of mending -/
theorem val_mstep {ts : List Int} {k j : Nat} (k1 : 1 ≤ k) (k2 : k ≤ ts.length) (j1 : 1 ≤ j) : val (mstep ts k) j = if j = k then mx (val ts (2 * k)) (val ts (2 * k + 1)) else val ts j := by
  unfold mstep
  show (ts.set (k - 1) _).getD (j - 1) 0 = _
  rw [List.getD_eq_getElem?_getD, List.getElem?_set]
  by_cases h : j = k
  · subst h
    rw [if_pos rfl, if_pos rfl, if_pos (by omega)]
    rfl
  · rw [if_neg h, if_neg (by omega)]
    unfold val
    rw [List.getD_eq_getElem?_getD]
theorem mendI_facts {ts : List Int} {n : Nat} (hl : ts.length + 1 = 2 * n) : ∀ i, i ≤ n - 1 →
    (∀ k, n ≤ k → val (mendI ts n i) k = val ts k) ∧ (∀ k, 1 ≤ k → n - i ≤ k → k < n → val (mendI ts n i) k = mx (val (mendI ts n i) (2 * k)) (val (mendI ts n i) (2 * k + 1)))
  | 0, _ => ⟨fun _ _ => rfl, fun k _ h1 h2 => by omega⟩
  | i + 1, hi => by
    obtain ⟨a1, a2⟩ := mendI_facts hl i (by omega)
    have hlen := mendI_len ts n i
    have vm : ∀ j, 1 ≤ j → val (mendI ts n (i + 1)) j = if j = n - 1 - i then mx (val (mendI ts n i) (2 * (n - 1 - i))) (val (mendI ts n i) (2 * (n - 1 - i) + 1)) else val (mendI ts n i) j :=
      fun j j1 => val_mstep (ts := mendI ts n i) (k := n - 1 - i) (by omega) (by omega) j1
    refine ⟨fun k hk => ?_, fun k k1 h1 h2 => ?_⟩
    · rw [vm k (by omega), if_neg (by omega)]
      exact a1 k hk
    · rw [vm (2 * k) (by omega), vm (2 * k + 1) (by omega), if_neg (show ¬ 2 * k = n - 1 - i by omega), if_neg (show ¬ 2 * k + 1 = n - 1 - i by omega), vm k k1]
      by_cases h : k = n - 1 - i
      · rw [if_pos h, h]
      · rw [if_neg h]
        exact a2 k k1 (by omega) h2
theorem mend_leaf {ts : List Int} {n : Nat} (hl : ts.length + 1 = 2 * n) {k : Nat} (h : n ≤ k) : val (mend ts n) k = val ts k := (mendI_facts hl (n - 1) (Nat.le_refl _)).1 k h
theorem mend_inner {ts : List Int} {n : Nat} (hl : ts.length + 1 = 2 * n) {k : Nat} (h1 : 1 ≤ k) (h2 : k < n) : val (mend ts n) k = mx (val (mend ts n) (2 * k)) (val (mend ts n) (2 * k + 1)) :=
  (mendI_facts hl (n - 1) (Nat.le_refl _)).2 k h1 (by omega) h2
theorem mend_len (ts : List Int) (n : Nat) : (mend ts n).length = ts.length := mendI_len ts n _
theorem mend_upright {ts : List Int} {n : Nat} (hl : ts.length + 1 = 2 * n) : uprB (mend ts n) = true := by
  unfold uprB
  rw [List.all_eq_true]
  intro i hi
  have hi2 := List.mem_range.mp hi
  rw [mend_len] at hi2
  refine decide_eq_true ?_
  rw [mend_inner hl (k := (i + 2) / 2) (by omega) (by omega)]
  have := mx_le (val (mend ts n) (2 * ((i + 2) / 2))) (val (mend ts n) (2 * ((i + 2) / 2) + 1))
  rcases (show i + 2 = 2 * ((i + 2) / 2) ∨ i + 2 = 2 * ((i + 2) / 2) + 1 by omega) with e | e
  · rw [← e] at this ⊢; exact this.1
  · rw [← e] at this ⊢; exact this.2
theorem upright_le {ts : List Int} (h : uprB ts = true) : ∀ f, 1 ≤ f → f ≤ ts.length → ∀ k ∈ anc f, val ts f ≤ val ts k := fun f => by
  induction f using Nat.strongRecOn with
  | ind f ih =>
    intro f1 f2 k hk
    by_cases c : f ≤ 1
    · rw [anc_1 c] at hk
      rw [List.mem_singleton.mp hk]
      exact Int.le_refl _
    · rw [anc_2 c] at hk
      rcases List.mem_cons.mp hk with rfl | hk
      · exact Int.le_refl _
      · have h1 := ih (f / 2) (by omega) (by omega) (by omega) k hk
        unfold uprB at h
        rw [List.all_eq_true] at h
        have h2 := of_decide_eq_true (h (f - 2) (List.mem_range.mpr (by omega)))
        rw [show f - 2 + 2 = f by omega] at h2
        omega
theorem upright_none {ts : List Int} {n : Nat} (hl : ts.length + 1 = 2 * n) (h : uprB ts = true) : missL ts n = [] := by
  unfold missL
  rw [List.filter_eq_nil_iff]
  intro p hp
  have hp2 := List.mem_range.mp hp
  have : missB ts (p + n) = false := by
    unfold missB
    rw [List.any_eq_false]
    intro k hk z
    have h1 := upright_le h (p + n) (by omega) (by omega) k hk
    have h2 := of_decide_eq_true z
    omega
  rw [this]
  exact Bool.false_ne_true
theorem mstep_same {ts : List Int} {k : Nat} (k1 : 1 ≤ k) (k2 : k ≤ ts.length) (h : val ts k = mx (val ts (2 * k)) (val ts (2 * k + 1))) : mstep ts k = ts := by
  unfold mstep
  rw [← h]
  refine List.ext_getElem? fun i => ?_
  rw [List.getElem?_set]
  by_cases e : k - 1 = i
  · subst e
    rw [if_pos rfl, if_pos (by omega)]
    exact (val_at k1 k2).symm
  · rw [if_neg e]
theorem mend_again {ts : List Int} {n : Nat} (hl : ts.length + 1 = 2 * n) : mend (mend ts n) n = mend ts n := by
  have hm := mend_len ts n
  have : ∀ i, i ≤ n - 1 → mendI (mend ts n) n i = mend ts n := fun i => by
    induction i with
    | zero => intro _; rfl
    | succ i ih =>
      intro hi
      show mstep (mendI (mend ts n) n i) (n - 1 - i) = _
      rw [ih (by omega)]
      exact mstep_same (by omega) (by omega) (mend_inner hl (by omega) (by omega))
  exact this (n - 1) (Nat.le_refl _)
theorem mend_drop {ts : List Int} {n : Nat} (hl : ts.length + 1 = 2 * n) : (mend ts n).drop (n - 1) = ts.drop (n - 1) := by
  have hm := mend_len ts n
  refine List.ext_getElem? fun i => ?_
  rw [List.getElem?_drop, List.getElem?_drop]
  by_cases h : n - 1 + i < ts.length
  · have h1 := val_at (ts := mend ts n) (k := n - 1 + i + 1) (by omega) (by omega)
    have h2 := val_at (ts := ts) (k := n - 1 + i + 1) (by omega) (by omega)
    rw [show n - 1 + i + 1 - 1 = n - 1 + i by omega] at h1 h2
    rw [h1, h2, mend_leaf hl (by omega)]
  · rw [List.getElem?_eq_none (by omega), List.getElem?_eq_none (by omega)]
end Rt
set_option maxHeartbeats 4000000
namespace Rt
open PySem PySem.Spec L2 Z
/-! the pool -/
def pool (p : Int × Int) : MV := .lst ([.int p.1, .int p.2].map .f)
theorem sv_pool {p : Int × Int} : svOf (pool p) = .own (pool p) := rfl
def dn (p : Int × Int) (n : Int) : Int × Int := if 0 < p.1 then (p.1 / n, p.2) else (p.1, (p.2 * 39373 + 7) % 2147483647)
def dr (p : Int × Int) (n : Int) : Int := if 0 < p.1 then p.1 % n else (p.2 * 39373 + 7) % 2147483647 * ((p.2 * 39373 + 7) % 2147483647) % 2147483629 / 32 % n
theorem dr_lo {p : Int × Int} {n : Int} (h : 0 < n) : 0 ≤ dr p n := by unfold dr; split <;> exact Int.emod_nonneg _ (by omega)
theorem dr_hi {p : Int × Int} {n : Int} (h : 0 < n) : dr p n < n := by unfold dr; split <;> exact Int.emod_lt_of_pos _ h
theorem at_val {ts : List Int} {z : Int} (h1 : 0 ≤ z) (h2 : z < ts.length) : atI (ts.map Val.int) z = some (.int (val ts (z.toNat + 1))) :=
  e_at h1 (by
    have := val_at (ts := ts) (k := z.toNat + 1) (by omega) (by omega)
    rw [Nat.add_sub_cancel] at this
    rw [List.getElem?_map, this]; rfl)
theorem snoc {ts : List Int} {d : Int} : List.map Val.int ts ++ [Val.int d] = List.map Val.int (ts ++ [d]) := by rw [List.map_append]; rfl
def nI (k : Nat) : Val := .int (k : Int)
def nv (l : List Nat) : List Val := l.map nI
theorem nv_cons {k : Nat} {l : List Nat} : nv (k :: l) = .int (k : Int) :: nv l := rfl
theorem nv_snoc {k : Nat} {l : List Nat} : nv l ++ [.int (k : Int)] = nv (l ++ [k]) := by unfold nv; rw [List.map_append]; rfl
theorem nv_rev {l : List Nat} : (nv l).reverse = nv l.reverse := by unfold nv; rw [List.map_reverse]
theorem nv_len {l : List Nat} : (nv l).length = l.length := by unfold nv; rw [List.length_map]
def tw (t : Int) (k : Nat) : Val := .tup [.int (k : Int), .int t]
/-- the nodes of the way that are told less than t -/
def rs (ts : List Int) (f : Nat) (t : Int) : List Nat := (way f).filter fun k => decide (val ts k < t)
theorem way_mem {f k : Nat} (hf : 1 ≤ f) (h : k ∈ way f) : 1 ≤ k ∧ k ≤ f := anc_mem f hf k (List.mem_reverse.mp h)
theorem rs_mem {ts : List Int} {f k : Nat} {t : Int} (hf : 1 ≤ f) (h : k ∈ rs ts f t) : 1 ≤ k ∧ k ≤ f ∧ k ∈ way f ∧ val ts k < t := by
  unfold rs at h
  obtain ⟨h1, h2⟩ := List.mem_filter.mp h
  exact ⟨(way_mem hf h1).1, (way_mem hf h1).2, h1, of_decide_eq_true h2⟩
theorem way_len {f : Nat} (hf : 1 ≤ f) : (way f).length ≤ f := by unfold way; rw [List.length_reverse]; exact anc_len f hf
theorem rs_len {ts : List Int} {f : Nat} {t : Int} (hf : 1 ≤ f) : (rs ts f t).length ≤ f := Nat.le_trans (List.length_filter_le _ _) (way_len hf)
def put (t : Int) (ts : List Int) (ks : List Nat) : List Int := ks.foldl (fun ts k => ts.set (k - 1) t) ts
theorem put_len {t : Int} : ∀ {ks : List Nat} {ts : List Int}, (put t ts ks).length = ts.length
  | [], _ => rfl
  | k :: ks, ts => by show (put t (ts.set (k - 1) t) ks).length = _; rw [put_len, List.length_set]
theorem put_rng {t c : Int} : ∀ {ks : List Nat} {ts : List Int}, (∀ z ∈ ts, 0 ≤ z ∧ z ≤ c) → 0 ≤ t ∧ t ≤ c → ∀ z ∈ put t ts ks, 0 ≤ z ∧ z ≤ c
  | [], _, h, _ => h
  | k :: ks, ts, h, ht => put_rng (ks := ks) (ts := ts.set (k - 1) t) (fun z hz => by
    rcases List.mem_or_eq_of_mem_set hz with h' | h'
    · exact h z h'
    · rw [h']; exact ht) ht
theorem put_take {t : Int} {ts : List Int} {ks : List Nat} {i k : Nat} (h : ks[i]? = some k) : put t ts (ks.take (i + 1)) = (put t ts (ks.take i)).set (k - 1) t := by
  unfold put
  rw [List.take_add_one, h, List.foldl_append]; rfl
theorem map_set_int {ts : List Int} {t : Int} {q : Nat} : (ts.map Val.int).set q (.int t) = (ts.set q t).map Val.int := by rw [List.map_set]
theorem val_set {ts : List Int} {t : Int} {k j : Nat} (k1 : 1 ≤ k) (k2 : k ≤ ts.length) (j1 : 1 ≤ j) : val (ts.set (k - 1) t) j = if j = k then t else val ts j := by
  unfold val
  rw [List.getD_eq_getElem?_getD, List.getElem?_set]
  by_cases h : j = k
  · subst h
    rw [if_pos rfl, if_pos rfl, if_pos (by omega)]; rfl
  · rw [if_neg h, if_neg (by omega), List.getD_eq_getElem?_getD]
theorem val_put {t : Int} : ∀ {ks : List Nat} {ts : List Int} {j : Nat}, (∀ k ∈ ks, 1 ≤ k ∧ k ≤ ts.length) → 1 ≤ j → val (put t ts ks) j = if j ∈ ks then t else val ts j
  | [], ts, j, _, _ => by rw [if_neg (fun h => nomatch h)]; rfl
  | k :: ks, ts, j, h, j1 => by
    have hk := h k (List.mem_cons_self ..)
    show val (put t (ts.set (k - 1) t) ks) j = _
    rw [val_put (fun q hq => by rw [List.length_set]; exact h q (List.mem_cons_of_mem _ hq)) j1, val_set hk.1 hk.2 j1]
    by_cases a : j ∈ ks
    · rw [if_pos a, if_pos (List.mem_cons_of_mem _ a)]
    · rw [if_neg a]
      by_cases b : j = k
      · rw [if_pos b, if_pos (by rw [b]; exact List.mem_cons_self ..)]
      · rw [if_neg b, if_neg (fun z => (List.mem_cons.mp z).elim b a)]
theorem val_ext {ts us : List Int} (hl : ts.length = us.length) (h : ∀ j, 1 ≤ j → j ≤ ts.length → val ts j = val us j) : ts = us := List.ext_getElem? fun i => by
  by_cases c : i < ts.length
  · have a := val_at (ts := ts) (k := i + 1) (by omega) (by omega)
    have b := val_at (ts := us) (k := i + 1) (by omega) (by omega)
    rw [Nat.add_sub_cancel] at a b
    rw [a, b, h (i + 1) (by omega) (by omega)]
  · rw [List.getElem?_eq_none (by omega), List.getElem?_eq_none (by omega)]
theorem put_rev {t : Int} {ts : List Int} {ks : List Nat} (h : ∀ k ∈ ks, 1 ≤ k ∧ k ≤ ts.length) : put t ts ks.reverse = put t ts ks :=
  val_ext (by rw [put_len, put_len]) fun j j1 _ => by
    rw [val_put (fun k hk => h k (List.mem_reverse.mp hk)) j1, val_put h j1]
    by_cases c : j ∈ ks
    · rw [if_pos c, if_pos (List.mem_reverse.mpr c)]
    · rw [if_neg c, if_neg fun z => c (List.mem_reverse.mp z)]
theorem rs_put {t : Int} {ts : List Int} {f j : Nat} (hf : 1 ≤ f) (hl : f ≤ ts.length) (j1 : 1 ≤ j) : val (put t ts (rs ts f t)) j = if j ∈ way f ∧ val ts j < t then t else val ts j := by
  rw [val_put (fun k hk => ⟨(rs_mem hf hk).1, by have := (rs_mem hf hk).2.1; omega⟩) j1]
  by_cases c : j ∈ way f ∧ val ts j < t
  · rw [if_pos c, if_pos]
    unfold rs; exact List.mem_filter.mpr ⟨c.1, decide_eq_true c.2⟩
  · rw [if_neg c, if_neg]
    intro z; exact c ⟨(rs_mem hf z).2.2.1, (rs_mem hf z).2.2.2⟩
theorem rs_again {t : Int} {ts : List Int} {f : Nat} (hf : 1 ≤ f) (hl : f ≤ ts.length) : rs (put t ts (rs ts f t)) f t = [] := by
  rw [rs, List.filter_eq_nil_iff]
  intro k hk z
  have z := of_decide_eq_true z
  rw [rs_put hf hl (way_mem hf hk).1] at z
  by_cases c : k ∈ way f ∧ val ts k < t
  · rw [if_pos c] at z; omega
  · rw [if_neg c] at z; exact c ⟨hk, z⟩
theorem flt1 {t : Int} {ts : List Int} {f : Nat} (hf : 1 ≤ f) (hl : f ≤ ts.length) : (way f).filter (fun k => decide (val (put t ts (rs ts f t)) k < t) || decide (val (put t ts (rs ts f t)) k < val ts k)) = [] := by
  rw [List.filter_eq_nil_iff]
  intro k hk z
  rw [rs_put hf hl (way_mem hf hk).1] at z
  rw [Bool.or_eq_true] at z
  by_cases c : k ∈ way f ∧ val ts k < t
  · rw [if_pos c] at z
    rcases z with z | z <;> have z := of_decide_eq_true z <;> have := c.2 <;> omega
  · rw [if_neg c] at z
    rcases z with z | z <;> have z := of_decide_eq_true z
    · exact c ⟨hk, z⟩
    · omega
theorem flt2 {t : Int} {ts : List Int} {f n : Nat} (hf : 1 ≤ f) (hl : f ≤ ts.length) : (List.range (2 * n - 1)).filter (fun i => !decide (i + 1 ∈ way f) && !decide (val (put t ts (rs ts f t)) (i + 1) = val ts (i + 1))) = [] := by
  rw [List.filter_eq_nil_iff]
  intro k hk z
  rw [rs_put hf hl (by omega)] at z
  rw [Bool.and_eq_true] at z
  by_cases c : k + 1 ∈ way f ∧ val ts (k + 1) < t
  · rw [decide_eq_true c.1] at z; exact nomatch z.1
  · rw [if_neg c, decide_eq_true rfl] at z; exact nomatch z.2
theorem nv_ints {l : List Nat} : nv l = (toI l).map Val.int := by unfold nv toI; rw [List.map_map]; rfl
theorem toI_mem {k : Nat} {l : List Nat} : (k : Int) ∈ toI l ↔ k ∈ l := by
  unfold toI
  constructor
  · intro h
    obtain ⟨a, ha, e⟩ := List.mem_map.mp h
    have : a = k := by omega
    rw [← this]; exact ha
  · intro h; exact List.mem_map.mpr ⟨k, h, rfl⟩
theorem in_nv {k : Nat} {l : List Nat} : inF true (.int (k : Int)) (.lst (nv l)) = some (.bl (!decide (k ∈ l))) := by
  rw [nv_ints]
  show (match flatsOf ((toI l).map .int) with | some ys => some (Val.bl (if true then !inV (.int k) ys else inV (.int k) ys)) | none => none) = _
  rw [flatsOf_ints]
  dsimp only
  rw [if_pos rfl, inV_ints, decide_eq_decide.mpr toI_mem]
theorem irange1 {n : Nat} (hn : 1 ≤ n) : irange 1 (2 * (n : Int)) = (List.range (2 * n - 1)).map fun i => nI (i + 1) := by
  unfold irange nI
  rw [show (2 * (n : Int) - 1).toNat = 2 * n - 1 by omega]
  congr 1; funext i; congr 1; omega
theorem rev_map {α β : Type} {f : α → β} {l : List α} : (l.map f).reverse = l.reverse.map f := List.map_reverse.symm
theorem okd_tw {t : Int} {l : List Nat} (h : ∀ k ∈ l, k ≤ 1000) (ht : 0 ≤ t ∧ t ≤ 8) (hl : l.length ≤ 1000) : (Val.lst (l.map (tw t))).okd :=
  okd_lst (b := 2) (d := 1) (fun k hk => by
    have := h k hk
    unfold tw Val.sm Val.bk Val.dp Val.sms Val.bks Val.dps
    refine ⟨?_, by simp only [Val.bk, Val.bks]; decide, by simp only [Val.dp, Val.dps]; decide⟩
    unfold Val.sms
    rw [sm_int (by omega), sm_int (by omega)]; rfl) (by decide) (by omega)
theorem okd_ts {ts : List Int} (h : ∀ z ∈ ts, 0 ≤ z ∧ z ≤ 8) (hl : ts.length ≤ 100) : (Val.lst (ts.map .int)).okd ∧ (Val.tup (ts.map .int)).okd :=
  ⟨okd_ints (fun z hz => by have := h z hz; omega) (by omega), okd_tints (fun z hz => by have := h z hz; omega) (by omega)⟩
end Rt
set_option maxHeartbeats 4000000
namespace Rt
open PySem PySem.Spec L2 Z
theorem in_strs {neg : Bool} {x : Str} {ns : List Str} : inF neg (.str x) (.tup (ns.map .str)) = some (.bl (if neg then !decide (x ∈ ns) else decide (x ∈ ns))) := by
  show (match flatsOf (ns.map .str) with | some ys => some (Val.bl (if neg then !inV (.str x) ys else inV (.str x) ys)) | none => none) = _
  rw [flatsOf_strs]
  dsimp only
  rw [inV_strs]
theorem in_strsL {neg : Bool} {x : Str} {ns : List Str} : inF neg (.str x) (.lst (ns.map .str)) = some (.bl (if neg then !decide (x ∈ ns) else decide (x ∈ ns))) := in_strs
theorem in_str2 {x y z : Str} (h : x = y ∨ x = z) : inF false (.str x) (.tup ([y, z].map .str)) = some (.bl true) := by
  rw [in_strs, if_neg Bool.false_ne_true, decide_eq_true]
  rcases h with rfl | rfl
  · exact List.mem_cons_self ..
  · exact List.mem_cons_of_mem _ (List.mem_cons_self ..)
theorem notin_str2 {x y z : Str} (h : x = y ∨ x = z) : inF true (.str x) (.tup ([y, z].map .str)) = some (.bl false) := by
  rw [in_strs, if_pos rfl, decide_eq_true]
  · rfl
  rcases h with rfl | rfl
  · exact List.mem_cons_self ..
  · exact List.mem_cons_of_mem _ (List.mem_cons_self ..)
/-! rows of writes with told classes of their own -/
def tv (p : Nat × Int) : Val := .tup [.int (p.1 : Int), .int p.2]
theorem tv_snoc {row : List (Nat × Int)} {k : Nat} {g : Int} : List.map tv row ++ [Val.tup [.int (k : Int), .int g]] = List.map tv (row ++ [(k, g)]) := by rw [List.map_append]; rfl
def pR (ts : List Int) (l : List (Nat × Int)) : List Int := l.foldl (fun ts p => ts.set (p.1 - 1) p.2) ts
theorem pR_len : ∀ {l : List (Nat × Int)} {ts : List Int}, (pR ts l).length = ts.length
  | [], _ => rfl
  | p :: l, ts => by show (pR (ts.set (p.1 - 1) p.2) l).length = _; rw [pR_len, List.length_set]
theorem pR_snoc {ts : List Int} {l : List (Nat × Int)} {p : Nat × Int} : pR ts (l ++ [p]) = (pR ts l).set (p.1 - 1) p.2 := by unfold pR; rw [List.foldl_append]; rfl
theorem pR_take {ts : List Int} {l : List (Nat × Int)} {i : Nat} {p : Nat × Int} (h : l[i]? = some p) : pR ts (l.take (i + 1)) = (pR ts (l.take i)).set (p.1 - 1) p.2 := by
  rw [List.take_add_one, h]; exact pR_snoc
theorem pR_rng {c : Int} : ∀ {l : List (Nat × Int)} {ts : List Int}, (∀ z ∈ ts, 0 ≤ z ∧ z ≤ c) → (∀ p ∈ l, 0 ≤ p.2 ∧ p.2 ≤ c) → ∀ z ∈ pR ts l, 0 ≤ z ∧ z ≤ c
  | [], _, h, _ => h
  | p :: l, ts, h, hl => pR_rng (l := l) (ts := ts.set (p.1 - 1) p.2) (fun z hz => by
    rcases List.mem_or_eq_of_mem_set hz with h' | h'
    · exact h z h'
    · rw [h']; exact hl p (List.mem_cons_self ..)) fun q hq => hl q (List.mem_cons_of_mem _ hq)
/-- writes to nodes that differ: each node is told by its own -/
theorem val_pR : ∀ {l : List (Nat × Int)} {ts : List Int} {j : Nat}, (l.map (·.1)).Nodup → (∀ p ∈ l, 1 ≤ p.1 ∧ p.1 ≤ ts.length) → 1 ≤ j → (∀ g, (j, g) ∈ l → val (pR ts l) j = g) ∧ ((∀ g, (j, g) ∉ l) → val (pR ts l) j = val ts j)
  | [], _, _, _, _, _ => ⟨(fun g h => nomatch h), fun _ => rfl⟩
  | p :: l, ts, j, nd, hl, j1 => by
    rw [List.map_cons, List.nodup_cons] at nd
    have hp := hl p (List.mem_cons_self ..)
    obtain ⟨a, b⟩ := val_pR (l := l) (ts := ts.set (p.1 - 1) p.2) (j := j) nd.2 (fun q hq => by rw [List.length_set]; exact hl q (List.mem_cons_of_mem _ hq)) j1
    have vs := val_set (t := p.2) hp.1 hp.2 j1
    refine ⟨fun g hg => ?_, fun h => ?_⟩
    · rcases List.mem_cons.mp hg with e | hg
      · show val (pR (ts.set (p.1 - 1) p.2) l) j = g
        rw [b fun g' hg' => nd.1 (List.mem_map.mpr ⟨(j, g'), hg', by rw [← e]⟩), vs, ← e, if_pos rfl]
      · exact a g hg
    · show val (pR (ts.set (p.1 - 1) p.2) l) j = _
      rw [b fun g' hg' => h g' (List.mem_cons_of_mem _ hg'), vs, if_neg fun e => h p.2 (by rw [e]; exact List.mem_cons_self ..)]
theorem pR_rev {l : List (Nat × Int)} {ts : List Int} (nd : (l.map (·.1)).Nodup) (hl : ∀ p ∈ l, 1 ≤ p.1 ∧ p.1 ≤ ts.length) : pR ts l.reverse = pR ts l :=
  val_ext (by rw [pR_len, pR_len]) fun j j1 _ => by
    have nd' : (l.reverse.map (·.1)).Nodup := by rw [List.map_reverse]; exact List.pairwise_reverse.mpr (List.Pairwise.imp (fun h => Ne.symm h) nd)
    have A := val_pR (ts := ts) nd hl j1
    have B := val_pR (ts := ts) nd' (fun p hp => hl p (List.mem_reverse.mp hp)) j1
    by_cases c : ∃ g, (j, g) ∈ l
    · obtain ⟨g, hg⟩ := c
      rw [A.1 g hg, B.1 g (List.mem_reverse.mpr hg)]
    · rw [A.2 fun g hg => c ⟨g, hg⟩, B.2 fun g hg => c ⟨g, List.mem_reverse.mp hg⟩]
theorem okd_tv {c : Int} {l : List (Nat × Int)} (h : ∀ p ∈ l, p.1 ≤ 1000 ∧ 0 ≤ p.2 ∧ p.2 ≤ c) (hc : c ≤ 8) (hl : l.length ≤ 1000) : (Val.lst (l.map tv)).okd :=
  okd_lst (b := 2) (d := 1) (fun k hk => by
    have := h k hk
    unfold tv Val.sm Val.bk Val.dp Val.sms Val.bks Val.dps
    refine ⟨?_, by simp only [Val.bk, Val.bks]; decide, by simp only [Val.dp, Val.dps]; decide⟩
    unfold Val.sms
    rw [sm_int (by omega), sm_int (by omega)]; rfl) (by decide) (by omega)
/-! ### a lowering, upward -/
def gr (ts : List Int) (k : Nat) : Int := mx (val ts (2 * k)) (val ts (2 * k + 1))
/-- n halvings from node k on: the told classes and the row -/
def upF : Nat → Nat → List Int → List (Nat × Int) → List Int × List (Nat × Int)
  | 0, _, ts, row => (ts, row)
  | n + 1, k, ts, row => if 1 ≤ k / 2 ∧ gr ts (k / 2) < val ts (k / 2) then upF n (k / 2) (ts.set (k / 2 - 1) (gr ts (k / 2))) (row ++ [(k / 2, gr ts (k / 2))]) else upF n (k / 2) ts row
theorem upF_small : ∀ (n : Nat) {k : Nat} {ts : List Int} {row : List (Nat × Int)}, k ≤ 1 → upF n k ts row = (ts, row)
  | 0, _, _, _, _ => rfl
  | n + 1, k, ts, row, h => by
    rw [upF, if_neg (by omega), upF_small n (by omega)]
/-- what holds of a row on the way up from node f, told ts first -/
structure UpOk (c : Int) (ts0 : List Int) (f k : Nat) (ts : List Int) (row : List (Nat × Int)) : Prop where
  tsE : ts = pR ts0 row
  nd : (row.map (·.1)).Nodup
  hi : ∀ p ∈ row, k ≤ p.1 ∧ p.1 ≤ f ∧ 1 ≤ p.1
  lo : ∀ p ∈ row, 0 ≤ p.2 ∧ p.2 ≤ c ∧ p.2 < val ts0 p.1
  ln : row.length + k ≤ f + 1
theorem gr_rng {c : Int} {ts : List Int} {k : Nat} (h : ∀ z ∈ ts, 0 ≤ z ∧ z ≤ c) (h1 : 1 ≤ k) (h2 : 2 * k + 1 ≤ ts.length) : 0 ≤ gr ts k ∧ gr ts k ≤ c := by
  unfold gr
  rcases mx_or (val ts (2 * k)) (val ts (2 * k + 1)) with e | e <;> rw [e]
  · exact h _ (val_mem (by omega) (by omega))
  · exact h _ (val_mem (by omega) (by omega))
theorem UpOk.step {c : Int} {ts0 ts : List Int} {f k : Nat} {row : List (Nat × Int)} (u : UpOk c ts0 f k ts row) (h0 : ∀ z ∈ ts0, 0 ≤ z ∧ z ≤ c) (hf : f ≤ ts0.length) (k2 : 2 ≤ k) (kf : k ≤ f) (od : ts0.length % 2 = 1) (h : gr ts (k / 2) < val ts (k / 2)) :
    UpOk c ts0 f (k / 2) (ts.set (k / 2 - 1) (gr ts (k / 2))) (row ++ [(k / 2, gr ts (k / 2))]) := by
  have hl : ts.length = ts0.length := by rw [u.tsE, pR_len]
  have hr : ∀ z ∈ ts, 0 ≤ z ∧ z ≤ c := by rw [u.tsE]; exact pR_rng h0 fun p hp => ⟨(u.lo p hp).1, (u.lo p hp).2.1⟩
  have hg := gr_rng (k := k / 2) hr (by omega) (by omega)
  have hv : val ts (k / 2) = val ts0 (k / 2) := by
    rw [u.tsE]
    exact (val_pR u.nd (fun p hp => ⟨(u.hi p hp).2.2, by have := (u.hi p hp).2.1; omega⟩) (by omega)).2 fun g hg => by have := (u.hi _ hg).1; dsimp only at this; omega
  refine ⟨by rw [pR_snoc, ← u.tsE], ?_, fun p hp => ?_, fun p hp => ?_, by rw [List.length_append]; have := u.ln; show row.length + 1 + _ ≤ _; omega⟩
  · rw [List.map_append, List.nodup_append]
    refine ⟨u.nd, by simp, fun a ha b hb e => ?_⟩
    have hb : b = k / 2 := by simpa using hb
    obtain ⟨p, hp, rfl⟩ := List.mem_map.mp ha
    have := (u.hi p hp).1
    omega
  · rcases List.mem_append.mp hp with hp | hp
    · have := u.hi p hp; omega
    · rw [List.mem_singleton.mp hp]; dsimp only; omega
  · rcases List.mem_append.mp hp with hp | hp
    · exact u.lo p hp
    · rw [List.mem_singleton.mp hp]; dsimp only; rw [← hv]; exact ⟨hg.1, hg.2, h⟩
theorem UpOk.keep {c : Int} {ts0 ts : List Int} {f k : Nat} {row : List (Nat × Int)} (u : UpOk c ts0 f k ts row) (k2 : 1 ≤ k) : UpOk c ts0 f (k / 2) ts row :=
  ⟨u.tsE, u.nd, fun p hp => by have := u.hi p hp; omega, u.lo, by have := u.ln; omega⟩
theorem UpOk.all {c : Int} {ts0 : List Int} {f : Nat} (h0 : ∀ z ∈ ts0, 0 ≤ z ∧ z ≤ c) (hf : f ≤ ts0.length) (od : ts0.length % 2 = 1) : ∀ (n : Nat) {k : Nat} {ts : List Int} {row : List (Nat × Int)}, UpOk c ts0 f k ts row → k ≤ f → ∃ k', UpOk c ts0 f k' (upF n k ts row).1 (upF n k ts row).2
  | 0, k, _, _, u, _ => ⟨k, u⟩
  | n + 1, k, ts, row, u, kf => by
    rw [upF]
    by_cases c1 : 1 ≤ k / 2 ∧ gr ts (k / 2) < val ts (k / 2)
    · rw [if_pos c1]
      exact UpOk.all h0 hf od n (u.step h0 hf (by omega) kf od c1.2) (by omega)
    · rw [if_neg c1]
      by_cases k1 : 1 ≤ k
      · exact UpOk.all h0 hf od n (u.keep k1) (by omega)
      · have : k = 0 := by omega
        subst this
        exact UpOk.all h0 hf od n u (by omega)
/-- the row of a lowering of node f to t -/
def low (ts : List Int) (f : Nat) (t : Int) : List (Nat × Int) := if val ts f ≤ t then [] else (upF 6 f (ts.set (f - 1) t) [(f, t)]).2
theorem low_first {c t : Int} {ts : List Int} {f : Nat} (hf : 1 ≤ f ∧ f ≤ ts.length) (h3 : 0 ≤ t) (h4 : t ≤ c) (hv : ¬ val ts f ≤ t) : UpOk c ts f f (ts.set (f - 1) t) [(f, t)] :=
  ⟨rfl, by simp, fun p hp => by rw [List.mem_singleton.mp hp]; exact ⟨Nat.le_refl _, Nat.le_refl _, hf.1⟩, fun p hp => by rw [List.mem_singleton.mp hp]; exact ⟨h3, h4, by dsimp only; omega⟩, by show 1 + f ≤ _; omega⟩
theorem upF_mem : ∀ (n : Nat) {k : Nat} {ts : List Int} {row : List (Nat × Int)} {p : Nat × Int}, p ∈ row → p ∈ (upF n k ts row).2
  | 0, _, _, _, _, h => h
  | n + 1, k, ts, row, p, h => by
    rw [upF]
    split
    · exact upF_mem n (List.mem_append_left _ h)
    · exact upF_mem n h
structure LowF (c t : Int) (ts : List Int) (f : Nat) (R : List (Nat × Int)) : Prop where
  nd : (R.map (·.1)).Nodup
  ok : ∀ p ∈ R, 1 ≤ p.1 ∧ p.1 ≤ f ∧ 0 ≤ p.2 ∧ p.2 ≤ c ∧ p.2 < val ts p.1
  ln : R.length ≤ f + 1
  vf : val (pR ts R) f = if val ts f < t then val ts f else t
theorem low_facts {c t : Int} {ts : List Int} {f : Nat} (hl : ts.length % 2 = 1) (hr : ∀ z ∈ ts, 0 ≤ z ∧ z ≤ c) (h3 : 0 ≤ t) (h4 : t ≤ c) (hf : 1 ≤ f ∧ f ≤ ts.length) : LowF c t ts f (low ts f t) := by
  unfold low
  by_cases hv : val ts f ≤ t
  · rw [if_pos hv]
    refine ⟨List.nodup_nil, fun p h => (nomatch h), Nat.zero_le _, ?_⟩
    show val ts f = _
    by_cases c : val ts f < t
    · rw [if_pos c]
    · rw [if_neg c]; omega
  · rw [if_neg hv]
    obtain ⟨k', u⟩ := UpOk.all hr hf.2 hl 6 (low_first hf h3 h4 hv) (Nat.le_refl _)
    refine ⟨u.nd, fun p hp => ?_, by have := u.ln; omega, ?_⟩
    · have a := u.hi p hp; have b := u.lo p hp; omega
    · rw [(val_pR u.nd (fun p hp => by have := u.hi p hp; omega) hf.1).1 t (upF_mem 6 (List.mem_singleton.mpr rfl)), if_neg (by omega)]
theorem LowF.le {c t : Int} {ts : List Int} {f j : Nat} {R : List (Nat × Int)} (u : LowF c t ts f R) (hf : f ≤ ts.length) (j1 : 1 ≤ j) : val (pR ts R) j ≤ val ts j := by
  have A := val_pR (ts := ts) (j := j) u.nd (fun p hp => by have := u.ok p hp; omega) j1
  by_cases c : ∃ g, (j, g) ∈ R
  · obtain ⟨g, hg⟩ := c
    rw [A.1 g hg]
    have := (u.ok _ hg).2.2.2.2
    dsimp only at this
    omega
  · rw [A.2 fun g hg => c ⟨g, hg⟩]; exact Int.le_refl _
end Rt
set_option maxHeartbeats 4000000
namespace Rt
open PySem PySem.Spec L2 Z
theorem small_side {r : Str} (h : r = "above" ∨ r = "below") : (Val.str r).small := by
  rcases h with rfl | rfl <;> exact ⟨by decide +kernel, by decide +kernel, by decide +kernel⟩
theorem small_order {r : Str} (h : r = "anyhow" ∨ r = "in order") : (Val.str r).small := by
  rcases h with rfl | rfl <;> exact ⟨by decide +kernel, by decide +kernel, by decide +kernel⟩
theorem small_word {r : Str} (h : r = "raise" ∨ r = "lower") : (Val.str r).small := by
  rcases h with rfl | rfl <;> exact ⟨by decide +kernel, by decide +kernel, by decide +kernel⟩
theorem okd_parts {r l o : Str} {a b m : Bool} (h1 : r = "above" ∨ r = "below") (h2 : l = "above" ∨ l = "below") (h3 : o = "anyhow" ∨ o = "in order") : (Val.lst [.str r, .str l, .bl a, .bl b, .str o, .bl m]).okd :=
  (okd_all (fun v h => by
    simp only [List.mem_cons, List.not_mem_nil, or_false] at h
    rcases h with rfl | rfl | rfl | rfl | rfl | rfl
    · exact small_side h1
    · exact small_side h2
    · exact small_bl
    · exact small_bl
    · exact small_order h3
    · exact small_bl) (by show 6 ≤ 1000; decide)).1
theorem qv_tv {p q : Nat × Int} : qv (tv p) (tv q) = decide (p = q) := by
  unfold tv
  rw [qv_tup, qvs_1, qvs_1, qvs_0, qv_int, qv_int, Bool.and_true]
  obtain ⟨a, b⟩ := p
  obtain ⟨c, d⟩ := q
  by_cases h1 : a = c
  · subst h1
    by_cases h2 : b = d
    · subst h2; simp
    · simp [h2]
  · have : ¬ ((a : Int) = (c : Int)) := by omega
    simp [h1, this]
theorem qvs_tv {l m : List (Nat × Int)} : qvs (l.map tv) (m.map tv) = decide (l = m) := qvs_map fun _ _ => qv_tv
theorem small_tv {p : Nat × Int} (h : p.1 ≤ 1000 ∧ 0 ≤ p.2 ∧ p.2 ≤ 8) : (tv p).small := by
  have a : (Val.int (p.1 : Int)).sm = true := sm_int (by omega)
  have b : (Val.int p.2).sm = true := sm_int (by omega)
  refine ⟨?_, ?_, ?_⟩
  · unfold tv Val.sm Val.sms Val.sms Val.sms; rw [a, b]; rfl
  · show (2 : Nat) ≤ 100; decide
  · show (1 : Nat) ≤ 5; decide
theorem okd_rows {l : List (Nat × Int)} (h : ∀ p ∈ l, p.1 ≤ 1000 ∧ 0 ≤ p.2 ∧ p.2 ≤ 8) (hl : l.length ≤ 1000) : (Val.lst (l.map tv)).okd ∧ (Val.tup (l.map tv)).okd :=
  okd_all (fun v hv => by
    obtain ⟨p, hp, rfl⟩ := List.mem_map.mp hv
    exact small_tv (h p hp)) (by rw [List.length_map]; exact hl)
theorem mid_rows {l : List (Nat × Int)} (h : ∀ p ∈ l, p.1 ≤ 1000 ∧ 0 ≤ p.2 ∧ p.2 ≤ 8) (hl : l.length ≤ 150) : (Val.lst (l.map tv)).mid :=
  (mid_all (fun v hv => by
    obtain ⟨p, hp, rfl⟩ := List.mem_map.mp hv
    exact small_tv (h p hp)) (by rw [List.length_map]; exact hl)).1
theorem mid_ts {ts : List Int} (h : ∀ z ∈ ts, 0 ≤ z ∧ z ≤ 1000) (hl : ts.length ≤ 150) : (Val.lst (ts.map .int)).mid ∧ (Val.tup (ts.map .int)).mid :=
  mid_all (fun v hv => by
    obtain ⟨z, hz, rfl⟩ := List.mem_map.mp hv
    have := h z hz
    exact small_int (by omega)) (by rw [List.length_map]; exact hl)
theorem pR_app {l m : List (Nat × Int)} {ts : List Int} : pR ts (l ++ m) = pR (pR ts l) m := by unfold pR; rw [List.foldl_append]
theorem pR_nil {ts : List Int} : pR ts [] = ts := rfl
theorem drI {p : Int × Int} {n : Nat} (h : 0 < n) : ∃ k : Nat, k < n ∧ dr p (n : Int) = (k : Int) := by
  have a := dr_lo (p := p) (n := (n : Int)) (by omega)
  have b := dr_hi (p := p) (n := (n : Int)) (by omega)
  exact ⟨(dr p n).toNat, by omega, by omega⟩
end Rt
set_option maxHeartbeats 4000000
namespace Rt
open PySem PySem.Spec L2 Z
def topS (i : Nat) : Stmt := PySem.Challenge.pw_roomtold_k29_disks_written_and_flushed.main.body.getD i (.Pass ⟨0, 0, 0, 0⟩)
abbrev s_is_integer : Stmt := (topS 7)
theorem sc_is_integer : FnScope ["value", "least", "greatest"] ["value", "least", "greatest"] (defScope s_is_integer) := ⟨rfl, rfl, rfl, by decide +kernel, rfl, by decide +kernel, by decide +kernel⟩
abbrev s_are_integers : Stmt := (topS 8)
theorem sc_are_integers : FnScope ["value", "least", "greatest", "number"] ["value", "least", "greatest"] (defScope s_are_integers) := ⟨rfl, rfl, rfl, by decide +kernel, rfl, by decide +kernel, by decide +kernel⟩
abbrev s_are_told : Stmt := (topS 12)
theorem sc_are_told : FnScope ["value", "classes"] ["value", "classes"] (defScope s_are_told) := ⟨rfl, rfl, rfl, by decide +kernel, rfl, by decide +kernel, by decide +kernel⟩
abbrev s_Tree_init : Stmt := (inClass (topS 13) 0)
theorem sc_Tree_init : FnScope ["self", "classes", "told"] ["self", "classes", "told"] (defScope s_Tree_init) := ⟨rfl, rfl, rfl, by decide +kernel, rfl, by decide +kernel, by decide +kernel⟩
abbrev s_Tree_told : Stmt := (inClass (topS 13) 3)
theorem sc_Tree_told : FnScope ["self"] ["self"] (defScope s_Tree_told) := ⟨rfl, rfl, rfl, by decide +kernel, rfl, by decide +kernel, by decide +kernel⟩
abbrev s_Tree_len : Stmt := (inClass (topS 13) 5)
theorem sc_Tree_len : FnScope ["self"] ["self"] (defScope s_Tree_len) := ⟨rfl, rfl, rfl, by decide +kernel, rfl, by decide +kernel, by decide +kernel⟩
abbrev s_Tree_eq : Stmt := (inClass (topS 13) 15)
theorem sc_Tree_eq : FnScope ["self", "other"] ["self", "other"] (defScope s_Tree_eq) := ⟨rfl, rfl, rfl, by decide +kernel, rfl, by decide +kernel, by decide +kernel⟩
abbrev s_check_tree : Stmt := (topS 14)
theorem sc_check_tree : FnScope ["tree"] ["tree"] (defScope s_check_tree) := ⟨rfl, rfl, rfl, by decide +kernel, rfl, by decide +kernel, by decide +kernel⟩
abbrev s_is_write : Stmt := (topS 16)
theorem sc_is_write : FnScope ["tree", "value", "node", "told"] ["tree", "value"] (defScope s_is_write) := ⟨rfl, rfl, rfl, by decide +kernel, rfl, by decide +kernel, by decide +kernel⟩
abbrev s_check_row : Stmt := (topS 17)
theorem sc_check_row : FnScope ["tree", "row", "write"] ["tree", "row"] (defScope s_check_row) := ⟨rfl, rfl, rfl, by decide +kernel, rfl, by decide +kernel, by decide +kernel⟩
abbrev s_written : Stmt := (topS 18)
theorem sc_written : FnScope ["tree", "row", "told", "node", "other"] ["tree", "row"] (defScope s_written) := ⟨rfl, rfl, rfl, by decide +kernel, rfl, by decide +kernel, by decide +kernel⟩
abbrev s_Disk_init : Stmt := (inClass (topS 20) 0)
theorem sc_Disk_init : FnScope ["self", "tree"] ["self", "tree"] (defScope s_Disk_init) := ⟨rfl, rfl, rfl, by decide +kernel, rfl, by decide +kernel, by decide +kernel⟩
abbrev s_Disk_now : Stmt := (inClass (topS 20) 1)
theorem sc_Disk_now : FnScope ["self"] ["self"] (defScope s_Disk_now) := ⟨rfl, rfl, rfl, by decide +kernel, rfl, by decide +kernel, by decide +kernel⟩
abbrev s_Disk_flushed : Stmt := (inClass (topS 20) 2)
theorem sc_Disk_flushed : FnScope ["self"] ["self"] (defScope s_Disk_flushed) := ⟨rfl, rfl, rfl, by decide +kernel, rfl, by decide +kernel, by decide +kernel⟩
abbrev s_Disk_pending : Stmt := (inClass (topS 20) 3)
theorem sc_Disk_pending : FnScope ["self"] ["self"] (defScope s_Disk_pending) := ⟨rfl, rfl, rfl, by decide +kernel, rfl, by decide +kernel, by decide +kernel⟩
abbrev s_Disk_with_row : Stmt := (inClass (topS 20) 4)
theorem sc_Disk_with_row : FnScope ["self", "row", "disk"] ["self", "row"] (defScope s_Disk_with_row) := ⟨rfl, rfl, rfl, by decide +kernel, rfl, by decide +kernel, by decide +kernel⟩
abbrev s_Disk_with_flush : Stmt := (inClass (topS 20) 5)
theorem sc_Disk_with_flush : FnScope ["self"] ["self"] (defScope s_Disk_with_flush) := ⟨rfl, rfl, rfl, by decide +kernel, rfl, by decide +kernel, by decide +kernel⟩
abbrev s_Disk_eq : Stmt := (inClass (topS 20) 6)
theorem sc_Disk_eq : FnScope ["self", "other"] ["self", "other"] (defScope s_Disk_eq) := ⟨rfl, rfl, rfl, by decide +kernel, rfl, by decide +kernel, by decide +kernel⟩
abbrev s_law_opened : Stmt := (topS 22)
theorem sc_law_opened : FnScope ["_law_script", "_law_k", "_law_cell", "_law_great"] ["_law_script", "_law_k"] (defScope s_law_opened) := ⟨rfl, rfl, rfl, by decide +kernel, rfl, by decide +kernel, by decide +kernel⟩
abbrev s_law_draw : Stmt := (topS 23)
theorem sc_law_draw : FnScope ["_law_pool", "_law_many", "_law_some_one"] ["_law_pool", "_law_many"] (defScope s_law_draw) := ⟨rfl, rfl, rfl, by decide +kernel, rfl, by decide +kernel, by decide +kernel⟩
abbrev s_law_pick : Stmt := (topS 24)
theorem sc_law_pick : FnScope ["_law_pool", "_law_some"] ["_law_pool", "_law_some"] (defScope s_law_pick) := ⟨rfl, rfl, rfl, by decide +kernel, rfl, by decide +kernel, by decide +kernel⟩
abbrev s_law_write : Stmt := (topS 25)
theorem sc_law_write : FnScope ["_law_told", "_law_rows", "_law_later", "_law_node", "_law_level"] ["_law_told", "_law_rows"] (defScope s_law_write) := ⟨rfl, rfl, rfl, by decide +kernel, rfl, by decide +kernel, by decide +kernel⟩
abbrev s_law_drawn_told : Stmt := (topS 26)
theorem sc_law_drawn_told : FnScope ["_law_pool", "_law_pages", "_law_classes", "_law_rightly", "_law_told", "_law_node", "_law_most"] ["_law_pool", "_law_pages", "_law_classes", "_law_rightly"] (defScope s_law_drawn_told) := ⟨rfl, rfl, rfl, by decide +kernel, rfl, by decide +kernel, by decide +kernel⟩
abbrev s_law_drawn_rows : Stmt := (topS 27)
theorem sc_law_drawn_rows : FnScope ["_law_pool", "_law_pages", "_law_classes", "_law_many", "_law_step"] ["_law_pool", "_law_pages", "_law_classes", "_law_many"] (defScope s_law_drawn_rows) := ⟨rfl, rfl, rfl, by decide +kernel, rfl, by decide +kernel, by decide +kernel⟩
abbrev s_law_is_so : Stmt := (topS 28)
theorem sc_law_is_so : FnScope ["_law_disk", "_law_classes", "_law_base", "_law_since", "_law_some"] ["_law_disk", "_law_classes", "_law_base", "_law_since"] (defScope s_law_is_so) := ⟨rfl, rfl, rfl, by decide +kernel, rfl, by decide +kernel, by decide +kernel⟩
abbrev s_law : Stmt := (topS 29)
theorem sc_law : FnScope ["_law_script", "_law_k", "_law_pool", "_law_pages", "_law_classes", "_law_base", "_law_since", "_law_disk", "_law_step", "_law_ahead", "_law_twin", "_law_rows", "_law_again"] ["_law_script"] (defScope s_law) := ⟨rfl, rfl, rfl, by decide +kernel, rfl, by decide +kernel, by decide +kernel⟩
structure Ad where
  C_Tree : Addr
  C_Disk : Addr
  a_is_integer : Addr
  fd_is_integer : FuncData
  a_are_integers : Addr
  fd_are_integers : FuncData
  a_are_told : Addr
  fd_are_told : FuncData
  a_Tree_init : Addr
  fd_Tree_init : FuncData
  a_Tree_told : Addr
  fd_Tree_told : FuncData
  a_Tree_len : Addr
  fd_Tree_len : FuncData
  a_Tree_eq : Addr
  fd_Tree_eq : FuncData
  a_check_tree : Addr
  fd_check_tree : FuncData
  a_is_write : Addr
  fd_is_write : FuncData
  a_check_row : Addr
  fd_check_row : FuncData
  a_written : Addr
  fd_written : FuncData
  a_Disk_init : Addr
  fd_Disk_init : FuncData
  a_Disk_now : Addr
  fd_Disk_now : FuncData
  a_Disk_flushed : Addr
  fd_Disk_flushed : FuncData
  a_Disk_pending : Addr
  fd_Disk_pending : FuncData
  a_Disk_with_row : Addr
  fd_Disk_with_row : FuncData
  a_Disk_with_flush : Addr
  fd_Disk_with_flush : FuncData
  a_Disk_eq : Addr
  fd_Disk_eq : FuncData
  a_law_opened : Addr
  fd_law_opened : FuncData
  a_law_draw : Addr
  fd_law_draw : FuncData
  a_law_pick : Addr
  fd_law_pick : FuncData
  a_law_write : Addr
  fd_law_write : FuncData
  a_law_drawn_told : Addr
  fd_law_drawn_told : FuncData
  a_law_drawn_rows : Addr
  fd_law_drawn_rows : FuncData
  a_law_is_so : Addr
  fd_law_is_so : FuncData
  a_law : Addr
  fd_law : FuncData
  pp_Tree_told : Addr
  pp_Disk_now : Addr
  pp_Disk_flushed : Addr
  pp_Disk_pending : Addr
  t_NODES : Addr
  tk_MOST_CLASSES : Tok
structure Txt (K : PySem.W.Frag) (mg : Str → Option Value) (a : Ad) : Prop where
  cl_Tree : Cls K a.C_Tree
  g_Tree : mg "Tree" = some (.ref a.C_Tree)
  nf_Tree_classes : NoAttr K a.C_Tree "classes"
  nf_Tree_told : NoAttr K a.C_Tree "_told"
  mk_Tree : Mk K a.C_Tree a.a_Tree_init
  m_Tree_len : Meth K a.C_Tree "__len__" a.a_Tree_len
  m_Tree_eq : Meth K a.C_Tree "__eq__" a.a_Tree_eq
  p_Tree_told : PropOf K a.C_Tree "told" a.pp_Tree_told a.a_Tree_told
  hm_Tree : PySem.W.mroIn K a.C_Tree (.type "object") = some true
  ha_Tree : PySem.W.findIn K (.ref a.C_Tree) "__class__" = some (some (.builtin "object.__class__"))
  hn_Tree : PySem.W.specialIn K (.builtin "object.__class__") "__get__" = some (some (.builtin "getset_descriptor.__get__"))
  ht_Tree : PySem.W.takesIn K (.builtin "object.__class__") = some true
  ss_Tree : PySem.W.subIn K (.ref a.C_Tree) (.ref a.C_Tree) = some true
  ne_Tree : PySem.W.findIn K (.ref a.C_Tree) "__ne__" = some (some (.builtin "object.__ne__"))
  cl_Disk : Cls K a.C_Disk
  g_Disk : mg "Disk" = some (.ref a.C_Disk)
  nf_Disk_now : NoAttr K a.C_Disk "_now"
  nf_Disk_flushed : NoAttr K a.C_Disk "_flushed"
  nf_Disk_pending : NoAttr K a.C_Disk "_pending"
  mk_Disk : Mk K a.C_Disk a.a_Disk_init
  m_Disk_with_row : Meth K a.C_Disk "with_row" a.a_Disk_with_row
  m_Disk_with_flush : Meth K a.C_Disk "with_flush" a.a_Disk_with_flush
  m_Disk_eq : Meth K a.C_Disk "__eq__" a.a_Disk_eq
  p_Disk_now : PropOf K a.C_Disk "now" a.pp_Disk_now a.a_Disk_now
  p_Disk_flushed : PropOf K a.C_Disk "flushed" a.pp_Disk_flushed a.a_Disk_flushed
  p_Disk_pending : PropOf K a.C_Disk "pending" a.pp_Disk_pending a.a_Disk_pending
  hm_Disk : PySem.W.mroIn K a.C_Disk (.type "object") = some true
  ha_Disk : PySem.W.findIn K (.ref a.C_Disk) "__class__" = some (some (.builtin "object.__class__"))
  hn_Disk : PySem.W.specialIn K (.builtin "object.__class__") "__get__" = some (some (.builtin "getset_descriptor.__get__"))
  ht_Disk : PySem.W.takesIn K (.builtin "object.__class__") = some true
  sb_Disk_NoneType : PySem.W.subIn K (.type "NoneType") (.ref a.C_Disk) = some false
  sb_Disk_bool : PySem.W.subIn K (.type "bool") (.ref a.C_Disk) = some false
  sb_Disk_int : PySem.W.subIn K (.type "int") (.ref a.C_Disk) = some false
  sb_Disk_str : PySem.W.subIn K (.type "str") (.ref a.C_Disk) = some false
  sb_Disk_tuple : PySem.W.subIn K (.type "tuple") (.ref a.C_Disk) = some false
  sb_Disk_list : PySem.W.subIn K (.type "list") (.ref a.C_Disk) = some false
  ic_Disk : PySem.W.isClsIn K a.C_Disk = true
  ty_Disk : PySem.W.typeIn K (.ref a.C_Disk) = some (.type "type")
  so_Tree_Disk : PySem.W.subIn K (.ref a.C_Tree) (.ref a.C_Disk) = some false
  ne_Disk : PySem.W.findIn K (.ref a.C_Disk) "__ne__" = some (some (.builtin "object.__ne__"))
  F_is_integer : Fun K "is_integer" "is_integer" s_is_integer a.a_is_integer a.fd_is_integer
  b_is_integer : Binds K a.fd_is_integer ["value", "least", "greatest"] []
  g_is_integer : mg "is_integer" = some (.ref a.a_is_integer)
  F_are_integers : Fun K "are_integers" "are_integers" s_are_integers a.a_are_integers a.fd_are_integers
  b_are_integers : Binds K a.fd_are_integers ["value", "least", "greatest"] []
  g_are_integers : mg "are_integers" = some (.ref a.a_are_integers)
  F_are_told : Fun K "are_told" "are_told" s_are_told a.a_are_told a.fd_are_told
  b_are_told : Binds K a.fd_are_told ["value", "classes"] []
  g_are_told : mg "are_told" = some (.ref a.a_are_told)
  F_Tree_init : Fun K "__init__" "Tree.__init__" s_Tree_init a.a_Tree_init a.fd_Tree_init
  b_Tree_init : Binds K a.fd_Tree_init ["self", "classes", "told"] []
  F_Tree_told : Fun K "told" "Tree.told" s_Tree_told a.a_Tree_told a.fd_Tree_told
  b_Tree_told : Binds K a.fd_Tree_told ["self"] []
  F_Tree_len : Fun K "__len__" "Tree.__len__" s_Tree_len a.a_Tree_len a.fd_Tree_len
  b_Tree_len : Binds K a.fd_Tree_len ["self"] []
  F_Tree_eq : Fun K "__eq__" "Tree.__eq__" s_Tree_eq a.a_Tree_eq a.fd_Tree_eq
  b_Tree_eq : Binds K a.fd_Tree_eq ["self", "other"] []
  F_check_tree : Fun K "check_tree" "check_tree" s_check_tree a.a_check_tree a.fd_check_tree
  b_check_tree : Binds K a.fd_check_tree ["tree"] []
  g_check_tree : mg "check_tree" = some (.ref a.a_check_tree)
  F_is_write : Fun K "is_write" "is_write" s_is_write a.a_is_write a.fd_is_write
  b_is_write : Binds K a.fd_is_write ["tree", "value"] []
  g_is_write : mg "is_write" = some (.ref a.a_is_write)
  F_check_row : Fun K "check_row" "check_row" s_check_row a.a_check_row a.fd_check_row
  b_check_row : Binds K a.fd_check_row ["tree", "row"] []
  g_check_row : mg "check_row" = some (.ref a.a_check_row)
  F_written : Fun K "written" "written" s_written a.a_written a.fd_written
  b_written : Binds K a.fd_written ["tree", "row"] []
  g_written : mg "written" = some (.ref a.a_written)
  F_Disk_init : Fun K "__init__" "Disk.__init__" s_Disk_init a.a_Disk_init a.fd_Disk_init
  b_Disk_init : Binds K a.fd_Disk_init ["self", "tree"] []
  F_Disk_now : Fun K "now" "Disk.now" s_Disk_now a.a_Disk_now a.fd_Disk_now
  b_Disk_now : Binds K a.fd_Disk_now ["self"] []
  F_Disk_flushed : Fun K "flushed" "Disk.flushed" s_Disk_flushed a.a_Disk_flushed a.fd_Disk_flushed
  b_Disk_flushed : Binds K a.fd_Disk_flushed ["self"] []
  F_Disk_pending : Fun K "pending" "Disk.pending" s_Disk_pending a.a_Disk_pending a.fd_Disk_pending
  b_Disk_pending : Binds K a.fd_Disk_pending ["self"] []
  F_Disk_with_row : Fun K "with_row" "Disk.with_row" s_Disk_with_row a.a_Disk_with_row a.fd_Disk_with_row
  b_Disk_with_row : Binds K a.fd_Disk_with_row ["self", "row"] []
  F_Disk_with_flush : Fun K "with_flush" "Disk.with_flush" s_Disk_with_flush a.a_Disk_with_flush a.fd_Disk_with_flush
  b_Disk_with_flush : Binds K a.fd_Disk_with_flush ["self"] []
  F_Disk_eq : Fun K "__eq__" "Disk.__eq__" s_Disk_eq a.a_Disk_eq a.fd_Disk_eq
  b_Disk_eq : Binds K a.fd_Disk_eq ["self", "other"] []
  F_law_opened : Fun K "_law_opened" "_law_opened" s_law_opened a.a_law_opened a.fd_law_opened
  b_law_opened : Binds K a.fd_law_opened ["_law_script", "_law_k"] []
  g__law_opened : mg "_law_opened" = some (.ref a.a_law_opened)
  F_law_draw : Fun K "_law_draw" "_law_draw" s_law_draw a.a_law_draw a.fd_law_draw
  b_law_draw : Binds K a.fd_law_draw ["_law_pool", "_law_many"] []
  g__law_draw : mg "_law_draw" = some (.ref a.a_law_draw)
  F_law_pick : Fun K "_law_pick" "_law_pick" s_law_pick a.a_law_pick a.fd_law_pick
  b_law_pick : Binds K a.fd_law_pick ["_law_pool", "_law_some"] []
  g__law_pick : mg "_law_pick" = some (.ref a.a_law_pick)
  F_law_write : Fun K "_law_write" "_law_write" s_law_write a.a_law_write a.fd_law_write
  b_law_write : Binds K a.fd_law_write ["_law_told", "_law_rows"] []
  g__law_write : mg "_law_write" = some (.ref a.a_law_write)
  F_law_drawn_told : Fun K "_law_drawn_told" "_law_drawn_told" s_law_drawn_told a.a_law_drawn_told a.fd_law_drawn_told
  b_law_drawn_told : Binds K a.fd_law_drawn_told ["_law_pool", "_law_pages", "_law_classes", "_law_rightly"] []
  g__law_drawn_told : mg "_law_drawn_told" = some (.ref a.a_law_drawn_told)
  F_law_drawn_rows : Fun K "_law_drawn_rows" "_law_drawn_rows" s_law_drawn_rows a.a_law_drawn_rows a.fd_law_drawn_rows
  b_law_drawn_rows : Binds K a.fd_law_drawn_rows ["_law_pool", "_law_pages", "_law_classes", "_law_many"] []
  g__law_drawn_rows : mg "_law_drawn_rows" = some (.ref a.a_law_drawn_rows)
  F_law_is_so : Fun K "_law_is_so" "_law_is_so" s_law_is_so a.a_law_is_so a.fd_law_is_so
  b_law_is_so : Binds K a.fd_law_is_so ["_law_disk", "_law_classes", "_law_base", "_law_since"] []
  g__law_is_so : mg "_law_is_so" = some (.ref a.a_law_is_so)
  F_law : Fun K "law" "law" s_law a.a_law a.fd_law
  b_law : Binds K a.fd_law ["_law_script"] []
  g_law : mg "law" = some (.ref a.a_law)
  g_NODES : mg "NODES" = some (.ref a.t_NODES)
  q_NODES : ∀ H, SqT K H a.t_NODES [.int 3, .int 7, .int 15, .int 31, .int 63]
  c_MOST_CLASSES : mg "MOST_CLASSES" = some (.int 8 a.tk_MOST_CLASSES)
  n_bool : mg "bool" = none
  n_int : mg "int" = none
  n_isinstance : mg "isinstance" = none
  n_len : mg "len" = none
  n_list : mg "list" = none
  n_max : mg "max" = none
  n_min : mg "min" = none
  n_range : mg "range" = none
  n_tuple : mg "tuple" = none
abbrev gs (a : Ad) : Gs := {
  C := fun c => match c with | 0 => a.C_Tree | 3 => a.C_Disk | _ => a.C_Tree
  flds := fun c => match c with | 0 => ["classes", "_told"] | 3 => ["_now", "_flushed", "_pending"] | _ => []
  st := fun _ => .non }
theorem cf_Tree {K : PySem.W.Frag} {mg : Str → Option Value} {a : Ad} (T : Txt K mg a) : ClsF K (gs a) 0 := ⟨T.cl_Tree, (by decide : (["classes", "_told"] : List Str).Nodup), List.forall_mem_cons.2 ⟨T.nf_Tree_classes, List.forall_mem_cons.2 ⟨T.nf_Tree_told, fun _ h => nomatch h⟩⟩, (by decide : (["classes", "_told"] : List Str).length < 100)⟩
theorem ot_Tree {K : PySem.W.Frag} {mg : Str → Option Value} {a : Ad} (T : Txt K mg a) : OwnT K ((gs a).C 0) := ⟨T.cl_Tree, T.ha_Tree, T.hn_Tree, T.ht_Tree, T.hm_Tree⟩
theorem cf_Disk {K : PySem.W.Frag} {mg : Str → Option Value} {a : Ad} (T : Txt K mg a) : ClsF K (gs a) 3 := ⟨T.cl_Disk, (by decide : (["_now", "_flushed", "_pending"] : List Str).Nodup), List.forall_mem_cons.2 ⟨T.nf_Disk_now, List.forall_mem_cons.2 ⟨T.nf_Disk_flushed, List.forall_mem_cons.2 ⟨T.nf_Disk_pending, fun _ h => nomatch h⟩⟩⟩, (by decide : (["_now", "_flushed", "_pending"] : List Str).length < 100)⟩
theorem ot_Disk {K : PySem.W.Frag} {mg : Str → Option Value} {a : Ad} (T : Txt K mg a) : OwnT K ((gs a).C 3) := ⟨T.cl_Disk, T.ha_Disk, T.hn_Disk, T.ht_Disk, T.hm_Disk⟩
theorem on_Disk {K : PySem.W.Frag} {mg : Str → Option Value} {a : Ad} (T : Txt K mg a) : OwnN K (gs a) 3 [0, 3] where
  ty := List.forall_mem_cons.2 ⟨kit_tyN T.ic_Disk T.ty_Disk T.sb_Disk_NoneType, List.forall_mem_cons.2 ⟨kit_tyN T.ic_Disk T.ty_Disk T.sb_Disk_bool, List.forall_mem_cons.2 ⟨kit_tyN T.ic_Disk T.ty_Disk T.sb_Disk_int, List.forall_mem_cons.2 ⟨kit_tyN T.ic_Disk T.ty_Disk T.sb_Disk_str, List.forall_mem_cons.2 ⟨kit_tyN T.ic_Disk T.ty_Disk T.sb_Disk_tuple, List.forall_mem_cons.2 ⟨kit_tyN T.ic_Disk T.ty_Disk T.sb_Disk_list, fun _ h => nomatch h⟩⟩⟩⟩⟩⟩
  me := ot_Disk T
  ot := fun d hd hn => by
    have hm := List.contains_iff_mem.mp hd
    simp only [List.mem_cons, List.not_mem_nil, or_false] at hm
    rcases hm with rfl | rfl
    · exact ⟨ot_Tree T, kit_reN T.ic_Disk T.ty_Disk T.so_Tree_Disk T.ss_Tree⟩
    · exact absurd rfl hn
def b_is_integer : M Ctl :=
    (sq (sIf (tor (tnot (tst (cb (blO (isB "int")) (hasS 0)))) (tst (cb (blO (isB "bool")) (hasS 0))))
    (sRet (cst (.bl false)))
    sNext)
    (sRet (chn ile ile (vr 1) (vr 0) (vr 2))))
def f_is_integer : Fn := ⟨[.d, .d, .d], 3, b_is_integer⟩
def b_Tree_told : M Ctl :=
    (sRet (mkLT id (oE (fld 0 1 (hasS 0)))))
def f_Tree_told : Fn := ⟨[.d], 1, b_Tree_told⟩
def b_Tree_len : M Ctl :=
    (sRet (cb lenV (oE (slT (oE (fld 0 1 (hasS 0))) (oI (bi idiv (cb lenV (oE (fld 0 1 (hasS 0)))) (cst (.int 2)))) oN))))
def f_Tree_len : Fn := ⟨[.d], 1, b_Tree_len⟩
def b_Tree_eq : M Ctl :=
    (sRet (band (cb (blO (isO 0)) (hasS 1)) (band (bi eqS (fld 0 0 (hasS 0)) (fld 0 0 (hasS 1))) (bo eqD (oE (fld 0 1 (hasS 0))) (oE (fld 0 1 (hasS 1)))))))
def f_Tree_eq : Fn := ⟨[.d, .d], 2, b_Tree_eq⟩
def b_check_tree : M Ctl :=
    (sIf (tnot (tst (cb (blO (isO 0)) (hasS 0))))
    fail
    sNext)
def f_check_tree : Fn := ⟨[.d], 1, b_check_tree⟩
def b_Disk_now : M Ctl :=
    (sRet (fld 3 0 (hasS 0)))
def f_Disk_now : Fn := ⟨[.d], 1, b_Disk_now⟩
def b_Disk_flushed : M Ctl :=
    (sRet (fld 3 1 (hasS 0)))
def f_Disk_flushed : Fn := ⟨[.d], 1, b_Disk_flushed⟩
def b_Disk_pending : M Ctl :=
    (sRet (mkLT id (oE (fld 3 2 (hasS 0)))))
def f_Disk_pending : Fn := ⟨[.d], 1, b_Disk_pending⟩
def b_law_opened : M Ctl :=
    (sq (sSetF 2 (ife (tst (bi ilt (vr 1) (cb lenV (hasS 0)))) (idx (hasS 0) (vr 1)) (cst (.int 5))))
    (sq (sSetF 3 (bi max2 (cb intV (hasS 2)) (cb intV (oE (bi isub (un ineg (cst (.int 1))) (vr 2))))))
    (sRet (eLst (isCons (bi imul (vr 3) (cb intV (oE (bi ige (vr 3) (bi ipow (cst (.int 10)) (cst (.int 18))))))) (isCons (bi imod (cb intV (oE (bi imul (bi iadd (bi iadd (bi imod (vr 3) (cst (.int 2147483629))) (bi imul (cst (.int 7919)) (vr 1))) (cst (.int 17))) (cst (.int 48271))))) (cst (.int 2147483647))) isNil))))))
def f_law_opened : Fn := ⟨[.d, .d], 4, b_law_opened⟩
def b_law_draw : M Ctl :=
    (sq (sIf (tst (bi igt (idx (hasS 0) (cst (.int 0))) (cst (.int 0))))
    (sq (sSetF 2 (bi imod (cb intV (oE (idx (hasS 0) (cst (.int 0))))) (vr 1)))
      (sq (sSetAt 0 (cst (.int 0)) (bi idiv (idx (hasS 0) (cst (.int 0))) (vr 1)))
      (sRet (vr 2))))
    sNext)
    (sq (sSetAt 0 (cst (.int 1)) (bi imod (cb intV (oE (bi iadd (bi imul (idx (hasS 0) (cst (.int 1))) (cst (.int 39373))) (cst (.int 7))))) (cst (.int 2147483647))))
    (sRet (bi imod (bi idiv (bi imod (cb intV (oE (bi imul (idx (hasS 0) (cst (.int 1))) (idx (hasS 0) (cst (.int 1)))))) (cst (.int 2147483629))) (cst (.int 32))) (vr 1)))))
def f_law_draw : Fn := ⟨[.io, .d], 3, b_law_draw⟩
def b_law_write : M Ctl :=
    (sq (sSet 2 (mkL id (hasS 0)))
    (sq (sFor (tgT [(tgN 3), (tgN 4)]) (itL (hasS 1))
    (sSetAt 2 (bi isub (vr 3) (cst (.int 1))) (vr 4)))
    (sRet (mvv 2))))
def f_law_write : Fn := ⟨[.d, .d], 5, b_law_write⟩
def b_are_integers : M Ctl :=
    (sq (sIf (tnot (tst (cb (blO (isBT ["list", "tuple"])) (hasS 0))))
    (sRet (cst (.bl false)))
    sNext)
    (sq (sFor (tgN 3) (itL (hasS 0))
    (sIf (tnot (tst (call f_is_integer [] (aV (vr 3) (aV (vr 1) (aV (vr 2) aNil))))))
      (sRet (cst (.bl false)))
      sNext))
    (sRet (cst (.bl true)))))
def f_are_integers : Fn := ⟨[.r, .d, .d], 4, b_are_integers⟩
def b_Disk_init : M Ctl :=
    (sq (sEx (call f_check_tree [] (aV (vr 1) aNil)))
    (sq (sFldZ 3 0 0 (vr 1))
    (sq (sFldZ 3 1 0 (vr 1))
    (sFldZ 3 2 0 (eTup isNil)))))
def f_Disk_init : Fn := ⟨[.io, .d], 2, b_Disk_init⟩
def b_Disk_eq : M Ctl :=
    (sq (sIf (tnot (tst (cb (blO (isOX 3 [0, 3])) (hasS 1))))
    (sRet (cst (.bl false)))
    sNext)
    (sRet (band (eqOwn 0 f_Tree_eq (oE (fld 3 0 (hasS 0))) (oE (fld 3 0 (hasS 1)))) (band (eqOwn 0 f_Tree_eq (oE (fld 3 1 (hasS 0))) (oE (fld 3 1 (hasS 1)))) (bo eqD (oE (fld 3 2 (hasS 0))) (oE (fld 3 2 (hasS 1))))))))
def f_Disk_eq : Fn := ⟨[.d, .d], 2, b_Disk_eq⟩
def b_law_pick : M Ctl :=
    (sRet (idx (hasS 1) (call f_law_draw [] (aS 0 (aV (cb lenV (hasS 1)) aNil)))))
def f_law_pick : Fn := ⟨[.io, .d], 2, b_law_pick⟩
def b_law_drawn_told : M Ctl :=
    (sq (sSet 4 (eLst isNil))
    (sq (sFor (tgN 5) (itR2 (cst (.int 1)) (bi imul (cst (.int 2)) (vr 1)))
    (sq (sSetF 6 (ife (tand (tst (vr 3)) (tst (bi igt (vr 5) (cst (.int 1))))) (idx (hasS 4) (bi isub (bi idiv (vr 5) (cst (.int 2))) (cst (.int 1)))) (vr 2)))
      (sApp 4 (bi isub (vr 6) (call f_law_draw [] (aS 0 (aV (bi iadd (vr 6) (cst (.int 1))) aNil)))))))
    (sRet (mvv 4))))
def f_law_drawn_told : Fn := ⟨[.io, .d, .d, .d], 7, b_law_drawn_told⟩
def b_law_drawn_rows : M Ctl :=
    (sRet (lc [4] (tgN 4) (itR1 (vr 3)) tTrue (eTup (isCons (bi iadd (cst (.int 1)) (call f_law_draw [] (aS 0 (aV (bi isub (bi imul (cst (.int 2)) (vr 1)) (cst (.int 1))) aNil)))) (isCons (call f_law_draw [] (aS 0 (aV (bi iadd (vr 2) (cst (.int 1))) aNil))) isNil)))))
def f_law_drawn_rows : Fn := ⟨[.io, .d, .d, .d], 5, b_law_drawn_rows⟩
def b_are_told : M Ctl :=
    (sRet (band (call f_are_integers [] (aS 0 (aV (cst (.int 0)) (aV (vr 1) aNil)))) (bo (inF false) (oE (cb lenV (hasS 0))) (oE (cst (.tup ([3, 7, 15, 31, 63].map .int)))))))
def f_are_told : Fn := ⟨[.r, .d], 2, b_are_told⟩
def b_is_write : M Ctl :=
    (sq (sIf (tor (tnot (tst (cb (blO (isB "tuple")) (hasS 1)))) (tst (bi neS (cb lenV (hasS 1)) (cst (.int 2)))))
    (sRet (cst (.bl false)))
    sNext)
    (sq (sAsg (tgT [(tgN 2), (tgN 3)]) (vr 1))
    (sRet (band (call f_is_integer [] (aV (vr 2) (aV (cst (.int 1)) (aV (bi isub (bi imul (cst (.int 2)) (lenOwn 0 f_Tree_len (oE (vr 0)))) (cst (.int 1))) aNil)))) (call f_is_integer [] (aV (vr 3) (aV (cst (.int 0)) (aV (fld 0 0 (hasS 0)) aNil))))))))
def f_is_write : Fn := ⟨[.d, .d], 4, b_is_write⟩
def b_Tree_init : M Ctl :=
    (sq (sIf (tnot (tst (call f_is_integer [] (aV (vr 1) (aV (cst (.int 1)) (aV (cst (.int 8)) aNil))))))
    fail
    sNext)
    (sq (sIf (tnot (tst (call f_are_told [] (aS 2 (aV (vr 1) aNil)))))
    fail
    sNext)
    (sq (sFldZ 0 0 0 (vr 1))
    (sFldZ 0 1 0 (fz (mkT (hasS 2)))))))
def f_Tree_init : Fn := ⟨[.io, .d, .r], 3, b_Tree_init⟩
def b_check_row : M Ctl :=
    (sq (sEx (call f_check_tree [] (aV (vr 0) aNil)))
    (sq (sIf (tnot (tst (cb (blO (isB "list")) (hasS 1))))
    fail
    sNext)
    (sFor (tgN 2) (itL (hasS 1))
    (sIf (tnot (tst (call f_is_write [] (aV (vr 0) (aV (vr 2) aNil)))))
      fail
      sNext))))
def f_check_row : Fn := ⟨[.d, .r], 3, b_check_row⟩
def b_Disk_with_flush : M Ctl :=
    (sRet (mk 3 f_Disk_init [] (aV (fld 3 0 (hasS 0)) aNil)))
def f_Disk_with_flush : Fn := ⟨[.d], 1, b_Disk_with_flush⟩
def b_written : M Ctl :=
    (sq (sEx (call f_check_row [] (aV (vr 0) (aS 1 aNil))))
    (sq (sSet 2 (prop 0 f_Tree_told (oE (vr 0))))
    (sq (sFor (tgT [(tgN 3), (tgN 4)]) (itL (hasS 1))
    (sSetAt 2 (bi isub (vr 3) (cst (.int 1))) (vr 4)))
    (sRet (mk 0 f_Tree_init [] (aV (fld 0 0 (hasS 0)) (aS 2 aNil)))))))
def f_written : Fn := ⟨[.d, .r], 5, b_written⟩
def b_law_is_so : M Ctl :=
    (sq (sIf (tor (tst (neOwn 0 f_Tree_eq (oE (prop 3 f_Disk_flushed (oE (vr 0)))) (oE (mk 0 f_Tree_init [] (aV (vr 1) (aS 2 aNil)))))) (tst (neOwn 0 f_Tree_eq (oE (prop 3 f_Disk_now (oE (vr 0)))) (oE (mk 0 f_Tree_init [] (aV (vr 1) (aV (call f_law_write [] (aV (vr 2) (aV (vr 3) aNil))) aNil)))))))
    (sRet (cst (.bl false)))
    sNext)
    (sq (sSet 4 (prop 3 f_Disk_pending (oE (vr 0))))
    (sq (sIf (tst (bo neD (hasS 4) (hasS 3)))
    (sRet (cst (.bl false)))
    sNext)
    (sq (sApp 4 (cst .non))
    (sRet (bo eqD (oE (prop 3 f_Disk_pending (oE (vr 0)))) (hasS 3)))))))
def f_law_is_so : Fn := ⟨[.d, .d, .d, .d], 5, b_law_is_so⟩
def b_Disk_with_row : M Ctl :=
    (sq (sSet 2 (mk 3 f_Disk_init [] (aV (fld 3 1 (hasS 0)) aNil)))
    (sq (sFldZ 3 0 2 (fz (call f_written [] (aV (fld 3 0 (hasS 0)) (aS 1 aNil)))))
    (sq (sFldZ 3 2 2 (fz (catT (oE (fld 3 2 (hasS 0))) (oE (mkT (hasS 1))))))
    (sRet (mvv 2)))))
def f_Disk_with_row : Fn := ⟨[.d, .r], 3, b_Disk_with_row⟩
def b_law : M Ctl :=
    (sq (sFor (tgN 1) (itR1 (bi max2 (cst (.int 1)) (bi min2 (cst (.int 5)) (cb lenV (hasS 0)))))
    (sq (sSet 2 (call f_law_opened [] (aV (vr 0) (aV (vr 1) aNil))))
      (sq (sPar2 3 4 (isCons (call f_law_pick [] (aS 2 (aV (eLst (isCons (cst (.int 2)) (isCons (cst (.int 4)) (isCons (cst (.int 8)) isNil)))) aNil))) (isCons (bi iadd (cst (.int 1)) (call f_law_draw [] (aS 2 (aV (cst (.int 4)) aNil)))) isNil)))
      (sq (sPar2 5 6 (isCons (fz (call f_law_drawn_told [] (aS 2 (aV (vr 3) (aV (vr 4) (aV (cst (.bl false)) aNil)))))) (isCons (fz (eLst isNil)) isNil)))
      (sq (sSetF 7 (mk 3 f_Disk_init [] (aV (mk 0 f_Tree_init [] (aV (vr 4) (aS 5 aNil))) aNil)))
      (sFor (tgN 8) (itR1 (cst (.int 8)))
      (sq (sPar2 9 10 (isCons (fz (eLst (isCons (vr 5) (isCons (vr 6) isNil)))) (isCons (vr 7) isNil)))
        (sq (sIf (tst (bi eqS (call f_law_draw [] (aS 2 (aV (cst (.int 4)) aNil))) (cst (.int 0))))
        (sPar3 7 5 6 (isCons (fz (meth 3 f_Disk_with_flush [] (oE (vr 7)) aNil)) (isCons (fz (call f_law_write [] (aV (vr 5) (aV (vr 6) aNil)))) (isCons (fz (eLst isNil)) isNil))))
        (sq (sSet 11 (call f_law_drawn_rows [] (aS 2 (aV (vr 3) (aV (vr 4) (aV (call f_law_draw [] (aS 2 (aV (cst (.int 4)) aNil))) aNil))))))
          (sq (sPar2 7 6 (isCons (fz (meth 3 f_Disk_with_row [] (oE (vr 7)) (aS 11 aNil))) (isCons (fz (cat (hasS 6) (hasS 11))) isNil)))
          (sApp 11 (cst .non)))))
        (sq (sIf (tor (tnot (tst (call f_law_is_so [] (aV (vr 7) (aV (vr 4) (aV (vr 5) (aV (vr 6) aNil))))))) (tnot (tst (call f_law_is_so [] (aV (vr 10) (aV (vr 4) (aV (idx (hasS 9) (cst (.int 0))) (aV (idx (hasS 9) (cst (.int 1))) aNil))))))))
        (sRet (cst (.bl false)))
        sNext)
        (sq (sSetF 12 (meth 3 f_Disk_with_row [] (oE (mk 3 f_Disk_init [] (aV (mk 0 f_Tree_init [] (aV (vr 4) (aS 5 aNil))) aNil))) (aV (mkL id (hasS 6)) aNil)))
        (sIf (tor (tst (neOwn 3 f_Disk_eq (oE (vr 12)) (oE (vr 7)))) (tor (tst (bi neS (eqOwn 3 f_Disk_eq (oE (vr 7)) (oE (vr 10))) (bo eqD (hasS 9) (oE (eLst (isCons (vr 5) (isCons (vr 6) isNil))))))) (tst (eqOwnA 3 f_Disk_eq (oE (vr 7)) (oE (vr 5))))))
        (sRet (cst (.bl false)))
        sNext)))))))))))
    (sRet (cst (.bl true))))
def f_law : Fn := ⟨[.d], 13, b_law⟩
end Rt
set_option maxHeartbeats 4000000
namespace Rt
open PySem PySem.Spec L2 Z
section
variable {P : Program} {w : World} {K : PySem.W.Frag} {mg : Str → Option Value} {base : Heap} {a : Ad}
theorem ok_is_integer (T : Txt K mg a) : FnOk P w K mg base CX0 1 a.a_is_integer a.fd_is_integer ["value", "least", "greatest"] (spZ K (gs a) f_is_integer) :=
  T.F_is_integer.ok sc_is_integer (fun vs H Q E h => spZ_len rfl h) (fun cdv A outer s H vs Q E hr h => ⟨tS K (gs a) E b_is_integer,
    (zs_cons (pss_cons (z_if (ps_if (PW.pt (zw_or (zt_not (zt_val (z_isB kb_int (fun _ _ _ h => h) (pe_callB call_isi (by rfl) T.n_isinstance (by decide +kernel) (pa_cons (z_oS (pv 0)) (pa_cons (pe_bltn (v := .ty "int") (by rfl) T.n_int (by decide +kernel) rfl) pa_nil)))) (fun _ => rfl))) (zw_or1 (zt_val (z_isB kb_bool (fun _ _ _ h => h) (pe_callB call_isi (by rfl) T.n_isinstance (by decide +kernel) (pa_cons (z_oS (pv 0)) (pa_cons (pe_bltn (v := .ty "bool") (by rfl) T.n_bool (by decide +kernel) rfl) pa_nil)))) (fun _ => rfl)))))
    (pss_one (z_ret (ps_ret (z_c pe_bl sca_bl))))
    (zs_nil pss_nil)))
    (pss_one (z_ret (ps_ret (z_chain op_le op_le k_le k_le (by with_unfolding_all rfl) (z_vr (pv 1)) (z_vr (pv 0)) (z_vr (pv 2)))))))),
    enter (f := f_is_integer) h rfl (by decide)⟩)
theorem ok_Tree_told (T : Txt K mg a) : FnOk P w K mg base CX0 1 a.a_Tree_told a.fd_Tree_told ["self"] (spZ K (gs a) f_Tree_told) :=
  T.F_Tree_told.ok sc_Tree_told (fun vs H Q E h => spZ_len rfl h) (fun cdv A outer s H vs Q E hr h => ⟨tS K (gs a) E b_Tree_told,
    (pss_one (z_ret (ps_ret (z_listT (pe_callTy call_list_of (by rfl) T.n_list (by decide +kernel) (pa_cons (z_oE (z_fld (G := gs a) (c := 0) (j := 1) (cf_Tree T) rfl (pe_fld (z_oS (pv 0)) rfl))) pa_nil)))))),
    enter (f := f_Tree_told) h rfl (by decide)⟩)
theorem ok_Tree_len (T : Txt K mg a) : FnOk P w K mg base CX0 1 a.a_Tree_len a.fd_Tree_len ["self"] (spZ K (gs a) f_Tree_len) :=
  T.F_Tree_len.ok sc_Tree_len (fun vs H Q E h => spZ_len rfl h) (fun cdv A outer s H vs Q E hr h => ⟨tS K (gs a) E b_Tree_len,
    (pss_one (z_ret (ps_ret (z_cb k_len (pe_callB call_len_seq (by rfl) T.n_len PySem.boot_len (pa_cons (z_oE (z_slT (pe_slice sl_tupA (z_oE (z_fld (G := gs a) (c := 0) (j := 1) (cf_Tree T) rfl (pe_fld (z_oS (pv 0)) rfl))) (zo_some (z_op op_fdiv k_div (z_cb k_len (pe_callB call_len_seq (by rfl) T.n_len PySem.boot_len (pa_cons (z_oE (z_fld (G := gs a) (c := 0) (j := 1) (cf_Tree T) rfl (pe_fld (z_oS (pv 0)) rfl))) pa_nil))) (z_c pe_int sca_int))) zo_none))) pa_nil)))))),
    enter (f := f_Tree_len) h rfl (by decide)⟩)
theorem ok_Tree_eq (T : Txt K mg a) : FnOk P w K mg base CX0 1 a.a_Tree_eq a.fd_Tree_eq ["self", "other"] (spZ K (gs a) f_Tree_eq) :=
  T.F_Tree_eq.ok sc_Tree_eq (fun vs H Q E h => spZ_len rfl h) (fun cdv A outer s H vs Q E hr h => ⟨tS K (gs a) E b_Tree_eq,
    (pss_one (z_ret (ps_ret (z_and (z_isO (G := gs a) (c := 0) (ot_Tree T) (fun _ _ _ h => h) (pe_callB call_isi (by rfl) T.n_isinstance (by decide +kernel) (pa_cons (z_oS (pv 1)) (pa_cons (pe_glob (v := .ref a.C_Tree) rfl T.g_Tree rfl) pa_nil)))) (z_and (z_cmp op_eq ok_eqS (nomark _) (z_fld (G := gs a) (c := 0) (j := 0) (cf_Tree T) rfl (pe_fld (z_oS (pv 0)) rfl)) (z_fld (G := gs a) (c := 0) (j := 0) (cf_Tree T) rfl (pe_fld (z_oS (pv 1)) rfl))) (pe_one (z_cmpO (op_eqD hr.units) k_eqD (nomark _) (z_oE (z_fld (G := gs a) (c := 0) (j := 1) (cf_Tree T) rfl (pe_fld (z_oS (pv 0)) rfl))) (z_oE (z_fld (G := gs a) (c := 0) (j := 1) (cf_Tree T) rfl (pe_fld (z_oS (pv 1)) rfl)))))))))),
    enter (f := f_Tree_eq) h rfl (by decide)⟩)
theorem ok_check_tree (T : Txt K mg a) : FnOk P w K mg base CX0 1 a.a_check_tree a.fd_check_tree ["tree"] (spZ K (gs a) f_check_tree) :=
  T.F_check_tree.ok sc_check_tree (fun vs H Q E h => spZ_len rfl h) (fun cdv A outer s H vs Q E hr h => ⟨tS K (gs a) E b_check_tree,
    (pss_one (z_if (ps_if (zt_not (zt_val (z_isO (G := gs a) (c := 0) (ot_Tree T) (fun _ _ _ h => h) (pe_callB call_isi (by rfl) T.n_isinstance (by decide +kernel) (pa_cons (z_oS (pv 0)) (pa_cons (pe_glob (v := .ref a.C_Tree) rfl T.g_Tree rfl) pa_nil)))) (fun _ => rfl)))
    (pss_one (z_never ps_never))
    (zs_nil pss_nil)))),
    enter (f := f_check_tree) h rfl (by decide)⟩)
theorem ok_Disk_now (T : Txt K mg a) : FnOk P w K mg base CX0 1 a.a_Disk_now a.fd_Disk_now ["self"] (spZ K (gs a) f_Disk_now) :=
  T.F_Disk_now.ok sc_Disk_now (fun vs H Q E h => spZ_len rfl h) (fun cdv A outer s H vs Q E hr h => ⟨tS K (gs a) E b_Disk_now,
    (pss_one (z_ret (ps_ret (z_fld (G := gs a) (c := 3) (j := 0) (cf_Disk T) rfl (pe_fld (z_oS (pv 0)) rfl))))),
    enter (f := f_Disk_now) h rfl (by decide)⟩)
theorem ok_Disk_flushed (T : Txt K mg a) : FnOk P w K mg base CX0 1 a.a_Disk_flushed a.fd_Disk_flushed ["self"] (spZ K (gs a) f_Disk_flushed) :=
  T.F_Disk_flushed.ok sc_Disk_flushed (fun vs H Q E h => spZ_len rfl h) (fun cdv A outer s H vs Q E hr h => ⟨tS K (gs a) E b_Disk_flushed,
    (pss_one (z_ret (ps_ret (z_fld (G := gs a) (c := 3) (j := 1) (cf_Disk T) rfl (pe_fld (z_oS (pv 0)) rfl))))),
    enter (f := f_Disk_flushed) h rfl (by decide)⟩)
theorem ok_Disk_pending (T : Txt K mg a) : FnOk P w K mg base CX0 1 a.a_Disk_pending a.fd_Disk_pending ["self"] (spZ K (gs a) f_Disk_pending) :=
  T.F_Disk_pending.ok sc_Disk_pending (fun vs H Q E h => spZ_len rfl h) (fun cdv A outer s H vs Q E hr h => ⟨tS K (gs a) E b_Disk_pending,
    (pss_one (z_ret (ps_ret (z_listT (pe_callTy call_list_of (by rfl) T.n_list (by decide +kernel) (pa_cons (z_oE (z_fld (G := gs a) (c := 3) (j := 2) (cf_Disk T) rfl (pe_fld (z_oS (pv 0)) rfl))) pa_nil)))))),
    enter (f := f_Disk_pending) h rfl (by decide)⟩)
theorem ok_law_opened (T : Txt K mg a) : FnOk P w K mg base CX0 1 a.a_law_opened a.fd_law_opened ["_law_script", "_law_k"] (spZ K (gs a) f_law_opened) :=
  T.F_law_opened.ok sc_law_opened (fun vs H Q E h => spZ_len rfl h) (fun cdv A outer s H vs Q E hr h => ⟨tS K (gs a) E b_law_opened,
    (zs_cons (pss_cons (z_setF (ps_set (i := 2) sc_law_opened.nd rfl (Or.inl rfl) (z_ife (zt_cmp op_lt k_lt (nomark _) (z_vr (pv 1)) (z_cb k_len (pe_callB call_len_seq (by rfl) T.n_len PySem.boot_len (pa_cons (z_oS (pv 0)) pa_nil)))) (z_idx (z_oS (pv 0)) (z_vr (pv 1)) (fun _ _ => rfl)) (z_c pe_int sca_int))))
    (zs_cons (pss_cons (z_setF (ps_set (i := 3) sc_law_opened.nd rfl (Or.inl rfl) (z_cb2 k_max2 (pe_callB (call_max2 rfl) (by rfl) T.n_max (by decide +kernel) (pa_cons (z_cb k_int (pe_callTy call_int1 (by rfl) T.n_int (by decide +kernel) (pa_cons (z_oS (pv 2)) pa_nil))) (pa_cons (z_cb k_int (pe_callTy call_int1 (by rfl) T.n_int (by decide +kernel) (pa_cons (z_oE (z_op op_sub k_sub (z_neg (pe_un un_neg (z_c pe_int sca_int))) (z_vr (pv 2)))) pa_nil))) pa_nil))))))
    (pss_one (z_ret (ps_ret (z_lst (z_isCons (z_op op_mul k_mul (z_vr (pv 3)) (z_cb k_int (pe_callTy call_int1 (by rfl) T.n_int (by decide +kernel) (pa_cons (z_oE (z_cmp op_ge k_ge (nomark _) (z_vr (pv 3)) (z_op op_pow k_pow (z_c pe_int sca_int) (z_c pe_int sca_int)))) pa_nil)))) (z_isCons (z_op op_mod k_mod (z_cb k_int (pe_callTy call_int1 (by rfl) T.n_int (by decide +kernel) (pa_cons (z_oE (z_op op_mul k_mul (z_op op_add k_add (z_op op_add k_add (z_op op_mod k_mod (z_vr (pv 3)) (z_c pe_int sca_int)) (z_op op_mul k_mul (z_c pe_int sca_int) (z_vr (pv 1)))) (z_c pe_int sca_int)) (z_c pe_int sca_int))) pa_nil))) (z_c pe_int sca_int)) z_isNil rfl) rfl))))))))),
    enter (f := f_law_opened) h rfl (by decide)⟩)
theorem ok_law_draw (T : Txt K mg a) : FnOk P w K mg base CX0 1 a.a_law_draw a.fd_law_draw ["_law_pool", "_law_many"] (spZ K (gs a) f_law_draw) :=
  T.F_law_draw.ok sc_law_draw (fun vs H Q E h => spZ_len rfl h) (fun cdv A outer s H vs Q E hr h => ⟨tS K (gs a) E b_law_draw,
    (zs_cons (pss_cons (z_if (ps_if (zt_cmp op_gt k_gt (nomark _) (z_idx (z_oS (pv 0)) (z_c pe_int sca_int) (fun _ _ => rfl)) (z_c pe_int sca_int))
    (zs_cons (pss_cons (z_setF (ps_set (i := 2) sc_law_draw.nd rfl (Or.inl rfl) (z_op op_modN k_modN (z_cb k_int (pe_callTy call_int1 (by rfl) T.n_int (by decide +kernel) (pa_cons (z_oE (z_idx (z_oS (pv 0)) (z_c pe_int sca_int) (fun _ _ => rfl))) pa_nil))) (z_vr (pv 1)))))
      (zs_cons (pss_cons (z_setAt (ps_asg (z_op op_fdivN k_divN (z_idx (z_oS (pv 0)) (z_c pe_int sca_int) (fun _ _ => rfl)) (z_vr (pv 1))) (pg_sub (pv 0) (z_c pe_int sca_int) set_list)))
      (pss_one (z_ret (ps_ret (z_vr (pv 2)))))))))
    (zs_nil pss_nil)))
    (zs_cons (pss_cons (z_setAt (ps_asg (z_op op_mod k_mod (z_cb k_int (pe_callTy call_int1 (by rfl) T.n_int (by decide +kernel) (pa_cons (z_oE (z_op op_add k_add (z_op op_mul k_mul (z_idx (z_oS (pv 0)) (z_c pe_int sca_int) (fun _ _ => rfl)) (z_c pe_int sca_int)) (z_c pe_int sca_int))) pa_nil))) (z_c pe_int sca_int)) (pg_sub (pv 0) (z_c pe_int sca_int) set_list)))
    (pss_one (z_ret (ps_ret (z_op op_modN k_modN (z_op op_fdiv k_div (z_op op_mod k_mod (z_cb k_int (pe_callTy call_int1 (by rfl) T.n_int (by decide +kernel) (pa_cons (z_oE (z_op op_mul k_mul (z_idx (z_oS (pv 0)) (z_c pe_int sca_int) (fun _ _ => rfl)) (z_idx (z_oS (pv 0)) (z_c pe_int sca_int) (fun _ _ => rfl)))) pa_nil))) (z_c pe_int sca_int)) (z_c pe_int sca_int)) (z_vr (pv 1)))))))))),
    enter (f := f_law_draw) h rfl (by decide)⟩)
theorem ok_law_write (T : Txt K mg a) : FnOk P w K mg base CX0 1 a.a_law_write a.fd_law_write ["_law_told", "_law_rows"] (spZ K (gs a) f_law_write) :=
  T.F_law_write.ok sc_law_write (fun vs H Q E h => spZ_len rfl h) (fun cdv A outer s H vs Q E hr h => ⟨tS K (gs a) E b_law_write,
    (zs_cons (pss_cons (z_set (ps_set (i := 2) sc_law_write.nd rfl (Or.inl rfl) (z_list (pe_callTy call_list_of (by rfl) T.n_list (by decide +kernel) (pa_cons (z_oS (pv 0)) pa_nil)))))
    (zs_cons (pss_cons (z_for (tg_tup (tgs_cons tg_name (tgs_cons tg_name tgs_nil)) rfl) (ps_for PassesOwn.never rfl (zi_list (pi_list (z_oS (pv 1)))) (pg_tup (by rfl) (pgs_cons (pg_name (i := 3) sc_law_write.nd rfl (Or.inl rfl)) (pgs_cons (pg_name (i := 4) sc_law_write.nd rfl (Or.inl rfl)) pgs_nil)))
    (pss_one (z_setAt (ps_asg (z_vr (pv 4)) (pg_sub (pv 2) (z_op op_sub k_sub (z_vr (pv 3)) (z_c pe_int sca_int)) set_list))))))
    (pss_one (z_ret (ps_ret (z_mv (pv 2))))))))),
    enter (f := f_law_write) h rfl (by decide)⟩)
theorem ok_are_integers (T : Txt K mg a) : FnOk P w K mg base CX0 2 a.a_are_integers a.fd_are_integers ["value", "least", "greatest"] (spZ K (gs a) f_are_integers) :=
  T.F_are_integers.ok sc_are_integers (fun vs H Q E h => spZ_len rfl h) (fun cdv A outer s H vs Q E hr h => ⟨tS K (gs a) E b_are_integers,
    (zs_cons (pss_cons (z_if (ps_if (zt_not (zt_val (z_isBT (ns := ["list", "tuple"]) (List.forall_mem_cons.2 ⟨kb_list, List.forall_mem_cons.2 ⟨kb_tuple, fun _ h => nomatch h⟩⟩) (by decide) (fun _ _ _ h => h) (pe_callB call_isiT (by rfl) T.n_isinstance (by decide +kernel) (pa_cons (z_oS (pv 0)) (pa_cons (pe_tup (pa_cons (pe_bltn (v := .ty "list") (by rfl) T.n_list (by decide +kernel) rfl) (pa_cons (pe_bltn (v := .ty "tuple") (by rfl) T.n_tuple (by decide +kernel) rfl) pa_nil))) pa_nil)))) (fun _ => rfl)))
    (pss_one (z_ret (ps_ret (z_c pe_bl sca_bl))))
    (zs_nil pss_nil)))
    (zs_cons (pss_cons (z_for tg_name (ps_for PassesOwn.never rfl (zi_list (pi_list (z_oS (pv 0)))) (pg_name (i := 3) sc_are_integers.nd rfl (Or.inl rfl))
    (pss_one (z_if (ps_if (zt_not (zt_val (z_call scas_nil (pe_call (ok_is_integer T) (hr.mono (by decide)) rfl T.g_is_integer T.F_is_integer.kp T.b_is_integer .nil pass0 (z_aV (z_vr (pv 3)) (z_aV (z_vr (pv 1)) (z_aV (z_vr (pv 2)) z_aNil rfl) rfl) rfl))) (fun _ => rfl)))
      (pss_one (z_ret (ps_ret (z_c pe_bl sca_bl))))
      (zs_nil pss_nil))))))
    (pss_one (z_ret (ps_ret (z_c pe_bl sca_bl)))))))),
    enter (f := f_are_integers) h rfl (by decide)⟩)
theorem ok_Disk_init (T : Txt K mg a) : FnOk P w K mg base CX0 2 a.a_Disk_init a.fd_Disk_init ["self", "tree"] (spZ K (gs a) f_Disk_init) :=
  T.F_Disk_init.ok sc_Disk_init (fun vs H Q E h => spZ_len rfl h) (fun cdv A outer s H vs Q E hr h => ⟨tS K (gs a) E b_Disk_init,
    (zs_cons (pss_cons (z_ex (ps_expr (z_call scas_nil (pe_call (ok_check_tree T) (hr.mono (by decide)) rfl T.g_check_tree T.F_check_tree.kp T.b_check_tree .nil pass0 (z_aV (z_vr (pv 1)) z_aNil rfl)))))
    (zs_cons (pss_cons (z_fldS (G := gs a) (c := 3) (j := 0) (cf_Disk T) rfl (ps_fld (pv 0) (z_vr (pv 1)) rfl))
    (zs_cons (pss_cons (z_fldS (G := gs a) (c := 3) (j := 1) (cf_Disk T) rfl (ps_fld (pv 0) (z_vr (pv 1)) rfl))
    (pss_one (z_fldS (G := gs a) (c := 3) (j := 2) (cf_Disk T) rfl (ps_fld (pv 0) (z_tup z_isNil) rfl))))))))),
    enter (f := f_Disk_init) h rfl (by decide)⟩)
theorem ok_Disk_eq (T : Txt K mg a) : FnOk P w K mg base CX0 2 a.a_Disk_eq a.fd_Disk_eq ["self", "other"] (spZ K (gs a) f_Disk_eq) :=
  T.F_Disk_eq.ok sc_Disk_eq (fun vs H Q E h => spZ_len rfl h) (fun cdv A outer s H vs Q E hr h => ⟨tS K (gs a) E b_Disk_eq,
    (zs_cons (pss_cons (z_if (ps_if (zt_not (zt_val (z_isOX (G := gs a) (c := 3) (n := [0, 3]) (on_Disk T) (fun _ _ _ h => h) (pe_callB call_isi (by rfl) T.n_isinstance (by decide +kernel) (pa_cons (z_oS (pv 1)) (pa_cons (pe_glob (v := .ref a.C_Disk) rfl T.g_Disk rfl) pa_nil)))) (fun _ => rfl)))
    (pss_one (z_ret (ps_ret (z_c pe_bl sca_bl))))
    (zs_nil pss_nil)))
    (pss_one (z_ret (ps_ret (z_and (z_eqOwn (G := gs a) (c := 0) (pe_cmpR (op_eqOwn (ok_Tree_eq T) (hr.mono (by decide)) T.m_Tree_eq.at_ T.m_Tree_eq.fn T.b_Tree_eq pass0) (z_oE (z_fld (G := gs a) (c := 3) (j := 0) (cf_Disk T) rfl (pe_fld (z_oS (pv 0)) rfl))) (z_oE (z_fld (G := gs a) (c := 3) (j := 0) (cf_Disk T) rfl (pe_fld (z_oS (pv 1)) rfl))) (nomark _))) (z_and (z_eqOwn (G := gs a) (c := 0) (pe_cmpR (op_eqOwn (ok_Tree_eq T) (hr.mono (by decide)) T.m_Tree_eq.at_ T.m_Tree_eq.fn T.b_Tree_eq pass0) (z_oE (z_fld (G := gs a) (c := 3) (j := 1) (cf_Disk T) rfl (pe_fld (z_oS (pv 0)) rfl))) (z_oE (z_fld (G := gs a) (c := 3) (j := 1) (cf_Disk T) rfl (pe_fld (z_oS (pv 1)) rfl))) (nomark _))) (pe_one (z_cmpO (op_eqD hr.units) k_eqD (nomark _) (z_oE (z_fld (G := gs a) (c := 3) (j := 2) (cf_Disk T) rfl (pe_fld (z_oS (pv 0)) rfl))) (z_oE (z_fld (G := gs a) (c := 3) (j := 2) (cf_Disk T) rfl (pe_fld (z_oS (pv 1)) rfl)))))))))))),
    enter (f := f_Disk_eq) h rfl (by decide)⟩)
theorem ok_law_pick (T : Txt K mg a) : FnOk P w K mg base CX0 2 a.a_law_pick a.fd_law_pick ["_law_pool", "_law_some"] (spZ K (gs a) f_law_pick) :=
  T.F_law_pick.ok sc_law_pick (fun vs H Q E h => spZ_len rfl h) (fun cdv A outer s H vs Q E hr h => ⟨tS K (gs a) E b_law_pick,
    (pss_one (z_ret (ps_ret (z_idx (z_oS (pv 1)) (z_call scas_nil (pe_call (ok_law_draw T) (hr.mono (by decide)) rfl T.g__law_draw T.F_law_draw.kp T.b_law_draw .nil pass0 (z_aS (pv 0) (z_aV (z_cb k_len (pe_callB call_len_seq (by rfl) T.n_len PySem.boot_len (pa_cons (z_oS (pv 1)) pa_nil))) z_aNil rfl) rfl))) (fun _ _ => rfl))))),
    enter (f := f_law_pick) h rfl (by decide)⟩)
theorem ok_law_drawn_told (T : Txt K mg a) : FnOk P w K mg base CX0 2 a.a_law_drawn_told a.fd_law_drawn_told ["_law_pool", "_law_pages", "_law_classes", "_law_rightly"] (spZ K (gs a) f_law_drawn_told) :=
  T.F_law_drawn_told.ok sc_law_drawn_told (fun vs H Q E h => spZ_len rfl h) (fun cdv A outer s H vs Q E hr h => ⟨tS K (gs a) E b_law_drawn_told,
    (zs_cons (pss_cons (z_set (ps_set (i := 4) sc_law_drawn_told.nd rfl (Or.inl rfl) (z_lst z_isNil)))
    (zs_cons (pss_cons (z_for tg_name (ps_for PassesOwn.never rfl (zi_r2 (pi_range2 (by rfl) T.n_range (pa_cons (z_c pe_int sca_int) (pa_cons (z_op op_mul k_mul (z_c pe_int sca_int) (z_vr (pv 1))) pa_nil)))) (pg_name (i := 5) sc_law_drawn_told.nd rfl (Or.inl rfl))
    (zs_cons (pss_cons (z_setF (ps_set (i := 6) sc_law_drawn_told.nd rfl (Or.inl rfl) (z_ife (PW.pt (zw_and (zt_val (z_vr (pv 3)) (fun _ => rfl)) (zw_and1 (zt_cmp op_gt k_gt (nomark _) (z_vr (pv 5)) (z_c pe_int sca_int))))) (z_idx (z_oS (pv 4)) (z_op op_sub k_sub (z_op op_fdiv k_div (z_vr (pv 5)) (z_c pe_int sca_int)) (z_c pe_int sca_int)) (fun _ _ => rfl)) (z_vr (pv 2)))))
      (pss_one (z_app (ps_expr (pe_bm PySem.F.plainAttrs_list PySem.F.slot_list_append PySem.F.type_list_append mt_append (pv 4) (pa_cons (z_op op_sub k_sub (z_vr (pv 6)) (z_call scas_nil (pe_call (ok_law_draw T) (hr.mono (by decide)) rfl T.g__law_draw T.F_law_draw.kp T.b_law_draw .nil pass0 (z_aS (pv 0) (z_aV (z_op op_add k_add (z_vr (pv 6)) (z_c pe_int sca_int)) z_aNil rfl) rfl)))) pa_nil)))))))))
    (pss_one (z_ret (ps_ret (z_mv (pv 4))))))))),
    enter (f := f_law_drawn_told) h rfl (by decide)⟩)
theorem ok_law_drawn_rows (T : Txt K mg a) : FnOk P w K mg base CX0 2 a.a_law_drawn_rows a.fd_law_drawn_rows ["_law_pool", "_law_pages", "_law_classes", "_law_many"] (spZ K (gs a) f_law_drawn_rows) :=
  T.F_law_drawn_rows.ok sc_law_drawn_rows (fun vs H Q E h => spZ_len rfl h) (fun cdv A outer s H vs Q E hr h => ⟨tS K (gs a) E b_law_drawn_rows,
    (pss_one (z_ret (ps_ret (z_lc1 (vs := [4]) (tc_name (by decide)) (pe_lc (own := [("_law_step", 4)]) (g := gName 4) (tt := tYes) (by rfl) sc_law_drawn_rows.nd (zi_r1 (pi_range1 (by rfl) T.n_range (pa_cons (z_vr (pv 3)) pa_nil))) (blkOk_by (own := [("_law_step", 4)]) (N := ["_law_pool", "_law_pages", "_law_classes", "_law_many", "_law_step"]) (sc := defScope s_law_drawn_rows) (by decide +kernel)) (fun _ _ _ _ _ => (pg_name (i := 4) sc_law_drawn_rows.nd rfl (Or.inl rfl))) (fun _ _ _ _ _ => pts_nil) (fun _ _ _ _ _ => (z_tup (z_isCons (z_op op_add k_add (z_c pe_int sca_int) (z_call scas_nil (pe_call (ok_law_draw T) (hr.mono (by decide)) rfl T.g__law_draw T.F_law_draw.kp T.b_law_draw .nil pass0 (z_aS (pv 0) (z_aV (z_op op_sub k_sub (z_op op_mul k_mul (z_c pe_int sca_int) (z_vr (pv 1))) (z_c pe_int sca_int)) z_aNil rfl) rfl)))) (z_isCons (z_call scas_nil (pe_call (ok_law_draw T) (hr.mono (by decide)) rfl T.g__law_draw T.F_law_draw.kp T.b_law_draw .nil pass0 (z_aS (pv 0) (z_aV (z_op op_add k_add (z_vr (pv 2)) (z_c pe_int sca_int)) z_aNil rfl) rfl))) z_isNil rfl) rfl)))))))),
    enter (f := f_law_drawn_rows) h rfl (by decide)⟩)
theorem ok_are_told (T : Txt K mg a) : FnOk P w K mg base CX0 3 a.a_are_told a.fd_are_told ["value", "classes"] (spZ K (gs a) f_are_told) :=
  T.F_are_told.ok sc_are_told (fun vs H Q E h => spZ_len rfl h) (fun cdv A outer s H vs Q E hr h => ⟨tS K (gs a) E b_are_told,
    (pss_one (z_ret (ps_ret (z_and (z_call scas_nil (pe_call (ok_are_integers T) (hr.mono (by decide)) rfl T.g_are_integers T.F_are_integers.kp T.b_are_integers .nil pass0 (z_aS (pv 0) (z_aV (z_c pe_int sca_int) (z_aV (z_vr (pv 1)) z_aNil rfl) rfl) rfl))) (pe_one (z_cmpO op_in_seq k_in (by rfl) (z_oE (z_cb k_len (pe_callB call_len_seq (by rfl) T.n_len PySem.boot_len (pa_cons (z_oS (pv 0)) pa_nil)))) (z_oE (z_c (pe_glob (v := .ref a.t_NODES) rfl T.g_NODES rfl) (sca_tupI T.q_NODES rfl))))))))),
    enter (f := f_are_told) h rfl (by decide)⟩)
theorem ok_is_write (T : Txt K mg a) : FnOk P w K mg base CX0 3 a.a_is_write a.fd_is_write ["tree", "value"] (spZ K (gs a) f_is_write) :=
  T.F_is_write.ok sc_is_write (fun vs H Q E h => spZ_len rfl h) (fun cdv A outer s H vs Q E hr h => ⟨tS K (gs a) E b_is_write,
    (zs_cons (pss_cons (z_if (ps_if (PW.pt (zw_or (zt_not (zt_val (z_isB kb_tuple (fun _ _ _ h => h) (pe_callB call_isi (by rfl) T.n_isinstance (by decide +kernel) (pa_cons (z_oS (pv 1)) (pa_cons (pe_bltn (v := .ty "tuple") (by rfl) T.n_tuple (by decide +kernel) rfl) pa_nil)))) (fun _ => rfl))) (zw_or1 (zt_cmp op_ne ok_neS (nomark _) (z_cb k_len (pe_callB call_len_seq (by rfl) T.n_len PySem.boot_len (pa_cons (z_oS (pv 1)) pa_nil))) (z_c pe_int sca_int)))))
    (pss_one (z_ret (ps_ret (z_c pe_bl sca_bl))))
    (zs_nil pss_nil)))
    (zs_cons (pss_cons (z_asg (tg_tup (tgs_cons tg_name (tgs_cons tg_name tgs_nil)) rfl) (ps_asg (z_vr (pv 1)) (pg_tup (by rfl) (pgs_cons (pg_name (i := 2) sc_is_write.nd rfl (Or.inl rfl)) (pgs_cons (pg_name (i := 3) sc_is_write.nd rfl (Or.inl rfl)) pgs_nil)))))
    (pss_one (z_ret (ps_ret (z_and (z_call scas_nil (pe_call (ok_is_integer T) (hr.mono (by decide)) rfl T.g_is_integer T.F_is_integer.kp T.b_is_integer .nil pass0 (z_aV (z_vr (pv 2)) (z_aV (z_c pe_int sca_int) (z_aV (z_op op_sub k_sub (z_op op_mul k_mul (z_c pe_int sca_int) (z_lenOwn (G := gs a) (c := 0) (pe_callB (call_lenOwn (ok_Tree_len T) (hr.mono (by decide)) T.m_Tree_len.at_ T.m_Tree_len.fn T.b_Tree_len pass0) (by rfl) T.n_len PySem.boot_len (pa_cons (z_oE (z_vr (pv 0))) pa_nil)))) (z_c pe_int sca_int)) z_aNil rfl) rfl) rfl))) (pe_one (z_call scas_nil (pe_call (ok_is_integer T) (hr.mono (by decide)) rfl T.g_is_integer T.F_is_integer.kp T.b_is_integer .nil pass0 (z_aV (z_vr (pv 3)) (z_aV (z_c pe_int sca_int) (z_aV (z_fld (G := gs a) (c := 0) (j := 0) (cf_Tree T) rfl (pe_fld (z_oS (pv 0)) rfl)) z_aNil rfl) rfl) rfl)))))))))))),
    enter (f := f_is_write) h rfl (by decide)⟩)
theorem ok_Tree_init (T : Txt K mg a) : FnOk P w K mg base CX0 4 a.a_Tree_init a.fd_Tree_init ["self", "classes", "told"] (spZ K (gs a) f_Tree_init) :=
  T.F_Tree_init.ok sc_Tree_init (fun vs H Q E h => spZ_len rfl h) (fun cdv A outer s H vs Q E hr h => ⟨tS K (gs a) E b_Tree_init,
    (zs_cons (pss_cons (z_if (ps_if (zt_not (zt_val (z_call scas_nil (pe_call (ok_is_integer T) (hr.mono (by decide)) rfl T.g_is_integer T.F_is_integer.kp T.b_is_integer .nil pass0 (z_aV (z_vr (pv 1)) (z_aV (z_c pe_int sca_int) (z_aV (z_c (pe_glob (v := .int 8) rfl T.c_MOST_CLASSES ⟨_, rfl⟩) sca_int) z_aNil rfl) rfl) rfl))) (fun _ => rfl)))
    (pss_one (z_never ps_never))
    (zs_nil pss_nil)))
    (zs_cons (pss_cons (z_if (ps_if (zt_not (zt_val (z_call scas_nil (pe_call (ok_are_told T) (hr.mono (by decide)) rfl T.g_are_told T.F_are_told.kp T.b_are_told .nil pass0 (z_aS (pv 2) (z_aV (z_vr (pv 1)) z_aNil rfl) rfl))) (fun _ => rfl)))
    (pss_one (z_never ps_never))
    (zs_nil pss_nil)))
    (zs_cons (pss_cons (z_fldS (G := gs a) (c := 0) (j := 0) (cf_Tree T) rfl (ps_fld (pv 0) (z_vr (pv 1)) rfl))
    (pss_one (z_fldS (G := gs a) (c := 0) (j := 1) (cf_Tree T) rfl (ps_fld (pv 0) (z_fz (z_tuple (pe_callTy call_tuple_of (by rfl) T.n_tuple (by decide +kernel) (pa_cons (z_oS (pv 2)) pa_nil)))) rfl))))))))),
    enter (f := f_Tree_init) h rfl (by decide)⟩)
theorem ok_check_row (T : Txt K mg a) : FnOk P w K mg base CX0 4 a.a_check_row a.fd_check_row ["tree", "row"] (spZ K (gs a) f_check_row) :=
  T.F_check_row.ok sc_check_row (fun vs H Q E h => spZ_len rfl h) (fun cdv A outer s H vs Q E hr h => ⟨tS K (gs a) E b_check_row,
    (zs_cons (pss_cons (z_ex (ps_expr (z_call scas_nil (pe_call (ok_check_tree T) (hr.mono (by decide)) rfl T.g_check_tree T.F_check_tree.kp T.b_check_tree .nil pass0 (z_aV (z_vr (pv 0)) z_aNil rfl)))))
    (zs_cons (pss_cons (z_if (ps_if (zt_not (zt_val (z_isB kb_list (fun _ _ _ h => h) (pe_callB call_isi (by rfl) T.n_isinstance (by decide +kernel) (pa_cons (z_oS (pv 1)) (pa_cons (pe_bltn (v := .ty "list") (by rfl) T.n_list (by decide +kernel) rfl) pa_nil)))) (fun _ => rfl)))
    (pss_one (z_never ps_never))
    (zs_nil pss_nil)))
    (pss_one (z_for tg_name (ps_for PassesOwn.never rfl (zi_list (pi_list (z_oS (pv 1)))) (pg_name (i := 2) sc_check_row.nd rfl (Or.inl rfl))
    (pss_one (z_if (ps_if (zt_not (zt_val (z_call scas_nil (pe_call (ok_is_write T) (hr.mono (by decide)) rfl T.g_is_write T.F_is_write.kp T.b_is_write .nil pass0 (z_aV (z_vr (pv 0)) (z_aV (z_vr (pv 2)) z_aNil rfl) rfl))) (fun _ => rfl)))
      (pss_one (z_never ps_never))
      (zs_nil pss_nil))))))))))),
    enter (f := f_check_row) h rfl (by decide)⟩)
theorem ok_Disk_with_flush (T : Txt K mg a) : FnOk P w K mg base CX0 4 a.a_Disk_with_flush a.fd_Disk_with_flush ["self"] (spZ K (gs a) f_Disk_with_flush) :=
  T.F_Disk_with_flush.ok sc_Disk_with_flush (fun vs H Q E h => spZ_len rfl h) (fun cdv A outer s H vs Q E hr h => ⟨tS K (gs a) E b_Disk_with_flush,
    (pss_one (z_ret (ps_ret (z_mk (G := gs a) (c := 3) scas_nil (pe_make T.mk_Disk (ok_Disk_init T) (hr.mono (by decide)) rfl T.g_Disk T.b_Disk_init .nil pass0 (z_aV (z_fld (G := gs a) (c := 3) (j := 0) (cf_Disk T) rfl (pe_fld (z_oS (pv 0)) rfl)) z_aNil rfl)))))),
    enter (f := f_Disk_with_flush) h rfl (by decide)⟩)
theorem ok_written (T : Txt K mg a) : FnOk P w K mg base CX0 6 a.a_written a.fd_written ["tree", "row"] (spZ K (gs a) f_written) :=
  T.F_written.ok sc_written (fun vs H Q E h => spZ_len rfl h) (fun cdv A outer s H vs Q E hr h => ⟨tS K (gs a) E b_written,
    (zs_cons (pss_cons (z_ex (ps_expr (z_call scas_nil (pe_call (ok_check_row T) (hr.mono (by decide)) rfl T.g_check_row T.F_check_row.kp T.b_check_row .nil pass0 (z_aV (z_vr (pv 0)) (z_aS (pv 1) z_aNil rfl) rfl)))))
    (zs_cons (pss_cons (z_set (ps_set (i := 2) sc_written.nd rfl (Or.inl rfl) (z_prop (G := gs a) (c := 0) (pe_prop (z_oE (z_vr (pv 0))) T.cl_Tree T.p_Tree_told (ok_Tree_told T) (hr.mono (by decide)) T.b_Tree_told .nil pass0 rfl))))
    (zs_cons (pss_cons (z_for (tg_tup (tgs_cons tg_name (tgs_cons tg_name tgs_nil)) rfl) (ps_for PassesOwn.never rfl (zi_list (pi_list (z_oS (pv 1)))) (pg_tup (by rfl) (pgs_cons (pg_name (i := 3) sc_written.nd rfl (Or.inl rfl)) (pgs_cons (pg_name (i := 4) sc_written.nd rfl (Or.inl rfl)) pgs_nil)))
    (pss_one (z_setAt (ps_asg (z_vr (pv 4)) (pg_sub (pv 2) (z_op op_sub k_sub (z_vr (pv 3)) (z_c pe_int sca_int)) set_list))))))
    (pss_one (z_ret (ps_ret (z_mk (G := gs a) (c := 0) scas_nil (pe_make T.mk_Tree (ok_Tree_init T) (hr.mono (by decide)) rfl T.g_Tree T.b_Tree_init .nil pass0 (z_aV (z_fld (G := gs a) (c := 0) (j := 0) (cf_Tree T) rfl (pe_fld (z_oS (pv 0)) rfl)) (z_aS (pv 2) z_aNil rfl) rfl)))))))))))),
    enter (f := f_written) h rfl (by decide)⟩)
theorem ok_law_is_so (T : Txt K mg a) : FnOk P w K mg base CX0 6 a.a_law_is_so a.fd_law_is_so ["_law_disk", "_law_classes", "_law_base", "_law_since"] (spZ K (gs a) f_law_is_so) :=
  T.F_law_is_so.ok sc_law_is_so (fun vs H Q E h => spZ_len rfl h) (fun cdv A outer s H vs Q E hr h => ⟨tS K (gs a) E b_law_is_so,
    (zs_cons (pss_cons (z_if (ps_if (PW.pt (zw_or (zt_neOwn (G := gs a) (c := 0) (pt_cmpR (op_neOwn (ok_Tree_eq T) (hr.mono (by decide)) T.m_Tree_eq.at_ T.m_Tree_eq.fn T.ne_Tree T.hm_Tree T.b_Tree_eq pass0) (z_oE (z_prop (G := gs a) (c := 3) (pe_prop (z_oE (z_vr (pv 0))) T.cl_Disk T.p_Disk_flushed (ok_Disk_flushed T) (hr.mono (by decide)) T.b_Disk_flushed .nil pass0 rfl))) (z_oE (z_mk (G := gs a) (c := 0) scas_nil (pe_make T.mk_Tree (ok_Tree_init T) (hr.mono (by decide)) rfl T.g_Tree T.b_Tree_init .nil pass0 (z_aV (z_vr (pv 1)) (z_aS (pv 2) z_aNil rfl) rfl)))) (nomark _))) (zw_or1 (zt_neOwn (G := gs a) (c := 0) (pt_cmpR (op_neOwn (ok_Tree_eq T) (hr.mono (by decide)) T.m_Tree_eq.at_ T.m_Tree_eq.fn T.ne_Tree T.hm_Tree T.b_Tree_eq pass0) (z_oE (z_prop (G := gs a) (c := 3) (pe_prop (z_oE (z_vr (pv 0))) T.cl_Disk T.p_Disk_now (ok_Disk_now T) (hr.mono (by decide)) T.b_Disk_now .nil pass0 rfl))) (z_oE (z_mk (G := gs a) (c := 0) scas_nil (pe_make T.mk_Tree (ok_Tree_init T) (hr.mono (by decide)) rfl T.g_Tree T.b_Tree_init .nil pass0 (z_aV (z_vr (pv 1)) (z_aV (z_call scas_nil (pe_call (ok_law_write T) (hr.mono (by decide)) rfl T.g__law_write T.F_law_write.kp T.b_law_write .nil pass0 (z_aV (z_vr (pv 2)) (z_aV (z_vr (pv 3)) z_aNil rfl) rfl))) z_aNil rfl) rfl)))) (nomark _))))))
    (pss_one (z_ret (ps_ret (z_c pe_bl sca_bl))))
    (zs_nil pss_nil)))
    (zs_cons (pss_cons (z_set (ps_set (i := 4) sc_law_is_so.nd rfl (Or.inl rfl) (z_prop (G := gs a) (c := 3) (pe_prop (z_oE (z_vr (pv 0))) T.cl_Disk T.p_Disk_pending (ok_Disk_pending T) (hr.mono (by decide)) T.b_Disk_pending .nil pass0 rfl))))
    (zs_cons (pss_cons (z_if (ps_if (zt_cmpO (op_neD hr.units) k_neD (nomark _) (z_oS (pv 4)) (z_oS (pv 3)))
    (pss_one (z_ret (ps_ret (z_c pe_bl sca_bl))))
    (zs_nil pss_nil)))
    (zs_cons (pss_cons (z_app (ps_expr (pe_bm PySem.F.plainAttrs_list PySem.F.slot_list_append PySem.F.type_list_append mt_append (pv 4) (pa_cons (z_c pe_non sca_non) pa_nil))))
    (pss_one (z_ret (ps_ret (z_cmpO (op_eqD hr.units) k_eqD (nomark _) (z_oE (z_prop (G := gs a) (c := 3) (pe_prop (z_oE (z_vr (pv 0))) T.cl_Disk T.p_Disk_pending (ok_Disk_pending T) (hr.mono (by decide)) T.b_Disk_pending .nil pass0 rfl))) (z_oS (pv 3)))))))))))))),
    enter (f := f_law_is_so) h rfl (by decide)⟩)
theorem ok_Disk_with_row (T : Txt K mg a) : FnOk P w K mg base CX0 7 a.a_Disk_with_row a.fd_Disk_with_row ["self", "row"] (spZ K (gs a) f_Disk_with_row) :=
  T.F_Disk_with_row.ok sc_Disk_with_row (fun vs H Q E h => spZ_len rfl h) (fun cdv A outer s H vs Q E hr h => ⟨tS K (gs a) E b_Disk_with_row,
    (zs_cons (pss_cons (z_set (ps_set (i := 2) sc_Disk_with_row.nd rfl (Or.inl rfl) (z_mk (G := gs a) (c := 3) scas_nil (pe_make T.mk_Disk (ok_Disk_init T) (hr.mono (by decide)) rfl T.g_Disk T.b_Disk_init .nil pass0 (z_aV (z_fld (G := gs a) (c := 3) (j := 1) (cf_Disk T) rfl (pe_fld (z_oS (pv 0)) rfl)) z_aNil rfl)))))
    (zs_cons (pss_cons (z_fldS (G := gs a) (c := 3) (j := 0) (cf_Disk T) rfl (ps_fld (pv 2) (z_fz (z_call scas_nil (pe_call (ok_written T) (hr.mono (by decide)) rfl T.g_written T.F_written.kp T.b_written .nil pass0 (z_aV (z_fld (G := gs a) (c := 3) (j := 0) (cf_Disk T) rfl (pe_fld (z_oS (pv 0)) rfl)) (z_aS (pv 1) z_aNil rfl) rfl)))) rfl))
    (zs_cons (pss_cons (z_fldS (G := gs a) (c := 3) (j := 2) (cf_Disk T) rfl (ps_fld (pv 2) (z_fz (z_catT (pe_op op_catA (z_oE (z_fld (G := gs a) (c := 3) (j := 2) (cf_Disk T) rfl (pe_fld (z_oS (pv 0)) rfl))) (z_oE (z_tuple (pe_callTy call_tuple_of (by rfl) T.n_tuple (by decide +kernel) (pa_cons (z_oS (pv 1)) pa_nil))))))) rfl))
    (pss_one (z_ret (ps_ret (z_mv (pv 2))))))))))),
    enter (f := f_Disk_with_row) h rfl (by decide)⟩)
theorem ok_law (T : Txt K mg a) : FnOk P w K mg base CX0 8 a.a_law a.fd_law ["_law_script"] (spZ K (gs a) f_law) :=
  T.F_law.ok sc_law (fun vs H Q E h => spZ_len rfl h) (fun cdv A outer s H vs Q E hr h => ⟨tS K (gs a) E b_law,
    (zs_cons (pss_cons (z_for tg_name (ps_for PassesOwn.never rfl (zi_r1 (pi_range1 (by rfl) T.n_range (pa_cons (z_cb2 k_max2 (pe_callB (call_max2 rfl) (by rfl) T.n_max (by decide +kernel) (pa_cons (z_c pe_int sca_int) (pa_cons (z_cb2 k_min2 (pe_callB (call_min2 rfl) (by rfl) T.n_min (by decide +kernel) (pa_cons (z_c pe_int sca_int) (pa_cons (z_cb k_len (pe_callB call_len_seq (by rfl) T.n_len PySem.boot_len (pa_cons (z_oS (pv 0)) pa_nil))) pa_nil)))) pa_nil)))) pa_nil))) (pg_name (i := 1) sc_law.nd rfl (Or.inl rfl))
    (zs_cons (pss_cons (z_set (ps_set (i := 2) sc_law.nd rfl (Or.inl rfl) (z_call scas_nil (pe_call (ok_law_opened T) (hr.mono (by decide)) rfl T.g__law_opened T.F_law_opened.kp T.b_law_opened .nil pass0 (z_aV (z_vr (pv 0)) (z_aV (z_vr (pv 1)) z_aNil rfl) rfl)))))
      (zs_cons (pss_cons (z_par2 (ps_par (i := 3) (j := 4) (by rfl) sc_law.nd rfl rfl (by decide) rfl rfl (z_isCons (z_call scas_nil (pe_call (ok_law_pick T) (hr.mono (by decide)) rfl T.g__law_pick T.F_law_pick.kp T.b_law_pick .nil pass0 (z_aS (pv 2) (z_aV (z_lst (z_isCons (z_c pe_int sca_int) (z_isCons (z_c pe_int sca_int) (z_isCons (z_c pe_int sca_int) z_isNil rfl) rfl) rfl)) z_aNil rfl) rfl))) (z_isCons (z_op op_add k_add (z_c pe_int sca_int) (z_call scas_nil (pe_call (ok_law_draw T) (hr.mono (by decide)) rfl T.g__law_draw T.F_law_draw.kp T.b_law_draw .nil pass0 (z_aS (pv 2) (z_aV (z_c pe_int sca_int) z_aNil rfl) rfl)))) z_isNil rfl) rfl) (by rfl)))
      (zs_cons (pss_cons (z_par2 (ps_par (i := 5) (j := 6) (by rfl) sc_law.nd rfl rfl (by decide) rfl rfl (z_isCons (z_fz (z_call scas_nil (pe_call (ok_law_drawn_told T) (hr.mono (by decide)) rfl T.g__law_drawn_told T.F_law_drawn_told.kp T.b_law_drawn_told .nil pass0 (z_aS (pv 2) (z_aV (z_vr (pv 3)) (z_aV (z_vr (pv 4)) (z_aV (z_c pe_bl sca_bl) z_aNil rfl) rfl) rfl) rfl)))) (z_isCons (z_fz (z_lst z_isNil)) z_isNil rfl) rfl) (by rfl)))
      (zs_cons (pss_cons (z_setF (ps_set (i := 7) sc_law.nd rfl (Or.inl rfl) (z_mk (G := gs a) (c := 3) scas_nil (pe_make T.mk_Disk (ok_Disk_init T) (hr.mono (by decide)) rfl T.g_Disk T.b_Disk_init .nil pass0 (z_aV (z_mk (G := gs a) (c := 0) scas_nil (pe_make T.mk_Tree (ok_Tree_init T) (hr.mono (by decide)) rfl T.g_Tree T.b_Tree_init .nil pass0 (z_aV (z_vr (pv 4)) (z_aS (pv 5) z_aNil rfl) rfl))) z_aNil rfl)))))
      (pss_one (z_for tg_name (ps_for PassesOwn.never rfl (zi_r1 (pi_range1 (by rfl) T.n_range (pa_cons (z_c pe_int sca_int) pa_nil))) (pg_name (i := 8) sc_law.nd rfl (Or.inl rfl))
      (zs_cons (pss_cons (z_par2 (ps_par (i := 9) (j := 10) (by rfl) sc_law.nd rfl rfl (by decide) rfl rfl (z_isCons (z_fz (z_lst (z_isCons (z_vr (pv 5)) (z_isCons (z_vr (pv 6)) z_isNil rfl) rfl))) (z_isCons (z_vr (pv 7)) z_isNil rfl) rfl) (by rfl)))
        (zs_cons (pss_cons (z_if (ps_if (zt_cmp op_eq ok_eqS (nomark _) (z_call scas_nil (pe_call (ok_law_draw T) (hr.mono (by decide)) rfl T.g__law_draw T.F_law_draw.kp T.b_law_draw .nil pass0 (z_aS (pv 2) (z_aV (z_c pe_int sca_int) z_aNil rfl) rfl))) (z_c pe_int sca_int))
        (pss_one (z_par3 (ps_par3 (i := 7) (j := 5) (l := 6) (by rfl) sc_law.nd rfl rfl rfl (by decide) (by decide) (by decide) rfl rfl rfl (z_isCons (z_fz (z_meth0 (G := gs a) (c := 3) (by decide : ("with_flush" : Str) ∉ (["_now", "_flushed", "_pending"] : List Str)) scas_nil (pe_meth0 (z_oE (z_vr (pv 7))) T.cl_Disk T.m_Disk_with_flush (ok_Disk_with_flush T) (hr.mono (by decide)) T.b_Disk_with_flush .nil pass0))) (z_isCons (z_fz (z_call scas_nil (pe_call (ok_law_write T) (hr.mono (by decide)) rfl T.g__law_write T.F_law_write.kp T.b_law_write .nil pass0 (z_aV (z_vr (pv 5)) (z_aV (z_vr (pv 6)) z_aNil rfl) rfl)))) (z_isCons (z_fz (z_lst z_isNil)) z_isNil rfl) rfl) rfl) (by rfl))))
        (zs_cons (pss_cons (z_set (ps_set (i := 11) sc_law.nd rfl (Or.inl rfl) (z_call scas_nil (pe_call (ok_law_drawn_rows T) (hr.mono (by decide)) rfl T.g__law_drawn_rows T.F_law_drawn_rows.kp T.b_law_drawn_rows .nil pass0 (z_aS (pv 2) (z_aV (z_vr (pv 3)) (z_aV (z_vr (pv 4)) (z_aV (z_call scas_nil (pe_call (ok_law_draw T) (hr.mono (by decide)) rfl T.g__law_draw T.F_law_draw.kp T.b_law_draw .nil pass0 (z_aS (pv 2) (z_aV (z_c pe_int sca_int) z_aNil rfl) rfl))) z_aNil rfl) rfl) rfl) rfl)))))
          (zs_cons (pss_cons (z_par2 (ps_par (i := 7) (j := 6) (by rfl) sc_law.nd rfl rfl (by decide) rfl rfl (z_isCons (z_fz (z_meth (G := gs a) (c := 3) (by decide : ("with_row" : Str) ∉ (["_now", "_flushed", "_pending"] : List Str)) scas_nil (pe_meth (z_oE (z_vr (pv 7))) T.cl_Disk T.m_Disk_with_row (ok_Disk_with_row T) (hr.mono (by decide)) T.b_Disk_with_row .nil pass0 (z_aS (pv 11) z_aNil rfl)))) (z_isCons (z_fz (z_cat (pe_op op_catS (z_oS (pv 6)) (z_oS (pv 11))))) z_isNil rfl) rfl) (by rfl)))
          (pss_one (z_app (ps_expr (pe_bm PySem.F.plainAttrs_list PySem.F.slot_list_append PySem.F.type_list_append mt_append (pv 11) (pa_cons (z_c pe_non sca_non) pa_nil)))))))))))
        (zs_cons (pss_cons (z_if (ps_if (PW.pt (zw_or (zt_not (zt_val (z_call scas_nil (pe_call (ok_law_is_so T) (hr.mono (by decide)) rfl T.g__law_is_so T.F_law_is_so.kp T.b_law_is_so .nil pass0 (z_aV (z_vr (pv 7)) (z_aV (z_vr (pv 4)) (z_aV (z_vr (pv 5)) (z_aV (z_vr (pv 6)) z_aNil rfl) rfl) rfl) rfl))) (fun _ => rfl))) (zw_or1 (zt_not (zt_val (z_call scas_nil (pe_call (ok_law_is_so T) (hr.mono (by decide)) rfl T.g__law_is_so T.F_law_is_so.kp T.b_law_is_so .nil pass0 (z_aV (z_vr (pv 10)) (z_aV (z_vr (pv 4)) (z_aV (z_idx (z_oS (pv 9)) (z_c pe_int sca_int) (fun _ _ => rfl)) (z_aV (z_idx (z_oS (pv 9)) (z_c pe_int sca_int) (fun _ _ => rfl)) z_aNil rfl) rfl) rfl) rfl))) (fun _ => rfl))))))
        (pss_one (z_ret (ps_ret (z_c pe_bl sca_bl))))
        (zs_nil pss_nil)))
        (zs_cons (pss_cons (z_setF (ps_set (i := 12) sc_law.nd rfl (Or.inl rfl) (z_meth (G := gs a) (c := 3) (by decide : ("with_row" : Str) ∉ (["_now", "_flushed", "_pending"] : List Str)) scas_nil (pe_meth (z_oE (z_mk (G := gs a) (c := 3) scas_nil (pe_make T.mk_Disk (ok_Disk_init T) (hr.mono (by decide)) rfl T.g_Disk T.b_Disk_init .nil pass0 (z_aV (z_mk (G := gs a) (c := 0) scas_nil (pe_make T.mk_Tree (ok_Tree_init T) (hr.mono (by decide)) rfl T.g_Tree T.b_Tree_init .nil pass0 (z_aV (z_vr (pv 4)) (z_aS (pv 5) z_aNil rfl) rfl))) z_aNil rfl)))) T.cl_Disk T.m_Disk_with_row (ok_Disk_with_row T) (hr.mono (by decide)) T.b_Disk_with_row .nil pass0 (z_aV (z_list (pe_callTy call_list_of (by rfl) T.n_list (by decide +kernel) (pa_cons (z_oS (pv 6)) pa_nil))) z_aNil rfl)))))
        (pss_one (z_if (ps_if (PW.pt (zw_or (zt_neOwn (G := gs a) (c := 3) (pt_cmpR (op_neOwn (ok_Disk_eq T) (hr.mono (by decide)) T.m_Disk_eq.at_ T.m_Disk_eq.fn T.ne_Disk T.hm_Disk T.b_Disk_eq pass0) (z_oE (z_vr (pv 12))) (z_oE (z_vr (pv 7))) (nomark _))) (zw_or (zt_cmp op_ne ok_neS (nomark _) (z_eqOwn (G := gs a) (c := 3) (pe_cmpR (op_eqOwn (ok_Disk_eq T) (hr.mono (by decide)) T.m_Disk_eq.at_ T.m_Disk_eq.fn T.b_Disk_eq pass0) (z_oE (z_vr (pv 7))) (z_oE (z_vr (pv 10))) (nomark _))) (z_cmpO (op_eqD hr.units) k_eqD (nomark _) (z_oS (pv 9)) (z_oE (z_lst (z_isCons (z_vr (pv 5)) (z_isCons (z_vr (pv 6)) z_isNil rfl) rfl))))) (zw_or1 (zt_eqOwnA (G := gs a) (c := 3) (pt_cmpR (OpR.or (op_eqOwn (ok_Disk_eq T) (hr.mono (by decide)) T.m_Disk_eq.at_ T.m_Disk_eq.fn T.b_Disk_eq pass0) (op_eqOwnL2 (ok_Disk_eq T) (hr.mono (by decide)) T.m_Disk_eq.at_ T.m_Disk_eq.fn T.sb_Disk_list T.b_Disk_eq pass0)) (z_oE (z_vr (pv 7))) (z_oE (z_vr (pv 5))) (nomark _)))))))
        (pss_one (z_ret (ps_ret (z_c pe_bl sca_bl))))
        (zs_nil pss_nil)))))))))))))))))))))))))
    (pss_one (z_ret (ps_ret (z_c pe_bl sca_bl)))))),
    enter (f := f_law) h rfl (by decide)⟩)
end
end Rt
set_option maxHeartbeats 4000000
namespace Rt
open PySem PySem.Spec L2 Z
theorem md_is_integer : f_is_integer.md = [.d, .d, .d] := rfl
theorem run_is_integer {v lo hi : Int} : f_is_integer.run [.v (.int v), .v (.int lo), .v (.int hi)] = .ok (.f (.bl (decide (lo ≤ v) && decide (v ≤ hi)))) [] := by
  refine FOk.eq (run_go b_is_integer rfl rfl ?_)
  unfold b_is_integer
  (simp (disch := first | with_reducible assumption | omega | (simp only [List.length_map, List.length_append, List.length_cons, List.length_nil, List.length_set, List.length_reverse, List.length_replicate] <;> omega) | with_reducible rfl) only [↓e_bind, ↓e_pure, ↓e_fail, ↓e_opt, ↓e_cst, ↓e_vr, ↓e_mv, ↓e_oE, ↓e_hasS, ↓e_rdT, ↓e_rdS, ↓e_bi, ↓e_bo, ↓e_un, ↓e_cb, ↓e_fz, ↓e_tst, ↓e_band, ↓e_bor, ↓e_bnot, ↓e_ttr, ↓e_bnotT, ↓e_tand, ↓e_tor, ↓e_tnot, ↓e_ife, ↓e_tTrue, ↓e_chn, ↓e_isNil, ↓e_isCons, ↓e_eLst, ↓e_eTup, ↓e_idx, ↓e_mkL, ↓e_mkLT, ↓e_mkT, ↓e_mkTT, ↓e_cat, ↓e_oN, ↓e_oI, ↓e_slL, ↓e_slT, ↓e_rep, ↓e_sSet, ↓e_sSetF, ↓e_sRet, ↓e_sEx, ↓e_sNext, ↓e_sBk, ↓e_sCt, ↓e_sIf, ↓e_sq, ↓e_frz, ↓e_tgN, ↓e_tgs0, ↓e_tgs1, ↓e_tgT1, ↓e_tgL1, ↓e_tgT2, ↓e_tgL2, ↓e_tgT3, ↓e_tgL3, ↓e_tgT4, ↓e_tgL4, ↓e_tgT5, ↓e_tgL5, ↓e_tgT6, ↓e_tgL6, ↓e_sAsg, ↓e_par2, ↓e_par3, ↓e_okT, ↓e_okS, ↓e_itL, ↓e_itT, ↓e_itR1, ↓e_itR2, ↓e_for, ↓e_fld, ↓e_sFld, ↓e_sApp, ↓e_sSetAt, ↓e_aNil, ↓e_aV, ↓e_aS, ↓e_call, ↓e_callN, ↓e_callG, ↓e_isC, ↓e_meth, ↓e_prop, ↓e_lenOwn, ↓e_subOwn, ↓e_eqOwn, ↓e_neOwn, ↓e_mk, ↓e_mkK, ↓e_mkKO, ↓e_if1, ↓e_if0, ↓e_hide, ↓e_ok2, ↓e_no2, ↓e_sqN, ↓e_sqR, ↓e_sqB, ↓e_sqC, ↓e_frzO, ↓e_frzI, ↓e_par2O, ↓e_par3O, ↓e_cnO', ↓e_mkO', ↓e_mkI, ↓e_lc', ↓e_while, ↓e_itE, ↓e_itEK, ↓e_itEQ, ↓e_itQ, ↓e_lrg, ↓e_itRd, ↓e_catT, ↓e_srt, ↓e_mkLQ, ↓e_mkTQ, ↓e_methK, ↓e_popAt, ↓e_eqOwnA, ↓e_isCL, ↓e_Go, ↓e_outq, ↓e_retR, ↓e_retN, ↓e_rdqN, ↓e_rdqC, ↓e_rdqB, ↓e_rdqR, ↓reduceIte, Bool.false_eq_true, eq_self, e_nc, e_nc0, e_nc1, Int.reduceEq, and_self, and_true, true_and, e_wi0, e_wi1, e_re0, e_re1, e_li0, e_li1, e_liA, e_liI, e_liR, List.getD_cons_zero, List.getD_cons_succ, e_assoc2, e_m1, e_m2, e_m3, e_m4, e_m7, e_m8, e_m9, e_m10, e_some, e_isAt, e_mvI, e_mvO, e_hasI, e_hasR, e_hasO, e_hasIo, e_rdI, e_rdR, e_rdO, e_rdIo, e_fO, e_add, e_sub, e_mul, e_div, e_mod, e_pow, e_lt, e_le, e_gt, e_ge, e_neg, e_eqI, e_eqStr, e_eqB, e_neI, e_neStr, e_neB, e_isB, e_notB, e_isN0, e_isN1, e_isN2, e_isN3, e_isN4, e_isN5, e_isN6, e_notN6, e_notN0, e_notN1, e_notN2, e_notN3, e_notN4, e_notN5, e_max2, e_min2, e_intI, e_intB, e_lenL, e_lenT, e_blO, e_isO, e_isB', e_isBT, e_ty0, e_ty1, e_ty2, e_ty3, e_ty4, e_ty5, e_map, e_bAt, e_trL, e_trT, e_trI, e_trB, e_trN, e_ifn, e_valF, e_valL, e_valI, e_vals0, e_vals1, e_valsM, e_l0, e_l1, e_l2, e_l3, e_l4, e_l5, e_l6, e_l7, e_l8, e_itsL, e_itsM, e_itsT, e_sz, e_lO, e_ixL, e_ixT, e_ixM, e_at0, e_at1, e_at2, e_at3, qv_lst, qv_tup, qv_int, qv_bl, qv_str, qv_non, qvs_0, qvs_1, qvs_2, qvs_3, qv_lt, qv_tl, e_enO, e_qL, e_qT, e_qM, e_lrgO, e_rdO', e_srtO, e_ints, e_mkcT, e_wv1, e_wv2, e_wv3, e_isX, e_pk1, e_pk2, e_isX0, e_isX1, e_isX2, e_isX3, e_isX4, e_isX5, e_icLi, e_icLl, e_oiO, e_repO, e_st, e_st0, e_st1, e_st2, e_st3, e_svF, e_svL, e_svI, e_okI, e_okR, e_rg1, e_rg2, e_fM, e_fldF, e_fldO, e_sf0, e_sf1, e_sf2, e_sf3, e_sf4, e_sf5, e_sf6, e_sf7, e_isLO, e_isLI, e_apO, e_apI, e_saO, e_saI, e_hrI, e_hrR, e_hrO, e_hrIo, e_bCons, e_bs0, e_bs1, e_bD, e_bR, e_bRs, e_bIs, e_bRi, e_bRr, e_bRo, e_bRio, e_bRoI, e_bRioI, e_allF0, e_allF1, e_bIo, e_bIi, e_ios0, e_iosD, e_iosR, e_iosI, e_pt0, e_pt1, e_ptO, e_ptI, e_cgO, e_cgA, e_apO', e_rds0, e_rdsD, e_rdsI, e_rdsV, e_rdsS, e_ap0, e_ap1, e_ap2, e_ap3, List.contains_cons, List.contains_nil, Nat.reduceBEq, e_cnT, e_hAgT, e_hAgS, e_icV, e_lnO, e_eqO, e_neO, e_mkR, e_mapAg, e_mkB, e_mkM, e_eCons, e_en0, e_enD, e_enR, e_enI, e_oCons, e_os0, e_osD, e_osR, e_osI, e_foO, e_runR, e_runN, List.getElem?_cons_zero, List.getElem?_cons_succ, List.set_cons_zero, List.set_cons_succ, List.cons_append, List.nil_append, List.map_nil, List.append_nil, List.length_cons, List.length_nil, List.length_map, List.any_cons, List.any_nil, decide_true, decide_false, Bool.not_true, Bool.not_false, Bool.false_or, Bool.or_false, Bool.true_or, Bool.or_true, Bool.and_true, Bool.true_and, Bool.and_false, Bool.false_and, beq_self_eq_true, Nat.reduceAdd, Nat.reduceSub, List.reduceReplicate, String.reduceBEq, Nat.reduceMul, Int.reduceAdd, Int.reduceSub, Int.reduceMul, Int.reduceNeg, Int.reduceLT, Int.reduceLE, Int.reducePow, Int.reduceToNat])
theorem md_Tree_told : f_Tree_told.md = [.d] := rfl
theorem run_Tree_told {c : Int} {ts : List Int} : f_Tree_told.run [.v (.ins 0 [.int c, .tup (ts.map .int)])] = .ok (.lst ((ts.map .int).map .f)) [] := by
  refine FOk.eq (run_go b_Tree_told rfl rfl ?_)
  unfold b_Tree_told
  (simp (disch := first | with_reducible assumption | omega | (simp only [List.length_map, List.length_append, List.length_cons, List.length_nil, List.length_set, List.length_reverse, List.length_replicate] <;> omega) | with_reducible rfl) only [↓e_bind, ↓e_pure, ↓e_fail, ↓e_opt, ↓e_cst, ↓e_vr, ↓e_mv, ↓e_oE, ↓e_hasS, ↓e_rdT, ↓e_rdS, ↓e_bi, ↓e_bo, ↓e_un, ↓e_cb, ↓e_fz, ↓e_tst, ↓e_band, ↓e_bor, ↓e_bnot, ↓e_ttr, ↓e_bnotT, ↓e_tand, ↓e_tor, ↓e_tnot, ↓e_ife, ↓e_tTrue, ↓e_chn, ↓e_isNil, ↓e_isCons, ↓e_eLst, ↓e_eTup, ↓e_idx, ↓e_mkL, ↓e_mkLT, ↓e_mkT, ↓e_mkTT, ↓e_cat, ↓e_oN, ↓e_oI, ↓e_slL, ↓e_slT, ↓e_rep, ↓e_sSet, ↓e_sSetF, ↓e_sRet, ↓e_sEx, ↓e_sNext, ↓e_sBk, ↓e_sCt, ↓e_sIf, ↓e_sq, ↓e_frz, ↓e_tgN, ↓e_tgs0, ↓e_tgs1, ↓e_tgT1, ↓e_tgL1, ↓e_tgT2, ↓e_tgL2, ↓e_tgT3, ↓e_tgL3, ↓e_tgT4, ↓e_tgL4, ↓e_tgT5, ↓e_tgL5, ↓e_tgT6, ↓e_tgL6, ↓e_sAsg, ↓e_par2, ↓e_par3, ↓e_okT, ↓e_okS, ↓e_itL, ↓e_itT, ↓e_itR1, ↓e_itR2, ↓e_for, ↓e_fld, ↓e_sFld, ↓e_sApp, ↓e_sSetAt, ↓e_aNil, ↓e_aV, ↓e_aS, ↓e_call, ↓e_callN, ↓e_callG, ↓e_isC, ↓e_meth, ↓e_prop, ↓e_lenOwn, ↓e_subOwn, ↓e_eqOwn, ↓e_neOwn, ↓e_mk, ↓e_mkK, ↓e_mkKO, ↓e_if1, ↓e_if0, ↓e_hide, ↓e_ok2, ↓e_no2, ↓e_sqN, ↓e_sqR, ↓e_sqB, ↓e_sqC, ↓e_frzO, ↓e_frzI, ↓e_par2O, ↓e_par3O, ↓e_cnO', ↓e_mkO', ↓e_mkI, ↓e_lc', ↓e_while, ↓e_itE, ↓e_itEK, ↓e_itEQ, ↓e_itQ, ↓e_lrg, ↓e_itRd, ↓e_catT, ↓e_srt, ↓e_mkLQ, ↓e_mkTQ, ↓e_methK, ↓e_popAt, ↓e_eqOwnA, ↓e_isCL, ↓e_Go, ↓e_outq, ↓e_retR, ↓e_retN, ↓e_rdqN, ↓e_rdqC, ↓e_rdqB, ↓e_rdqR, ↓reduceIte, Bool.false_eq_true, eq_self, e_nc, e_nc0, e_nc1, Int.reduceEq, and_self, and_true, true_and, e_wi0, e_wi1, e_re0, e_re1, e_li0, e_li1, e_liA, e_liI, e_liR, List.getD_cons_zero, List.getD_cons_succ, e_assoc2, e_m1, e_m2, e_m3, e_m4, e_m7, e_m8, e_m9, e_m10, e_some, e_isAt, e_mvI, e_mvO, e_hasI, e_hasR, e_hasO, e_hasIo, e_rdI, e_rdR, e_rdO, e_rdIo, e_fO, e_add, e_sub, e_mul, e_div, e_mod, e_pow, e_lt, e_le, e_gt, e_ge, e_neg, e_eqI, e_eqStr, e_eqB, e_neI, e_neStr, e_neB, e_isB, e_notB, e_isN0, e_isN1, e_isN2, e_isN3, e_isN4, e_isN5, e_isN6, e_notN6, e_notN0, e_notN1, e_notN2, e_notN3, e_notN4, e_notN5, e_max2, e_min2, e_intI, e_intB, e_lenL, e_lenT, e_blO, e_isO, e_isB', e_isBT, e_ty0, e_ty1, e_ty2, e_ty3, e_ty4, e_ty5, e_map, e_bAt, e_trL, e_trT, e_trI, e_trB, e_trN, e_ifn, e_valF, e_valL, e_valI, e_vals0, e_vals1, e_valsM, e_l0, e_l1, e_l2, e_l3, e_l4, e_l5, e_l6, e_l7, e_l8, e_itsL, e_itsM, e_itsT, e_sz, e_lO, e_ixL, e_ixT, e_ixM, e_at0, e_at1, e_at2, e_at3, qv_lst, qv_tup, qv_int, qv_bl, qv_str, qv_non, qvs_0, qvs_1, qvs_2, qvs_3, qv_lt, qv_tl, e_enO, e_qL, e_qT, e_qM, e_lrgO, e_rdO', e_srtO, e_ints, e_mkcT, e_wv1, e_wv2, e_wv3, e_isX, e_pk1, e_pk2, e_isX0, e_isX1, e_isX2, e_isX3, e_isX4, e_isX5, e_icLi, e_icLl, e_oiO, e_repO, e_st, e_st0, e_st1, e_st2, e_st3, e_svF, e_svL, e_svI, e_okI, e_okR, e_rg1, e_rg2, e_fM, e_fldF, e_fldO, e_sf0, e_sf1, e_sf2, e_sf3, e_sf4, e_sf5, e_sf6, e_sf7, e_isLO, e_isLI, e_apO, e_apI, e_saO, e_saI, e_hrI, e_hrR, e_hrO, e_hrIo, e_bCons, e_bs0, e_bs1, e_bD, e_bR, e_bRs, e_bIs, e_bRi, e_bRr, e_bRo, e_bRio, e_bRoI, e_bRioI, e_allF0, e_allF1, e_bIo, e_bIi, e_ios0, e_iosD, e_iosR, e_iosI, e_pt0, e_pt1, e_ptO, e_ptI, e_cgO, e_cgA, e_apO', e_rds0, e_rdsD, e_rdsI, e_rdsV, e_rdsS, e_ap0, e_ap1, e_ap2, e_ap3, List.contains_cons, List.contains_nil, Nat.reduceBEq, e_cnT, e_hAgT, e_hAgS, e_icV, e_lnO, e_eqO, e_neO, e_mkR, e_mapAg, e_mkB, e_mkM, e_eCons, e_en0, e_enD, e_enR, e_enI, e_oCons, e_os0, e_osD, e_osR, e_osI, e_foO, e_runR, e_runN, List.getElem?_cons_zero, List.getElem?_cons_succ, List.set_cons_zero, List.set_cons_succ, List.cons_append, List.nil_append, List.map_nil, List.append_nil, List.length_cons, List.length_nil, List.length_map, List.any_cons, List.any_nil, decide_true, decide_false, Bool.not_true, Bool.not_false, Bool.false_or, Bool.or_false, Bool.true_or, Bool.or_true, Bool.and_true, Bool.true_and, Bool.and_false, Bool.false_and, beq_self_eq_true, Nat.reduceAdd, Nat.reduceSub, List.reduceReplicate, String.reduceBEq, Nat.reduceMul, Int.reduceAdd, Int.reduceSub, Int.reduceMul, Int.reduceNeg, Int.reduceLT, Int.reduceLE, Int.reducePow, Int.reduceToNat, id])
theorem md_Tree_len : f_Tree_len.md = [.d] := rfl
theorem run_Tree_len {c : Int} {ts : List Int} {n : Nat} (h : ts.length + 1 = 2 * n) : f_Tree_len.run [.v (.ins 0 [.int c, .tup (ts.map .int)])] = .ok (.f (.int n)) [] := by
  refine FOk.eq (run_go b_Tree_len rfl rfl ?_)
  unfold b_Tree_len
  have e : ((cutL (ts.map Val.int) (some ((ts.length : Int) / 2)) none).length : Int) = n := by
    rw [cutL_from (by omega) (by rw [List.length_map]; omega), List.length_drop, List.length_map]
    omega
  (simp (disch := first | with_reducible assumption | omega | (simp only [List.length_map, List.length_append, List.length_cons, List.length_nil, List.length_set, List.length_reverse, List.length_replicate] <;> omega) | with_reducible rfl) only [↓e_bind, ↓e_pure, ↓e_fail, ↓e_opt, ↓e_cst, ↓e_vr, ↓e_mv, ↓e_oE, ↓e_hasS, ↓e_rdT, ↓e_rdS, ↓e_bi, ↓e_bo, ↓e_un, ↓e_cb, ↓e_fz, ↓e_tst, ↓e_band, ↓e_bor, ↓e_bnot, ↓e_ttr, ↓e_bnotT, ↓e_tand, ↓e_tor, ↓e_tnot, ↓e_ife, ↓e_tTrue, ↓e_chn, ↓e_isNil, ↓e_isCons, ↓e_eLst, ↓e_eTup, ↓e_idx, ↓e_mkL, ↓e_mkLT, ↓e_mkT, ↓e_mkTT, ↓e_cat, ↓e_oN, ↓e_oI, ↓e_slL, ↓e_slT, ↓e_rep, ↓e_sSet, ↓e_sSetF, ↓e_sRet, ↓e_sEx, ↓e_sNext, ↓e_sBk, ↓e_sCt, ↓e_sIf, ↓e_sq, ↓e_frz, ↓e_tgN, ↓e_tgs0, ↓e_tgs1, ↓e_tgT1, ↓e_tgL1, ↓e_tgT2, ↓e_tgL2, ↓e_tgT3, ↓e_tgL3, ↓e_tgT4, ↓e_tgL4, ↓e_tgT5, ↓e_tgL5, ↓e_tgT6, ↓e_tgL6, ↓e_sAsg, ↓e_par2, ↓e_par3, ↓e_okT, ↓e_okS, ↓e_itL, ↓e_itT, ↓e_itR1, ↓e_itR2, ↓e_for, ↓e_fld, ↓e_sFld, ↓e_sApp, ↓e_sSetAt, ↓e_aNil, ↓e_aV, ↓e_aS, ↓e_call, ↓e_callN, ↓e_callG, ↓e_isC, ↓e_meth, ↓e_prop, ↓e_lenOwn, ↓e_subOwn, ↓e_eqOwn, ↓e_neOwn, ↓e_mk, ↓e_mkK, ↓e_mkKO, ↓e_if1, ↓e_if0, ↓e_hide, ↓e_ok2, ↓e_no2, ↓e_sqN, ↓e_sqR, ↓e_sqB, ↓e_sqC, ↓e_frzO, ↓e_frzI, ↓e_par2O, ↓e_par3O, ↓e_cnO', ↓e_mkO', ↓e_mkI, ↓e_lc', ↓e_while, ↓e_itE, ↓e_itEK, ↓e_itEQ, ↓e_itQ, ↓e_lrg, ↓e_itRd, ↓e_catT, ↓e_srt, ↓e_mkLQ, ↓e_mkTQ, ↓e_methK, ↓e_popAt, ↓e_eqOwnA, ↓e_isCL, ↓e_Go, ↓e_outq, ↓e_retR, ↓e_retN, ↓e_rdqN, ↓e_rdqC, ↓e_rdqB, ↓e_rdqR, ↓reduceIte, Bool.false_eq_true, eq_self, e_nc, e_nc0, e_nc1, Int.reduceEq, and_self, and_true, true_and, e_wi0, e_wi1, e_re0, e_re1, e_li0, e_li1, e_liA, e_liI, e_liR, List.getD_cons_zero, List.getD_cons_succ, e_assoc2, e_m1, e_m2, e_m3, e_m4, e_m7, e_m8, e_m9, e_m10, e_some, e_isAt, e_mvI, e_mvO, e_hasI, e_hasR, e_hasO, e_hasIo, e_rdI, e_rdR, e_rdO, e_rdIo, e_fO, e_add, e_sub, e_mul, e_div, e_mod, e_pow, e_lt, e_le, e_gt, e_ge, e_neg, e_eqI, e_eqStr, e_eqB, e_neI, e_neStr, e_neB, e_isB, e_notB, e_isN0, e_isN1, e_isN2, e_isN3, e_isN4, e_isN5, e_isN6, e_notN6, e_notN0, e_notN1, e_notN2, e_notN3, e_notN4, e_notN5, e_max2, e_min2, e_intI, e_intB, e_lenL, e_lenT, e_blO, e_isO, e_isB', e_isBT, e_ty0, e_ty1, e_ty2, e_ty3, e_ty4, e_ty5, e_map, e_bAt, e_trL, e_trT, e_trI, e_trB, e_trN, e_ifn, e_valF, e_valL, e_valI, e_vals0, e_vals1, e_valsM, e_l0, e_l1, e_l2, e_l3, e_l4, e_l5, e_l6, e_l7, e_l8, e_itsL, e_itsM, e_itsT, e_sz, e_lO, e_ixL, e_ixT, e_ixM, e_at0, e_at1, e_at2, e_at3, qv_lst, qv_tup, qv_int, qv_bl, qv_str, qv_non, qvs_0, qvs_1, qvs_2, qvs_3, qv_lt, qv_tl, e_enO, e_qL, e_qT, e_qM, e_lrgO, e_rdO', e_srtO, e_ints, e_mkcT, e_wv1, e_wv2, e_wv3, e_isX, e_pk1, e_pk2, e_isX0, e_isX1, e_isX2, e_isX3, e_isX4, e_isX5, e_icLi, e_icLl, e_oiO, e_repO, e_st, e_st0, e_st1, e_st2, e_st3, e_svF, e_svL, e_svI, e_okI, e_okR, e_rg1, e_rg2, e_fM, e_fldF, e_fldO, e_sf0, e_sf1, e_sf2, e_sf3, e_sf4, e_sf5, e_sf6, e_sf7, e_isLO, e_isLI, e_apO, e_apI, e_saO, e_saI, e_hrI, e_hrR, e_hrO, e_hrIo, e_bCons, e_bs0, e_bs1, e_bD, e_bR, e_bRs, e_bIs, e_bRi, e_bRr, e_bRo, e_bRio, e_bRoI, e_bRioI, e_allF0, e_allF1, e_bIo, e_bIi, e_ios0, e_iosD, e_iosR, e_iosI, e_pt0, e_pt1, e_ptO, e_ptI, e_cgO, e_cgA, e_apO', e_rds0, e_rdsD, e_rdsI, e_rdsV, e_rdsS, e_ap0, e_ap1, e_ap2, e_ap3, List.contains_cons, List.contains_nil, Nat.reduceBEq, e_cnT, e_hAgT, e_hAgS, e_icV, e_lnO, e_eqO, e_neO, e_mkR, e_mapAg, e_mkB, e_mkM, e_eCons, e_en0, e_enD, e_enR, e_enI, e_oCons, e_os0, e_osD, e_osR, e_osI, e_foO, e_runR, e_runN, List.getElem?_cons_zero, List.getElem?_cons_succ, List.set_cons_zero, List.set_cons_succ, List.cons_append, List.nil_append, List.map_nil, List.append_nil, List.length_cons, List.length_nil, List.length_map, List.any_cons, List.any_nil, decide_true, decide_false, Bool.not_true, Bool.not_false, Bool.false_or, Bool.or_false, Bool.true_or, Bool.or_true, Bool.and_true, Bool.true_and, Bool.and_false, Bool.false_and, beq_self_eq_true, Nat.reduceAdd, Nat.reduceSub, List.reduceReplicate, String.reduceBEq, Nat.reduceMul, Int.reduceAdd, Int.reduceSub, Int.reduceMul, Int.reduceNeg, Int.reduceLT, Int.reduceLE, Int.reducePow, Int.reduceToNat, e])
theorem md_Tree_eq : f_Tree_eq.md = [.d, .d] := rfl
theorem run_Tree_eq {c d : Int} {ts us : List Int} (h1 : (Val.tup (ts.map .int)).okd) (h2 : (Val.tup (us.map .int)).okd) : f_Tree_eq.run [.v (.ins 0 [.int c, .tup (ts.map .int)]), .v (.ins 0 [.int d, .tup (us.map .int)])] = .ok (.f (.bl (decide (c = d) && decide (ts = us)))) [] := by
  refine FOk.eq (run_go b_Tree_eq rfl rfl ?_)
  unfold b_Tree_eq
  (simp (disch := first | with_reducible assumption | omega | (simp only [List.length_map, List.length_append, List.length_cons, List.length_nil, List.length_set, List.length_reverse, List.length_replicate] <;> omega) | with_reducible rfl) only [↓e_bind, ↓e_pure, ↓e_fail, ↓e_opt, ↓e_cst, ↓e_vr, ↓e_mv, ↓e_oE, ↓e_hasS, ↓e_rdT, ↓e_rdS, ↓e_bi, ↓e_bo, ↓e_un, ↓e_cb, ↓e_fz, ↓e_tst, ↓e_band, ↓e_bor, ↓e_bnot, ↓e_ttr, ↓e_bnotT, ↓e_tand, ↓e_tor, ↓e_tnot, ↓e_ife, ↓e_tTrue, ↓e_chn, ↓e_isNil, ↓e_isCons, ↓e_eLst, ↓e_eTup, ↓e_idx, ↓e_mkL, ↓e_mkLT, ↓e_mkT, ↓e_mkTT, ↓e_cat, ↓e_oN, ↓e_oI, ↓e_slL, ↓e_slT, ↓e_rep, ↓e_sSet, ↓e_sSetF, ↓e_sRet, ↓e_sEx, ↓e_sNext, ↓e_sBk, ↓e_sCt, ↓e_sIf, ↓e_sq, ↓e_frz, ↓e_tgN, ↓e_tgs0, ↓e_tgs1, ↓e_tgT1, ↓e_tgL1, ↓e_tgT2, ↓e_tgL2, ↓e_tgT3, ↓e_tgL3, ↓e_tgT4, ↓e_tgL4, ↓e_tgT5, ↓e_tgL5, ↓e_tgT6, ↓e_tgL6, ↓e_sAsg, ↓e_par2, ↓e_par3, ↓e_okT, ↓e_okS, ↓e_itL, ↓e_itT, ↓e_itR1, ↓e_itR2, ↓e_for, ↓e_fld, ↓e_sFld, ↓e_sApp, ↓e_sSetAt, ↓e_aNil, ↓e_aV, ↓e_aS, ↓e_call, ↓e_callN, ↓e_callG, ↓e_isC, ↓e_meth, ↓e_prop, ↓e_lenOwn, ↓e_subOwn, ↓e_eqOwn, ↓e_neOwn, ↓e_mk, ↓e_mkK, ↓e_mkKO, ↓e_if1, ↓e_if0, ↓e_hide, ↓e_ok2, ↓e_no2, ↓e_sqN, ↓e_sqR, ↓e_sqB, ↓e_sqC, ↓e_frzO, ↓e_frzI, ↓e_par2O, ↓e_par3O, ↓e_cnO', ↓e_mkO', ↓e_mkI, ↓e_lc', ↓e_while, ↓e_itE, ↓e_itEK, ↓e_itEQ, ↓e_itQ, ↓e_lrg, ↓e_itRd, ↓e_catT, ↓e_srt, ↓e_mkLQ, ↓e_mkTQ, ↓e_methK, ↓e_popAt, ↓e_eqOwnA, ↓e_isCL, ↓e_Go, ↓e_outq, ↓e_retR, ↓e_retN, ↓e_rdqN, ↓e_rdqC, ↓e_rdqB, ↓e_rdqR, ↓reduceIte, Bool.false_eq_true, eq_self, e_nc, e_nc0, e_nc1, Int.reduceEq, and_self, and_true, true_and, e_wi0, e_wi1, e_re0, e_re1, e_li0, e_li1, e_liA, e_liI, e_liR, List.getD_cons_zero, List.getD_cons_succ, e_assoc2, e_m1, e_m2, e_m3, e_m4, e_m7, e_m8, e_m9, e_m10, e_some, e_isAt, e_mvI, e_mvO, e_hasI, e_hasR, e_hasO, e_hasIo, e_rdI, e_rdR, e_rdO, e_rdIo, e_fO, e_add, e_sub, e_mul, e_div, e_mod, e_pow, e_lt, e_le, e_gt, e_ge, e_neg, e_eqI, e_eqStr, e_eqB, e_neI, e_neStr, e_neB, e_isB, e_notB, e_isN0, e_isN1, e_isN2, e_isN3, e_isN4, e_isN5, e_isN6, e_notN6, e_notN0, e_notN1, e_notN2, e_notN3, e_notN4, e_notN5, e_max2, e_min2, e_intI, e_intB, e_lenL, e_lenT, e_blO, e_isO, e_isB', e_isBT, e_ty0, e_ty1, e_ty2, e_ty3, e_ty4, e_ty5, e_map, e_bAt, e_trL, e_trT, e_trI, e_trB, e_trN, e_ifn, e_valF, e_valL, e_valI, e_vals0, e_vals1, e_valsM, e_l0, e_l1, e_l2, e_l3, e_l4, e_l5, e_l6, e_l7, e_l8, e_itsL, e_itsM, e_itsT, e_sz, e_lO, e_ixL, e_ixT, e_ixM, e_at0, e_at1, e_at2, e_at3, qv_lst, qv_tup, qv_int, qv_bl, qv_str, qv_non, qvs_0, qvs_1, qvs_2, qvs_3, qv_lt, qv_tl, e_enO, e_qL, e_qT, e_qM, e_lrgO, e_rdO', e_srtO, e_ints, e_mkcT, e_wv1, e_wv2, e_wv3, e_isX, e_pk1, e_pk2, e_isX0, e_isX1, e_isX2, e_isX3, e_isX4, e_isX5, e_icLi, e_icLl, e_oiO, e_repO, e_st, e_st0, e_st1, e_st2, e_st3, e_svF, e_svL, e_svI, e_okI, e_okR, e_rg1, e_rg2, e_fM, e_fldF, e_fldO, e_sf0, e_sf1, e_sf2, e_sf3, e_sf4, e_sf5, e_sf6, e_sf7, e_isLO, e_isLI, e_apO, e_apI, e_saO, e_saI, e_hrI, e_hrR, e_hrO, e_hrIo, e_bCons, e_bs0, e_bs1, e_bD, e_bR, e_bRs, e_bIs, e_bRi, e_bRr, e_bRo, e_bRio, e_bRoI, e_bRioI, e_allF0, e_allF1, e_bIo, e_bIi, e_ios0, e_iosD, e_iosR, e_iosI, e_pt0, e_pt1, e_ptO, e_ptI, e_cgO, e_cgA, e_apO', e_rds0, e_rdsD, e_rdsI, e_rdsV, e_rdsS, e_ap0, e_ap1, e_ap2, e_ap3, List.contains_cons, List.contains_nil, Nat.reduceBEq, e_cnT, e_hAgT, e_hAgS, e_icV, e_lnO, e_eqO, e_neO, e_mkR, e_mapAg, e_mkB, e_mkM, e_eCons, e_en0, e_enD, e_enR, e_enI, e_oCons, e_os0, e_osD, e_osR, e_osI, e_foO, e_runR, e_runN, List.getElem?_cons_zero, List.getElem?_cons_succ, List.set_cons_zero, List.set_cons_succ, List.cons_append, List.nil_append, List.map_nil, List.append_nil, List.length_cons, List.length_nil, List.length_map, List.any_cons, List.any_nil, decide_true, decide_false, Bool.not_true, Bool.not_false, Bool.false_or, Bool.or_false, Bool.true_or, Bool.or_true, Bool.and_true, Bool.true_and, Bool.and_false, Bool.false_and, beq_self_eq_true, Nat.reduceAdd, Nat.reduceSub, List.reduceReplicate, String.reduceBEq, Nat.reduceMul, Int.reduceAdd, Int.reduceSub, Int.reduceMul, Int.reduceNeg, Int.reduceLT, Int.reduceLE, Int.reducePow, Int.reduceToNat, eqD_tints h1 h2])
theorem md_check_tree : f_check_tree.md = [.d] := rfl
theorem run_check_tree {xs : List Val} : f_check_tree.run [.v (.ins 0 xs)] = .ok (.f .non) [] := by
  refine FOk.eq (run_go b_check_tree rfl rfl ?_)
  unfold b_check_tree
  (simp (disch := first | with_reducible assumption | omega | (simp only [List.length_map, List.length_append, List.length_cons, List.length_nil, List.length_set, List.length_reverse, List.length_replicate] <;> omega) | with_reducible rfl) only [↓e_bind, ↓e_pure, ↓e_fail, ↓e_opt, ↓e_cst, ↓e_vr, ↓e_mv, ↓e_oE, ↓e_hasS, ↓e_rdT, ↓e_rdS, ↓e_bi, ↓e_bo, ↓e_un, ↓e_cb, ↓e_fz, ↓e_tst, ↓e_band, ↓e_bor, ↓e_bnot, ↓e_ttr, ↓e_bnotT, ↓e_tand, ↓e_tor, ↓e_tnot, ↓e_ife, ↓e_tTrue, ↓e_chn, ↓e_isNil, ↓e_isCons, ↓e_eLst, ↓e_eTup, ↓e_idx, ↓e_mkL, ↓e_mkLT, ↓e_mkT, ↓e_mkTT, ↓e_cat, ↓e_oN, ↓e_oI, ↓e_slL, ↓e_slT, ↓e_rep, ↓e_sSet, ↓e_sSetF, ↓e_sRet, ↓e_sEx, ↓e_sNext, ↓e_sBk, ↓e_sCt, ↓e_sIf, ↓e_sq, ↓e_frz, ↓e_tgN, ↓e_tgs0, ↓e_tgs1, ↓e_tgT1, ↓e_tgL1, ↓e_tgT2, ↓e_tgL2, ↓e_tgT3, ↓e_tgL3, ↓e_tgT4, ↓e_tgL4, ↓e_tgT5, ↓e_tgL5, ↓e_tgT6, ↓e_tgL6, ↓e_sAsg, ↓e_par2, ↓e_par3, ↓e_okT, ↓e_okS, ↓e_itL, ↓e_itT, ↓e_itR1, ↓e_itR2, ↓e_for, ↓e_fld, ↓e_sFld, ↓e_sApp, ↓e_sSetAt, ↓e_aNil, ↓e_aV, ↓e_aS, ↓e_call, ↓e_callN, ↓e_callG, ↓e_isC, ↓e_meth, ↓e_prop, ↓e_lenOwn, ↓e_subOwn, ↓e_eqOwn, ↓e_neOwn, ↓e_mk, ↓e_mkK, ↓e_mkKO, ↓e_if1, ↓e_if0, ↓e_hide, ↓e_ok2, ↓e_no2, ↓e_sqN, ↓e_sqR, ↓e_sqB, ↓e_sqC, ↓e_frzO, ↓e_frzI, ↓e_par2O, ↓e_par3O, ↓e_cnO', ↓e_mkO', ↓e_mkI, ↓e_lc', ↓e_while, ↓e_itE, ↓e_itEK, ↓e_itEQ, ↓e_itQ, ↓e_lrg, ↓e_itRd, ↓e_catT, ↓e_srt, ↓e_mkLQ, ↓e_mkTQ, ↓e_methK, ↓e_popAt, ↓e_eqOwnA, ↓e_isCL, ↓e_Go, ↓e_outq, ↓e_retR, ↓e_retN, ↓e_rdqN, ↓e_rdqC, ↓e_rdqB, ↓e_rdqR, ↓reduceIte, Bool.false_eq_true, eq_self, e_nc, e_nc0, e_nc1, Int.reduceEq, and_self, and_true, true_and, e_wi0, e_wi1, e_re0, e_re1, e_li0, e_li1, e_liA, e_liI, e_liR, List.getD_cons_zero, List.getD_cons_succ, e_assoc2, e_m1, e_m2, e_m3, e_m4, e_m7, e_m8, e_m9, e_m10, e_some, e_isAt, e_mvI, e_mvO, e_hasI, e_hasR, e_hasO, e_hasIo, e_rdI, e_rdR, e_rdO, e_rdIo, e_fO, e_add, e_sub, e_mul, e_div, e_mod, e_pow, e_lt, e_le, e_gt, e_ge, e_neg, e_eqI, e_eqStr, e_eqB, e_neI, e_neStr, e_neB, e_isB, e_notB, e_isN0, e_isN1, e_isN2, e_isN3, e_isN4, e_isN5, e_isN6, e_notN6, e_notN0, e_notN1, e_notN2, e_notN3, e_notN4, e_notN5, e_max2, e_min2, e_intI, e_intB, e_lenL, e_lenT, e_blO, e_isO, e_isB', e_isBT, e_ty0, e_ty1, e_ty2, e_ty3, e_ty4, e_ty5, e_map, e_bAt, e_trL, e_trT, e_trI, e_trB, e_trN, e_ifn, e_valF, e_valL, e_valI, e_vals0, e_vals1, e_valsM, e_l0, e_l1, e_l2, e_l3, e_l4, e_l5, e_l6, e_l7, e_l8, e_itsL, e_itsM, e_itsT, e_sz, e_lO, e_ixL, e_ixT, e_ixM, e_at0, e_at1, e_at2, e_at3, qv_lst, qv_tup, qv_int, qv_bl, qv_str, qv_non, qvs_0, qvs_1, qvs_2, qvs_3, qv_lt, qv_tl, e_enO, e_qL, e_qT, e_qM, e_lrgO, e_rdO', e_srtO, e_ints, e_mkcT, e_wv1, e_wv2, e_wv3, e_isX, e_pk1, e_pk2, e_isX0, e_isX1, e_isX2, e_isX3, e_isX4, e_isX5, e_icLi, e_icLl, e_oiO, e_repO, e_st, e_st0, e_st1, e_st2, e_st3, e_svF, e_svL, e_svI, e_okI, e_okR, e_rg1, e_rg2, e_fM, e_fldF, e_fldO, e_sf0, e_sf1, e_sf2, e_sf3, e_sf4, e_sf5, e_sf6, e_sf7, e_isLO, e_isLI, e_apO, e_apI, e_saO, e_saI, e_hrI, e_hrR, e_hrO, e_hrIo, e_bCons, e_bs0, e_bs1, e_bD, e_bR, e_bRs, e_bIs, e_bRi, e_bRr, e_bRo, e_bRio, e_bRoI, e_bRioI, e_allF0, e_allF1, e_bIo, e_bIi, e_ios0, e_iosD, e_iosR, e_iosI, e_pt0, e_pt1, e_ptO, e_ptI, e_cgO, e_cgA, e_apO', e_rds0, e_rdsD, e_rdsI, e_rdsV, e_rdsS, e_ap0, e_ap1, e_ap2, e_ap3, List.contains_cons, List.contains_nil, Nat.reduceBEq, e_cnT, e_hAgT, e_hAgS, e_icV, e_lnO, e_eqO, e_neO, e_mkR, e_mapAg, e_mkB, e_mkM, e_eCons, e_en0, e_enD, e_enR, e_enI, e_oCons, e_os0, e_osD, e_osR, e_osI, e_foO, e_runR, e_runN, List.getElem?_cons_zero, List.getElem?_cons_succ, List.set_cons_zero, List.set_cons_succ, List.cons_append, List.nil_append, List.map_nil, List.append_nil, List.length_cons, List.length_nil, List.length_map, List.any_cons, List.any_nil, decide_true, decide_false, Bool.not_true, Bool.not_false, Bool.false_or, Bool.or_false, Bool.true_or, Bool.or_true, Bool.and_true, Bool.true_and, Bool.and_false, Bool.false_and, beq_self_eq_true, Nat.reduceAdd, Nat.reduceSub, List.reduceReplicate, String.reduceBEq, Nat.reduceMul, Int.reduceAdd, Int.reduceSub, Int.reduceMul, Int.reduceNeg, Int.reduceLT, Int.reduceLE, Int.reducePow, Int.reduceToNat])
theorem md_Disk_now : f_Disk_now.md = [.d] := rfl
theorem run_Disk_now {x y z : Val} : f_Disk_now.run [.v (.ins 3 [x, y, z])] = .ok (.f x) [] := by
  refine FOk.eq (run_go b_Disk_now rfl rfl ?_)
  unfold b_Disk_now
  (simp (disch := first | with_reducible assumption | omega | (simp only [List.length_map, List.length_append, List.length_cons, List.length_nil, List.length_set, List.length_reverse, List.length_replicate] <;> omega) | with_reducible rfl) only [↓e_bind, ↓e_pure, ↓e_fail, ↓e_opt, ↓e_cst, ↓e_vr, ↓e_mv, ↓e_oE, ↓e_hasS, ↓e_rdT, ↓e_rdS, ↓e_bi, ↓e_bo, ↓e_un, ↓e_cb, ↓e_fz, ↓e_tst, ↓e_band, ↓e_bor, ↓e_bnot, ↓e_ttr, ↓e_bnotT, ↓e_tand, ↓e_tor, ↓e_tnot, ↓e_ife, ↓e_tTrue, ↓e_chn, ↓e_isNil, ↓e_isCons, ↓e_eLst, ↓e_eTup, ↓e_idx, ↓e_mkL, ↓e_mkLT, ↓e_mkT, ↓e_mkTT, ↓e_cat, ↓e_oN, ↓e_oI, ↓e_slL, ↓e_slT, ↓e_rep, ↓e_sSet, ↓e_sSetF, ↓e_sRet, ↓e_sEx, ↓e_sNext, ↓e_sBk, ↓e_sCt, ↓e_sIf, ↓e_sq, ↓e_frz, ↓e_tgN, ↓e_tgs0, ↓e_tgs1, ↓e_tgT1, ↓e_tgL1, ↓e_tgT2, ↓e_tgL2, ↓e_tgT3, ↓e_tgL3, ↓e_tgT4, ↓e_tgL4, ↓e_tgT5, ↓e_tgL5, ↓e_tgT6, ↓e_tgL6, ↓e_sAsg, ↓e_par2, ↓e_par3, ↓e_okT, ↓e_okS, ↓e_itL, ↓e_itT, ↓e_itR1, ↓e_itR2, ↓e_for, ↓e_fld, ↓e_sFld, ↓e_sApp, ↓e_sSetAt, ↓e_aNil, ↓e_aV, ↓e_aS, ↓e_call, ↓e_callN, ↓e_callG, ↓e_isC, ↓e_meth, ↓e_prop, ↓e_lenOwn, ↓e_subOwn, ↓e_eqOwn, ↓e_neOwn, ↓e_mk, ↓e_mkK, ↓e_mkKO, ↓e_if1, ↓e_if0, ↓e_hide, ↓e_ok2, ↓e_no2, ↓e_sqN, ↓e_sqR, ↓e_sqB, ↓e_sqC, ↓e_frzO, ↓e_frzI, ↓e_par2O, ↓e_par3O, ↓e_cnO', ↓e_mkO', ↓e_mkI, ↓e_lc', ↓e_while, ↓e_itE, ↓e_itEK, ↓e_itEQ, ↓e_itQ, ↓e_lrg, ↓e_itRd, ↓e_catT, ↓e_srt, ↓e_mkLQ, ↓e_mkTQ, ↓e_methK, ↓e_popAt, ↓e_eqOwnA, ↓e_isCL, ↓e_Go, ↓e_outq, ↓e_retR, ↓e_retN, ↓e_rdqN, ↓e_rdqC, ↓e_rdqB, ↓e_rdqR, ↓reduceIte, Bool.false_eq_true, eq_self, e_nc, e_nc0, e_nc1, Int.reduceEq, and_self, and_true, true_and, e_wi0, e_wi1, e_re0, e_re1, e_li0, e_li1, e_liA, e_liI, e_liR, List.getD_cons_zero, List.getD_cons_succ, e_assoc2, e_m1, e_m2, e_m3, e_m4, e_m7, e_m8, e_m9, e_m10, e_some, e_isAt, e_mvI, e_mvO, e_hasI, e_hasR, e_hasO, e_hasIo, e_rdI, e_rdR, e_rdO, e_rdIo, e_fO, e_add, e_sub, e_mul, e_div, e_mod, e_pow, e_lt, e_le, e_gt, e_ge, e_neg, e_eqI, e_eqStr, e_eqB, e_neI, e_neStr, e_neB, e_isB, e_notB, e_isN0, e_isN1, e_isN2, e_isN3, e_isN4, e_isN5, e_isN6, e_notN6, e_notN0, e_notN1, e_notN2, e_notN3, e_notN4, e_notN5, e_max2, e_min2, e_intI, e_intB, e_lenL, e_lenT, e_blO, e_isO, e_isB', e_isBT, e_ty0, e_ty1, e_ty2, e_ty3, e_ty4, e_ty5, e_map, e_bAt, e_trL, e_trT, e_trI, e_trB, e_trN, e_ifn, e_valF, e_valL, e_valI, e_vals0, e_vals1, e_valsM, e_l0, e_l1, e_l2, e_l3, e_l4, e_l5, e_l6, e_l7, e_l8, e_itsL, e_itsM, e_itsT, e_sz, e_lO, e_ixL, e_ixT, e_ixM, e_at0, e_at1, e_at2, e_at3, qv_lst, qv_tup, qv_int, qv_bl, qv_str, qv_non, qvs_0, qvs_1, qvs_2, qvs_3, qv_lt, qv_tl, e_enO, e_qL, e_qT, e_qM, e_lrgO, e_rdO', e_srtO, e_ints, e_mkcT, e_wv1, e_wv2, e_wv3, e_isX, e_pk1, e_pk2, e_isX0, e_isX1, e_isX2, e_isX3, e_isX4, e_isX5, e_icLi, e_icLl, e_oiO, e_repO, e_st, e_st0, e_st1, e_st2, e_st3, e_svF, e_svL, e_svI, e_okI, e_okR, e_rg1, e_rg2, e_fM, e_fldF, e_fldO, e_sf0, e_sf1, e_sf2, e_sf3, e_sf4, e_sf5, e_sf6, e_sf7, e_isLO, e_isLI, e_apO, e_apI, e_saO, e_saI, e_hrI, e_hrR, e_hrO, e_hrIo, e_bCons, e_bs0, e_bs1, e_bD, e_bR, e_bRs, e_bIs, e_bRi, e_bRr, e_bRo, e_bRio, e_bRoI, e_bRioI, e_allF0, e_allF1, e_bIo, e_bIi, e_ios0, e_iosD, e_iosR, e_iosI, e_pt0, e_pt1, e_ptO, e_ptI, e_cgO, e_cgA, e_apO', e_rds0, e_rdsD, e_rdsI, e_rdsV, e_rdsS, e_ap0, e_ap1, e_ap2, e_ap3, List.contains_cons, List.contains_nil, Nat.reduceBEq, e_cnT, e_hAgT, e_hAgS, e_icV, e_lnO, e_eqO, e_neO, e_mkR, e_mapAg, e_mkB, e_mkM, e_eCons, e_en0, e_enD, e_enR, e_enI, e_oCons, e_os0, e_osD, e_osR, e_osI, e_foO, e_runR, e_runN, List.getElem?_cons_zero, List.getElem?_cons_succ, List.set_cons_zero, List.set_cons_succ, List.cons_append, List.nil_append, List.map_nil, List.append_nil, List.length_cons, List.length_nil, List.length_map, List.any_cons, List.any_nil, decide_true, decide_false, Bool.not_true, Bool.not_false, Bool.false_or, Bool.or_false, Bool.true_or, Bool.or_true, Bool.and_true, Bool.true_and, Bool.and_false, Bool.false_and, beq_self_eq_true, Nat.reduceAdd, Nat.reduceSub, List.reduceReplicate, String.reduceBEq, Nat.reduceMul, Int.reduceAdd, Int.reduceSub, Int.reduceMul, Int.reduceNeg, Int.reduceLT, Int.reduceLE, Int.reducePow, Int.reduceToNat])
theorem md_Disk_flushed : f_Disk_flushed.md = [.d] := rfl
theorem run_Disk_flushed {x y z : Val} : f_Disk_flushed.run [.v (.ins 3 [x, y, z])] = .ok (.f y) [] := by
  refine FOk.eq (run_go b_Disk_flushed rfl rfl ?_)
  unfold b_Disk_flushed
  (simp (disch := first | with_reducible assumption | omega | (simp only [List.length_map, List.length_append, List.length_cons, List.length_nil, List.length_set, List.length_reverse, List.length_replicate] <;> omega) | with_reducible rfl) only [↓e_bind, ↓e_pure, ↓e_fail, ↓e_opt, ↓e_cst, ↓e_vr, ↓e_mv, ↓e_oE, ↓e_hasS, ↓e_rdT, ↓e_rdS, ↓e_bi, ↓e_bo, ↓e_un, ↓e_cb, ↓e_fz, ↓e_tst, ↓e_band, ↓e_bor, ↓e_bnot, ↓e_ttr, ↓e_bnotT, ↓e_tand, ↓e_tor, ↓e_tnot, ↓e_ife, ↓e_tTrue, ↓e_chn, ↓e_isNil, ↓e_isCons, ↓e_eLst, ↓e_eTup, ↓e_idx, ↓e_mkL, ↓e_mkLT, ↓e_mkT, ↓e_mkTT, ↓e_cat, ↓e_oN, ↓e_oI, ↓e_slL, ↓e_slT, ↓e_rep, ↓e_sSet, ↓e_sSetF, ↓e_sRet, ↓e_sEx, ↓e_sNext, ↓e_sBk, ↓e_sCt, ↓e_sIf, ↓e_sq, ↓e_frz, ↓e_tgN, ↓e_tgs0, ↓e_tgs1, ↓e_tgT1, ↓e_tgL1, ↓e_tgT2, ↓e_tgL2, ↓e_tgT3, ↓e_tgL3, ↓e_tgT4, ↓e_tgL4, ↓e_tgT5, ↓e_tgL5, ↓e_tgT6, ↓e_tgL6, ↓e_sAsg, ↓e_par2, ↓e_par3, ↓e_okT, ↓e_okS, ↓e_itL, ↓e_itT, ↓e_itR1, ↓e_itR2, ↓e_for, ↓e_fld, ↓e_sFld, ↓e_sApp, ↓e_sSetAt, ↓e_aNil, ↓e_aV, ↓e_aS, ↓e_call, ↓e_callN, ↓e_callG, ↓e_isC, ↓e_meth, ↓e_prop, ↓e_lenOwn, ↓e_subOwn, ↓e_eqOwn, ↓e_neOwn, ↓e_mk, ↓e_mkK, ↓e_mkKO, ↓e_if1, ↓e_if0, ↓e_hide, ↓e_ok2, ↓e_no2, ↓e_sqN, ↓e_sqR, ↓e_sqB, ↓e_sqC, ↓e_frzO, ↓e_frzI, ↓e_par2O, ↓e_par3O, ↓e_cnO', ↓e_mkO', ↓e_mkI, ↓e_lc', ↓e_while, ↓e_itE, ↓e_itEK, ↓e_itEQ, ↓e_itQ, ↓e_lrg, ↓e_itRd, ↓e_catT, ↓e_srt, ↓e_mkLQ, ↓e_mkTQ, ↓e_methK, ↓e_popAt, ↓e_eqOwnA, ↓e_isCL, ↓e_Go, ↓e_outq, ↓e_retR, ↓e_retN, ↓e_rdqN, ↓e_rdqC, ↓e_rdqB, ↓e_rdqR, ↓reduceIte, Bool.false_eq_true, eq_self, e_nc, e_nc0, e_nc1, Int.reduceEq, and_self, and_true, true_and, e_wi0, e_wi1, e_re0, e_re1, e_li0, e_li1, e_liA, e_liI, e_liR, List.getD_cons_zero, List.getD_cons_succ, e_assoc2, e_m1, e_m2, e_m3, e_m4, e_m7, e_m8, e_m9, e_m10, e_some, e_isAt, e_mvI, e_mvO, e_hasI, e_hasR, e_hasO, e_hasIo, e_rdI, e_rdR, e_rdO, e_rdIo, e_fO, e_add, e_sub, e_mul, e_div, e_mod, e_pow, e_lt, e_le, e_gt, e_ge, e_neg, e_eqI, e_eqStr, e_eqB, e_neI, e_neStr, e_neB, e_isB, e_notB, e_isN0, e_isN1, e_isN2, e_isN3, e_isN4, e_isN5, e_isN6, e_notN6, e_notN0, e_notN1, e_notN2, e_notN3, e_notN4, e_notN5, e_max2, e_min2, e_intI, e_intB, e_lenL, e_lenT, e_blO, e_isO, e_isB', e_isBT, e_ty0, e_ty1, e_ty2, e_ty3, e_ty4, e_ty5, e_map, e_bAt, e_trL, e_trT, e_trI, e_trB, e_trN, e_ifn, e_valF, e_valL, e_valI, e_vals0, e_vals1, e_valsM, e_l0, e_l1, e_l2, e_l3, e_l4, e_l5, e_l6, e_l7, e_l8, e_itsL, e_itsM, e_itsT, e_sz, e_lO, e_ixL, e_ixT, e_ixM, e_at0, e_at1, e_at2, e_at3, qv_lst, qv_tup, qv_int, qv_bl, qv_str, qv_non, qvs_0, qvs_1, qvs_2, qvs_3, qv_lt, qv_tl, e_enO, e_qL, e_qT, e_qM, e_lrgO, e_rdO', e_srtO, e_ints, e_mkcT, e_wv1, e_wv2, e_wv3, e_isX, e_pk1, e_pk2, e_isX0, e_isX1, e_isX2, e_isX3, e_isX4, e_isX5, e_icLi, e_icLl, e_oiO, e_repO, e_st, e_st0, e_st1, e_st2, e_st3, e_svF, e_svL, e_svI, e_okI, e_okR, e_rg1, e_rg2, e_fM, e_fldF, e_fldO, e_sf0, e_sf1, e_sf2, e_sf3, e_sf4, e_sf5, e_sf6, e_sf7, e_isLO, e_isLI, e_apO, e_apI, e_saO, e_saI, e_hrI, e_hrR, e_hrO, e_hrIo, e_bCons, e_bs0, e_bs1, e_bD, e_bR, e_bRs, e_bIs, e_bRi, e_bRr, e_bRo, e_bRio, e_bRoI, e_bRioI, e_allF0, e_allF1, e_bIo, e_bIi, e_ios0, e_iosD, e_iosR, e_iosI, e_pt0, e_pt1, e_ptO, e_ptI, e_cgO, e_cgA, e_apO', e_rds0, e_rdsD, e_rdsI, e_rdsV, e_rdsS, e_ap0, e_ap1, e_ap2, e_ap3, List.contains_cons, List.contains_nil, Nat.reduceBEq, e_cnT, e_hAgT, e_hAgS, e_icV, e_lnO, e_eqO, e_neO, e_mkR, e_mapAg, e_mkB, e_mkM, e_eCons, e_en0, e_enD, e_enR, e_enI, e_oCons, e_os0, e_osD, e_osR, e_osI, e_foO, e_runR, e_runN, List.getElem?_cons_zero, List.getElem?_cons_succ, List.set_cons_zero, List.set_cons_succ, List.cons_append, List.nil_append, List.map_nil, List.append_nil, List.length_cons, List.length_nil, List.length_map, List.any_cons, List.any_nil, decide_true, decide_false, Bool.not_true, Bool.not_false, Bool.false_or, Bool.or_false, Bool.true_or, Bool.or_true, Bool.and_true, Bool.true_and, Bool.and_false, Bool.false_and, beq_self_eq_true, Nat.reduceAdd, Nat.reduceSub, List.reduceReplicate, String.reduceBEq, Nat.reduceMul, Int.reduceAdd, Int.reduceSub, Int.reduceMul, Int.reduceNeg, Int.reduceLT, Int.reduceLE, Int.reducePow, Int.reduceToNat])
theorem md_Disk_pending : f_Disk_pending.md = [.d] := rfl
theorem run_Disk_pending {x y : Val} {zs : List Val} : f_Disk_pending.run [.v (.ins 3 [x, y, .tup zs])] = .ok (.lst (zs.map .f)) [] := by
  refine FOk.eq (run_go b_Disk_pending rfl rfl ?_)
  unfold b_Disk_pending
  (simp (disch := first | with_reducible assumption | omega | (simp only [List.length_map, List.length_append, List.length_cons, List.length_nil, List.length_set, List.length_reverse, List.length_replicate] <;> omega) | with_reducible rfl) only [↓e_bind, ↓e_pure, ↓e_fail, ↓e_opt, ↓e_cst, ↓e_vr, ↓e_mv, ↓e_oE, ↓e_hasS, ↓e_rdT, ↓e_rdS, ↓e_bi, ↓e_bo, ↓e_un, ↓e_cb, ↓e_fz, ↓e_tst, ↓e_band, ↓e_bor, ↓e_bnot, ↓e_ttr, ↓e_bnotT, ↓e_tand, ↓e_tor, ↓e_tnot, ↓e_ife, ↓e_tTrue, ↓e_chn, ↓e_isNil, ↓e_isCons, ↓e_eLst, ↓e_eTup, ↓e_idx, ↓e_mkL, ↓e_mkLT, ↓e_mkT, ↓e_mkTT, ↓e_cat, ↓e_oN, ↓e_oI, ↓e_slL, ↓e_slT, ↓e_rep, ↓e_sSet, ↓e_sSetF, ↓e_sRet, ↓e_sEx, ↓e_sNext, ↓e_sBk, ↓e_sCt, ↓e_sIf, ↓e_sq, ↓e_frz, ↓e_tgN, ↓e_tgs0, ↓e_tgs1, ↓e_tgT1, ↓e_tgL1, ↓e_tgT2, ↓e_tgL2, ↓e_tgT3, ↓e_tgL3, ↓e_tgT4, ↓e_tgL4, ↓e_tgT5, ↓e_tgL5, ↓e_tgT6, ↓e_tgL6, ↓e_sAsg, ↓e_par2, ↓e_par3, ↓e_okT, ↓e_okS, ↓e_itL, ↓e_itT, ↓e_itR1, ↓e_itR2, ↓e_for, ↓e_fld, ↓e_sFld, ↓e_sApp, ↓e_sSetAt, ↓e_aNil, ↓e_aV, ↓e_aS, ↓e_call, ↓e_callN, ↓e_callG, ↓e_isC, ↓e_meth, ↓e_prop, ↓e_lenOwn, ↓e_subOwn, ↓e_eqOwn, ↓e_neOwn, ↓e_mk, ↓e_mkK, ↓e_mkKO, ↓e_if1, ↓e_if0, ↓e_hide, ↓e_ok2, ↓e_no2, ↓e_sqN, ↓e_sqR, ↓e_sqB, ↓e_sqC, ↓e_frzO, ↓e_frzI, ↓e_par2O, ↓e_par3O, ↓e_cnO', ↓e_mkO', ↓e_mkI, ↓e_lc', ↓e_while, ↓e_itE, ↓e_itEK, ↓e_itEQ, ↓e_itQ, ↓e_lrg, ↓e_itRd, ↓e_catT, ↓e_srt, ↓e_mkLQ, ↓e_mkTQ, ↓e_methK, ↓e_popAt, ↓e_eqOwnA, ↓e_isCL, ↓e_Go, ↓e_outq, ↓e_retR, ↓e_retN, ↓e_rdqN, ↓e_rdqC, ↓e_rdqB, ↓e_rdqR, ↓reduceIte, Bool.false_eq_true, eq_self, e_nc, e_nc0, e_nc1, Int.reduceEq, and_self, and_true, true_and, e_wi0, e_wi1, e_re0, e_re1, e_li0, e_li1, e_liA, e_liI, e_liR, List.getD_cons_zero, List.getD_cons_succ, e_assoc2, e_m1, e_m2, e_m3, e_m4, e_m7, e_m8, e_m9, e_m10, e_some, e_isAt, e_mvI, e_mvO, e_hasI, e_hasR, e_hasO, e_hasIo, e_rdI, e_rdR, e_rdO, e_rdIo, e_fO, e_add, e_sub, e_mul, e_div, e_mod, e_pow, e_lt, e_le, e_gt, e_ge, e_neg, e_eqI, e_eqStr, e_eqB, e_neI, e_neStr, e_neB, e_isB, e_notB, e_isN0, e_isN1, e_isN2, e_isN3, e_isN4, e_isN5, e_isN6, e_notN6, e_notN0, e_notN1, e_notN2, e_notN3, e_notN4, e_notN5, e_max2, e_min2, e_intI, e_intB, e_lenL, e_lenT, e_blO, e_isO, e_isB', e_isBT, e_ty0, e_ty1, e_ty2, e_ty3, e_ty4, e_ty5, e_map, e_bAt, e_trL, e_trT, e_trI, e_trB, e_trN, e_ifn, e_valF, e_valL, e_valI, e_vals0, e_vals1, e_valsM, e_l0, e_l1, e_l2, e_l3, e_l4, e_l5, e_l6, e_l7, e_l8, e_itsL, e_itsM, e_itsT, e_sz, e_lO, e_ixL, e_ixT, e_ixM, e_at0, e_at1, e_at2, e_at3, qv_lst, qv_tup, qv_int, qv_bl, qv_str, qv_non, qvs_0, qvs_1, qvs_2, qvs_3, qv_lt, qv_tl, e_enO, e_qL, e_qT, e_qM, e_lrgO, e_rdO', e_srtO, e_ints, e_mkcT, e_wv1, e_wv2, e_wv3, e_isX, e_pk1, e_pk2, e_isX0, e_isX1, e_isX2, e_isX3, e_isX4, e_isX5, e_icLi, e_icLl, e_oiO, e_repO, e_st, e_st0, e_st1, e_st2, e_st3, e_svF, e_svL, e_svI, e_okI, e_okR, e_rg1, e_rg2, e_fM, e_fldF, e_fldO, e_sf0, e_sf1, e_sf2, e_sf3, e_sf4, e_sf5, e_sf6, e_sf7, e_isLO, e_isLI, e_apO, e_apI, e_saO, e_saI, e_hrI, e_hrR, e_hrO, e_hrIo, e_bCons, e_bs0, e_bs1, e_bD, e_bR, e_bRs, e_bIs, e_bRi, e_bRr, e_bRo, e_bRio, e_bRoI, e_bRioI, e_allF0, e_allF1, e_bIo, e_bIi, e_ios0, e_iosD, e_iosR, e_iosI, e_pt0, e_pt1, e_ptO, e_ptI, e_cgO, e_cgA, e_apO', e_rds0, e_rdsD, e_rdsI, e_rdsV, e_rdsS, e_ap0, e_ap1, e_ap2, e_ap3, List.contains_cons, List.contains_nil, Nat.reduceBEq, e_cnT, e_hAgT, e_hAgS, e_icV, e_lnO, e_eqO, e_neO, e_mkR, e_mapAg, e_mkB, e_mkM, e_eCons, e_en0, e_enD, e_enR, e_enI, e_oCons, e_os0, e_osD, e_osR, e_osI, e_foO, e_runR, e_runN, List.getElem?_cons_zero, List.getElem?_cons_succ, List.set_cons_zero, List.set_cons_succ, List.cons_append, List.nil_append, List.map_nil, List.append_nil, List.length_cons, List.length_nil, List.length_map, List.any_cons, List.any_nil, decide_true, decide_false, Bool.not_true, Bool.not_false, Bool.false_or, Bool.or_false, Bool.true_or, Bool.or_true, Bool.and_true, Bool.true_and, Bool.and_false, Bool.false_and, beq_self_eq_true, Nat.reduceAdd, Nat.reduceSub, List.reduceReplicate, String.reduceBEq, Nat.reduceMul, Int.reduceAdd, Int.reduceSub, Int.reduceMul, Int.reduceNeg, Int.reduceLT, Int.reduceLE, Int.reducePow, Int.reduceToNat, id])
theorem md_law_opened : f_law_opened.md = [.d, .d] := rfl
theorem run_law_opened {ns : List Int} {k : Nat} : FOk (f_law_opened.run [.v (.lst (ns.map .int)), .v (.int k)]) fun r o => ∃ p, r = pool p ∧ o = [] := by
  refine run_go b_law_opened rfl rfl ?_
  unfold b_law_opened
  have hb : ∀ b : Bool, -18446744073709551616 < (if b = true then (1 : Int) else 0) ∧ (if b = true then (1 : Int) else 0) < 18446744073709551616 := by intro b; cases b <;> decide
  by_cases c : (k : Int) < (ns.length : Int)
  · have a := e_at (xs := ns.map Val.int) (z := (k : Int)) (x := .int (ns.getD k 0)) (by omega) (by
      rw [List.getElem?_map, Int.toNat_natCast, List.getD_eq_getElem?_getD, List.getElem?_eq_getElem (by omega)]; rfl)
    (simp (disch := first | with_reducible assumption | omega | (simp only [List.length_map, List.length_append, List.length_cons, List.length_nil, List.length_set, List.length_reverse, List.length_replicate] <;> omega) | with_reducible rfl) only [↓e_bind, ↓e_pure, ↓e_fail, ↓e_opt, ↓e_cst, ↓e_vr, ↓e_mv, ↓e_oE, ↓e_hasS, ↓e_rdT, ↓e_rdS, ↓e_bi, ↓e_bo, ↓e_un, ↓e_cb, ↓e_fz, ↓e_tst, ↓e_band, ↓e_bor, ↓e_bnot, ↓e_ttr, ↓e_bnotT, ↓e_tand, ↓e_tor, ↓e_tnot, ↓e_ife, ↓e_tTrue, ↓e_chn, ↓e_isNil, ↓e_isCons, ↓e_eLst, ↓e_eTup, ↓e_idx, ↓e_mkL, ↓e_mkLT, ↓e_mkT, ↓e_mkTT, ↓e_cat, ↓e_oN, ↓e_oI, ↓e_slL, ↓e_slT, ↓e_rep, ↓e_sSet, ↓e_sSetF, ↓e_sRet, ↓e_sEx, ↓e_sNext, ↓e_sBk, ↓e_sCt, ↓e_sIf, ↓e_sq, ↓e_frz, ↓e_tgN, ↓e_tgs0, ↓e_tgs1, ↓e_tgT1, ↓e_tgL1, ↓e_tgT2, ↓e_tgL2, ↓e_tgT3, ↓e_tgL3, ↓e_tgT4, ↓e_tgL4, ↓e_tgT5, ↓e_tgL5, ↓e_tgT6, ↓e_tgL6, ↓e_sAsg, ↓e_par2, ↓e_par3, ↓e_okT, ↓e_okS, ↓e_itL, ↓e_itT, ↓e_itR1, ↓e_itR2, ↓e_for, ↓e_fld, ↓e_sFld, ↓e_sApp, ↓e_sSetAt, ↓e_aNil, ↓e_aV, ↓e_aS, ↓e_call, ↓e_callN, ↓e_callG, ↓e_isC, ↓e_meth, ↓e_prop, ↓e_lenOwn, ↓e_subOwn, ↓e_eqOwn, ↓e_neOwn, ↓e_mk, ↓e_mkK, ↓e_mkKO, ↓e_if1, ↓e_if0, ↓e_hide, ↓e_ok2, ↓e_no2, ↓e_sqN, ↓e_sqR, ↓e_sqB, ↓e_sqC, ↓e_frzO, ↓e_frzI, ↓e_par2O, ↓e_par3O, ↓e_cnO', ↓e_mkO', ↓e_mkI, ↓e_lc', ↓e_while, ↓e_itE, ↓e_itEK, ↓e_itEQ, ↓e_itQ, ↓e_lrg, ↓e_itRd, ↓e_catT, ↓e_srt, ↓e_mkLQ, ↓e_mkTQ, ↓e_methK, ↓e_popAt, ↓e_eqOwnA, ↓e_isCL, ↓e_Go, ↓e_outq, ↓e_retR, ↓e_retN, ↓e_rdqN, ↓e_rdqC, ↓e_rdqB, ↓e_rdqR, ↓reduceIte, Bool.false_eq_true, eq_self, e_nc, e_nc0, e_nc1, Int.reduceEq, and_self, and_true, true_and, e_wi0, e_wi1, e_re0, e_re1, e_li0, e_li1, e_liA, e_liI, e_liR, List.getD_cons_zero, List.getD_cons_succ, e_assoc2, e_m1, e_m2, e_m3, e_m4, e_m7, e_m8, e_m9, e_m10, e_some, e_isAt, e_mvI, e_mvO, e_hasI, e_hasR, e_hasO, e_hasIo, e_rdI, e_rdR, e_rdO, e_rdIo, e_fO, e_add, e_sub, e_mul, e_div, e_mod, e_pow, e_lt, e_le, e_gt, e_ge, e_neg, e_eqI, e_eqStr, e_eqB, e_neI, e_neStr, e_neB, e_isB, e_notB, e_isN0, e_isN1, e_isN2, e_isN3, e_isN4, e_isN5, e_isN6, e_notN6, e_notN0, e_notN1, e_notN2, e_notN3, e_notN4, e_notN5, e_max2, e_min2, e_intI, e_intB, e_lenL, e_lenT, e_blO, e_isO, e_isB', e_isBT, e_ty0, e_ty1, e_ty2, e_ty3, e_ty4, e_ty5, e_map, e_bAt, e_trL, e_trT, e_trI, e_trB, e_trN, e_ifn, e_valF, e_valL, e_valI, e_vals0, e_vals1, e_valsM, e_l0, e_l1, e_l2, e_l3, e_l4, e_l5, e_l6, e_l7, e_l8, e_itsL, e_itsM, e_itsT, e_sz, e_lO, e_ixL, e_ixT, e_ixM, e_at0, e_at1, e_at2, e_at3, qv_lst, qv_tup, qv_int, qv_bl, qv_str, qv_non, qvs_0, qvs_1, qvs_2, qvs_3, qv_lt, qv_tl, e_enO, e_qL, e_qT, e_qM, e_lrgO, e_rdO', e_srtO, e_ints, e_mkcT, e_wv1, e_wv2, e_wv3, e_isX, e_pk1, e_pk2, e_isX0, e_isX1, e_isX2, e_isX3, e_isX4, e_isX5, e_icLi, e_icLl, e_oiO, e_repO, e_st, e_st0, e_st1, e_st2, e_st3, e_svF, e_svL, e_svI, e_okI, e_okR, e_rg1, e_rg2, e_fM, e_fldF, e_fldO, e_sf0, e_sf1, e_sf2, e_sf3, e_sf4, e_sf5, e_sf6, e_sf7, e_isLO, e_isLI, e_apO, e_apI, e_saO, e_saI, e_hrI, e_hrR, e_hrO, e_hrIo, e_bCons, e_bs0, e_bs1, e_bD, e_bR, e_bRs, e_bIs, e_bRi, e_bRr, e_bRo, e_bRio, e_bRoI, e_bRioI, e_allF0, e_allF1, e_bIo, e_bIi, e_ios0, e_iosD, e_iosR, e_iosI, e_pt0, e_pt1, e_ptO, e_ptI, e_cgO, e_cgA, e_apO', e_rds0, e_rdsD, e_rdsI, e_rdsV, e_rdsS, e_ap0, e_ap1, e_ap2, e_ap3, List.contains_cons, List.contains_nil, Nat.reduceBEq, e_cnT, e_hAgT, e_hAgS, e_icV, e_lnO, e_eqO, e_neO, e_mkR, e_mapAg, e_mkB, e_mkM, e_eCons, e_en0, e_enD, e_enR, e_enI, e_oCons, e_os0, e_osD, e_osR, e_osI, e_foO, e_runR, e_runN, List.getElem?_cons_zero, List.getElem?_cons_succ, List.set_cons_zero, List.set_cons_succ, List.cons_append, List.nil_append, List.map_nil, List.append_nil, List.length_cons, List.length_nil, List.length_map, List.any_cons, List.any_nil, decide_true, decide_false, Bool.not_true, Bool.not_false, Bool.false_or, Bool.or_false, Bool.true_or, Bool.or_true, Bool.and_true, Bool.true_and, Bool.and_false, Bool.false_and, beq_self_eq_true, Nat.reduceAdd, Nat.reduceSub, List.reduceReplicate, String.reduceBEq, Nat.reduceMul, Int.reduceAdd, Int.reduceSub, Int.reduceMul, Int.reduceNeg, Int.reduceLT, Int.reduceLE, Int.reducePow, Int.reduceToNat, c, a, e_mul (.inr (hb _))])
    exact ⟨(_, _), rfl⟩
  · (simp (disch := first | with_reducible assumption | omega | (simp only [List.length_map, List.length_append, List.length_cons, List.length_nil, List.length_set, List.length_reverse, List.length_replicate] <;> omega) | with_reducible rfl) only [↓e_bind, ↓e_pure, ↓e_fail, ↓e_opt, ↓e_cst, ↓e_vr, ↓e_mv, ↓e_oE, ↓e_hasS, ↓e_rdT, ↓e_rdS, ↓e_bi, ↓e_bo, ↓e_un, ↓e_cb, ↓e_fz, ↓e_tst, ↓e_band, ↓e_bor, ↓e_bnot, ↓e_ttr, ↓e_bnotT, ↓e_tand, ↓e_tor, ↓e_tnot, ↓e_ife, ↓e_tTrue, ↓e_chn, ↓e_isNil, ↓e_isCons, ↓e_eLst, ↓e_eTup, ↓e_idx, ↓e_mkL, ↓e_mkLT, ↓e_mkT, ↓e_mkTT, ↓e_cat, ↓e_oN, ↓e_oI, ↓e_slL, ↓e_slT, ↓e_rep, ↓e_sSet, ↓e_sSetF, ↓e_sRet, ↓e_sEx, ↓e_sNext, ↓e_sBk, ↓e_sCt, ↓e_sIf, ↓e_sq, ↓e_frz, ↓e_tgN, ↓e_tgs0, ↓e_tgs1, ↓e_tgT1, ↓e_tgL1, ↓e_tgT2, ↓e_tgL2, ↓e_tgT3, ↓e_tgL3, ↓e_tgT4, ↓e_tgL4, ↓e_tgT5, ↓e_tgL5, ↓e_tgT6, ↓e_tgL6, ↓e_sAsg, ↓e_par2, ↓e_par3, ↓e_okT, ↓e_okS, ↓e_itL, ↓e_itT, ↓e_itR1, ↓e_itR2, ↓e_for, ↓e_fld, ↓e_sFld, ↓e_sApp, ↓e_sSetAt, ↓e_aNil, ↓e_aV, ↓e_aS, ↓e_call, ↓e_callN, ↓e_callG, ↓e_isC, ↓e_meth, ↓e_prop, ↓e_lenOwn, ↓e_subOwn, ↓e_eqOwn, ↓e_neOwn, ↓e_mk, ↓e_mkK, ↓e_mkKO, ↓e_if1, ↓e_if0, ↓e_hide, ↓e_ok2, ↓e_no2, ↓e_sqN, ↓e_sqR, ↓e_sqB, ↓e_sqC, ↓e_frzO, ↓e_frzI, ↓e_par2O, ↓e_par3O, ↓e_cnO', ↓e_mkO', ↓e_mkI, ↓e_lc', ↓e_while, ↓e_itE, ↓e_itEK, ↓e_itEQ, ↓e_itQ, ↓e_lrg, ↓e_itRd, ↓e_catT, ↓e_srt, ↓e_mkLQ, ↓e_mkTQ, ↓e_methK, ↓e_popAt, ↓e_eqOwnA, ↓e_isCL, ↓e_Go, ↓e_outq, ↓e_retR, ↓e_retN, ↓e_rdqN, ↓e_rdqC, ↓e_rdqB, ↓e_rdqR, ↓reduceIte, Bool.false_eq_true, eq_self, e_nc, e_nc0, e_nc1, Int.reduceEq, and_self, and_true, true_and, e_wi0, e_wi1, e_re0, e_re1, e_li0, e_li1, e_liA, e_liI, e_liR, List.getD_cons_zero, List.getD_cons_succ, e_assoc2, e_m1, e_m2, e_m3, e_m4, e_m7, e_m8, e_m9, e_m10, e_some, e_isAt, e_mvI, e_mvO, e_hasI, e_hasR, e_hasO, e_hasIo, e_rdI, e_rdR, e_rdO, e_rdIo, e_fO, e_add, e_sub, e_mul, e_div, e_mod, e_pow, e_lt, e_le, e_gt, e_ge, e_neg, e_eqI, e_eqStr, e_eqB, e_neI, e_neStr, e_neB, e_isB, e_notB, e_isN0, e_isN1, e_isN2, e_isN3, e_isN4, e_isN5, e_isN6, e_notN6, e_notN0, e_notN1, e_notN2, e_notN3, e_notN4, e_notN5, e_max2, e_min2, e_intI, e_intB, e_lenL, e_lenT, e_blO, e_isO, e_isB', e_isBT, e_ty0, e_ty1, e_ty2, e_ty3, e_ty4, e_ty5, e_map, e_bAt, e_trL, e_trT, e_trI, e_trB, e_trN, e_ifn, e_valF, e_valL, e_valI, e_vals0, e_vals1, e_valsM, e_l0, e_l1, e_l2, e_l3, e_l4, e_l5, e_l6, e_l7, e_l8, e_itsL, e_itsM, e_itsT, e_sz, e_lO, e_ixL, e_ixT, e_ixM, e_at0, e_at1, e_at2, e_at3, qv_lst, qv_tup, qv_int, qv_bl, qv_str, qv_non, qvs_0, qvs_1, qvs_2, qvs_3, qv_lt, qv_tl, e_enO, e_qL, e_qT, e_qM, e_lrgO, e_rdO', e_srtO, e_ints, e_mkcT, e_wv1, e_wv2, e_wv3, e_isX, e_pk1, e_pk2, e_isX0, e_isX1, e_isX2, e_isX3, e_isX4, e_isX5, e_icLi, e_icLl, e_oiO, e_repO, e_st, e_st0, e_st1, e_st2, e_st3, e_svF, e_svL, e_svI, e_okI, e_okR, e_rg1, e_rg2, e_fM, e_fldF, e_fldO, e_sf0, e_sf1, e_sf2, e_sf3, e_sf4, e_sf5, e_sf6, e_sf7, e_isLO, e_isLI, e_apO, e_apI, e_saO, e_saI, e_hrI, e_hrR, e_hrO, e_hrIo, e_bCons, e_bs0, e_bs1, e_bD, e_bR, e_bRs, e_bIs, e_bRi, e_bRr, e_bRo, e_bRio, e_bRoI, e_bRioI, e_allF0, e_allF1, e_bIo, e_bIi, e_ios0, e_iosD, e_iosR, e_iosI, e_pt0, e_pt1, e_ptO, e_ptI, e_cgO, e_cgA, e_apO', e_rds0, e_rdsD, e_rdsI, e_rdsV, e_rdsS, e_ap0, e_ap1, e_ap2, e_ap3, List.contains_cons, List.contains_nil, Nat.reduceBEq, e_cnT, e_hAgT, e_hAgS, e_icV, e_lnO, e_eqO, e_neO, e_mkR, e_mapAg, e_mkB, e_mkM, e_eCons, e_en0, e_enD, e_enR, e_enI, e_oCons, e_os0, e_osD, e_osR, e_osI, e_foO, e_runR, e_runN, List.getElem?_cons_zero, List.getElem?_cons_succ, List.set_cons_zero, List.set_cons_succ, List.cons_append, List.nil_append, List.map_nil, List.append_nil, List.length_cons, List.length_nil, List.length_map, List.any_cons, List.any_nil, decide_true, decide_false, Bool.not_true, Bool.not_false, Bool.false_or, Bool.or_false, Bool.true_or, Bool.or_true, Bool.and_true, Bool.true_and, Bool.and_false, Bool.false_and, beq_self_eq_true, Nat.reduceAdd, Nat.reduceSub, List.reduceReplicate, String.reduceBEq, Nat.reduceMul, Int.reduceAdd, Int.reduceSub, Int.reduceMul, Int.reduceNeg, Int.reduceLT, Int.reduceLE, Int.reducePow, Int.reduceToNat, c, e_mul (.inr (hb _))])
    exact ⟨(_, _), rfl⟩
theorem md_law_draw : f_law_draw.md = [.io, .d] := rfl
theorem run_law_draw {p : Int × Int} {n : Int} (h : 0 < n ∧ n < 1073741824) : f_law_draw.run [.io (pool p), .v (.int n)] = .ok (.f (.int (dr p n))) [pool (dn p n)] := by
  refine FOk.eq (run_go b_law_draw rfl rfl ?_)
  unfold b_law_draw
  have s0 (x y z : Val) : [x, y].set (0 : Int).toNat z = [z, y] := rfl
  have s1 (x y z : Val) : [x, y].set (1 : Int).toNat z = [x, z] := rfl
  have l0 (x y : Val) : (0 : Int) ≤ 0 ∧ 0 < (([x, y].length : Nat) : Int) := ⟨by decide, by show (0 : Int) < 2; decide⟩
  have l1 (x y : Val) : (0 : Int) ≤ 1 ∧ 1 < (([x, y].length : Nat) : Int) := ⟨by decide, by show (1 : Int) < 2; decide⟩
  by_cases c : 0 < p.1
  · unfold pool dr dn
    rw [if_pos c, if_pos c]
    (simp (disch := first | with_reducible assumption | omega | (simp only [List.length_map, List.length_append, List.length_cons, List.length_nil, List.length_set, List.length_reverse, List.length_replicate] <;> omega) | with_reducible rfl) only [↓e_bind, ↓e_pure, ↓e_fail, ↓e_opt, ↓e_cst, ↓e_vr, ↓e_mv, ↓e_oE, ↓e_hasS, ↓e_rdT, ↓e_rdS, ↓e_bi, ↓e_bo, ↓e_un, ↓e_cb, ↓e_fz, ↓e_tst, ↓e_band, ↓e_bor, ↓e_bnot, ↓e_ttr, ↓e_bnotT, ↓e_tand, ↓e_tor, ↓e_tnot, ↓e_ife, ↓e_tTrue, ↓e_chn, ↓e_isNil, ↓e_isCons, ↓e_eLst, ↓e_eTup, ↓e_idx, ↓e_mkL, ↓e_mkLT, ↓e_mkT, ↓e_mkTT, ↓e_cat, ↓e_oN, ↓e_oI, ↓e_slL, ↓e_slT, ↓e_rep, ↓e_sSet, ↓e_sSetF, ↓e_sRet, ↓e_sEx, ↓e_sNext, ↓e_sBk, ↓e_sCt, ↓e_sIf, ↓e_sq, ↓e_frz, ↓e_tgN, ↓e_tgs0, ↓e_tgs1, ↓e_tgT1, ↓e_tgL1, ↓e_tgT2, ↓e_tgL2, ↓e_tgT3, ↓e_tgL3, ↓e_tgT4, ↓e_tgL4, ↓e_tgT5, ↓e_tgL5, ↓e_tgT6, ↓e_tgL6, ↓e_sAsg, ↓e_par2, ↓e_par3, ↓e_okT, ↓e_okS, ↓e_itL, ↓e_itT, ↓e_itR1, ↓e_itR2, ↓e_for, ↓e_fld, ↓e_sFld, ↓e_sApp, ↓e_sSetAt, ↓e_aNil, ↓e_aV, ↓e_aS, ↓e_call, ↓e_callN, ↓e_callG, ↓e_isC, ↓e_meth, ↓e_prop, ↓e_lenOwn, ↓e_subOwn, ↓e_eqOwn, ↓e_neOwn, ↓e_mk, ↓e_mkK, ↓e_mkKO, ↓e_if1, ↓e_if0, ↓e_hide, ↓e_ok2, ↓e_no2, ↓e_sqN, ↓e_sqR, ↓e_sqB, ↓e_sqC, ↓e_frzO, ↓e_frzI, ↓e_par2O, ↓e_par3O, ↓e_cnO', ↓e_mkO', ↓e_mkI, ↓e_lc', ↓e_while, ↓e_itE, ↓e_itEK, ↓e_itEQ, ↓e_itQ, ↓e_lrg, ↓e_itRd, ↓e_catT, ↓e_srt, ↓e_mkLQ, ↓e_mkTQ, ↓e_methK, ↓e_popAt, ↓e_eqOwnA, ↓e_isCL, ↓e_Go, ↓e_outq, ↓e_retR, ↓e_retN, ↓e_rdqN, ↓e_rdqC, ↓e_rdqB, ↓e_rdqR, ↓reduceIte, Bool.false_eq_true, eq_self, e_nc, e_nc0, e_nc1, Int.reduceEq, and_self, and_true, true_and, e_wi0, e_wi1, e_re0, e_re1, e_li0, e_li1, e_liA, e_liI, e_liR, List.getD_cons_zero, List.getD_cons_succ, e_assoc2, e_m1, e_m2, e_m3, e_m4, e_m7, e_m8, e_m9, e_m10, e_some, e_isAt, e_mvI, e_mvO, e_hasI, e_hasR, e_hasO, e_hasIo, e_rdI, e_rdR, e_rdO, e_rdIo, e_fO, e_add, e_sub, e_mul, e_div, e_mod, e_pow, e_lt, e_le, e_gt, e_ge, e_neg, e_eqI, e_eqStr, e_eqB, e_neI, e_neStr, e_neB, e_isB, e_notB, e_isN0, e_isN1, e_isN2, e_isN3, e_isN4, e_isN5, e_isN6, e_notN6, e_notN0, e_notN1, e_notN2, e_notN3, e_notN4, e_notN5, e_max2, e_min2, e_intI, e_intB, e_lenL, e_lenT, e_blO, e_isO, e_isB', e_isBT, e_ty0, e_ty1, e_ty2, e_ty3, e_ty4, e_ty5, e_map, e_bAt, e_trL, e_trT, e_trI, e_trB, e_trN, e_ifn, e_valF, e_valL, e_valI, e_vals0, e_vals1, e_valsM, e_l0, e_l1, e_l2, e_l3, e_l4, e_l5, e_l6, e_l7, e_l8, e_itsL, e_itsM, e_itsT, e_sz, e_lO, e_ixL, e_ixT, e_ixM, e_at0, e_at1, e_at2, e_at3, qv_lst, qv_tup, qv_int, qv_bl, qv_str, qv_non, qvs_0, qvs_1, qvs_2, qvs_3, qv_lt, qv_tl, e_enO, e_qL, e_qT, e_qM, e_lrgO, e_rdO', e_srtO, e_ints, e_mkcT, e_wv1, e_wv2, e_wv3, e_isX, e_pk1, e_pk2, e_isX0, e_isX1, e_isX2, e_isX3, e_isX4, e_isX5, e_icLi, e_icLl, e_oiO, e_repO, e_st, e_st0, e_st1, e_st2, e_st3, e_svF, e_svL, e_svI, e_okI, e_okR, e_rg1, e_rg2, e_fM, e_fldF, e_fldO, e_sf0, e_sf1, e_sf2, e_sf3, e_sf4, e_sf5, e_sf6, e_sf7, e_isLO, e_isLI, e_apO, e_apI, e_saO, e_saI, e_hrI, e_hrR, e_hrO, e_hrIo, e_bCons, e_bs0, e_bs1, e_bD, e_bR, e_bRs, e_bIs, e_bRi, e_bRr, e_bRo, e_bRio, e_bRoI, e_bRioI, e_allF0, e_allF1, e_bIo, e_bIi, e_ios0, e_iosD, e_iosR, e_iosI, e_pt0, e_pt1, e_ptO, e_ptI, e_cgO, e_cgA, e_apO', e_rds0, e_rdsD, e_rdsI, e_rdsV, e_rdsS, e_ap0, e_ap1, e_ap2, e_ap3, List.contains_cons, List.contains_nil, Nat.reduceBEq, e_cnT, e_hAgT, e_hAgS, e_icV, e_lnO, e_eqO, e_neO, e_mkR, e_mapAg, e_mkB, e_mkM, e_eCons, e_en0, e_enD, e_enR, e_enI, e_oCons, e_os0, e_osD, e_osR, e_osI, e_foO, e_runR, e_runN, List.getElem?_cons_zero, List.getElem?_cons_succ, List.set_cons_zero, List.set_cons_succ, List.cons_append, List.nil_append, List.map_nil, List.append_nil, List.length_cons, List.length_nil, List.length_map, List.any_cons, List.any_nil, decide_true, decide_false, Bool.not_true, Bool.not_false, Bool.false_or, Bool.or_false, Bool.true_or, Bool.or_true, Bool.and_true, Bool.true_and, Bool.and_false, Bool.false_and, beq_self_eq_true, Nat.reduceAdd, Nat.reduceSub, List.reduceReplicate, String.reduceBEq, Nat.reduceMul, Int.reduceAdd, Int.reduceSub, Int.reduceMul, Int.reduceNeg, Int.reduceLT, Int.reduceLE, Int.reducePow, Int.reduceToNat, c, s0, s1, e_saI (l0 _ _), e_saI (l1 _ _)])
  · unfold pool dr dn
    rw [if_neg c, if_neg c]
    have m1 : 0 ≤ (p.2 * 39373 + 7) % 2147483647 := Int.emod_nonneg _ (by decide)
    have m2 : (p.2 * 39373 + 7) % 2147483647 < 2147483647 := Int.emod_lt_of_pos _ (by decide)
    (simp (disch := first | with_reducible assumption | omega | (simp only [List.length_map, List.length_append, List.length_cons, List.length_nil, List.length_set, List.length_reverse, List.length_replicate] <;> omega) | with_reducible rfl) only [↓e_bind, ↓e_pure, ↓e_fail, ↓e_opt, ↓e_cst, ↓e_vr, ↓e_mv, ↓e_oE, ↓e_hasS, ↓e_rdT, ↓e_rdS, ↓e_bi, ↓e_bo, ↓e_un, ↓e_cb, ↓e_fz, ↓e_tst, ↓e_band, ↓e_bor, ↓e_bnot, ↓e_ttr, ↓e_bnotT, ↓e_tand, ↓e_tor, ↓e_tnot, ↓e_ife, ↓e_tTrue, ↓e_chn, ↓e_isNil, ↓e_isCons, ↓e_eLst, ↓e_eTup, ↓e_idx, ↓e_mkL, ↓e_mkLT, ↓e_mkT, ↓e_mkTT, ↓e_cat, ↓e_oN, ↓e_oI, ↓e_slL, ↓e_slT, ↓e_rep, ↓e_sSet, ↓e_sSetF, ↓e_sRet, ↓e_sEx, ↓e_sNext, ↓e_sBk, ↓e_sCt, ↓e_sIf, ↓e_sq, ↓e_frz, ↓e_tgN, ↓e_tgs0, ↓e_tgs1, ↓e_tgT1, ↓e_tgL1, ↓e_tgT2, ↓e_tgL2, ↓e_tgT3, ↓e_tgL3, ↓e_tgT4, ↓e_tgL4, ↓e_tgT5, ↓e_tgL5, ↓e_tgT6, ↓e_tgL6, ↓e_sAsg, ↓e_par2, ↓e_par3, ↓e_okT, ↓e_okS, ↓e_itL, ↓e_itT, ↓e_itR1, ↓e_itR2, ↓e_for, ↓e_fld, ↓e_sFld, ↓e_sApp, ↓e_sSetAt, ↓e_aNil, ↓e_aV, ↓e_aS, ↓e_call, ↓e_callN, ↓e_callG, ↓e_isC, ↓e_meth, ↓e_prop, ↓e_lenOwn, ↓e_subOwn, ↓e_eqOwn, ↓e_neOwn, ↓e_mk, ↓e_mkK, ↓e_mkKO, ↓e_if1, ↓e_if0, ↓e_hide, ↓e_ok2, ↓e_no2, ↓e_sqN, ↓e_sqR, ↓e_sqB, ↓e_sqC, ↓e_frzO, ↓e_frzI, ↓e_par2O, ↓e_par3O, ↓e_cnO', ↓e_mkO', ↓e_mkI, ↓e_lc', ↓e_while, ↓e_itE, ↓e_itEK, ↓e_itEQ, ↓e_itQ, ↓e_lrg, ↓e_itRd, ↓e_catT, ↓e_srt, ↓e_mkLQ, ↓e_mkTQ, ↓e_methK, ↓e_popAt, ↓e_eqOwnA, ↓e_isCL, ↓e_Go, ↓e_outq, ↓e_retR, ↓e_retN, ↓e_rdqN, ↓e_rdqC, ↓e_rdqB, ↓e_rdqR, ↓reduceIte, Bool.false_eq_true, eq_self, e_nc, e_nc0, e_nc1, Int.reduceEq, and_self, and_true, true_and, e_wi0, e_wi1, e_re0, e_re1, e_li0, e_li1, e_liA, e_liI, e_liR, List.getD_cons_zero, List.getD_cons_succ, e_assoc2, e_m1, e_m2, e_m3, e_m4, e_m7, e_m8, e_m9, e_m10, e_some, e_isAt, e_mvI, e_mvO, e_hasI, e_hasR, e_hasO, e_hasIo, e_rdI, e_rdR, e_rdO, e_rdIo, e_fO, e_add, e_sub, e_mul, e_div, e_mod, e_pow, e_lt, e_le, e_gt, e_ge, e_neg, e_eqI, e_eqStr, e_eqB, e_neI, e_neStr, e_neB, e_isB, e_notB, e_isN0, e_isN1, e_isN2, e_isN3, e_isN4, e_isN5, e_isN6, e_notN6, e_notN0, e_notN1, e_notN2, e_notN3, e_notN4, e_notN5, e_max2, e_min2, e_intI, e_intB, e_lenL, e_lenT, e_blO, e_isO, e_isB', e_isBT, e_ty0, e_ty1, e_ty2, e_ty3, e_ty4, e_ty5, e_map, e_bAt, e_trL, e_trT, e_trI, e_trB, e_trN, e_ifn, e_valF, e_valL, e_valI, e_vals0, e_vals1, e_valsM, e_l0, e_l1, e_l2, e_l3, e_l4, e_l5, e_l6, e_l7, e_l8, e_itsL, e_itsM, e_itsT, e_sz, e_lO, e_ixL, e_ixT, e_ixM, e_at0, e_at1, e_at2, e_at3, qv_lst, qv_tup, qv_int, qv_bl, qv_str, qv_non, qvs_0, qvs_1, qvs_2, qvs_3, qv_lt, qv_tl, e_enO, e_qL, e_qT, e_qM, e_lrgO, e_rdO', e_srtO, e_ints, e_mkcT, e_wv1, e_wv2, e_wv3, e_isX, e_pk1, e_pk2, e_isX0, e_isX1, e_isX2, e_isX3, e_isX4, e_isX5, e_icLi, e_icLl, e_oiO, e_repO, e_st, e_st0, e_st1, e_st2, e_st3, e_svF, e_svL, e_svI, e_okI, e_okR, e_rg1, e_rg2, e_fM, e_fldF, e_fldO, e_sf0, e_sf1, e_sf2, e_sf3, e_sf4, e_sf5, e_sf6, e_sf7, e_isLO, e_isLI, e_apO, e_apI, e_saO, e_saI, e_hrI, e_hrR, e_hrO, e_hrIo, e_bCons, e_bs0, e_bs1, e_bD, e_bR, e_bRs, e_bIs, e_bRi, e_bRr, e_bRo, e_bRio, e_bRoI, e_bRioI, e_allF0, e_allF1, e_bIo, e_bIi, e_ios0, e_iosD, e_iosR, e_iosI, e_pt0, e_pt1, e_ptO, e_ptI, e_cgO, e_cgA, e_apO', e_rds0, e_rdsD, e_rdsI, e_rdsV, e_rdsS, e_ap0, e_ap1, e_ap2, e_ap3, List.contains_cons, List.contains_nil, Nat.reduceBEq, e_cnT, e_hAgT, e_hAgS, e_icV, e_lnO, e_eqO, e_neO, e_mkR, e_mapAg, e_mkB, e_mkM, e_eCons, e_en0, e_enD, e_enR, e_enI, e_oCons, e_os0, e_osD, e_osR, e_osI, e_foO, e_runR, e_runN, List.getElem?_cons_zero, List.getElem?_cons_succ, List.set_cons_zero, List.set_cons_succ, List.cons_append, List.nil_append, List.map_nil, List.append_nil, List.length_cons, List.length_nil, List.length_map, List.any_cons, List.any_nil, decide_true, decide_false, Bool.not_true, Bool.not_false, Bool.false_or, Bool.or_false, Bool.true_or, Bool.or_true, Bool.and_true, Bool.true_and, Bool.and_false, Bool.false_and, beq_self_eq_true, Nat.reduceAdd, Nat.reduceSub, List.reduceReplicate, String.reduceBEq, Nat.reduceMul, Int.reduceAdd, Int.reduceSub, Int.reduceMul, Int.reduceNeg, Int.reduceLT, Int.reduceLE, Int.reducePow, Int.reduceToNat, c, s0, s1, e_saI (l0 _ _), e_saI (l1 _ _)])
theorem md_law_write : f_law_write.md = [.d, .d] := rfl
theorem run_law_write {ts : List Int} {l : List (Nat × Int)} (h : ∀ p ∈ l, 1 ≤ p.1 ∧ p.1 ≤ ts.length) : f_law_write.run [.v (.lst (ts.map .int)), .v (.lst (l.map tv))] = .ok (.lst (((pR ts l).map .int).map .f)) [] := by
  refine FOk.eq (run_go b_law_write rfl rfl ?_)
  unfold b_law_write
  (simp (disch := first | with_reducible assumption | omega | (simp only [List.length_map, List.length_append, List.length_cons, List.length_nil, List.length_set, List.length_reverse, List.length_replicate] <;> omega) | with_reducible rfl) only [↓e_bind, ↓e_pure, ↓e_fail, ↓e_opt, ↓e_cst, ↓e_vr, ↓e_mv, ↓e_oE, ↓e_hasS, ↓e_rdT, ↓e_rdS, ↓e_bi, ↓e_bo, ↓e_un, ↓e_cb, ↓e_fz, ↓e_tst, ↓e_band, ↓e_bor, ↓e_bnot, ↓e_ttr, ↓e_bnotT, ↓e_tand, ↓e_tor, ↓e_tnot, ↓e_ife, ↓e_tTrue, ↓e_chn, ↓e_isNil, ↓e_isCons, ↓e_eLst, ↓e_eTup, ↓e_idx, ↓e_mkL, ↓e_mkLT, ↓e_mkT, ↓e_mkTT, ↓e_cat, ↓e_oN, ↓e_oI, ↓e_slL, ↓e_slT, ↓e_rep, ↓e_sSet, ↓e_sSetF, ↓e_sRet, ↓e_sEx, ↓e_sNext, ↓e_sBk, ↓e_sCt, ↓e_sIf, ↓e_sq, ↓e_frz, ↓e_tgN, ↓e_tgs0, ↓e_tgs1, ↓e_tgT1, ↓e_tgL1, ↓e_tgT2, ↓e_tgL2, ↓e_tgT3, ↓e_tgL3, ↓e_tgT4, ↓e_tgL4, ↓e_tgT5, ↓e_tgL5, ↓e_tgT6, ↓e_tgL6, ↓e_sAsg, ↓e_par2, ↓e_par3, ↓e_okT, ↓e_okS, ↓e_itL, ↓e_itT, ↓e_itR1, ↓e_itR2, ↓e_for, ↓e_fld, ↓e_sFld, ↓e_sApp, ↓e_sSetAt, ↓e_aNil, ↓e_aV, ↓e_aS, ↓e_call, ↓e_callN, ↓e_callG, ↓e_isC, ↓e_meth, ↓e_prop, ↓e_lenOwn, ↓e_subOwn, ↓e_eqOwn, ↓e_neOwn, ↓e_mk, ↓e_mkK, ↓e_mkKO, ↓e_if1, ↓e_if0, ↓e_hide, ↓e_ok2, ↓e_no2, ↓e_sqN, ↓e_sqR, ↓e_sqB, ↓e_sqC, ↓e_frzO, ↓e_frzI, ↓e_par2O, ↓e_par3O, ↓e_cnO', ↓e_mkO', ↓e_mkI, ↓e_lc', ↓e_while, ↓e_itE, ↓e_itEK, ↓e_itEQ, ↓e_itQ, ↓e_lrg, ↓e_itRd, ↓e_catT, ↓e_srt, ↓e_mkLQ, ↓e_mkTQ, ↓e_methK, ↓e_popAt, ↓e_eqOwnA, ↓e_isCL, ↓e_Go, ↓e_outq, ↓e_retR, ↓e_retN, ↓e_rdqN, ↓e_rdqC, ↓e_rdqB, ↓e_rdqR, ↓reduceIte, Bool.false_eq_true, eq_self, e_nc, e_nc0, e_nc1, Int.reduceEq, and_self, and_true, true_and, e_wi0, e_wi1, e_re0, e_re1, e_li0, e_li1, e_liA, e_liI, e_liR, List.getD_cons_zero, List.getD_cons_succ, e_assoc2, e_m1, e_m2, e_m3, e_m4, e_m7, e_m8, e_m9, e_m10, e_some, e_isAt, e_mvI, e_mvO, e_hasI, e_hasR, e_hasO, e_hasIo, e_rdI, e_rdR, e_rdO, e_rdIo, e_fO, e_add, e_sub, e_mul, e_div, e_mod, e_pow, e_lt, e_le, e_gt, e_ge, e_neg, e_eqI, e_eqStr, e_eqB, e_neI, e_neStr, e_neB, e_isB, e_notB, e_isN0, e_isN1, e_isN2, e_isN3, e_isN4, e_isN5, e_isN6, e_notN6, e_notN0, e_notN1, e_notN2, e_notN3, e_notN4, e_notN5, e_max2, e_min2, e_intI, e_intB, e_lenL, e_lenT, e_blO, e_isO, e_isB', e_isBT, e_ty0, e_ty1, e_ty2, e_ty3, e_ty4, e_ty5, e_map, e_bAt, e_trL, e_trT, e_trI, e_trB, e_trN, e_ifn, e_valF, e_valL, e_valI, e_vals0, e_vals1, e_valsM, e_l0, e_l1, e_l2, e_l3, e_l4, e_l5, e_l6, e_l7, e_l8, e_itsL, e_itsM, e_itsT, e_sz, e_lO, e_ixL, e_ixT, e_ixM, e_at0, e_at1, e_at2, e_at3, qv_lst, qv_tup, qv_int, qv_bl, qv_str, qv_non, qvs_0, qvs_1, qvs_2, qvs_3, qv_lt, qv_tl, e_enO, e_qL, e_qT, e_qM, e_lrgO, e_rdO', e_srtO, e_ints, e_mkcT, e_wv1, e_wv2, e_wv3, e_isX, e_pk1, e_pk2, e_isX0, e_isX1, e_isX2, e_isX3, e_isX4, e_isX5, e_icLi, e_icLl, e_oiO, e_repO, e_st, e_st0, e_st1, e_st2, e_st3, e_svF, e_svL, e_svI, e_okI, e_okR, e_rg1, e_rg2, e_fM, e_fldF, e_fldO, e_sf0, e_sf1, e_sf2, e_sf3, e_sf4, e_sf5, e_sf6, e_sf7, e_isLO, e_isLI, e_apO, e_apI, e_saO, e_saI, e_hrI, e_hrR, e_hrO, e_hrIo, e_bCons, e_bs0, e_bs1, e_bD, e_bR, e_bRs, e_bIs, e_bRi, e_bRr, e_bRo, e_bRio, e_bRoI, e_bRioI, e_allF0, e_allF1, e_bIo, e_bIi, e_ios0, e_iosD, e_iosR, e_iosI, e_pt0, e_pt1, e_ptO, e_ptI, e_cgO, e_cgA, e_apO', e_rds0, e_rdsD, e_rdsI, e_rdsV, e_rdsS, e_ap0, e_ap1, e_ap2, e_ap3, List.contains_cons, List.contains_nil, Nat.reduceBEq, e_cnT, e_hAgT, e_hAgS, e_icV, e_lnO, e_eqO, e_neO, e_mkR, e_mapAg, e_mkB, e_mkM, e_eCons, e_en0, e_enD, e_enR, e_enI, e_oCons, e_os0, e_osD, e_osR, e_osI, e_foO, e_runR, e_runN, List.getElem?_cons_zero, List.getElem?_cons_succ, List.set_cons_zero, List.set_cons_succ, List.cons_append, List.nil_append, List.map_nil, List.append_nil, List.length_cons, List.length_nil, List.length_map, List.any_cons, List.any_nil, decide_true, decide_false, Bool.not_true, Bool.not_false, Bool.false_or, Bool.or_false, Bool.true_or, Bool.or_true, Bool.and_true, Bool.true_and, Bool.and_false, Bool.false_and, beq_self_eq_true, Nat.reduceAdd, Nat.reduceSub, List.reduceReplicate, String.reduceBEq, Nat.reduceMul, Int.reduceAdd, Int.reduceSub, Int.reduceMul, Int.reduceNeg, Int.reduceLT, Int.reduceLE, Int.reducePow, Int.reduceToNat, id])
  refine go_for (fun i e => ∃ (s1 s2 : SV), e = [.is (.lst (ts.map .int)), .is (.lst (l.map tv)), .own (.lst (((pR ts (l.take i)).map .int).map .f)), s1, s2] ∧ s1.free = true ∧ s2.free = true)
    ⟨.any, .any, rfl, rfl, rfl⟩ (fun i x e hx hp => ?_) (fun e hp => ?_)
  · obtain ⟨s1, s2, rfl, h1, h2⟩ := hp
    obtain ⟨p, hk, rfl⟩ := map_get hx
    have hk2 := h p (at_of hk)
    unfold tv
    have hb : 0 ≤ (p.1 : Int) - 1 ∧ (p.1 : Int) - 1 < (((pR ts (l.take i)).map Val.int).length : Nat) := by rw [List.length_map, pR_len]; omega
    have e1 : ((p.1 : Int) - 1).toNat = p.1 - 1 := by omega
    (simp (disch := first | with_reducible assumption | omega | (simp only [List.length_map, List.length_append, List.length_cons, List.length_nil, List.length_set, List.length_reverse, List.length_replicate] <;> omega) | with_reducible rfl) only [↓e_bind, ↓e_pure, ↓e_fail, ↓e_opt, ↓e_cst, ↓e_vr, ↓e_mv, ↓e_oE, ↓e_hasS, ↓e_rdT, ↓e_rdS, ↓e_bi, ↓e_bo, ↓e_un, ↓e_cb, ↓e_fz, ↓e_tst, ↓e_band, ↓e_bor, ↓e_bnot, ↓e_ttr, ↓e_bnotT, ↓e_tand, ↓e_tor, ↓e_tnot, ↓e_ife, ↓e_tTrue, ↓e_chn, ↓e_isNil, ↓e_isCons, ↓e_eLst, ↓e_eTup, ↓e_idx, ↓e_mkL, ↓e_mkLT, ↓e_mkT, ↓e_mkTT, ↓e_cat, ↓e_oN, ↓e_oI, ↓e_slL, ↓e_slT, ↓e_rep, ↓e_sSet, ↓e_sSetF, ↓e_sRet, ↓e_sEx, ↓e_sNext, ↓e_sBk, ↓e_sCt, ↓e_sIf, ↓e_sq, ↓e_frz, ↓e_tgN, ↓e_tgs0, ↓e_tgs1, ↓e_tgT1, ↓e_tgL1, ↓e_tgT2, ↓e_tgL2, ↓e_tgT3, ↓e_tgL3, ↓e_tgT4, ↓e_tgL4, ↓e_tgT5, ↓e_tgL5, ↓e_tgT6, ↓e_tgL6, ↓e_sAsg, ↓e_par2, ↓e_par3, ↓e_okT, ↓e_okS, ↓e_itL, ↓e_itT, ↓e_itR1, ↓e_itR2, ↓e_for, ↓e_fld, ↓e_sFld, ↓e_sApp, ↓e_sSetAt, ↓e_aNil, ↓e_aV, ↓e_aS, ↓e_call, ↓e_callN, ↓e_callG, ↓e_isC, ↓e_meth, ↓e_prop, ↓e_lenOwn, ↓e_subOwn, ↓e_eqOwn, ↓e_neOwn, ↓e_mk, ↓e_mkK, ↓e_mkKO, ↓e_if1, ↓e_if0, ↓e_hide, ↓e_ok2, ↓e_no2, ↓e_sqN, ↓e_sqR, ↓e_sqB, ↓e_sqC, ↓e_frzO, ↓e_frzI, ↓e_par2O, ↓e_par3O, ↓e_cnO', ↓e_mkO', ↓e_mkI, ↓e_lc', ↓e_while, ↓e_itE, ↓e_itEK, ↓e_itEQ, ↓e_itQ, ↓e_lrg, ↓e_itRd, ↓e_catT, ↓e_srt, ↓e_mkLQ, ↓e_mkTQ, ↓e_methK, ↓e_popAt, ↓e_eqOwnA, ↓e_isCL, ↓e_Go, ↓e_outq, ↓e_retR, ↓e_retN, ↓e_rdqN, ↓e_rdqC, ↓e_rdqB, ↓e_rdqR, ↓reduceIte, Bool.false_eq_true, eq_self, e_nc, e_nc0, e_nc1, Int.reduceEq, and_self, and_true, true_and, e_wi0, e_wi1, e_re0, e_re1, e_li0, e_li1, e_liA, e_liI, e_liR, List.getD_cons_zero, List.getD_cons_succ, e_assoc2, e_m1, e_m2, e_m3, e_m4, e_m7, e_m8, e_m9, e_m10, e_some, e_isAt, e_mvI, e_mvO, e_hasI, e_hasR, e_hasO, e_hasIo, e_rdI, e_rdR, e_rdO, e_rdIo, e_fO, e_add, e_sub, e_mul, e_div, e_mod, e_pow, e_lt, e_le, e_gt, e_ge, e_neg, e_eqI, e_eqStr, e_eqB, e_neI, e_neStr, e_neB, e_isB, e_notB, e_isN0, e_isN1, e_isN2, e_isN3, e_isN4, e_isN5, e_isN6, e_notN6, e_notN0, e_notN1, e_notN2, e_notN3, e_notN4, e_notN5, e_max2, e_min2, e_intI, e_intB, e_lenL, e_lenT, e_blO, e_isO, e_isB', e_isBT, e_ty0, e_ty1, e_ty2, e_ty3, e_ty4, e_ty5, e_map, e_bAt, e_trL, e_trT, e_trI, e_trB, e_trN, e_ifn, e_valF, e_valL, e_valI, e_vals0, e_vals1, e_valsM, e_l0, e_l1, e_l2, e_l3, e_l4, e_l5, e_l6, e_l7, e_l8, e_itsL, e_itsM, e_itsT, e_sz, e_lO, e_ixL, e_ixT, e_ixM, e_at0, e_at1, e_at2, e_at3, qv_lst, qv_tup, qv_int, qv_bl, qv_str, qv_non, qvs_0, qvs_1, qvs_2, qvs_3, qv_lt, qv_tl, e_enO, e_qL, e_qT, e_qM, e_lrgO, e_rdO', e_srtO, e_ints, e_mkcT, e_wv1, e_wv2, e_wv3, e_isX, e_pk1, e_pk2, e_isX0, e_isX1, e_isX2, e_isX3, e_isX4, e_isX5, e_icLi, e_icLl, e_oiO, e_repO, e_st, e_st0, e_st1, e_st2, e_st3, e_svF, e_svL, e_svI, e_okI, e_okR, e_rg1, e_rg2, e_fM, e_fldF, e_fldO, e_sf0, e_sf1, e_sf2, e_sf3, e_sf4, e_sf5, e_sf6, e_sf7, e_isLO, e_isLI, e_apO, e_apI, e_saO, e_saI, e_hrI, e_hrR, e_hrO, e_hrIo, e_bCons, e_bs0, e_bs1, e_bD, e_bR, e_bRs, e_bIs, e_bRi, e_bRr, e_bRo, e_bRio, e_bRoI, e_bRioI, e_allF0, e_allF1, e_bIo, e_bIi, e_ios0, e_iosD, e_iosR, e_iosI, e_pt0, e_pt1, e_ptO, e_ptI, e_cgO, e_cgA, e_apO', e_rds0, e_rdsD, e_rdsI, e_rdsV, e_rdsS, e_ap0, e_ap1, e_ap2, e_ap3, List.contains_cons, List.contains_nil, Nat.reduceBEq, e_cnT, e_hAgT, e_hAgS, e_icV, e_lnO, e_eqO, e_neO, e_mkR, e_mapAg, e_mkB, e_mkM, e_eCons, e_en0, e_enD, e_enR, e_enI, e_oCons, e_os0, e_osD, e_osR, e_osI, e_foO, e_runR, e_runN, List.getElem?_cons_zero, List.getElem?_cons_succ, List.set_cons_zero, List.set_cons_succ, List.cons_append, List.nil_append, List.map_nil, List.append_nil, List.length_cons, List.length_nil, List.length_map, List.any_cons, List.any_nil, decide_true, decide_false, Bool.not_true, Bool.not_false, Bool.false_or, Bool.or_false, Bool.true_or, Bool.or_true, Bool.and_true, Bool.true_and, Bool.and_false, Bool.false_and, beq_self_eq_true, Nat.reduceAdd, Nat.reduceSub, List.reduceReplicate, String.reduceBEq, Nat.reduceMul, Int.reduceAdd, Int.reduceSub, Int.reduceMul, Int.reduceNeg, Int.reduceLT, Int.reduceLE, Int.reducePow, Int.reduceToNat, e_saO hb, e1, map_set_int, pR_take hk])
    exact ⟨_, _, rfl, rfl, rfl⟩
  · obtain ⟨s1, s2, rfl, h1, h2⟩ := hp
    (simp (disch := first | with_reducible assumption | omega | (simp only [List.length_map, List.length_append, List.length_cons, List.length_nil, List.length_set, List.length_reverse, List.length_replicate] <;> omega) | with_reducible rfl) only [↓e_bind, ↓e_pure, ↓e_fail, ↓e_opt, ↓e_cst, ↓e_vr, ↓e_mv, ↓e_oE, ↓e_hasS, ↓e_rdT, ↓e_rdS, ↓e_bi, ↓e_bo, ↓e_un, ↓e_cb, ↓e_fz, ↓e_tst, ↓e_band, ↓e_bor, ↓e_bnot, ↓e_ttr, ↓e_bnotT, ↓e_tand, ↓e_tor, ↓e_tnot, ↓e_ife, ↓e_tTrue, ↓e_chn, ↓e_isNil, ↓e_isCons, ↓e_eLst, ↓e_eTup, ↓e_idx, ↓e_mkL, ↓e_mkLT, ↓e_mkT, ↓e_mkTT, ↓e_cat, ↓e_oN, ↓e_oI, ↓e_slL, ↓e_slT, ↓e_rep, ↓e_sSet, ↓e_sSetF, ↓e_sRet, ↓e_sEx, ↓e_sNext, ↓e_sBk, ↓e_sCt, ↓e_sIf, ↓e_sq, ↓e_frz, ↓e_tgN, ↓e_tgs0, ↓e_tgs1, ↓e_tgT1, ↓e_tgL1, ↓e_tgT2, ↓e_tgL2, ↓e_tgT3, ↓e_tgL3, ↓e_tgT4, ↓e_tgL4, ↓e_tgT5, ↓e_tgL5, ↓e_tgT6, ↓e_tgL6, ↓e_sAsg, ↓e_par2, ↓e_par3, ↓e_okT, ↓e_okS, ↓e_itL, ↓e_itT, ↓e_itR1, ↓e_itR2, ↓e_for, ↓e_fld, ↓e_sFld, ↓e_sApp, ↓e_sSetAt, ↓e_aNil, ↓e_aV, ↓e_aS, ↓e_call, ↓e_callN, ↓e_callG, ↓e_isC, ↓e_meth, ↓e_prop, ↓e_lenOwn, ↓e_subOwn, ↓e_eqOwn, ↓e_neOwn, ↓e_mk, ↓e_mkK, ↓e_mkKO, ↓e_if1, ↓e_if0, ↓e_hide, ↓e_ok2, ↓e_no2, ↓e_sqN, ↓e_sqR, ↓e_sqB, ↓e_sqC, ↓e_frzO, ↓e_frzI, ↓e_par2O, ↓e_par3O, ↓e_cnO', ↓e_mkO', ↓e_mkI, ↓e_lc', ↓e_while, ↓e_itE, ↓e_itEK, ↓e_itEQ, ↓e_itQ, ↓e_lrg, ↓e_itRd, ↓e_catT, ↓e_srt, ↓e_mkLQ, ↓e_mkTQ, ↓e_methK, ↓e_popAt, ↓e_eqOwnA, ↓e_isCL, ↓e_Go, ↓e_outq, ↓e_retR, ↓e_retN, ↓e_rdqN, ↓e_rdqC, ↓e_rdqB, ↓e_rdqR, ↓reduceIte, Bool.false_eq_true, eq_self, e_nc, e_nc0, e_nc1, Int.reduceEq, and_self, and_true, true_and, e_wi0, e_wi1, e_re0, e_re1, e_li0, e_li1, e_liA, e_liI, e_liR, List.getD_cons_zero, List.getD_cons_succ, e_assoc2, e_m1, e_m2, e_m3, e_m4, e_m7, e_m8, e_m9, e_m10, e_some, e_isAt, e_mvI, e_mvO, e_hasI, e_hasR, e_hasO, e_hasIo, e_rdI, e_rdR, e_rdO, e_rdIo, e_fO, e_add, e_sub, e_mul, e_div, e_mod, e_pow, e_lt, e_le, e_gt, e_ge, e_neg, e_eqI, e_eqStr, e_eqB, e_neI, e_neStr, e_neB, e_isB, e_notB, e_isN0, e_isN1, e_isN2, e_isN3, e_isN4, e_isN5, e_isN6, e_notN6, e_notN0, e_notN1, e_notN2, e_notN3, e_notN4, e_notN5, e_max2, e_min2, e_intI, e_intB, e_lenL, e_lenT, e_blO, e_isO, e_isB', e_isBT, e_ty0, e_ty1, e_ty2, e_ty3, e_ty4, e_ty5, e_map, e_bAt, e_trL, e_trT, e_trI, e_trB, e_trN, e_ifn, e_valF, e_valL, e_valI, e_vals0, e_vals1, e_valsM, e_l0, e_l1, e_l2, e_l3, e_l4, e_l5, e_l6, e_l7, e_l8, e_itsL, e_itsM, e_itsT, e_sz, e_lO, e_ixL, e_ixT, e_ixM, e_at0, e_at1, e_at2, e_at3, qv_lst, qv_tup, qv_int, qv_bl, qv_str, qv_non, qvs_0, qvs_1, qvs_2, qvs_3, qv_lt, qv_tl, e_enO, e_qL, e_qT, e_qM, e_lrgO, e_rdO', e_srtO, e_ints, e_mkcT, e_wv1, e_wv2, e_wv3, e_isX, e_pk1, e_pk2, e_isX0, e_isX1, e_isX2, e_isX3, e_isX4, e_isX5, e_icLi, e_icLl, e_oiO, e_repO, e_st, e_st0, e_st1, e_st2, e_st3, e_svF, e_svL, e_svI, e_okI, e_okR, e_rg1, e_rg2, e_fM, e_fldF, e_fldO, e_sf0, e_sf1, e_sf2, e_sf3, e_sf4, e_sf5, e_sf6, e_sf7, e_isLO, e_isLI, e_apO, e_apI, e_saO, e_saI, e_hrI, e_hrR, e_hrO, e_hrIo, e_bCons, e_bs0, e_bs1, e_bD, e_bR, e_bRs, e_bIs, e_bRi, e_bRr, e_bRo, e_bRio, e_bRoI, e_bRioI, e_allF0, e_allF1, e_bIo, e_bIi, e_ios0, e_iosD, e_iosR, e_iosI, e_pt0, e_pt1, e_ptO, e_ptI, e_cgO, e_cgA, e_apO', e_rds0, e_rdsD, e_rdsI, e_rdsV, e_rdsS, e_ap0, e_ap1, e_ap2, e_ap3, List.contains_cons, List.contains_nil, Nat.reduceBEq, e_cnT, e_hAgT, e_hAgS, e_icV, e_lnO, e_eqO, e_neO, e_mkR, e_mapAg, e_mkB, e_mkM, e_eCons, e_en0, e_enD, e_enR, e_enI, e_oCons, e_os0, e_osD, e_osR, e_osI, e_foO, e_runR, e_runN, List.getElem?_cons_zero, List.getElem?_cons_succ, List.set_cons_zero, List.set_cons_succ, List.cons_append, List.nil_append, List.map_nil, List.append_nil, List.length_cons, List.length_nil, List.length_map, List.any_cons, List.any_nil, decide_true, decide_false, Bool.not_true, Bool.not_false, Bool.false_or, Bool.or_false, Bool.true_or, Bool.or_true, Bool.and_true, Bool.true_and, Bool.and_false, Bool.false_and, beq_self_eq_true, Nat.reduceAdd, Nat.reduceSub, List.reduceReplicate, String.reduceBEq, Nat.reduceMul, Int.reduceAdd, Int.reduceSub, Int.reduceMul, Int.reduceNeg, Int.reduceLT, Int.reduceLE, Int.reducePow, Int.reduceToNat, List.take_length])
theorem md_are_integers : f_are_integers.md = [.r, .d, .d] := rfl
theorem run_are_integers {xs : List Int} {lo hi : Int} (h : ∀ x ∈ xs, lo ≤ x ∧ x ≤ hi) : f_are_integers.run [.v (.lst (xs.map .int)), .v (.int lo), .v (.int hi)] = .ok (.f (.bl true)) [] := by
  refine FOk.eq (run_go b_are_integers rfl rfl ?_)
  unfold b_are_integers
  (simp (disch := first | with_reducible assumption | omega | (simp only [List.length_map, List.length_append, List.length_cons, List.length_nil, List.length_set, List.length_reverse, List.length_replicate] <;> omega) | with_reducible rfl) only [↓e_bind, ↓e_pure, ↓e_fail, ↓e_opt, ↓e_cst, ↓e_vr, ↓e_mv, ↓e_oE, ↓e_hasS, ↓e_rdT, ↓e_rdS, ↓e_bi, ↓e_bo, ↓e_un, ↓e_cb, ↓e_fz, ↓e_tst, ↓e_band, ↓e_bor, ↓e_bnot, ↓e_ttr, ↓e_bnotT, ↓e_tand, ↓e_tor, ↓e_tnot, ↓e_ife, ↓e_tTrue, ↓e_chn, ↓e_isNil, ↓e_isCons, ↓e_eLst, ↓e_eTup, ↓e_idx, ↓e_mkL, ↓e_mkLT, ↓e_mkT, ↓e_mkTT, ↓e_cat, ↓e_oN, ↓e_oI, ↓e_slL, ↓e_slT, ↓e_rep, ↓e_sSet, ↓e_sSetF, ↓e_sRet, ↓e_sEx, ↓e_sNext, ↓e_sBk, ↓e_sCt, ↓e_sIf, ↓e_sq, ↓e_frz, ↓e_tgN, ↓e_tgs0, ↓e_tgs1, ↓e_tgT1, ↓e_tgL1, ↓e_tgT2, ↓e_tgL2, ↓e_tgT3, ↓e_tgL3, ↓e_tgT4, ↓e_tgL4, ↓e_tgT5, ↓e_tgL5, ↓e_tgT6, ↓e_tgL6, ↓e_sAsg, ↓e_par2, ↓e_par3, ↓e_okT, ↓e_okS, ↓e_itL, ↓e_itT, ↓e_itR1, ↓e_itR2, ↓e_for, ↓e_fld, ↓e_sFld, ↓e_sApp, ↓e_sSetAt, ↓e_aNil, ↓e_aV, ↓e_aS, ↓e_call, ↓e_callN, ↓e_callG, ↓e_isC, ↓e_meth, ↓e_prop, ↓e_lenOwn, ↓e_subOwn, ↓e_eqOwn, ↓e_neOwn, ↓e_mk, ↓e_mkK, ↓e_mkKO, ↓e_if1, ↓e_if0, ↓e_hide, ↓e_ok2, ↓e_no2, ↓e_sqN, ↓e_sqR, ↓e_sqB, ↓e_sqC, ↓e_frzO, ↓e_frzI, ↓e_par2O, ↓e_par3O, ↓e_cnO', ↓e_mkO', ↓e_mkI, ↓e_lc', ↓e_while, ↓e_itE, ↓e_itEK, ↓e_itEQ, ↓e_itQ, ↓e_lrg, ↓e_itRd, ↓e_catT, ↓e_srt, ↓e_mkLQ, ↓e_mkTQ, ↓e_methK, ↓e_popAt, ↓e_eqOwnA, ↓e_isCL, ↓e_Go, ↓e_outq, ↓e_retR, ↓e_retN, ↓e_rdqN, ↓e_rdqC, ↓e_rdqB, ↓e_rdqR, ↓reduceIte, Bool.false_eq_true, eq_self, e_nc, e_nc0, e_nc1, Int.reduceEq, and_self, and_true, true_and, e_wi0, e_wi1, e_re0, e_re1, e_li0, e_li1, e_liA, e_liI, e_liR, List.getD_cons_zero, List.getD_cons_succ, e_assoc2, e_m1, e_m2, e_m3, e_m4, e_m7, e_m8, e_m9, e_m10, e_some, e_isAt, e_mvI, e_mvO, e_hasI, e_hasR, e_hasO, e_hasIo, e_rdI, e_rdR, e_rdO, e_rdIo, e_fO, e_add, e_sub, e_mul, e_div, e_mod, e_pow, e_lt, e_le, e_gt, e_ge, e_neg, e_eqI, e_eqStr, e_eqB, e_neI, e_neStr, e_neB, e_isB, e_notB, e_isN0, e_isN1, e_isN2, e_isN3, e_isN4, e_isN5, e_isN6, e_notN6, e_notN0, e_notN1, e_notN2, e_notN3, e_notN4, e_notN5, e_max2, e_min2, e_intI, e_intB, e_lenL, e_lenT, e_blO, e_isO, e_isB', e_isBT, e_ty0, e_ty1, e_ty2, e_ty3, e_ty4, e_ty5, e_map, e_bAt, e_trL, e_trT, e_trI, e_trB, e_trN, e_ifn, e_valF, e_valL, e_valI, e_vals0, e_vals1, e_valsM, e_l0, e_l1, e_l2, e_l3, e_l4, e_l5, e_l6, e_l7, e_l8, e_itsL, e_itsM, e_itsT, e_sz, e_lO, e_ixL, e_ixT, e_ixM, e_at0, e_at1, e_at2, e_at3, qv_lst, qv_tup, qv_int, qv_bl, qv_str, qv_non, qvs_0, qvs_1, qvs_2, qvs_3, qv_lt, qv_tl, e_enO, e_qL, e_qT, e_qM, e_lrgO, e_rdO', e_srtO, e_ints, e_mkcT, e_wv1, e_wv2, e_wv3, e_isX, e_pk1, e_pk2, e_isX0, e_isX1, e_isX2, e_isX3, e_isX4, e_isX5, e_icLi, e_icLl, e_oiO, e_repO, e_st, e_st0, e_st1, e_st2, e_st3, e_svF, e_svL, e_svI, e_okI, e_okR, e_rg1, e_rg2, e_fM, e_fldF, e_fldO, e_sf0, e_sf1, e_sf2, e_sf3, e_sf4, e_sf5, e_sf6, e_sf7, e_isLO, e_isLI, e_apO, e_apI, e_saO, e_saI, e_hrI, e_hrR, e_hrO, e_hrIo, e_bCons, e_bs0, e_bs1, e_bD, e_bR, e_bRs, e_bIs, e_bRi, e_bRr, e_bRo, e_bRio, e_bRoI, e_bRioI, e_allF0, e_allF1, e_bIo, e_bIi, e_ios0, e_iosD, e_iosR, e_iosI, e_pt0, e_pt1, e_ptO, e_ptI, e_cgO, e_cgA, e_apO', e_rds0, e_rdsD, e_rdsI, e_rdsV, e_rdsS, e_ap0, e_ap1, e_ap2, e_ap3, List.contains_cons, List.contains_nil, Nat.reduceBEq, e_cnT, e_hAgT, e_hAgS, e_icV, e_lnO, e_eqO, e_neO, e_mkR, e_mapAg, e_mkB, e_mkM, e_eCons, e_en0, e_enD, e_enR, e_enI, e_oCons, e_os0, e_osD, e_osR, e_osI, e_foO, e_runR, e_runN, List.getElem?_cons_zero, List.getElem?_cons_succ, List.set_cons_zero, List.set_cons_succ, List.cons_append, List.nil_append, List.map_nil, List.append_nil, List.length_cons, List.length_nil, List.length_map, List.any_cons, List.any_nil, decide_true, decide_false, Bool.not_true, Bool.not_false, Bool.false_or, Bool.or_false, Bool.true_or, Bool.or_true, Bool.and_true, Bool.true_and, Bool.and_false, Bool.false_and, beq_self_eq_true, Nat.reduceAdd, Nat.reduceSub, List.reduceReplicate, String.reduceBEq, Nat.reduceMul, Int.reduceAdd, Int.reduceSub, Int.reduceMul, Int.reduceNeg, Int.reduceLT, Int.reduceLE, Int.reducePow, Int.reduceToNat])
  refine go_for (fun _ e => ∃ s, e = [.rd (.lst (xs.map .int)), .is (.int lo), .is (.int hi), s] ∧ s.free = true) ⟨_, rfl, rfl⟩ (fun n x e hx hp => ?_) (fun e hp => ?_)
  · obtain ⟨s, rfl, hs⟩ := hp
    obtain ⟨y, hy, rfl⟩ := map_get hx
    have := h y (at_of hy)
    (simp (disch := first | with_reducible assumption | omega | (simp only [List.length_map, List.length_append, List.length_cons, List.length_nil, List.length_set, List.length_reverse, List.length_replicate] <;> omega) | with_reducible rfl) only [↓e_bind, ↓e_pure, ↓e_fail, ↓e_opt, ↓e_cst, ↓e_vr, ↓e_mv, ↓e_oE, ↓e_hasS, ↓e_rdT, ↓e_rdS, ↓e_bi, ↓e_bo, ↓e_un, ↓e_cb, ↓e_fz, ↓e_tst, ↓e_band, ↓e_bor, ↓e_bnot, ↓e_ttr, ↓e_bnotT, ↓e_tand, ↓e_tor, ↓e_tnot, ↓e_ife, ↓e_tTrue, ↓e_chn, ↓e_isNil, ↓e_isCons, ↓e_eLst, ↓e_eTup, ↓e_idx, ↓e_mkL, ↓e_mkLT, ↓e_mkT, ↓e_mkTT, ↓e_cat, ↓e_oN, ↓e_oI, ↓e_slL, ↓e_slT, ↓e_rep, ↓e_sSet, ↓e_sSetF, ↓e_sRet, ↓e_sEx, ↓e_sNext, ↓e_sBk, ↓e_sCt, ↓e_sIf, ↓e_sq, ↓e_frz, ↓e_tgN, ↓e_tgs0, ↓e_tgs1, ↓e_tgT1, ↓e_tgL1, ↓e_tgT2, ↓e_tgL2, ↓e_tgT3, ↓e_tgL3, ↓e_tgT4, ↓e_tgL4, ↓e_tgT5, ↓e_tgL5, ↓e_tgT6, ↓e_tgL6, ↓e_sAsg, ↓e_par2, ↓e_par3, ↓e_okT, ↓e_okS, ↓e_itL, ↓e_itT, ↓e_itR1, ↓e_itR2, ↓e_for, ↓e_fld, ↓e_sFld, ↓e_sApp, ↓e_sSetAt, ↓e_aNil, ↓e_aV, ↓e_aS, ↓e_call, ↓e_callN, ↓e_callG, ↓e_isC, ↓e_meth, ↓e_prop, ↓e_lenOwn, ↓e_subOwn, ↓e_eqOwn, ↓e_neOwn, ↓e_mk, ↓e_mkK, ↓e_mkKO, ↓e_if1, ↓e_if0, ↓e_hide, ↓e_ok2, ↓e_no2, ↓e_sqN, ↓e_sqR, ↓e_sqB, ↓e_sqC, ↓e_frzO, ↓e_frzI, ↓e_par2O, ↓e_par3O, ↓e_cnO', ↓e_mkO', ↓e_mkI, ↓e_lc', ↓e_while, ↓e_itE, ↓e_itEK, ↓e_itEQ, ↓e_itQ, ↓e_lrg, ↓e_itRd, ↓e_catT, ↓e_srt, ↓e_mkLQ, ↓e_mkTQ, ↓e_methK, ↓e_popAt, ↓e_eqOwnA, ↓e_isCL, ↓e_Go, ↓e_outq, ↓e_retR, ↓e_retN, ↓e_rdqN, ↓e_rdqC, ↓e_rdqB, ↓e_rdqR, ↓reduceIte, Bool.false_eq_true, eq_self, e_nc, e_nc0, e_nc1, Int.reduceEq, and_self, and_true, true_and, e_wi0, e_wi1, e_re0, e_re1, e_li0, e_li1, e_liA, e_liI, e_liR, List.getD_cons_zero, List.getD_cons_succ, e_assoc2, e_m1, e_m2, e_m3, e_m4, e_m7, e_m8, e_m9, e_m10, e_some, e_isAt, e_mvI, e_mvO, e_hasI, e_hasR, e_hasO, e_hasIo, e_rdI, e_rdR, e_rdO, e_rdIo, e_fO, e_add, e_sub, e_mul, e_div, e_mod, e_pow, e_lt, e_le, e_gt, e_ge, e_neg, e_eqI, e_eqStr, e_eqB, e_neI, e_neStr, e_neB, e_isB, e_notB, e_isN0, e_isN1, e_isN2, e_isN3, e_isN4, e_isN5, e_isN6, e_notN6, e_notN0, e_notN1, e_notN2, e_notN3, e_notN4, e_notN5, e_max2, e_min2, e_intI, e_intB, e_lenL, e_lenT, e_blO, e_isO, e_isB', e_isBT, e_ty0, e_ty1, e_ty2, e_ty3, e_ty4, e_ty5, e_map, e_bAt, e_trL, e_trT, e_trI, e_trB, e_trN, e_ifn, e_valF, e_valL, e_valI, e_vals0, e_vals1, e_valsM, e_l0, e_l1, e_l2, e_l3, e_l4, e_l5, e_l6, e_l7, e_l8, e_itsL, e_itsM, e_itsT, e_sz, e_lO, e_ixL, e_ixT, e_ixM, e_at0, e_at1, e_at2, e_at3, qv_lst, qv_tup, qv_int, qv_bl, qv_str, qv_non, qvs_0, qvs_1, qvs_2, qvs_3, qv_lt, qv_tl, e_enO, e_qL, e_qT, e_qM, e_lrgO, e_rdO', e_srtO, e_ints, e_mkcT, e_wv1, e_wv2, e_wv3, e_isX, e_pk1, e_pk2, e_isX0, e_isX1, e_isX2, e_isX3, e_isX4, e_isX5, e_icLi, e_icLl, e_oiO, e_repO, e_st, e_st0, e_st1, e_st2, e_st3, e_svF, e_svL, e_svI, e_okI, e_okR, e_rg1, e_rg2, e_fM, e_fldF, e_fldO, e_sf0, e_sf1, e_sf2, e_sf3, e_sf4, e_sf5, e_sf6, e_sf7, e_isLO, e_isLI, e_apO, e_apI, e_saO, e_saI, e_hrI, e_hrR, e_hrO, e_hrIo, e_bCons, e_bs0, e_bs1, e_bD, e_bR, e_bRs, e_bIs, e_bRi, e_bRr, e_bRo, e_bRio, e_bRoI, e_bRioI, e_allF0, e_allF1, e_bIo, e_bIi, e_ios0, e_iosD, e_iosR, e_iosI, e_pt0, e_pt1, e_ptO, e_ptI, e_cgO, e_cgA, e_apO', e_rds0, e_rdsD, e_rdsI, e_rdsV, e_rdsS, e_ap0, e_ap1, e_ap2, e_ap3, List.contains_cons, List.contains_nil, Nat.reduceBEq, e_cnT, e_hAgT, e_hAgS, e_icV, e_lnO, e_eqO, e_neO, e_mkR, e_mapAg, e_mkB, e_mkM, e_eCons, e_en0, e_enD, e_enR, e_enI, e_oCons, e_os0, e_osD, e_osR, e_osI, e_foO, e_runR, e_runN, List.getElem?_cons_zero, List.getElem?_cons_succ, List.set_cons_zero, List.set_cons_succ, List.cons_append, List.nil_append, List.map_nil, List.append_nil, List.length_cons, List.length_nil, List.length_map, List.any_cons, List.any_nil, decide_true, decide_false, Bool.not_true, Bool.not_false, Bool.false_or, Bool.or_false, Bool.true_or, Bool.or_true, Bool.and_true, Bool.true_and, Bool.and_false, Bool.false_and, beq_self_eq_true, Nat.reduceAdd, Nat.reduceSub, List.reduceReplicate, String.reduceBEq, Nat.reduceMul, Int.reduceAdd, Int.reduceSub, Int.reduceMul, Int.reduceNeg, Int.reduceLT, Int.reduceLE, Int.reducePow, Int.reduceToNat, md_is_integer, run_is_integer, this.1, this.2])
    exact ⟨_, rfl, rfl⟩
  · obtain ⟨s, rfl, hs⟩ := hp
    (simp (disch := first | with_reducible assumption | omega | (simp only [List.length_map, List.length_append, List.length_cons, List.length_nil, List.length_set, List.length_reverse, List.length_replicate] <;> omega) | with_reducible rfl) only [↓e_bind, ↓e_pure, ↓e_fail, ↓e_opt, ↓e_cst, ↓e_vr, ↓e_mv, ↓e_oE, ↓e_hasS, ↓e_rdT, ↓e_rdS, ↓e_bi, ↓e_bo, ↓e_un, ↓e_cb, ↓e_fz, ↓e_tst, ↓e_band, ↓e_bor, ↓e_bnot, ↓e_ttr, ↓e_bnotT, ↓e_tand, ↓e_tor, ↓e_tnot, ↓e_ife, ↓e_tTrue, ↓e_chn, ↓e_isNil, ↓e_isCons, ↓e_eLst, ↓e_eTup, ↓e_idx, ↓e_mkL, ↓e_mkLT, ↓e_mkT, ↓e_mkTT, ↓e_cat, ↓e_oN, ↓e_oI, ↓e_slL, ↓e_slT, ↓e_rep, ↓e_sSet, ↓e_sSetF, ↓e_sRet, ↓e_sEx, ↓e_sNext, ↓e_sBk, ↓e_sCt, ↓e_sIf, ↓e_sq, ↓e_frz, ↓e_tgN, ↓e_tgs0, ↓e_tgs1, ↓e_tgT1, ↓e_tgL1, ↓e_tgT2, ↓e_tgL2, ↓e_tgT3, ↓e_tgL3, ↓e_tgT4, ↓e_tgL4, ↓e_tgT5, ↓e_tgL5, ↓e_tgT6, ↓e_tgL6, ↓e_sAsg, ↓e_par2, ↓e_par3, ↓e_okT, ↓e_okS, ↓e_itL, ↓e_itT, ↓e_itR1, ↓e_itR2, ↓e_for, ↓e_fld, ↓e_sFld, ↓e_sApp, ↓e_sSetAt, ↓e_aNil, ↓e_aV, ↓e_aS, ↓e_call, ↓e_callN, ↓e_callG, ↓e_isC, ↓e_meth, ↓e_prop, ↓e_lenOwn, ↓e_subOwn, ↓e_eqOwn, ↓e_neOwn, ↓e_mk, ↓e_mkK, ↓e_mkKO, ↓e_if1, ↓e_if0, ↓e_hide, ↓e_ok2, ↓e_no2, ↓e_sqN, ↓e_sqR, ↓e_sqB, ↓e_sqC, ↓e_frzO, ↓e_frzI, ↓e_par2O, ↓e_par3O, ↓e_cnO', ↓e_mkO', ↓e_mkI, ↓e_lc', ↓e_while, ↓e_itE, ↓e_itEK, ↓e_itEQ, ↓e_itQ, ↓e_lrg, ↓e_itRd, ↓e_catT, ↓e_srt, ↓e_mkLQ, ↓e_mkTQ, ↓e_methK, ↓e_popAt, ↓e_eqOwnA, ↓e_isCL, ↓e_Go, ↓e_outq, ↓e_retR, ↓e_retN, ↓e_rdqN, ↓e_rdqC, ↓e_rdqB, ↓e_rdqR, ↓reduceIte, Bool.false_eq_true, eq_self, e_nc, e_nc0, e_nc1, Int.reduceEq, and_self, and_true, true_and, e_wi0, e_wi1, e_re0, e_re1, e_li0, e_li1, e_liA, e_liI, e_liR, List.getD_cons_zero, List.getD_cons_succ, e_assoc2, e_m1, e_m2, e_m3, e_m4, e_m7, e_m8, e_m9, e_m10, e_some, e_isAt, e_mvI, e_mvO, e_hasI, e_hasR, e_hasO, e_hasIo, e_rdI, e_rdR, e_rdO, e_rdIo, e_fO, e_add, e_sub, e_mul, e_div, e_mod, e_pow, e_lt, e_le, e_gt, e_ge, e_neg, e_eqI, e_eqStr, e_eqB, e_neI, e_neStr, e_neB, e_isB, e_notB, e_isN0, e_isN1, e_isN2, e_isN3, e_isN4, e_isN5, e_isN6, e_notN6, e_notN0, e_notN1, e_notN2, e_notN3, e_notN4, e_notN5, e_max2, e_min2, e_intI, e_intB, e_lenL, e_lenT, e_blO, e_isO, e_isB', e_isBT, e_ty0, e_ty1, e_ty2, e_ty3, e_ty4, e_ty5, e_map, e_bAt, e_trL, e_trT, e_trI, e_trB, e_trN, e_ifn, e_valF, e_valL, e_valI, e_vals0, e_vals1, e_valsM, e_l0, e_l1, e_l2, e_l3, e_l4, e_l5, e_l6, e_l7, e_l8, e_itsL, e_itsM, e_itsT, e_sz, e_lO, e_ixL, e_ixT, e_ixM, e_at0, e_at1, e_at2, e_at3, qv_lst, qv_tup, qv_int, qv_bl, qv_str, qv_non, qvs_0, qvs_1, qvs_2, qvs_3, qv_lt, qv_tl, e_enO, e_qL, e_qT, e_qM, e_lrgO, e_rdO', e_srtO, e_ints, e_mkcT, e_wv1, e_wv2, e_wv3, e_isX, e_pk1, e_pk2, e_isX0, e_isX1, e_isX2, e_isX3, e_isX4, e_isX5, e_icLi, e_icLl, e_oiO, e_repO, e_st, e_st0, e_st1, e_st2, e_st3, e_svF, e_svL, e_svI, e_okI, e_okR, e_rg1, e_rg2, e_fM, e_fldF, e_fldO, e_sf0, e_sf1, e_sf2, e_sf3, e_sf4, e_sf5, e_sf6, e_sf7, e_isLO, e_isLI, e_apO, e_apI, e_saO, e_saI, e_hrI, e_hrR, e_hrO, e_hrIo, e_bCons, e_bs0, e_bs1, e_bD, e_bR, e_bRs, e_bIs, e_bRi, e_bRr, e_bRo, e_bRio, e_bRoI, e_bRioI, e_allF0, e_allF1, e_bIo, e_bIi, e_ios0, e_iosD, e_iosR, e_iosI, e_pt0, e_pt1, e_ptO, e_ptI, e_cgO, e_cgA, e_apO', e_rds0, e_rdsD, e_rdsI, e_rdsV, e_rdsS, e_ap0, e_ap1, e_ap2, e_ap3, List.contains_cons, List.contains_nil, Nat.reduceBEq, e_cnT, e_hAgT, e_hAgS, e_icV, e_lnO, e_eqO, e_neO, e_mkR, e_mapAg, e_mkB, e_mkM, e_eCons, e_en0, e_enD, e_enR, e_enI, e_oCons, e_os0, e_osD, e_osR, e_osI, e_foO, e_runR, e_runN, List.getElem?_cons_zero, List.getElem?_cons_succ, List.set_cons_zero, List.set_cons_succ, List.cons_append, List.nil_append, List.map_nil, List.append_nil, List.length_cons, List.length_nil, List.length_map, List.any_cons, List.any_nil, decide_true, decide_false, Bool.not_true, Bool.not_false, Bool.false_or, Bool.or_false, Bool.true_or, Bool.or_true, Bool.and_true, Bool.true_and, Bool.and_false, Bool.false_and, beq_self_eq_true, Nat.reduceAdd, Nat.reduceSub, List.reduceReplicate, String.reduceBEq, Nat.reduceMul, Int.reduceAdd, Int.reduceSub, Int.reduceMul, Int.reduceNeg, Int.reduceLT, Int.reduceLE, Int.reducePow, Int.reduceToNat])
theorem md_Disk_init : f_Disk_init.md = [.io, .d] := rfl
theorem run_Disk_init {xs : List Val} : f_Disk_init.run [.io (.ins 3 []), .v (.ins 0 xs)] = .ok (.f .non) [.ins 3 [.f (.ins 0 xs), .f (.ins 0 xs), .f (.tup [])]] := by
  refine FOk.eq (run_go b_Disk_init rfl rfl ?_)
  unfold b_Disk_init
  (simp (disch := first | with_reducible assumption | omega | (simp only [List.length_map, List.length_append, List.length_cons, List.length_nil, List.length_set, List.length_reverse, List.length_replicate] <;> omega) | with_reducible rfl) only [↓e_bind, ↓e_pure, ↓e_fail, ↓e_opt, ↓e_cst, ↓e_vr, ↓e_mv, ↓e_oE, ↓e_hasS, ↓e_rdT, ↓e_rdS, ↓e_bi, ↓e_bo, ↓e_un, ↓e_cb, ↓e_fz, ↓e_tst, ↓e_band, ↓e_bor, ↓e_bnot, ↓e_ttr, ↓e_bnotT, ↓e_tand, ↓e_tor, ↓e_tnot, ↓e_ife, ↓e_tTrue, ↓e_chn, ↓e_isNil, ↓e_isCons, ↓e_eLst, ↓e_eTup, ↓e_idx, ↓e_mkL, ↓e_mkLT, ↓e_mkT, ↓e_mkTT, ↓e_cat, ↓e_oN, ↓e_oI, ↓e_slL, ↓e_slT, ↓e_rep, ↓e_sSet, ↓e_sSetF, ↓e_sRet, ↓e_sEx, ↓e_sNext, ↓e_sBk, ↓e_sCt, ↓e_sIf, ↓e_sq, ↓e_frz, ↓e_tgN, ↓e_tgs0, ↓e_tgs1, ↓e_tgT1, ↓e_tgL1, ↓e_tgT2, ↓e_tgL2, ↓e_tgT3, ↓e_tgL3, ↓e_tgT4, ↓e_tgL4, ↓e_tgT5, ↓e_tgL5, ↓e_tgT6, ↓e_tgL6, ↓e_sAsg, ↓e_par2, ↓e_par3, ↓e_okT, ↓e_okS, ↓e_itL, ↓e_itT, ↓e_itR1, ↓e_itR2, ↓e_for, ↓e_fld, ↓e_sFld, ↓e_sApp, ↓e_sSetAt, ↓e_aNil, ↓e_aV, ↓e_aS, ↓e_call, ↓e_callN, ↓e_callG, ↓e_isC, ↓e_meth, ↓e_prop, ↓e_lenOwn, ↓e_subOwn, ↓e_eqOwn, ↓e_neOwn, ↓e_mk, ↓e_mkK, ↓e_mkKO, ↓e_if1, ↓e_if0, ↓e_hide, ↓e_ok2, ↓e_no2, ↓e_sqN, ↓e_sqR, ↓e_sqB, ↓e_sqC, ↓e_frzO, ↓e_frzI, ↓e_par2O, ↓e_par3O, ↓e_cnO', ↓e_mkO', ↓e_mkI, ↓e_lc', ↓e_while, ↓e_itE, ↓e_itEK, ↓e_itEQ, ↓e_itQ, ↓e_lrg, ↓e_itRd, ↓e_catT, ↓e_srt, ↓e_mkLQ, ↓e_mkTQ, ↓e_methK, ↓e_popAt, ↓e_eqOwnA, ↓e_isCL, ↓e_Go, ↓e_outq, ↓e_retR, ↓e_retN, ↓e_rdqN, ↓e_rdqC, ↓e_rdqB, ↓e_rdqR, ↓reduceIte, Bool.false_eq_true, eq_self, e_nc, e_nc0, e_nc1, Int.reduceEq, and_self, and_true, true_and, e_wi0, e_wi1, e_re0, e_re1, e_li0, e_li1, e_liA, e_liI, e_liR, List.getD_cons_zero, List.getD_cons_succ, e_assoc2, e_m1, e_m2, e_m3, e_m4, e_m7, e_m8, e_m9, e_m10, e_some, e_isAt, e_mvI, e_mvO, e_hasI, e_hasR, e_hasO, e_hasIo, e_rdI, e_rdR, e_rdO, e_rdIo, e_fO, e_add, e_sub, e_mul, e_div, e_mod, e_pow, e_lt, e_le, e_gt, e_ge, e_neg, e_eqI, e_eqStr, e_eqB, e_neI, e_neStr, e_neB, e_isB, e_notB, e_isN0, e_isN1, e_isN2, e_isN3, e_isN4, e_isN5, e_isN6, e_notN6, e_notN0, e_notN1, e_notN2, e_notN3, e_notN4, e_notN5, e_max2, e_min2, e_intI, e_intB, e_lenL, e_lenT, e_blO, e_isO, e_isB', e_isBT, e_ty0, e_ty1, e_ty2, e_ty3, e_ty4, e_ty5, e_map, e_bAt, e_trL, e_trT, e_trI, e_trB, e_trN, e_ifn, e_valF, e_valL, e_valI, e_vals0, e_vals1, e_valsM, e_l0, e_l1, e_l2, e_l3, e_l4, e_l5, e_l6, e_l7, e_l8, e_itsL, e_itsM, e_itsT, e_sz, e_lO, e_ixL, e_ixT, e_ixM, e_at0, e_at1, e_at2, e_at3, qv_lst, qv_tup, qv_int, qv_bl, qv_str, qv_non, qvs_0, qvs_1, qvs_2, qvs_3, qv_lt, qv_tl, e_enO, e_qL, e_qT, e_qM, e_lrgO, e_rdO', e_srtO, e_ints, e_mkcT, e_wv1, e_wv2, e_wv3, e_isX, e_pk1, e_pk2, e_isX0, e_isX1, e_isX2, e_isX3, e_isX4, e_isX5, e_icLi, e_icLl, e_oiO, e_repO, e_st, e_st0, e_st1, e_st2, e_st3, e_svF, e_svL, e_svI, e_okI, e_okR, e_rg1, e_rg2, e_fM, e_fldF, e_fldO, e_sf0, e_sf1, e_sf2, e_sf3, e_sf4, e_sf5, e_sf6, e_sf7, e_isLO, e_isLI, e_apO, e_apI, e_saO, e_saI, e_hrI, e_hrR, e_hrO, e_hrIo, e_bCons, e_bs0, e_bs1, e_bD, e_bR, e_bRs, e_bIs, e_bRi, e_bRr, e_bRo, e_bRio, e_bRoI, e_bRioI, e_allF0, e_allF1, e_bIo, e_bIi, e_ios0, e_iosD, e_iosR, e_iosI, e_pt0, e_pt1, e_ptO, e_ptI, e_cgO, e_cgA, e_apO', e_rds0, e_rdsD, e_rdsI, e_rdsV, e_rdsS, e_ap0, e_ap1, e_ap2, e_ap3, List.contains_cons, List.contains_nil, Nat.reduceBEq, e_cnT, e_hAgT, e_hAgS, e_icV, e_lnO, e_eqO, e_neO, e_mkR, e_mapAg, e_mkB, e_mkM, e_eCons, e_en0, e_enD, e_enR, e_enI, e_oCons, e_os0, e_osD, e_osR, e_osI, e_foO, e_runR, e_runN, List.getElem?_cons_zero, List.getElem?_cons_succ, List.set_cons_zero, List.set_cons_succ, List.cons_append, List.nil_append, List.map_nil, List.append_nil, List.length_cons, List.length_nil, List.length_map, List.any_cons, List.any_nil, decide_true, decide_false, Bool.not_true, Bool.not_false, Bool.false_or, Bool.or_false, Bool.true_or, Bool.or_true, Bool.and_true, Bool.true_and, Bool.and_false, Bool.false_and, beq_self_eq_true, Nat.reduceAdd, Nat.reduceSub, List.reduceReplicate, String.reduceBEq, Nat.reduceMul, Int.reduceAdd, Int.reduceSub, Int.reduceMul, Int.reduceNeg, Int.reduceLT, Int.reduceLE, Int.reducePow, Int.reduceToNat, md_check_tree, run_check_tree])
theorem md_Disk_eq : f_Disk_eq.md = [.d, .d] := rfl
theorem run_Disk_eq {c c' : Int} {ts us ts' us' : List Int} {q q' : List (Nat × Int)} (h1 : (Val.tup (ts.map .int)).okd) (h2 : (Val.tup (us.map .int)).okd) (h3 : (Val.tup (q.map tv)).okd) (h1' : (Val.tup (ts'.map .int)).okd) (h2' : (Val.tup (us'.map .int)).okd) (h3' : (Val.tup (q'.map tv)).okd) :
    f_Disk_eq.run [.v (.ins 3 [.ins 0 [.int c, .tup (ts.map .int)], .ins 0 [.int c, .tup (us.map .int)], .tup (q.map tv)]), .v (.ins 3 [.ins 0 [.int c', .tup (ts'.map .int)], .ins 0 [.int c', .tup (us'.map .int)], .tup (q'.map tv)])]
      = .ok (.f (.bl ((decide (c = c') && decide (ts = ts')) && ((decide (c = c') && decide (us = us')) && decide (q = q'))))) [] := by
  refine FOk.eq (run_go b_Disk_eq rfl rfl ?_)
  unfold b_Disk_eq
  (simp (disch := first | with_reducible assumption | omega | (simp only [List.length_map, List.length_append, List.length_cons, List.length_nil, List.length_set, List.length_reverse, List.length_replicate] <;> omega) | with_reducible rfl) only [↓e_bind, ↓e_pure, ↓e_fail, ↓e_opt, ↓e_cst, ↓e_vr, ↓e_mv, ↓e_oE, ↓e_hasS, ↓e_rdT, ↓e_rdS, ↓e_bi, ↓e_bo, ↓e_un, ↓e_cb, ↓e_fz, ↓e_tst, ↓e_band, ↓e_bor, ↓e_bnot, ↓e_ttr, ↓e_bnotT, ↓e_tand, ↓e_tor, ↓e_tnot, ↓e_ife, ↓e_tTrue, ↓e_chn, ↓e_isNil, ↓e_isCons, ↓e_eLst, ↓e_eTup, ↓e_idx, ↓e_mkL, ↓e_mkLT, ↓e_mkT, ↓e_mkTT, ↓e_cat, ↓e_oN, ↓e_oI, ↓e_slL, ↓e_slT, ↓e_rep, ↓e_sSet, ↓e_sSetF, ↓e_sRet, ↓e_sEx, ↓e_sNext, ↓e_sBk, ↓e_sCt, ↓e_sIf, ↓e_sq, ↓e_frz, ↓e_tgN, ↓e_tgs0, ↓e_tgs1, ↓e_tgT1, ↓e_tgL1, ↓e_tgT2, ↓e_tgL2, ↓e_tgT3, ↓e_tgL3, ↓e_tgT4, ↓e_tgL4, ↓e_tgT5, ↓e_tgL5, ↓e_tgT6, ↓e_tgL6, ↓e_sAsg, ↓e_par2, ↓e_par3, ↓e_okT, ↓e_okS, ↓e_itL, ↓e_itT, ↓e_itR1, ↓e_itR2, ↓e_for, ↓e_fld, ↓e_sFld, ↓e_sApp, ↓e_sSetAt, ↓e_aNil, ↓e_aV, ↓e_aS, ↓e_call, ↓e_callN, ↓e_callG, ↓e_isC, ↓e_meth, ↓e_prop, ↓e_lenOwn, ↓e_subOwn, ↓e_eqOwn, ↓e_neOwn, ↓e_mk, ↓e_mkK, ↓e_mkKO, ↓e_if1, ↓e_if0, ↓e_hide, ↓e_ok2, ↓e_no2, ↓e_sqN, ↓e_sqR, ↓e_sqB, ↓e_sqC, ↓e_frzO, ↓e_frzI, ↓e_par2O, ↓e_par3O, ↓e_cnO', ↓e_mkO', ↓e_mkI, ↓e_lc', ↓e_while, ↓e_itE, ↓e_itEK, ↓e_itEQ, ↓e_itQ, ↓e_lrg, ↓e_itRd, ↓e_catT, ↓e_srt, ↓e_mkLQ, ↓e_mkTQ, ↓e_methK, ↓e_popAt, ↓e_eqOwnA, ↓e_isCL, ↓e_Go, ↓e_outq, ↓e_retR, ↓e_retN, ↓e_rdqN, ↓e_rdqC, ↓e_rdqB, ↓e_rdqR, ↓reduceIte, Bool.false_eq_true, eq_self, e_nc, e_nc0, e_nc1, Int.reduceEq, and_self, and_true, true_and, e_wi0, e_wi1, e_re0, e_re1, e_li0, e_li1, e_liA, e_liI, e_liR, List.getD_cons_zero, List.getD_cons_succ, e_assoc2, e_m1, e_m2, e_m3, e_m4, e_m7, e_m8, e_m9, e_m10, e_some, e_isAt, e_mvI, e_mvO, e_hasI, e_hasR, e_hasO, e_hasIo, e_rdI, e_rdR, e_rdO, e_rdIo, e_fO, e_add, e_sub, e_mul, e_div, e_mod, e_pow, e_lt, e_le, e_gt, e_ge, e_neg, e_eqI, e_eqStr, e_eqB, e_neI, e_neStr, e_neB, e_isB, e_notB, e_isN0, e_isN1, e_isN2, e_isN3, e_isN4, e_isN5, e_isN6, e_notN6, e_notN0, e_notN1, e_notN2, e_notN3, e_notN4, e_notN5, e_max2, e_min2, e_intI, e_intB, e_lenL, e_lenT, e_blO, e_isO, e_isB', e_isBT, e_ty0, e_ty1, e_ty2, e_ty3, e_ty4, e_ty5, e_map, e_bAt, e_trL, e_trT, e_trI, e_trB, e_trN, e_ifn, e_valF, e_valL, e_valI, e_vals0, e_vals1, e_valsM, e_l0, e_l1, e_l2, e_l3, e_l4, e_l5, e_l6, e_l7, e_l8, e_itsL, e_itsM, e_itsT, e_sz, e_lO, e_ixL, e_ixT, e_ixM, e_at0, e_at1, e_at2, e_at3, qv_lst, qv_tup, qv_int, qv_bl, qv_str, qv_non, qvs_0, qvs_1, qvs_2, qvs_3, qv_lt, qv_tl, e_enO, e_qL, e_qT, e_qM, e_lrgO, e_rdO', e_srtO, e_ints, e_mkcT, e_wv1, e_wv2, e_wv3, e_isX, e_pk1, e_pk2, e_isX0, e_isX1, e_isX2, e_isX3, e_isX4, e_isX5, e_icLi, e_icLl, e_oiO, e_repO, e_st, e_st0, e_st1, e_st2, e_st3, e_svF, e_svL, e_svI, e_okI, e_okR, e_rg1, e_rg2, e_fM, e_fldF, e_fldO, e_sf0, e_sf1, e_sf2, e_sf3, e_sf4, e_sf5, e_sf6, e_sf7, e_isLO, e_isLI, e_apO, e_apI, e_saO, e_saI, e_hrI, e_hrR, e_hrO, e_hrIo, e_bCons, e_bs0, e_bs1, e_bD, e_bR, e_bRs, e_bIs, e_bRi, e_bRr, e_bRo, e_bRio, e_bRoI, e_bRioI, e_allF0, e_allF1, e_bIo, e_bIi, e_ios0, e_iosD, e_iosR, e_iosI, e_pt0, e_pt1, e_ptO, e_ptI, e_cgO, e_cgA, e_apO', e_rds0, e_rdsD, e_rdsI, e_rdsV, e_rdsS, e_ap0, e_ap1, e_ap2, e_ap3, List.contains_cons, List.contains_nil, Nat.reduceBEq, e_cnT, e_hAgT, e_hAgS, e_icV, e_lnO, e_eqO, e_neO, e_mkR, e_mapAg, e_mkB, e_mkM, e_eCons, e_en0, e_enD, e_enR, e_enI, e_oCons, e_os0, e_osD, e_osR, e_osI, e_foO, e_runR, e_runN, List.getElem?_cons_zero, List.getElem?_cons_succ, List.set_cons_zero, List.set_cons_succ, List.cons_append, List.nil_append, List.map_nil, List.append_nil, List.length_cons, List.length_nil, List.length_map, List.any_cons, List.any_nil, decide_true, decide_false, Bool.not_true, Bool.not_false, Bool.false_or, Bool.or_false, Bool.true_or, Bool.or_true, Bool.and_true, Bool.true_and, Bool.and_false, Bool.false_and, beq_self_eq_true, Nat.reduceAdd, Nat.reduceSub, List.reduceReplicate, String.reduceBEq, Nat.reduceMul, Int.reduceAdd, Int.reduceSub, Int.reduceMul, Int.reduceNeg, Int.reduceLT, Int.reduceLE, Int.reducePow, Int.reduceToNat, md_Tree_eq, run_Tree_eq h1 h1', run_Tree_eq h2 h2', eqD_q h3 h3', qvs_tv])
theorem run_Disk_eqL {xs ys : List Val} : f_Disk_eq.run [.v (.ins 3 xs), .v (.lst ys)] = .ok (.f (.bl false)) [] := by
  refine FOk.eq (run_go b_Disk_eq rfl rfl ?_)
  unfold b_Disk_eq
  (simp (disch := first | with_reducible assumption | omega | (simp only [List.length_map, List.length_append, List.length_cons, List.length_nil, List.length_set, List.length_reverse, List.length_replicate] <;> omega) | with_reducible rfl) only [↓e_bind, ↓e_pure, ↓e_fail, ↓e_opt, ↓e_cst, ↓e_vr, ↓e_mv, ↓e_oE, ↓e_hasS, ↓e_rdT, ↓e_rdS, ↓e_bi, ↓e_bo, ↓e_un, ↓e_cb, ↓e_fz, ↓e_tst, ↓e_band, ↓e_bor, ↓e_bnot, ↓e_ttr, ↓e_bnotT, ↓e_tand, ↓e_tor, ↓e_tnot, ↓e_ife, ↓e_tTrue, ↓e_chn, ↓e_isNil, ↓e_isCons, ↓e_eLst, ↓e_eTup, ↓e_idx, ↓e_mkL, ↓e_mkLT, ↓e_mkT, ↓e_mkTT, ↓e_cat, ↓e_oN, ↓e_oI, ↓e_slL, ↓e_slT, ↓e_rep, ↓e_sSet, ↓e_sSetF, ↓e_sRet, ↓e_sEx, ↓e_sNext, ↓e_sBk, ↓e_sCt, ↓e_sIf, ↓e_sq, ↓e_frz, ↓e_tgN, ↓e_tgs0, ↓e_tgs1, ↓e_tgT1, ↓e_tgL1, ↓e_tgT2, ↓e_tgL2, ↓e_tgT3, ↓e_tgL3, ↓e_tgT4, ↓e_tgL4, ↓e_tgT5, ↓e_tgL5, ↓e_tgT6, ↓e_tgL6, ↓e_sAsg, ↓e_par2, ↓e_par3, ↓e_okT, ↓e_okS, ↓e_itL, ↓e_itT, ↓e_itR1, ↓e_itR2, ↓e_for, ↓e_fld, ↓e_sFld, ↓e_sApp, ↓e_sSetAt, ↓e_aNil, ↓e_aV, ↓e_aS, ↓e_call, ↓e_callN, ↓e_callG, ↓e_isC, ↓e_meth, ↓e_prop, ↓e_lenOwn, ↓e_subOwn, ↓e_eqOwn, ↓e_neOwn, ↓e_mk, ↓e_mkK, ↓e_mkKO, ↓e_if1, ↓e_if0, ↓e_hide, ↓e_ok2, ↓e_no2, ↓e_sqN, ↓e_sqR, ↓e_sqB, ↓e_sqC, ↓e_frzO, ↓e_frzI, ↓e_par2O, ↓e_par3O, ↓e_cnO', ↓e_mkO', ↓e_mkI, ↓e_lc', ↓e_while, ↓e_itE, ↓e_itEK, ↓e_itEQ, ↓e_itQ, ↓e_lrg, ↓e_itRd, ↓e_catT, ↓e_srt, ↓e_mkLQ, ↓e_mkTQ, ↓e_methK, ↓e_popAt, ↓e_eqOwnA, ↓e_isCL, ↓e_Go, ↓e_outq, ↓e_retR, ↓e_retN, ↓e_rdqN, ↓e_rdqC, ↓e_rdqB, ↓e_rdqR, ↓reduceIte, Bool.false_eq_true, eq_self, e_nc, e_nc0, e_nc1, Int.reduceEq, and_self, and_true, true_and, e_wi0, e_wi1, e_re0, e_re1, e_li0, e_li1, e_liA, e_liI, e_liR, List.getD_cons_zero, List.getD_cons_succ, e_assoc2, e_m1, e_m2, e_m3, e_m4, e_m7, e_m8, e_m9, e_m10, e_some, e_isAt, e_mvI, e_mvO, e_hasI, e_hasR, e_hasO, e_hasIo, e_rdI, e_rdR, e_rdO, e_rdIo, e_fO, e_add, e_sub, e_mul, e_div, e_mod, e_pow, e_lt, e_le, e_gt, e_ge, e_neg, e_eqI, e_eqStr, e_eqB, e_neI, e_neStr, e_neB, e_isB, e_notB, e_isN0, e_isN1, e_isN2, e_isN3, e_isN4, e_isN5, e_isN6, e_notN6, e_notN0, e_notN1, e_notN2, e_notN3, e_notN4, e_notN5, e_max2, e_min2, e_intI, e_intB, e_lenL, e_lenT, e_blO, e_isO, e_isB', e_isBT, e_ty0, e_ty1, e_ty2, e_ty3, e_ty4, e_ty5, e_map, e_bAt, e_trL, e_trT, e_trI, e_trB, e_trN, e_ifn, e_valF, e_valL, e_valI, e_vals0, e_vals1, e_valsM, e_l0, e_l1, e_l2, e_l3, e_l4, e_l5, e_l6, e_l7, e_l8, e_itsL, e_itsM, e_itsT, e_sz, e_lO, e_ixL, e_ixT, e_ixM, e_at0, e_at1, e_at2, e_at3, qv_lst, qv_tup, qv_int, qv_bl, qv_str, qv_non, qvs_0, qvs_1, qvs_2, qvs_3, qv_lt, qv_tl, e_enO, e_qL, e_qT, e_qM, e_lrgO, e_rdO', e_srtO, e_ints, e_mkcT, e_wv1, e_wv2, e_wv3, e_isX, e_pk1, e_pk2, e_isX0, e_isX1, e_isX2, e_isX3, e_isX4, e_isX5, e_icLi, e_icLl, e_oiO, e_repO, e_st, e_st0, e_st1, e_st2, e_st3, e_svF, e_svL, e_svI, e_okI, e_okR, e_rg1, e_rg2, e_fM, e_fldF, e_fldO, e_sf0, e_sf1, e_sf2, e_sf3, e_sf4, e_sf5, e_sf6, e_sf7, e_isLO, e_isLI, e_apO, e_apI, e_saO, e_saI, e_hrI, e_hrR, e_hrO, e_hrIo, e_bCons, e_bs0, e_bs1, e_bD, e_bR, e_bRs, e_bIs, e_bRi, e_bRr, e_bRo, e_bRio, e_bRoI, e_bRioI, e_allF0, e_allF1, e_bIo, e_bIi, e_ios0, e_iosD, e_iosR, e_iosI, e_pt0, e_pt1, e_ptO, e_ptI, e_cgO, e_cgA, e_apO', e_rds0, e_rdsD, e_rdsI, e_rdsV, e_rdsS, e_ap0, e_ap1, e_ap2, e_ap3, List.contains_cons, List.contains_nil, Nat.reduceBEq, e_cnT, e_hAgT, e_hAgS, e_icV, e_lnO, e_eqO, e_neO, e_mkR, e_mapAg, e_mkB, e_mkM, e_eCons, e_en0, e_enD, e_enR, e_enI, e_oCons, e_os0, e_osD, e_osR, e_osI, e_foO, e_runR, e_runN, List.getElem?_cons_zero, List.getElem?_cons_succ, List.set_cons_zero, List.set_cons_succ, List.cons_append, List.nil_append, List.map_nil, List.append_nil, List.length_cons, List.length_nil, List.length_map, List.any_cons, List.any_nil, decide_true, decide_false, Bool.not_true, Bool.not_false, Bool.false_or, Bool.or_false, Bool.true_or, Bool.or_true, Bool.and_true, Bool.true_and, Bool.and_false, Bool.false_and, beq_self_eq_true, Nat.reduceAdd, Nat.reduceSub, List.reduceReplicate, String.reduceBEq, Nat.reduceMul, Int.reduceAdd, Int.reduceSub, Int.reduceMul, Int.reduceNeg, Int.reduceLT, Int.reduceLE, Int.reducePow, Int.reduceToNat])
theorem md_law_pick : f_law_pick.md = [.io, .d] := rfl
theorem run_law_pick {p : Int × Int} {xs : List Val} {v : Val} (h : 0 < xs.length ∧ xs.length < 1000) (hv : atI xs (dr p xs.length) = some v) : f_law_pick.run [.io (pool p), .v (.lst xs)] = .ok (.f v) [pool (dn p xs.length)] := by
  refine FOk.eq (run_go b_law_pick rfl rfl ?_)
  unfold b_law_pick
  (simp (disch := first | with_reducible assumption | omega | (simp only [List.length_map, List.length_append, List.length_cons, List.length_nil, List.length_set, List.length_reverse, List.length_replicate] <;> omega) | with_reducible rfl) only [↓e_bind, ↓e_pure, ↓e_fail, ↓e_opt, ↓e_cst, ↓e_vr, ↓e_mv, ↓e_oE, ↓e_hasS, ↓e_rdT, ↓e_rdS, ↓e_bi, ↓e_bo, ↓e_un, ↓e_cb, ↓e_fz, ↓e_tst, ↓e_band, ↓e_bor, ↓e_bnot, ↓e_ttr, ↓e_bnotT, ↓e_tand, ↓e_tor, ↓e_tnot, ↓e_ife, ↓e_tTrue, ↓e_chn, ↓e_isNil, ↓e_isCons, ↓e_eLst, ↓e_eTup, ↓e_idx, ↓e_mkL, ↓e_mkLT, ↓e_mkT, ↓e_mkTT, ↓e_cat, ↓e_oN, ↓e_oI, ↓e_slL, ↓e_slT, ↓e_rep, ↓e_sSet, ↓e_sSetF, ↓e_sRet, ↓e_sEx, ↓e_sNext, ↓e_sBk, ↓e_sCt, ↓e_sIf, ↓e_sq, ↓e_frz, ↓e_tgN, ↓e_tgs0, ↓e_tgs1, ↓e_tgT1, ↓e_tgL1, ↓e_tgT2, ↓e_tgL2, ↓e_tgT3, ↓e_tgL3, ↓e_tgT4, ↓e_tgL4, ↓e_tgT5, ↓e_tgL5, ↓e_tgT6, ↓e_tgL6, ↓e_sAsg, ↓e_par2, ↓e_par3, ↓e_okT, ↓e_okS, ↓e_itL, ↓e_itT, ↓e_itR1, ↓e_itR2, ↓e_for, ↓e_fld, ↓e_sFld, ↓e_sApp, ↓e_sSetAt, ↓e_aNil, ↓e_aV, ↓e_aS, ↓e_call, ↓e_callN, ↓e_callG, ↓e_isC, ↓e_meth, ↓e_prop, ↓e_lenOwn, ↓e_subOwn, ↓e_eqOwn, ↓e_neOwn, ↓e_mk, ↓e_mkK, ↓e_mkKO, ↓e_if1, ↓e_if0, ↓e_hide, ↓e_ok2, ↓e_no2, ↓e_sqN, ↓e_sqR, ↓e_sqB, ↓e_sqC, ↓e_frzO, ↓e_frzI, ↓e_par2O, ↓e_par3O, ↓e_cnO', ↓e_mkO', ↓e_mkI, ↓e_lc', ↓e_while, ↓e_itE, ↓e_itEK, ↓e_itEQ, ↓e_itQ, ↓e_lrg, ↓e_itRd, ↓e_catT, ↓e_srt, ↓e_mkLQ, ↓e_mkTQ, ↓e_methK, ↓e_popAt, ↓e_eqOwnA, ↓e_isCL, ↓e_Go, ↓e_outq, ↓e_retR, ↓e_retN, ↓e_rdqN, ↓e_rdqC, ↓e_rdqB, ↓e_rdqR, ↓reduceIte, Bool.false_eq_true, eq_self, e_nc, e_nc0, e_nc1, Int.reduceEq, and_self, and_true, true_and, e_wi0, e_wi1, e_re0, e_re1, e_li0, e_li1, e_liA, e_liI, e_liR, List.getD_cons_zero, List.getD_cons_succ, e_assoc2, e_m1, e_m2, e_m3, e_m4, e_m7, e_m8, e_m9, e_m10, e_some, e_isAt, e_mvI, e_mvO, e_hasI, e_hasR, e_hasO, e_hasIo, e_rdI, e_rdR, e_rdO, e_rdIo, e_fO, e_add, e_sub, e_mul, e_div, e_mod, e_pow, e_lt, e_le, e_gt, e_ge, e_neg, e_eqI, e_eqStr, e_eqB, e_neI, e_neStr, e_neB, e_isB, e_notB, e_isN0, e_isN1, e_isN2, e_isN3, e_isN4, e_isN5, e_isN6, e_notN6, e_notN0, e_notN1, e_notN2, e_notN3, e_notN4, e_notN5, e_max2, e_min2, e_intI, e_intB, e_lenL, e_lenT, e_blO, e_isO, e_isB', e_isBT, e_ty0, e_ty1, e_ty2, e_ty3, e_ty4, e_ty5, e_map, e_bAt, e_trL, e_trT, e_trI, e_trB, e_trN, e_ifn, e_valF, e_valL, e_valI, e_vals0, e_vals1, e_valsM, e_l0, e_l1, e_l2, e_l3, e_l4, e_l5, e_l6, e_l7, e_l8, e_itsL, e_itsM, e_itsT, e_sz, e_lO, e_ixL, e_ixT, e_ixM, e_at0, e_at1, e_at2, e_at3, qv_lst, qv_tup, qv_int, qv_bl, qv_str, qv_non, qvs_0, qvs_1, qvs_2, qvs_3, qv_lt, qv_tl, e_enO, e_qL, e_qT, e_qM, e_lrgO, e_rdO', e_srtO, e_ints, e_mkcT, e_wv1, e_wv2, e_wv3, e_isX, e_pk1, e_pk2, e_isX0, e_isX1, e_isX2, e_isX3, e_isX4, e_isX5, e_icLi, e_icLl, e_oiO, e_repO, e_st, e_st0, e_st1, e_st2, e_st3, e_svF, e_svL, e_svI, e_okI, e_okR, e_rg1, e_rg2, e_fM, e_fldF, e_fldO, e_sf0, e_sf1, e_sf2, e_sf3, e_sf4, e_sf5, e_sf6, e_sf7, e_isLO, e_isLI, e_apO, e_apI, e_saO, e_saI, e_hrI, e_hrR, e_hrO, e_hrIo, e_bCons, e_bs0, e_bs1, e_bD, e_bR, e_bRs, e_bIs, e_bRi, e_bRr, e_bRo, e_bRio, e_bRoI, e_bRioI, e_allF0, e_allF1, e_bIo, e_bIi, e_ios0, e_iosD, e_iosR, e_iosI, e_pt0, e_pt1, e_ptO, e_ptI, e_cgO, e_cgA, e_apO', e_rds0, e_rdsD, e_rdsI, e_rdsV, e_rdsS, e_ap0, e_ap1, e_ap2, e_ap3, List.contains_cons, List.contains_nil, Nat.reduceBEq, e_cnT, e_hAgT, e_hAgS, e_icV, e_lnO, e_eqO, e_neO, e_mkR, e_mapAg, e_mkB, e_mkM, e_eCons, e_en0, e_enD, e_enR, e_enI, e_oCons, e_os0, e_osD, e_osR, e_osI, e_foO, e_runR, e_runN, List.getElem?_cons_zero, List.getElem?_cons_succ, List.set_cons_zero, List.set_cons_succ, List.cons_append, List.nil_append, List.map_nil, List.append_nil, List.length_cons, List.length_nil, List.length_map, List.any_cons, List.any_nil, decide_true, decide_false, Bool.not_true, Bool.not_false, Bool.false_or, Bool.or_false, Bool.true_or, Bool.or_true, Bool.and_true, Bool.true_and, Bool.and_false, Bool.false_and, beq_self_eq_true, Nat.reduceAdd, Nat.reduceSub, List.reduceReplicate, String.reduceBEq, Nat.reduceMul, Int.reduceAdd, Int.reduceSub, Int.reduceMul, Int.reduceNeg, Int.reduceLT, Int.reduceLE, Int.reducePow, Int.reduceToNat, md_law_draw, run_law_draw, hv])
theorem dr2 {p : Int × Int} {x y : Val} : ∃ v, atI [x, y] (dr p 2) = some v ∧ (v = x ∨ v = y) := by
  have a := dr_lo (p := p) (n := 2) (by decide)
  have b := dr_hi (p := p) (n := 2) (by decide)
  rcases (show dr p 2 = 0 ∨ dr p 2 = 1 by omega) with h | h <;> rw [h]
  · exact ⟨x, rfl, .inl rfl⟩
  · exact ⟨y, rfl, .inr rfl⟩
/-- one of two texts drawn -/
theorem pick2 {p : Int × Int} {y z : Str} : ∃ x, f_law_pick.run [.io (pool p), .v (.lst [.str y, .str z])] = .ok (.f (.str x)) [pool (dn p 2)] ∧ (x = y ∨ x = z) := by
  obtain ⟨v, h1, h2⟩ := dr2 (p := p) (x := .str y) (y := .str z)
  have := run_law_pick (p := p) (xs := [.str y, .str z]) (v := v) ⟨by show 0 < 2; decide, by show 2 < 1000; decide⟩ h1
  rcases h2 with rfl | rfl
  · exact ⟨y, this, .inl rfl⟩
  · exact ⟨z, this, .inr rfl⟩
theorem md_law_drawn_told : f_law_drawn_told.md = [.io, .d, .d, .d] := rfl
theorem run_law_drawn_told {p : Int × Int} {c : Int} {n : Nat} {b : Bool} (h1 : 1 ≤ c) (h2 : c ≤ 8) (hn : 2 ≤ n ∧ n ≤ 32) : FOk (f_law_drawn_told.run [.io (pool p), .v (.int n), .v (.int c), .v (.bl b)]) fun r o => ∃ (q : Int × Int) (ts : List Int), r = .lst ((ts.map Val.int).map .f) ∧ o = [pool q] ∧ ts.length + 1 = 2 * n ∧ ∀ z ∈ ts, 0 ≤ z ∧ z ≤ c := by
  refine run_go b_law_drawn_told rfl rfl ?_
  unfold b_law_drawn_told
  (simp (disch := first | with_reducible assumption | omega | (simp only [List.length_map, List.length_append, List.length_cons, List.length_nil, List.length_set, List.length_reverse, List.length_replicate] <;> omega) | with_reducible rfl) only [↓e_bind, ↓e_pure, ↓e_fail, ↓e_opt, ↓e_cst, ↓e_vr, ↓e_mv, ↓e_oE, ↓e_hasS, ↓e_rdT, ↓e_rdS, ↓e_bi, ↓e_bo, ↓e_un, ↓e_cb, ↓e_fz, ↓e_tst, ↓e_band, ↓e_bor, ↓e_bnot, ↓e_ttr, ↓e_bnotT, ↓e_tand, ↓e_tor, ↓e_tnot, ↓e_ife, ↓e_tTrue, ↓e_chn, ↓e_isNil, ↓e_isCons, ↓e_eLst, ↓e_eTup, ↓e_idx, ↓e_mkL, ↓e_mkLT, ↓e_mkT, ↓e_mkTT, ↓e_cat, ↓e_oN, ↓e_oI, ↓e_slL, ↓e_slT, ↓e_rep, ↓e_sSet, ↓e_sSetF, ↓e_sRet, ↓e_sEx, ↓e_sNext, ↓e_sBk, ↓e_sCt, ↓e_sIf, ↓e_sq, ↓e_frz, ↓e_tgN, ↓e_tgs0, ↓e_tgs1, ↓e_tgT1, ↓e_tgL1, ↓e_tgT2, ↓e_tgL2, ↓e_tgT3, ↓e_tgL3, ↓e_tgT4, ↓e_tgL4, ↓e_tgT5, ↓e_tgL5, ↓e_tgT6, ↓e_tgL6, ↓e_sAsg, ↓e_par2, ↓e_par3, ↓e_okT, ↓e_okS, ↓e_itL, ↓e_itT, ↓e_itR1, ↓e_itR2, ↓e_for, ↓e_fld, ↓e_sFld, ↓e_sApp, ↓e_sSetAt, ↓e_aNil, ↓e_aV, ↓e_aS, ↓e_call, ↓e_callN, ↓e_callG, ↓e_isC, ↓e_meth, ↓e_prop, ↓e_lenOwn, ↓e_subOwn, ↓e_eqOwn, ↓e_neOwn, ↓e_mk, ↓e_mkK, ↓e_mkKO, ↓e_if1, ↓e_if0, ↓e_hide, ↓e_ok2, ↓e_no2, ↓e_sqN, ↓e_sqR, ↓e_sqB, ↓e_sqC, ↓e_frzO, ↓e_frzI, ↓e_par2O, ↓e_par3O, ↓e_cnO', ↓e_mkO', ↓e_mkI, ↓e_lc', ↓e_while, ↓e_itE, ↓e_itEK, ↓e_itEQ, ↓e_itQ, ↓e_lrg, ↓e_itRd, ↓e_catT, ↓e_srt, ↓e_mkLQ, ↓e_mkTQ, ↓e_methK, ↓e_popAt, ↓e_eqOwnA, ↓e_isCL, ↓e_Go, ↓e_outq, ↓e_retR, ↓e_retN, ↓e_rdqN, ↓e_rdqC, ↓e_rdqB, ↓e_rdqR, ↓reduceIte, Bool.false_eq_true, eq_self, e_nc, e_nc0, e_nc1, Int.reduceEq, and_self, and_true, true_and, e_wi0, e_wi1, e_re0, e_re1, e_li0, e_li1, e_liA, e_liI, e_liR, List.getD_cons_zero, List.getD_cons_succ, e_assoc2, e_m1, e_m2, e_m3, e_m4, e_m7, e_m8, e_m9, e_m10, e_some, e_isAt, e_mvI, e_mvO, e_hasI, e_hasR, e_hasO, e_hasIo, e_rdI, e_rdR, e_rdO, e_rdIo, e_fO, e_add, e_sub, e_mul, e_div, e_mod, e_pow, e_lt, e_le, e_gt, e_ge, e_neg, e_eqI, e_eqStr, e_eqB, e_neI, e_neStr, e_neB, e_isB, e_notB, e_isN0, e_isN1, e_isN2, e_isN3, e_isN4, e_isN5, e_isN6, e_notN6, e_notN0, e_notN1, e_notN2, e_notN3, e_notN4, e_notN5, e_max2, e_min2, e_intI, e_intB, e_lenL, e_lenT, e_blO, e_isO, e_isB', e_isBT, e_ty0, e_ty1, e_ty2, e_ty3, e_ty4, e_ty5, e_map, e_bAt, e_trL, e_trT, e_trI, e_trB, e_trN, e_ifn, e_valF, e_valL, e_valI, e_vals0, e_vals1, e_valsM, e_l0, e_l1, e_l2, e_l3, e_l4, e_l5, e_l6, e_l7, e_l8, e_itsL, e_itsM, e_itsT, e_sz, e_lO, e_ixL, e_ixT, e_ixM, e_at0, e_at1, e_at2, e_at3, qv_lst, qv_tup, qv_int, qv_bl, qv_str, qv_non, qvs_0, qvs_1, qvs_2, qvs_3, qv_lt, qv_tl, e_enO, e_qL, e_qT, e_qM, e_lrgO, e_rdO', e_srtO, e_ints, e_mkcT, e_wv1, e_wv2, e_wv3, e_isX, e_pk1, e_pk2, e_isX0, e_isX1, e_isX2, e_isX3, e_isX4, e_isX5, e_icLi, e_icLl, e_oiO, e_repO, e_st, e_st0, e_st1, e_st2, e_st3, e_svF, e_svL, e_svI, e_okI, e_okR, e_rg1, e_rg2, e_fM, e_fldF, e_fldO, e_sf0, e_sf1, e_sf2, e_sf3, e_sf4, e_sf5, e_sf6, e_sf7, e_isLO, e_isLI, e_apO, e_apI, e_saO, e_saI, e_hrI, e_hrR, e_hrO, e_hrIo, e_bCons, e_bs0, e_bs1, e_bD, e_bR, e_bRs, e_bIs, e_bRi, e_bRr, e_bRo, e_bRio, e_bRoI, e_bRioI, e_allF0, e_allF1, e_bIo, e_bIi, e_ios0, e_iosD, e_iosR, e_iosI, e_pt0, e_pt1, e_ptO, e_ptI, e_cgO, e_cgA, e_apO', e_rds0, e_rdsD, e_rdsI, e_rdsV, e_rdsS, e_ap0, e_ap1, e_ap2, e_ap3, List.contains_cons, List.contains_nil, Nat.reduceBEq, e_cnT, e_hAgT, e_hAgS, e_icV, e_lnO, e_eqO, e_neO, e_mkR, e_mapAg, e_mkB, e_mkM, e_eCons, e_en0, e_enD, e_enR, e_enI, e_oCons, e_os0, e_osD, e_osR, e_osI, e_foO, e_runR, e_runN, List.getElem?_cons_zero, List.getElem?_cons_succ, List.set_cons_zero, List.set_cons_succ, List.cons_append, List.nil_append, List.map_nil, List.append_nil, List.length_cons, List.length_nil, List.length_map, List.any_cons, List.any_nil, decide_true, decide_false, Bool.not_true, Bool.not_false, Bool.false_or, Bool.or_false, Bool.true_or, Bool.or_true, Bool.and_true, Bool.true_and, Bool.and_false, Bool.false_and, beq_self_eq_true, Nat.reduceAdd, Nat.reduceSub, List.reduceReplicate, String.reduceBEq, Nat.reduceMul, Int.reduceAdd, Int.reduceSub, Int.reduceMul, Int.reduceNeg, Int.reduceLT, Int.reduceLE, Int.reducePow, Int.reduceToNat])
  refine go_for (fun i e => ∃ (p : Int × Int) (ts : List Int) (s s2 : SV), e = [.io (pool p), .is (.int n), .is (.int c), .is (.bl b), .own (.lst ((ts.map Val.int).map .f)), s, s2] ∧ s.free = true ∧ s2.free = true ∧ ts.length = i ∧ ∀ z ∈ ts, 0 ≤ z ∧ z ≤ c)
    ⟨p, [], .any, .any, rfl, rfl, rfl, rfl, fun z h => (nomatch h)⟩ (fun i x e hx hp => ?_) (fun e hp => ?_)
  · obtain ⟨p, ts, s, s2, rfl, hs, hs2, hl, ht⟩ := hp
    obtain ⟨rfl, hx⟩ := irange_get hx
    subst hl
    have fin : ∀ d : Int, 0 ≤ d → d ≤ c → (ts ++ [d]).length = ts.length + 1 ∧ ∀ z ∈ ts ++ [d], 0 ≤ z ∧ z ≤ c := fun d d1 d2 => by
      refine ⟨by rw [List.length_append]; rfl, fun z hz => ?_⟩
      rcases List.mem_append.mp hz with hz | hz
      · exact ht z hz
      · rw [List.mem_singleton.mp hz]; exact ⟨d1, d2⟩
    by_cases k1 : b = true ∧ (1 : Int) < 1 + (ts.length : Int)
    · obtain ⟨rfl, x1⟩ := k1
      have a := at_val (ts := ts) (z := (1 + (ts.length : Int)) / 2 - 1) (by omega) (by omega)
      have hv := ht _ (val_mem (ts := ts) (k := ((1 + (ts.length : Int)) / 2 - 1).toNat + 1) (by omega) (by omega))
      (simp (disch := first | with_reducible assumption | omega | (simp only [List.length_map, List.length_append, List.length_cons, List.length_nil, List.length_set, List.length_reverse, List.length_replicate] <;> omega) | with_reducible rfl) only [↓e_bind, ↓e_pure, ↓e_fail, ↓e_opt, ↓e_cst, ↓e_vr, ↓e_mv, ↓e_oE, ↓e_hasS, ↓e_rdT, ↓e_rdS, ↓e_bi, ↓e_bo, ↓e_un, ↓e_cb, ↓e_fz, ↓e_tst, ↓e_band, ↓e_bor, ↓e_bnot, ↓e_ttr, ↓e_bnotT, ↓e_tand, ↓e_tor, ↓e_tnot, ↓e_ife, ↓e_tTrue, ↓e_chn, ↓e_isNil, ↓e_isCons, ↓e_eLst, ↓e_eTup, ↓e_idx, ↓e_mkL, ↓e_mkLT, ↓e_mkT, ↓e_mkTT, ↓e_cat, ↓e_oN, ↓e_oI, ↓e_slL, ↓e_slT, ↓e_rep, ↓e_sSet, ↓e_sSetF, ↓e_sRet, ↓e_sEx, ↓e_sNext, ↓e_sBk, ↓e_sCt, ↓e_sIf, ↓e_sq, ↓e_frz, ↓e_tgN, ↓e_tgs0, ↓e_tgs1, ↓e_tgT1, ↓e_tgL1, ↓e_tgT2, ↓e_tgL2, ↓e_tgT3, ↓e_tgL3, ↓e_tgT4, ↓e_tgL4, ↓e_tgT5, ↓e_tgL5, ↓e_tgT6, ↓e_tgL6, ↓e_sAsg, ↓e_par2, ↓e_par3, ↓e_okT, ↓e_okS, ↓e_itL, ↓e_itT, ↓e_itR1, ↓e_itR2, ↓e_for, ↓e_fld, ↓e_sFld, ↓e_sApp, ↓e_sSetAt, ↓e_aNil, ↓e_aV, ↓e_aS, ↓e_call, ↓e_callN, ↓e_callG, ↓e_isC, ↓e_meth, ↓e_prop, ↓e_lenOwn, ↓e_subOwn, ↓e_eqOwn, ↓e_neOwn, ↓e_mk, ↓e_mkK, ↓e_mkKO, ↓e_if1, ↓e_if0, ↓e_hide, ↓e_ok2, ↓e_no2, ↓e_sqN, ↓e_sqR, ↓e_sqB, ↓e_sqC, ↓e_frzO, ↓e_frzI, ↓e_par2O, ↓e_par3O, ↓e_cnO', ↓e_mkO', ↓e_mkI, ↓e_lc', ↓e_while, ↓e_itE, ↓e_itEK, ↓e_itEQ, ↓e_itQ, ↓e_lrg, ↓e_itRd, ↓e_catT, ↓e_srt, ↓e_mkLQ, ↓e_mkTQ, ↓e_methK, ↓e_popAt, ↓e_eqOwnA, ↓e_isCL, ↓e_Go, ↓e_outq, ↓e_retR, ↓e_retN, ↓e_rdqN, ↓e_rdqC, ↓e_rdqB, ↓e_rdqR, ↓reduceIte, Bool.false_eq_true, eq_self, e_nc, e_nc0, e_nc1, Int.reduceEq, and_self, and_true, true_and, e_wi0, e_wi1, e_re0, e_re1, e_li0, e_li1, e_liA, e_liI, e_liR, List.getD_cons_zero, List.getD_cons_succ, e_assoc2, e_m1, e_m2, e_m3, e_m4, e_m7, e_m8, e_m9, e_m10, e_some, e_isAt, e_mvI, e_mvO, e_hasI, e_hasR, e_hasO, e_hasIo, e_rdI, e_rdR, e_rdO, e_rdIo, e_fO, e_add, e_sub, e_mul, e_div, e_mod, e_pow, e_lt, e_le, e_gt, e_ge, e_neg, e_eqI, e_eqStr, e_eqB, e_neI, e_neStr, e_neB, e_isB, e_notB, e_isN0, e_isN1, e_isN2, e_isN3, e_isN4, e_isN5, e_isN6, e_notN6, e_notN0, e_notN1, e_notN2, e_notN3, e_notN4, e_notN5, e_max2, e_min2, e_intI, e_intB, e_lenL, e_lenT, e_blO, e_isO, e_isB', e_isBT, e_ty0, e_ty1, e_ty2, e_ty3, e_ty4, e_ty5, e_map, e_bAt, e_trL, e_trT, e_trI, e_trB, e_trN, e_ifn, e_valF, e_valL, e_valI, e_vals0, e_vals1, e_valsM, e_l0, e_l1, e_l2, e_l3, e_l4, e_l5, e_l6, e_l7, e_l8, e_itsL, e_itsM, e_itsT, e_sz, e_lO, e_ixL, e_ixT, e_ixM, e_at0, e_at1, e_at2, e_at3, qv_lst, qv_tup, qv_int, qv_bl, qv_str, qv_non, qvs_0, qvs_1, qvs_2, qvs_3, qv_lt, qv_tl, e_enO, e_qL, e_qT, e_qM, e_lrgO, e_rdO', e_srtO, e_ints, e_mkcT, e_wv1, e_wv2, e_wv3, e_isX, e_pk1, e_pk2, e_isX0, e_isX1, e_isX2, e_isX3, e_isX4, e_isX5, e_icLi, e_icLl, e_oiO, e_repO, e_st, e_st0, e_st1, e_st2, e_st3, e_svF, e_svL, e_svI, e_okI, e_okR, e_rg1, e_rg2, e_fM, e_fldF, e_fldO, e_sf0, e_sf1, e_sf2, e_sf3, e_sf4, e_sf5, e_sf6, e_sf7, e_isLO, e_isLI, e_apO, e_apI, e_saO, e_saI, e_hrI, e_hrR, e_hrO, e_hrIo, e_bCons, e_bs0, e_bs1, e_bD, e_bR, e_bRs, e_bIs, e_bRi, e_bRr, e_bRo, e_bRio, e_bRoI, e_bRioI, e_allF0, e_allF1, e_bIo, e_bIi, e_ios0, e_iosD, e_iosR, e_iosI, e_pt0, e_pt1, e_ptO, e_ptI, e_cgO, e_cgA, e_apO', e_rds0, e_rdsD, e_rdsI, e_rdsV, e_rdsS, e_ap0, e_ap1, e_ap2, e_ap3, List.contains_cons, List.contains_nil, Nat.reduceBEq, e_cnT, e_hAgT, e_hAgS, e_icV, e_lnO, e_eqO, e_neO, e_mkR, e_mapAg, e_mkB, e_mkM, e_eCons, e_en0, e_enD, e_enR, e_enI, e_oCons, e_os0, e_osD, e_osR, e_osI, e_foO, e_runR, e_runN, List.getElem?_cons_zero, List.getElem?_cons_succ, List.set_cons_zero, List.set_cons_succ, List.cons_append, List.nil_append, List.map_nil, List.append_nil, List.length_cons, List.length_nil, List.length_map, List.any_cons, List.any_nil, decide_true, decide_false, Bool.not_true, Bool.not_false, Bool.false_or, Bool.or_false, Bool.true_or, Bool.or_true, Bool.and_true, Bool.true_and, Bool.and_false, Bool.false_and, beq_self_eq_true, Nat.reduceAdd, Nat.reduceSub, List.reduceReplicate, String.reduceBEq, Nat.reduceMul, Int.reduceAdd, Int.reduceSub, Int.reduceMul, Int.reduceNeg, Int.reduceLT, Int.reduceLE, Int.reducePow, Int.reduceToNat, x1, a, md_law_draw, run_law_draw, snoc])
      have d1 := dr_lo (p := p) (n := val ts (((1 + (ts.length : Int)) / 2 - 1).toNat + 1) + 1) (by omega)
      have d2 := dr_hi (p := p) (n := val ts (((1 + (ts.length : Int)) / 2 - 1).toNat + 1) + 1) (by omega)
      exact ⟨_, _, _, _, rfl, rfl, rfl, (fin _ (by omega) (by omega)).1, (fin _ (by omega) (by omega)).2⟩
    · have d1 := dr_lo (p := p) (n := c + 1) (by omega)
      have d2 := dr_hi (p := p) (n := c + 1) (by omega)
      cases b with
      | false =>
        (simp (disch := first | with_reducible assumption | omega | (simp only [List.length_map, List.length_append, List.length_cons, List.length_nil, List.length_set, List.length_reverse, List.length_replicate] <;> omega) | with_reducible rfl) only [↓e_bind, ↓e_pure, ↓e_fail, ↓e_opt, ↓e_cst, ↓e_vr, ↓e_mv, ↓e_oE, ↓e_hasS, ↓e_rdT, ↓e_rdS, ↓e_bi, ↓e_bo, ↓e_un, ↓e_cb, ↓e_fz, ↓e_tst, ↓e_band, ↓e_bor, ↓e_bnot, ↓e_ttr, ↓e_bnotT, ↓e_tand, ↓e_tor, ↓e_tnot, ↓e_ife, ↓e_tTrue, ↓e_chn, ↓e_isNil, ↓e_isCons, ↓e_eLst, ↓e_eTup, ↓e_idx, ↓e_mkL, ↓e_mkLT, ↓e_mkT, ↓e_mkTT, ↓e_cat, ↓e_oN, ↓e_oI, ↓e_slL, ↓e_slT, ↓e_rep, ↓e_sSet, ↓e_sSetF, ↓e_sRet, ↓e_sEx, ↓e_sNext, ↓e_sBk, ↓e_sCt, ↓e_sIf, ↓e_sq, ↓e_frz, ↓e_tgN, ↓e_tgs0, ↓e_tgs1, ↓e_tgT1, ↓e_tgL1, ↓e_tgT2, ↓e_tgL2, ↓e_tgT3, ↓e_tgL3, ↓e_tgT4, ↓e_tgL4, ↓e_tgT5, ↓e_tgL5, ↓e_tgT6, ↓e_tgL6, ↓e_sAsg, ↓e_par2, ↓e_par3, ↓e_okT, ↓e_okS, ↓e_itL, ↓e_itT, ↓e_itR1, ↓e_itR2, ↓e_for, ↓e_fld, ↓e_sFld, ↓e_sApp, ↓e_sSetAt, ↓e_aNil, ↓e_aV, ↓e_aS, ↓e_call, ↓e_callN, ↓e_callG, ↓e_isC, ↓e_meth, ↓e_prop, ↓e_lenOwn, ↓e_subOwn, ↓e_eqOwn, ↓e_neOwn, ↓e_mk, ↓e_mkK, ↓e_mkKO, ↓e_if1, ↓e_if0, ↓e_hide, ↓e_ok2, ↓e_no2, ↓e_sqN, ↓e_sqR, ↓e_sqB, ↓e_sqC, ↓e_frzO, ↓e_frzI, ↓e_par2O, ↓e_par3O, ↓e_cnO', ↓e_mkO', ↓e_mkI, ↓e_lc', ↓e_while, ↓e_itE, ↓e_itEK, ↓e_itEQ, ↓e_itQ, ↓e_lrg, ↓e_itRd, ↓e_catT, ↓e_srt, ↓e_mkLQ, ↓e_mkTQ, ↓e_methK, ↓e_popAt, ↓e_eqOwnA, ↓e_isCL, ↓e_Go, ↓e_outq, ↓e_retR, ↓e_retN, ↓e_rdqN, ↓e_rdqC, ↓e_rdqB, ↓e_rdqR, ↓reduceIte, Bool.false_eq_true, eq_self, e_nc, e_nc0, e_nc1, Int.reduceEq, and_self, and_true, true_and, e_wi0, e_wi1, e_re0, e_re1, e_li0, e_li1, e_liA, e_liI, e_liR, List.getD_cons_zero, List.getD_cons_succ, e_assoc2, e_m1, e_m2, e_m3, e_m4, e_m7, e_m8, e_m9, e_m10, e_some, e_isAt, e_mvI, e_mvO, e_hasI, e_hasR, e_hasO, e_hasIo, e_rdI, e_rdR, e_rdO, e_rdIo, e_fO, e_add, e_sub, e_mul, e_div, e_mod, e_pow, e_lt, e_le, e_gt, e_ge, e_neg, e_eqI, e_eqStr, e_eqB, e_neI, e_neStr, e_neB, e_isB, e_notB, e_isN0, e_isN1, e_isN2, e_isN3, e_isN4, e_isN5, e_isN6, e_notN6, e_notN0, e_notN1, e_notN2, e_notN3, e_notN4, e_notN5, e_max2, e_min2, e_intI, e_intB, e_lenL, e_lenT, e_blO, e_isO, e_isB', e_isBT, e_ty0, e_ty1, e_ty2, e_ty3, e_ty4, e_ty5, e_map, e_bAt, e_trL, e_trT, e_trI, e_trB, e_trN, e_ifn, e_valF, e_valL, e_valI, e_vals0, e_vals1, e_valsM, e_l0, e_l1, e_l2, e_l3, e_l4, e_l5, e_l6, e_l7, e_l8, e_itsL, e_itsM, e_itsT, e_sz, e_lO, e_ixL, e_ixT, e_ixM, e_at0, e_at1, e_at2, e_at3, qv_lst, qv_tup, qv_int, qv_bl, qv_str, qv_non, qvs_0, qvs_1, qvs_2, qvs_3, qv_lt, qv_tl, e_enO, e_qL, e_qT, e_qM, e_lrgO, e_rdO', e_srtO, e_ints, e_mkcT, e_wv1, e_wv2, e_wv3, e_isX, e_pk1, e_pk2, e_isX0, e_isX1, e_isX2, e_isX3, e_isX4, e_isX5, e_icLi, e_icLl, e_oiO, e_repO, e_st, e_st0, e_st1, e_st2, e_st3, e_svF, e_svL, e_svI, e_okI, e_okR, e_rg1, e_rg2, e_fM, e_fldF, e_fldO, e_sf0, e_sf1, e_sf2, e_sf3, e_sf4, e_sf5, e_sf6, e_sf7, e_isLO, e_isLI, e_apO, e_apI, e_saO, e_saI, e_hrI, e_hrR, e_hrO, e_hrIo, e_bCons, e_bs0, e_bs1, e_bD, e_bR, e_bRs, e_bIs, e_bRi, e_bRr, e_bRo, e_bRio, e_bRoI, e_bRioI, e_allF0, e_allF1, e_bIo, e_bIi, e_ios0, e_iosD, e_iosR, e_iosI, e_pt0, e_pt1, e_ptO, e_ptI, e_cgO, e_cgA, e_apO', e_rds0, e_rdsD, e_rdsI, e_rdsV, e_rdsS, e_ap0, e_ap1, e_ap2, e_ap3, List.contains_cons, List.contains_nil, Nat.reduceBEq, e_cnT, e_hAgT, e_hAgS, e_icV, e_lnO, e_eqO, e_neO, e_mkR, e_mapAg, e_mkB, e_mkM, e_eCons, e_en0, e_enD, e_enR, e_enI, e_oCons, e_os0, e_osD, e_osR, e_osI, e_foO, e_runR, e_runN, List.getElem?_cons_zero, List.getElem?_cons_succ, List.set_cons_zero, List.set_cons_succ, List.cons_append, List.nil_append, List.map_nil, List.append_nil, List.length_cons, List.length_nil, List.length_map, List.any_cons, List.any_nil, decide_true, decide_false, Bool.not_true, Bool.not_false, Bool.false_or, Bool.or_false, Bool.true_or, Bool.or_true, Bool.and_true, Bool.true_and, Bool.and_false, Bool.false_and, beq_self_eq_true, Nat.reduceAdd, Nat.reduceSub, List.reduceReplicate, String.reduceBEq, Nat.reduceMul, Int.reduceAdd, Int.reduceSub, Int.reduceMul, Int.reduceNeg, Int.reduceLT, Int.reduceLE, Int.reducePow, Int.reduceToNat, md_law_draw, run_law_draw, snoc])
        exact ⟨_, _, _, _, rfl, rfl, rfl, (fin _ (by omega) (by omega)).1, (fin _ (by omega) (by omega)).2⟩
      | true =>
        have x1 : ¬ (1 : Int) < 1 + (ts.length : Int) := fun z => k1 ⟨rfl, z⟩
        (simp (disch := first | with_reducible assumption | omega | (simp only [List.length_map, List.length_append, List.length_cons, List.length_nil, List.length_set, List.length_reverse, List.length_replicate] <;> omega) | with_reducible rfl) only [↓e_bind, ↓e_pure, ↓e_fail, ↓e_opt, ↓e_cst, ↓e_vr, ↓e_mv, ↓e_oE, ↓e_hasS, ↓e_rdT, ↓e_rdS, ↓e_bi, ↓e_bo, ↓e_un, ↓e_cb, ↓e_fz, ↓e_tst, ↓e_band, ↓e_bor, ↓e_bnot, ↓e_ttr, ↓e_bnotT, ↓e_tand, ↓e_tor, ↓e_tnot, ↓e_ife, ↓e_tTrue, ↓e_chn, ↓e_isNil, ↓e_isCons, ↓e_eLst, ↓e_eTup, ↓e_idx, ↓e_mkL, ↓e_mkLT, ↓e_mkT, ↓e_mkTT, ↓e_cat, ↓e_oN, ↓e_oI, ↓e_slL, ↓e_slT, ↓e_rep, ↓e_sSet, ↓e_sSetF, ↓e_sRet, ↓e_sEx, ↓e_sNext, ↓e_sBk, ↓e_sCt, ↓e_sIf, ↓e_sq, ↓e_frz, ↓e_tgN, ↓e_tgs0, ↓e_tgs1, ↓e_tgT1, ↓e_tgL1, ↓e_tgT2, ↓e_tgL2, ↓e_tgT3, ↓e_tgL3, ↓e_tgT4, ↓e_tgL4, ↓e_tgT5, ↓e_tgL5, ↓e_tgT6, ↓e_tgL6, ↓e_sAsg, ↓e_par2, ↓e_par3, ↓e_okT, ↓e_okS, ↓e_itL, ↓e_itT, ↓e_itR1, ↓e_itR2, ↓e_for, ↓e_fld, ↓e_sFld, ↓e_sApp, ↓e_sSetAt, ↓e_aNil, ↓e_aV, ↓e_aS, ↓e_call, ↓e_callN, ↓e_callG, ↓e_isC, ↓e_meth, ↓e_prop, ↓e_lenOwn, ↓e_subOwn, ↓e_eqOwn, ↓e_neOwn, ↓e_mk, ↓e_mkK, ↓e_mkKO, ↓e_if1, ↓e_if0, ↓e_hide, ↓e_ok2, ↓e_no2, ↓e_sqN, ↓e_sqR, ↓e_sqB, ↓e_sqC, ↓e_frzO, ↓e_frzI, ↓e_par2O, ↓e_par3O, ↓e_cnO', ↓e_mkO', ↓e_mkI, ↓e_lc', ↓e_while, ↓e_itE, ↓e_itEK, ↓e_itEQ, ↓e_itQ, ↓e_lrg, ↓e_itRd, ↓e_catT, ↓e_srt, ↓e_mkLQ, ↓e_mkTQ, ↓e_methK, ↓e_popAt, ↓e_eqOwnA, ↓e_isCL, ↓e_Go, ↓e_outq, ↓e_retR, ↓e_retN, ↓e_rdqN, ↓e_rdqC, ↓e_rdqB, ↓e_rdqR, ↓reduceIte, Bool.false_eq_true, eq_self, e_nc, e_nc0, e_nc1, Int.reduceEq, and_self, and_true, true_and, e_wi0, e_wi1, e_re0, e_re1, e_li0, e_li1, e_liA, e_liI, e_liR, List.getD_cons_zero, List.getD_cons_succ, e_assoc2, e_m1, e_m2, e_m3, e_m4, e_m7, e_m8, e_m9, e_m10, e_some, e_isAt, e_mvI, e_mvO, e_hasI, e_hasR, e_hasO, e_hasIo, e_rdI, e_rdR, e_rdO, e_rdIo, e_fO, e_add, e_sub, e_mul, e_div, e_mod, e_pow, e_lt, e_le, e_gt, e_ge, e_neg, e_eqI, e_eqStr, e_eqB, e_neI, e_neStr, e_neB, e_isB, e_notB, e_isN0, e_isN1, e_isN2, e_isN3, e_isN4, e_isN5, e_isN6, e_notN6, e_notN0, e_notN1, e_notN2, e_notN3, e_notN4, e_notN5, e_max2, e_min2, e_intI, e_intB, e_lenL, e_lenT, e_blO, e_isO, e_isB', e_isBT, e_ty0, e_ty1, e_ty2, e_ty3, e_ty4, e_ty5, e_map, e_bAt, e_trL, e_trT, e_trI, e_trB, e_trN, e_ifn, e_valF, e_valL, e_valI, e_vals0, e_vals1, e_valsM, e_l0, e_l1, e_l2, e_l3, e_l4, e_l5, e_l6, e_l7, e_l8, e_itsL, e_itsM, e_itsT, e_sz, e_lO, e_ixL, e_ixT, e_ixM, e_at0, e_at1, e_at2, e_at3, qv_lst, qv_tup, qv_int, qv_bl, qv_str, qv_non, qvs_0, qvs_1, qvs_2, qvs_3, qv_lt, qv_tl, e_enO, e_qL, e_qT, e_qM, e_lrgO, e_rdO', e_srtO, e_ints, e_mkcT, e_wv1, e_wv2, e_wv3, e_isX, e_pk1, e_pk2, e_isX0, e_isX1, e_isX2, e_isX3, e_isX4, e_isX5, e_icLi, e_icLl, e_oiO, e_repO, e_st, e_st0, e_st1, e_st2, e_st3, e_svF, e_svL, e_svI, e_okI, e_okR, e_rg1, e_rg2, e_fM, e_fldF, e_fldO, e_sf0, e_sf1, e_sf2, e_sf3, e_sf4, e_sf5, e_sf6, e_sf7, e_isLO, e_isLI, e_apO, e_apI, e_saO, e_saI, e_hrI, e_hrR, e_hrO, e_hrIo, e_bCons, e_bs0, e_bs1, e_bD, e_bR, e_bRs, e_bIs, e_bRi, e_bRr, e_bRo, e_bRio, e_bRoI, e_bRioI, e_allF0, e_allF1, e_bIo, e_bIi, e_ios0, e_iosD, e_iosR, e_iosI, e_pt0, e_pt1, e_ptO, e_ptI, e_cgO, e_cgA, e_apO', e_rds0, e_rdsD, e_rdsI, e_rdsV, e_rdsS, e_ap0, e_ap1, e_ap2, e_ap3, List.contains_cons, List.contains_nil, Nat.reduceBEq, e_cnT, e_hAgT, e_hAgS, e_icV, e_lnO, e_eqO, e_neO, e_mkR, e_mapAg, e_mkB, e_mkM, e_eCons, e_en0, e_enD, e_enR, e_enI, e_oCons, e_os0, e_osD, e_osR, e_osI, e_foO, e_runR, e_runN, List.getElem?_cons_zero, List.getElem?_cons_succ, List.set_cons_zero, List.set_cons_succ, List.cons_append, List.nil_append, List.map_nil, List.append_nil, List.length_cons, List.length_nil, List.length_map, List.any_cons, List.any_nil, decide_true, decide_false, Bool.not_true, Bool.not_false, Bool.false_or, Bool.or_false, Bool.true_or, Bool.or_true, Bool.and_true, Bool.true_and, Bool.and_false, Bool.false_and, beq_self_eq_true, Nat.reduceAdd, Nat.reduceSub, List.reduceReplicate, String.reduceBEq, Nat.reduceMul, Int.reduceAdd, Int.reduceSub, Int.reduceMul, Int.reduceNeg, Int.reduceLT, Int.reduceLE, Int.reducePow, Int.reduceToNat, x1, md_law_draw, run_law_draw, snoc])
        exact ⟨_, _, _, _, rfl, rfl, rfl, (fin _ (by omega) (by omega)).1, (fin _ (by omega) (by omega)).2⟩
  · obtain ⟨p, ts, s, s2, rfl, hs, hs2, hl, ht⟩ := hp
    rw [irange_len] at hl
    (simp (disch := first | with_reducible assumption | omega | (simp only [List.length_map, List.length_append, List.length_cons, List.length_nil, List.length_set, List.length_reverse, List.length_replicate] <;> omega) | with_reducible rfl) only [↓e_bind, ↓e_pure, ↓e_fail, ↓e_opt, ↓e_cst, ↓e_vr, ↓e_mv, ↓e_oE, ↓e_hasS, ↓e_rdT, ↓e_rdS, ↓e_bi, ↓e_bo, ↓e_un, ↓e_cb, ↓e_fz, ↓e_tst, ↓e_band, ↓e_bor, ↓e_bnot, ↓e_ttr, ↓e_bnotT, ↓e_tand, ↓e_tor, ↓e_tnot, ↓e_ife, ↓e_tTrue, ↓e_chn, ↓e_isNil, ↓e_isCons, ↓e_eLst, ↓e_eTup, ↓e_idx, ↓e_mkL, ↓e_mkLT, ↓e_mkT, ↓e_mkTT, ↓e_cat, ↓e_oN, ↓e_oI, ↓e_slL, ↓e_slT, ↓e_rep, ↓e_sSet, ↓e_sSetF, ↓e_sRet, ↓e_sEx, ↓e_sNext, ↓e_sBk, ↓e_sCt, ↓e_sIf, ↓e_sq, ↓e_frz, ↓e_tgN, ↓e_tgs0, ↓e_tgs1, ↓e_tgT1, ↓e_tgL1, ↓e_tgT2, ↓e_tgL2, ↓e_tgT3, ↓e_tgL3, ↓e_tgT4, ↓e_tgL4, ↓e_tgT5, ↓e_tgL5, ↓e_tgT6, ↓e_tgL6, ↓e_sAsg, ↓e_par2, ↓e_par3, ↓e_okT, ↓e_okS, ↓e_itL, ↓e_itT, ↓e_itR1, ↓e_itR2, ↓e_for, ↓e_fld, ↓e_sFld, ↓e_sApp, ↓e_sSetAt, ↓e_aNil, ↓e_aV, ↓e_aS, ↓e_call, ↓e_callN, ↓e_callG, ↓e_isC, ↓e_meth, ↓e_prop, ↓e_lenOwn, ↓e_subOwn, ↓e_eqOwn, ↓e_neOwn, ↓e_mk, ↓e_mkK, ↓e_mkKO, ↓e_if1, ↓e_if0, ↓e_hide, ↓e_ok2, ↓e_no2, ↓e_sqN, ↓e_sqR, ↓e_sqB, ↓e_sqC, ↓e_frzO, ↓e_frzI, ↓e_par2O, ↓e_par3O, ↓e_cnO', ↓e_mkO', ↓e_mkI, ↓e_lc', ↓e_while, ↓e_itE, ↓e_itEK, ↓e_itEQ, ↓e_itQ, ↓e_lrg, ↓e_itRd, ↓e_catT, ↓e_srt, ↓e_mkLQ, ↓e_mkTQ, ↓e_methK, ↓e_popAt, ↓e_eqOwnA, ↓e_isCL, ↓e_Go, ↓e_outq, ↓e_retR, ↓e_retN, ↓e_rdqN, ↓e_rdqC, ↓e_rdqB, ↓e_rdqR, ↓reduceIte, Bool.false_eq_true, eq_self, e_nc, e_nc0, e_nc1, Int.reduceEq, and_self, and_true, true_and, e_wi0, e_wi1, e_re0, e_re1, e_li0, e_li1, e_liA, e_liI, e_liR, List.getD_cons_zero, List.getD_cons_succ, e_assoc2, e_m1, e_m2, e_m3, e_m4, e_m7, e_m8, e_m9, e_m10, e_some, e_isAt, e_mvI, e_mvO, e_hasI, e_hasR, e_hasO, e_hasIo, e_rdI, e_rdR, e_rdO, e_rdIo, e_fO, e_add, e_sub, e_mul, e_div, e_mod, e_pow, e_lt, e_le, e_gt, e_ge, e_neg, e_eqI, e_eqStr, e_eqB, e_neI, e_neStr, e_neB, e_isB, e_notB, e_isN0, e_isN1, e_isN2, e_isN3, e_isN4, e_isN5, e_isN6, e_notN6, e_notN0, e_notN1, e_notN2, e_notN3, e_notN4, e_notN5, e_max2, e_min2, e_intI, e_intB, e_lenL, e_lenT, e_blO, e_isO, e_isB', e_isBT, e_ty0, e_ty1, e_ty2, e_ty3, e_ty4, e_ty5, e_map, e_bAt, e_trL, e_trT, e_trI, e_trB, e_trN, e_ifn, e_valF, e_valL, e_valI, e_vals0, e_vals1, e_valsM, e_l0, e_l1, e_l2, e_l3, e_l4, e_l5, e_l6, e_l7, e_l8, e_itsL, e_itsM, e_itsT, e_sz, e_lO, e_ixL, e_ixT, e_ixM, e_at0, e_at1, e_at2, e_at3, qv_lst, qv_tup, qv_int, qv_bl, qv_str, qv_non, qvs_0, qvs_1, qvs_2, qvs_3, qv_lt, qv_tl, e_enO, e_qL, e_qT, e_qM, e_lrgO, e_rdO', e_srtO, e_ints, e_mkcT, e_wv1, e_wv2, e_wv3, e_isX, e_pk1, e_pk2, e_isX0, e_isX1, e_isX2, e_isX3, e_isX4, e_isX5, e_icLi, e_icLl, e_oiO, e_repO, e_st, e_st0, e_st1, e_st2, e_st3, e_svF, e_svL, e_svI, e_okI, e_okR, e_rg1, e_rg2, e_fM, e_fldF, e_fldO, e_sf0, e_sf1, e_sf2, e_sf3, e_sf4, e_sf5, e_sf6, e_sf7, e_isLO, e_isLI, e_apO, e_apI, e_saO, e_saI, e_hrI, e_hrR, e_hrO, e_hrIo, e_bCons, e_bs0, e_bs1, e_bD, e_bR, e_bRs, e_bIs, e_bRi, e_bRr, e_bRo, e_bRio, e_bRoI, e_bRioI, e_allF0, e_allF1, e_bIo, e_bIi, e_ios0, e_iosD, e_iosR, e_iosI, e_pt0, e_pt1, e_ptO, e_ptI, e_cgO, e_cgA, e_apO', e_rds0, e_rdsD, e_rdsI, e_rdsV, e_rdsS, e_ap0, e_ap1, e_ap2, e_ap3, List.contains_cons, List.contains_nil, Nat.reduceBEq, e_cnT, e_hAgT, e_hAgS, e_icV, e_lnO, e_eqO, e_neO, e_mkR, e_mapAg, e_mkB, e_mkM, e_eCons, e_en0, e_enD, e_enR, e_enI, e_oCons, e_os0, e_osD, e_osR, e_osI, e_foO, e_runR, e_runN, List.getElem?_cons_zero, List.getElem?_cons_succ, List.set_cons_zero, List.set_cons_succ, List.cons_append, List.nil_append, List.map_nil, List.append_nil, List.length_cons, List.length_nil, List.length_map, List.any_cons, List.any_nil, decide_true, decide_false, Bool.not_true, Bool.not_false, Bool.false_or, Bool.or_false, Bool.true_or, Bool.or_true, Bool.and_true, Bool.true_and, Bool.and_false, Bool.false_and, beq_self_eq_true, Nat.reduceAdd, Nat.reduceSub, List.reduceReplicate, String.reduceBEq, Nat.reduceMul, Int.reduceAdd, Int.reduceSub, Int.reduceMul, Int.reduceNeg, Int.reduceLT, Int.reduceLE, Int.reducePow, Int.reduceToNat])
    exact ⟨p, ts, rfl, rfl, by omega, ht⟩
theorem md_law_drawn_rows : f_law_drawn_rows.md = [.io, .d, .d, .d] := rfl
theorem run_law_drawn_rows {p : Int × Int} {c : Int} {n m : Nat} (h1 : 1 ≤ c) (h2 : c ≤ 8) (hn : 2 ≤ n ∧ n ≤ 32) (hm : m ≤ 1000) : FOk (f_law_drawn_rows.run [.io (pool p), .v (.int n), .v (.int c), .v (.int m)]) fun r o => ∃ (q : Int × Int) (l : List (Nat × Int)), r = .lst ((l.map tv).map .f) ∧ o = [pool q] ∧ l.length = m ∧ ∀ p ∈ l, 1 ≤ p.1 ∧ p.1 < 2 * n ∧ 0 ≤ p.2 ∧ p.2 ≤ c := by
  refine run_go b_law_drawn_rows rfl rfl ?_
  unfold b_law_drawn_rows
  (simp (disch := first | with_reducible assumption | omega | (simp only [List.length_map, List.length_append, List.length_cons, List.length_nil, List.length_set, List.length_reverse, List.length_replicate] <;> omega) | with_reducible rfl) only [↓e_bind, ↓e_pure, ↓e_fail, ↓e_opt, ↓e_cst, ↓e_vr, ↓e_mv, ↓e_oE, ↓e_hasS, ↓e_rdT, ↓e_rdS, ↓e_bi, ↓e_bo, ↓e_un, ↓e_cb, ↓e_fz, ↓e_tst, ↓e_band, ↓e_bor, ↓e_bnot, ↓e_ttr, ↓e_bnotT, ↓e_tand, ↓e_tor, ↓e_tnot, ↓e_ife, ↓e_tTrue, ↓e_chn, ↓e_isNil, ↓e_isCons, ↓e_eLst, ↓e_eTup, ↓e_idx, ↓e_mkL, ↓e_mkLT, ↓e_mkT, ↓e_mkTT, ↓e_cat, ↓e_oN, ↓e_oI, ↓e_slL, ↓e_slT, ↓e_rep, ↓e_sSet, ↓e_sSetF, ↓e_sRet, ↓e_sEx, ↓e_sNext, ↓e_sBk, ↓e_sCt, ↓e_sIf, ↓e_sq, ↓e_frz, ↓e_tgN, ↓e_tgs0, ↓e_tgs1, ↓e_tgT1, ↓e_tgL1, ↓e_tgT2, ↓e_tgL2, ↓e_tgT3, ↓e_tgL3, ↓e_tgT4, ↓e_tgL4, ↓e_tgT5, ↓e_tgL5, ↓e_tgT6, ↓e_tgL6, ↓e_sAsg, ↓e_par2, ↓e_par3, ↓e_okT, ↓e_okS, ↓e_itL, ↓e_itT, ↓e_itR1, ↓e_itR2, ↓e_for, ↓e_fld, ↓e_sFld, ↓e_sApp, ↓e_sSetAt, ↓e_aNil, ↓e_aV, ↓e_aS, ↓e_call, ↓e_callN, ↓e_callG, ↓e_isC, ↓e_meth, ↓e_prop, ↓e_lenOwn, ↓e_subOwn, ↓e_eqOwn, ↓e_neOwn, ↓e_mk, ↓e_mkK, ↓e_mkKO, ↓e_if1, ↓e_if0, ↓e_hide, ↓e_ok2, ↓e_no2, ↓e_sqN, ↓e_sqR, ↓e_sqB, ↓e_sqC, ↓e_frzO, ↓e_frzI, ↓e_par2O, ↓e_par3O, ↓e_cnO', ↓e_mkO', ↓e_mkI, ↓e_lc', ↓e_while, ↓e_itE, ↓e_itEK, ↓e_itEQ, ↓e_itQ, ↓e_lrg, ↓e_itRd, ↓e_catT, ↓e_srt, ↓e_mkLQ, ↓e_mkTQ, ↓e_methK, ↓e_popAt, ↓e_eqOwnA, ↓e_isCL, ↓e_Go, ↓e_outq, ↓e_retR, ↓e_retN, ↓e_rdqN, ↓e_rdqC, ↓e_rdqB, ↓e_rdqR, ↓reduceIte, Bool.false_eq_true, eq_self, e_nc, e_nc0, e_nc1, Int.reduceEq, and_self, and_true, true_and, e_wi0, e_wi1, e_re0, e_re1, e_li0, e_li1, e_liA, e_liI, e_liR, List.getD_cons_zero, List.getD_cons_succ, e_assoc2, e_m1, e_m2, e_m3, e_m4, e_m7, e_m8, e_m9, e_m10, e_some, e_isAt, e_mvI, e_mvO, e_hasI, e_hasR, e_hasO, e_hasIo, e_rdI, e_rdR, e_rdO, e_rdIo, e_fO, e_add, e_sub, e_mul, e_div, e_mod, e_pow, e_lt, e_le, e_gt, e_ge, e_neg, e_eqI, e_eqStr, e_eqB, e_neI, e_neStr, e_neB, e_isB, e_notB, e_isN0, e_isN1, e_isN2, e_isN3, e_isN4, e_isN5, e_isN6, e_notN6, e_notN0, e_notN1, e_notN2, e_notN3, e_notN4, e_notN5, e_max2, e_min2, e_intI, e_intB, e_lenL, e_lenT, e_blO, e_isO, e_isB', e_isBT, e_ty0, e_ty1, e_ty2, e_ty3, e_ty4, e_ty5, e_map, e_bAt, e_trL, e_trT, e_trI, e_trB, e_trN, e_ifn, e_valF, e_valL, e_valI, e_vals0, e_vals1, e_valsM, e_l0, e_l1, e_l2, e_l3, e_l4, e_l5, e_l6, e_l7, e_l8, e_itsL, e_itsM, e_itsT, e_sz, e_lO, e_ixL, e_ixT, e_ixM, e_at0, e_at1, e_at2, e_at3, qv_lst, qv_tup, qv_int, qv_bl, qv_str, qv_non, qvs_0, qvs_1, qvs_2, qvs_3, qv_lt, qv_tl, e_enO, e_qL, e_qT, e_qM, e_lrgO, e_rdO', e_srtO, e_ints, e_mkcT, e_wv1, e_wv2, e_wv3, e_isX, e_pk1, e_pk2, e_isX0, e_isX1, e_isX2, e_isX3, e_isX4, e_isX5, e_icLi, e_icLl, e_oiO, e_repO, e_st, e_st0, e_st1, e_st2, e_st3, e_svF, e_svL, e_svI, e_okI, e_okR, e_rg1, e_rg2, e_fM, e_fldF, e_fldO, e_sf0, e_sf1, e_sf2, e_sf3, e_sf4, e_sf5, e_sf6, e_sf7, e_isLO, e_isLI, e_apO, e_apI, e_saO, e_saI, e_hrI, e_hrR, e_hrO, e_hrIo, e_bCons, e_bs0, e_bs1, e_bD, e_bR, e_bRs, e_bIs, e_bRi, e_bRr, e_bRo, e_bRio, e_bRoI, e_bRioI, e_allF0, e_allF1, e_bIo, e_bIi, e_ios0, e_iosD, e_iosR, e_iosI, e_pt0, e_pt1, e_ptO, e_ptI, e_cgO, e_cgA, e_apO', e_rds0, e_rdsD, e_rdsI, e_rdsV, e_rdsS, e_ap0, e_ap1, e_ap2, e_ap3, List.contains_cons, List.contains_nil, Nat.reduceBEq, e_cnT, e_hAgT, e_hAgS, e_icV, e_lnO, e_eqO, e_neO, e_mkR, e_mapAg, e_mkB, e_mkM, e_eCons, e_en0, e_enD, e_enR, e_enI, e_oCons, e_os0, e_osD, e_osR, e_osI, e_foO, e_runR, e_runN, List.getElem?_cons_zero, List.getElem?_cons_succ, List.set_cons_zero, List.set_cons_succ, List.cons_append, List.nil_append, List.map_nil, List.append_nil, List.length_cons, List.length_nil, List.length_map, List.any_cons, List.any_nil, decide_true, decide_false, Bool.not_true, Bool.not_false, Bool.false_or, Bool.or_false, Bool.true_or, Bool.or_true, Bool.and_true, Bool.true_and, Bool.and_false, Bool.false_and, beq_self_eq_true, Nat.reduceAdd, Nat.reduceSub, List.reduceReplicate, String.reduceBEq, Nat.reduceMul, Int.reduceAdd, Int.reduceSub, Int.reduceMul, Int.reduceNeg, Int.reduceLT, Int.reduceLE, Int.reducePow, Int.reduceToNat])
  refine go_lcX rfl (by rw [irange_len]; omega) (fun i ms e => ∃ (p : Int × Int) (l : List (Nat × Int)) (s : SV), e = [.io (pool p), .is (.int n), .is (.int c), .is (.int m), s] ∧ ms = (l.map tv).map .f ∧ l.length = i ∧ ∀ p ∈ l, 1 ≤ p.1 ∧ p.1 < 2 * n ∧ 0 ≤ p.2 ∧ p.2 ≤ c) ⟨p, [], .any, rfl, rfl, rfl, fun x h => (nomatch h)⟩ (fun i x ms e hx hp => ?_) (fun ms e hp => ?_)
  · obtain ⟨p, l, s, rfl, rfl, hl, ht⟩ := hp
    obtain ⟨rfl, hi⟩ := irange_get hx
    obtain ⟨k, hk, ek⟩ := drI (p := p) (n := 2 * n - 1) (by omega)
    have e1 : 2 * (n : Int) - 1 = ((2 * n - 1 : Nat) : Int) := by omega
    have d1 := dr_lo (p := dn p ((2 * n - 1 : Nat) : Int)) (n := c + 1) (by omega)
    have d2 := dr_hi (p := dn p ((2 * n - 1 : Nat) : Int)) (n := c + 1) (by omega)
    (simp (disch := first | with_reducible assumption | omega | (simp only [List.length_map, List.length_append, List.length_cons, List.length_nil, List.length_set, List.length_reverse, List.length_replicate] <;> omega) | with_reducible rfl) only [↓e_bind, ↓e_pure, ↓e_fail, ↓e_opt, ↓e_cst, ↓e_vr, ↓e_mv, ↓e_oE, ↓e_hasS, ↓e_rdT, ↓e_rdS, ↓e_bi, ↓e_bo, ↓e_un, ↓e_cb, ↓e_fz, ↓e_tst, ↓e_band, ↓e_bor, ↓e_bnot, ↓e_ttr, ↓e_bnotT, ↓e_tand, ↓e_tor, ↓e_tnot, ↓e_ife, ↓e_tTrue, ↓e_chn, ↓e_isNil, ↓e_isCons, ↓e_eLst, ↓e_eTup, ↓e_idx, ↓e_mkL, ↓e_mkLT, ↓e_mkT, ↓e_mkTT, ↓e_cat, ↓e_oN, ↓e_oI, ↓e_slL, ↓e_slT, ↓e_rep, ↓e_sSet, ↓e_sSetF, ↓e_sRet, ↓e_sEx, ↓e_sNext, ↓e_sBk, ↓e_sCt, ↓e_sIf, ↓e_sq, ↓e_frz, ↓e_tgN, ↓e_tgs0, ↓e_tgs1, ↓e_tgT1, ↓e_tgL1, ↓e_tgT2, ↓e_tgL2, ↓e_tgT3, ↓e_tgL3, ↓e_tgT4, ↓e_tgL4, ↓e_tgT5, ↓e_tgL5, ↓e_tgT6, ↓e_tgL6, ↓e_sAsg, ↓e_par2, ↓e_par3, ↓e_okT, ↓e_okS, ↓e_itL, ↓e_itT, ↓e_itR1, ↓e_itR2, ↓e_for, ↓e_fld, ↓e_sFld, ↓e_sApp, ↓e_sSetAt, ↓e_aNil, ↓e_aV, ↓e_aS, ↓e_call, ↓e_callN, ↓e_callG, ↓e_isC, ↓e_meth, ↓e_prop, ↓e_lenOwn, ↓e_subOwn, ↓e_eqOwn, ↓e_neOwn, ↓e_mk, ↓e_mkK, ↓e_mkKO, ↓e_if1, ↓e_if0, ↓e_hide, ↓e_ok2, ↓e_no2, ↓e_sqN, ↓e_sqR, ↓e_sqB, ↓e_sqC, ↓e_frzO, ↓e_frzI, ↓e_par2O, ↓e_par3O, ↓e_cnO', ↓e_mkO', ↓e_mkI, ↓e_lc', ↓e_while, ↓e_itE, ↓e_itEK, ↓e_itEQ, ↓e_itQ, ↓e_lrg, ↓e_itRd, ↓e_catT, ↓e_srt, ↓e_mkLQ, ↓e_mkTQ, ↓e_methK, ↓e_popAt, ↓e_eqOwnA, ↓e_isCL, ↓e_Go, ↓e_outq, ↓e_retR, ↓e_retN, ↓e_rdqN, ↓e_rdqC, ↓e_rdqB, ↓e_rdqR, ↓reduceIte, Bool.false_eq_true, eq_self, e_nc, e_nc0, e_nc1, Int.reduceEq, and_self, and_true, true_and, e_wi0, e_wi1, e_re0, e_re1, e_li0, e_li1, e_liA, e_liI, e_liR, List.getD_cons_zero, List.getD_cons_succ, e_assoc2, e_m1, e_m2, e_m3, e_m4, e_m7, e_m8, e_m9, e_m10, e_some, e_isAt, e_mvI, e_mvO, e_hasI, e_hasR, e_hasO, e_hasIo, e_rdI, e_rdR, e_rdO, e_rdIo, e_fO, e_add, e_sub, e_mul, e_div, e_mod, e_pow, e_lt, e_le, e_gt, e_ge, e_neg, e_eqI, e_eqStr, e_eqB, e_neI, e_neStr, e_neB, e_isB, e_notB, e_isN0, e_isN1, e_isN2, e_isN3, e_isN4, e_isN5, e_isN6, e_notN6, e_notN0, e_notN1, e_notN2, e_notN3, e_notN4, e_notN5, e_max2, e_min2, e_intI, e_intB, e_lenL, e_lenT, e_blO, e_isO, e_isB', e_isBT, e_ty0, e_ty1, e_ty2, e_ty3, e_ty4, e_ty5, e_map, e_bAt, e_trL, e_trT, e_trI, e_trB, e_trN, e_ifn, e_valF, e_valL, e_valI, e_vals0, e_vals1, e_valsM, e_l0, e_l1, e_l2, e_l3, e_l4, e_l5, e_l6, e_l7, e_l8, e_itsL, e_itsM, e_itsT, e_sz, e_lO, e_ixL, e_ixT, e_ixM, e_at0, e_at1, e_at2, e_at3, qv_lst, qv_tup, qv_int, qv_bl, qv_str, qv_non, qvs_0, qvs_1, qvs_2, qvs_3, qv_lt, qv_tl, e_enO, e_qL, e_qT, e_qM, e_lrgO, e_rdO', e_srtO, e_ints, e_mkcT, e_wv1, e_wv2, e_wv3, e_isX, e_pk1, e_pk2, e_isX0, e_isX1, e_isX2, e_isX3, e_isX4, e_isX5, e_icLi, e_icLl, e_oiO, e_repO, e_st, e_st0, e_st1, e_st2, e_st3, e_svF, e_svL, e_svI, e_okI, e_okR, e_rg1, e_rg2, e_fM, e_fldF, e_fldO, e_sf0, e_sf1, e_sf2, e_sf3, e_sf4, e_sf5, e_sf6, e_sf7, e_isLO, e_isLI, e_apO, e_apI, e_saO, e_saI, e_hrI, e_hrR, e_hrO, e_hrIo, e_bCons, e_bs0, e_bs1, e_bD, e_bR, e_bRs, e_bIs, e_bRi, e_bRr, e_bRo, e_bRio, e_bRoI, e_bRioI, e_allF0, e_allF1, e_bIo, e_bIi, e_ios0, e_iosD, e_iosR, e_iosI, e_pt0, e_pt1, e_ptO, e_ptI, e_cgO, e_cgA, e_apO', e_rds0, e_rdsD, e_rdsI, e_rdsV, e_rdsS, e_ap0, e_ap1, e_ap2, e_ap3, List.contains_cons, List.contains_nil, Nat.reduceBEq, e_cnT, e_hAgT, e_hAgS, e_icV, e_lnO, e_eqO, e_neO, e_mkR, e_mapAg, e_mkB, e_mkM, e_eCons, e_en0, e_enD, e_enR, e_enI, e_oCons, e_os0, e_osD, e_osR, e_osI, e_foO, e_runR, e_runN, List.getElem?_cons_zero, List.getElem?_cons_succ, List.set_cons_zero, List.set_cons_succ, List.cons_append, List.nil_append, List.map_nil, List.append_nil, List.length_cons, List.length_nil, List.length_map, List.any_cons, List.any_nil, decide_true, decide_false, Bool.not_true, Bool.not_false, Bool.false_or, Bool.or_false, Bool.true_or, Bool.or_true, Bool.and_true, Bool.true_and, Bool.and_false, Bool.false_and, beq_self_eq_true, Nat.reduceAdd, Nat.reduceSub, List.reduceReplicate, String.reduceBEq, Nat.reduceMul, Int.reduceAdd, Int.reduceSub, Int.reduceMul, Int.reduceNeg, Int.reduceLT, Int.reduceLE, Int.reducePow, Int.reduceToNat, md_law_draw, run_law_draw, e1, ek])
    refine ⟨fun _ => ⟨_, l ++ [(k + 1, dr (dn p ((2 * n - 1 : Nat) : Int)) (c + 1))], _, rfl, ?_, by rw [List.length_append, hl]; rfl, fun q hq => ?_⟩, (fun z => nomatch z)⟩
    · rw [List.map_append, List.map_append]
      show _ ++ [MV.f (.tup [.int (1 + (k : Int)), .int _])] = _ ++ [MV.f (.tup [.int ((k + 1 : Nat) : Int), .int _])]
      rw [show (1 : Int) + (k : Int) = ((k + 1 : Nat) : Int) by omega]
    · rcases List.mem_append.mp hq with hq | hq
      · exact ht q hq
      · rw [List.mem_singleton.mp hq]; exact ⟨by show 1 ≤ k + 1; omega, by show k + 1 < _; omega, d1, by show dr _ _ ≤ c; omega⟩
  · obtain ⟨p, l, s, rfl, rfl, hl, ht⟩ := hp
    rw [irange_len] at hl
    (simp (disch := first | with_reducible assumption | omega | (simp only [List.length_map, List.length_append, List.length_cons, List.length_nil, List.length_set, List.length_reverse, List.length_replicate] <;> omega) | with_reducible rfl) only [↓e_bind, ↓e_pure, ↓e_fail, ↓e_opt, ↓e_cst, ↓e_vr, ↓e_mv, ↓e_oE, ↓e_hasS, ↓e_rdT, ↓e_rdS, ↓e_bi, ↓e_bo, ↓e_un, ↓e_cb, ↓e_fz, ↓e_tst, ↓e_band, ↓e_bor, ↓e_bnot, ↓e_ttr, ↓e_bnotT, ↓e_tand, ↓e_tor, ↓e_tnot, ↓e_ife, ↓e_tTrue, ↓e_chn, ↓e_isNil, ↓e_isCons, ↓e_eLst, ↓e_eTup, ↓e_idx, ↓e_mkL, ↓e_mkLT, ↓e_mkT, ↓e_mkTT, ↓e_cat, ↓e_oN, ↓e_oI, ↓e_slL, ↓e_slT, ↓e_rep, ↓e_sSet, ↓e_sSetF, ↓e_sRet, ↓e_sEx, ↓e_sNext, ↓e_sBk, ↓e_sCt, ↓e_sIf, ↓e_sq, ↓e_frz, ↓e_tgN, ↓e_tgs0, ↓e_tgs1, ↓e_tgT1, ↓e_tgL1, ↓e_tgT2, ↓e_tgL2, ↓e_tgT3, ↓e_tgL3, ↓e_tgT4, ↓e_tgL4, ↓e_tgT5, ↓e_tgL5, ↓e_tgT6, ↓e_tgL6, ↓e_sAsg, ↓e_par2, ↓e_par3, ↓e_okT, ↓e_okS, ↓e_itL, ↓e_itT, ↓e_itR1, ↓e_itR2, ↓e_for, ↓e_fld, ↓e_sFld, ↓e_sApp, ↓e_sSetAt, ↓e_aNil, ↓e_aV, ↓e_aS, ↓e_call, ↓e_callN, ↓e_callG, ↓e_isC, ↓e_meth, ↓e_prop, ↓e_lenOwn, ↓e_subOwn, ↓e_eqOwn, ↓e_neOwn, ↓e_mk, ↓e_mkK, ↓e_mkKO, ↓e_if1, ↓e_if0, ↓e_hide, ↓e_ok2, ↓e_no2, ↓e_sqN, ↓e_sqR, ↓e_sqB, ↓e_sqC, ↓e_frzO, ↓e_frzI, ↓e_par2O, ↓e_par3O, ↓e_cnO', ↓e_mkO', ↓e_mkI, ↓e_lc', ↓e_while, ↓e_itE, ↓e_itEK, ↓e_itEQ, ↓e_itQ, ↓e_lrg, ↓e_itRd, ↓e_catT, ↓e_srt, ↓e_mkLQ, ↓e_mkTQ, ↓e_methK, ↓e_popAt, ↓e_eqOwnA, ↓e_isCL, ↓e_Go, ↓e_outq, ↓e_retR, ↓e_retN, ↓e_rdqN, ↓e_rdqC, ↓e_rdqB, ↓e_rdqR, ↓reduceIte, Bool.false_eq_true, eq_self, e_nc, e_nc0, e_nc1, Int.reduceEq, and_self, and_true, true_and, e_wi0, e_wi1, e_re0, e_re1, e_li0, e_li1, e_liA, e_liI, e_liR, List.getD_cons_zero, List.getD_cons_succ, e_assoc2, e_m1, e_m2, e_m3, e_m4, e_m7, e_m8, e_m9, e_m10, e_some, e_isAt, e_mvI, e_mvO, e_hasI, e_hasR, e_hasO, e_hasIo, e_rdI, e_rdR, e_rdO, e_rdIo, e_fO, e_add, e_sub, e_mul, e_div, e_mod, e_pow, e_lt, e_le, e_gt, e_ge, e_neg, e_eqI, e_eqStr, e_eqB, e_neI, e_neStr, e_neB, e_isB, e_notB, e_isN0, e_isN1, e_isN2, e_isN3, e_isN4, e_isN5, e_isN6, e_notN6, e_notN0, e_notN1, e_notN2, e_notN3, e_notN4, e_notN5, e_max2, e_min2, e_intI, e_intB, e_lenL, e_lenT, e_blO, e_isO, e_isB', e_isBT, e_ty0, e_ty1, e_ty2, e_ty3, e_ty4, e_ty5, e_map, e_bAt, e_trL, e_trT, e_trI, e_trB, e_trN, e_ifn, e_valF, e_valL, e_valI, e_vals0, e_vals1, e_valsM, e_l0, e_l1, e_l2, e_l3, e_l4, e_l5, e_l6, e_l7, e_l8, e_itsL, e_itsM, e_itsT, e_sz, e_lO, e_ixL, e_ixT, e_ixM, e_at0, e_at1, e_at2, e_at3, qv_lst, qv_tup, qv_int, qv_bl, qv_str, qv_non, qvs_0, qvs_1, qvs_2, qvs_3, qv_lt, qv_tl, e_enO, e_qL, e_qT, e_qM, e_lrgO, e_rdO', e_srtO, e_ints, e_mkcT, e_wv1, e_wv2, e_wv3, e_isX, e_pk1, e_pk2, e_isX0, e_isX1, e_isX2, e_isX3, e_isX4, e_isX5, e_icLi, e_icLl, e_oiO, e_repO, e_st, e_st0, e_st1, e_st2, e_st3, e_svF, e_svL, e_svI, e_okI, e_okR, e_rg1, e_rg2, e_fM, e_fldF, e_fldO, e_sf0, e_sf1, e_sf2, e_sf3, e_sf4, e_sf5, e_sf6, e_sf7, e_isLO, e_isLI, e_apO, e_apI, e_saO, e_saI, e_hrI, e_hrR, e_hrO, e_hrIo, e_bCons, e_bs0, e_bs1, e_bD, e_bR, e_bRs, e_bIs, e_bRi, e_bRr, e_bRo, e_bRio, e_bRoI, e_bRioI, e_allF0, e_allF1, e_bIo, e_bIi, e_ios0, e_iosD, e_iosR, e_iosI, e_pt0, e_pt1, e_ptO, e_ptI, e_cgO, e_cgA, e_apO', e_rds0, e_rdsD, e_rdsI, e_rdsV, e_rdsS, e_ap0, e_ap1, e_ap2, e_ap3, List.contains_cons, List.contains_nil, Nat.reduceBEq, e_cnT, e_hAgT, e_hAgS, e_icV, e_lnO, e_eqO, e_neO, e_mkR, e_mapAg, e_mkB, e_mkM, e_eCons, e_en0, e_enD, e_enR, e_enI, e_oCons, e_os0, e_osD, e_osR, e_osI, e_foO, e_runR, e_runN, List.getElem?_cons_zero, List.getElem?_cons_succ, List.set_cons_zero, List.set_cons_succ, List.cons_append, List.nil_append, List.map_nil, List.append_nil, List.length_cons, List.length_nil, List.length_map, List.any_cons, List.any_nil, decide_true, decide_false, Bool.not_true, Bool.not_false, Bool.false_or, Bool.or_false, Bool.true_or, Bool.or_true, Bool.and_true, Bool.true_and, Bool.and_false, Bool.false_and, beq_self_eq_true, Nat.reduceAdd, Nat.reduceSub, List.reduceReplicate, String.reduceBEq, Nat.reduceMul, Int.reduceAdd, Int.reduceSub, Int.reduceMul, Int.reduceNeg, Int.reduceLT, Int.reduceLE, Int.reducePow, Int.reduceToNat])
    exact ⟨_, l, rfl, rfl, by omega, ht⟩
theorem md_are_told : f_are_told.md = [.r, .d] := rfl
theorem run_are_told {xs : List Int} {c : Int} (h : ∀ x ∈ xs, 0 ≤ x ∧ x ≤ c) (hn : xs.length = 3 ∨ xs.length = 7 ∨ xs.length = 15 ∨ xs.length = 31 ∨ xs.length = 63) : f_are_told.run [.v (.lst (xs.map .int)), .v (.int c)] = .ok (.f (.bl true)) [] := by
  refine FOk.eq (run_go b_are_told rfl rfl ?_)
  unfold b_are_told
  have hin : inF false (.int (xs.length : Nat)) (.tup ([3, 7, 15, 31, 63].map .int)) = some (.bl true) := by
    rcases hn with h | h | h | h | h <;> rw [h] <;> rfl
  (simp (disch := first | with_reducible assumption | omega | (simp only [List.length_map, List.length_append, List.length_cons, List.length_nil, List.length_set, List.length_reverse, List.length_replicate] <;> omega) | with_reducible rfl) only [↓e_bind, ↓e_pure, ↓e_fail, ↓e_opt, ↓e_cst, ↓e_vr, ↓e_mv, ↓e_oE, ↓e_hasS, ↓e_rdT, ↓e_rdS, ↓e_bi, ↓e_bo, ↓e_un, ↓e_cb, ↓e_fz, ↓e_tst, ↓e_band, ↓e_bor, ↓e_bnot, ↓e_ttr, ↓e_bnotT, ↓e_tand, ↓e_tor, ↓e_tnot, ↓e_ife, ↓e_tTrue, ↓e_chn, ↓e_isNil, ↓e_isCons, ↓e_eLst, ↓e_eTup, ↓e_idx, ↓e_mkL, ↓e_mkLT, ↓e_mkT, ↓e_mkTT, ↓e_cat, ↓e_oN, ↓e_oI, ↓e_slL, ↓e_slT, ↓e_rep, ↓e_sSet, ↓e_sSetF, ↓e_sRet, ↓e_sEx, ↓e_sNext, ↓e_sBk, ↓e_sCt, ↓e_sIf, ↓e_sq, ↓e_frz, ↓e_tgN, ↓e_tgs0, ↓e_tgs1, ↓e_tgT1, ↓e_tgL1, ↓e_tgT2, ↓e_tgL2, ↓e_tgT3, ↓e_tgL3, ↓e_tgT4, ↓e_tgL4, ↓e_tgT5, ↓e_tgL5, ↓e_tgT6, ↓e_tgL6, ↓e_sAsg, ↓e_par2, ↓e_par3, ↓e_okT, ↓e_okS, ↓e_itL, ↓e_itT, ↓e_itR1, ↓e_itR2, ↓e_for, ↓e_fld, ↓e_sFld, ↓e_sApp, ↓e_sSetAt, ↓e_aNil, ↓e_aV, ↓e_aS, ↓e_call, ↓e_callN, ↓e_callG, ↓e_isC, ↓e_meth, ↓e_prop, ↓e_lenOwn, ↓e_subOwn, ↓e_eqOwn, ↓e_neOwn, ↓e_mk, ↓e_mkK, ↓e_mkKO, ↓e_if1, ↓e_if0, ↓e_hide, ↓e_ok2, ↓e_no2, ↓e_sqN, ↓e_sqR, ↓e_sqB, ↓e_sqC, ↓e_frzO, ↓e_frzI, ↓e_par2O, ↓e_par3O, ↓e_cnO', ↓e_mkO', ↓e_mkI, ↓e_lc', ↓e_while, ↓e_itE, ↓e_itEK, ↓e_itEQ, ↓e_itQ, ↓e_lrg, ↓e_itRd, ↓e_catT, ↓e_srt, ↓e_mkLQ, ↓e_mkTQ, ↓e_methK, ↓e_popAt, ↓e_eqOwnA, ↓e_isCL, ↓e_Go, ↓e_outq, ↓e_retR, ↓e_retN, ↓e_rdqN, ↓e_rdqC, ↓e_rdqB, ↓e_rdqR, ↓reduceIte, Bool.false_eq_true, eq_self, e_nc, e_nc0, e_nc1, Int.reduceEq, and_self, and_true, true_and, e_wi0, e_wi1, e_re0, e_re1, e_li0, e_li1, e_liA, e_liI, e_liR, List.getD_cons_zero, List.getD_cons_succ, e_assoc2, e_m1, e_m2, e_m3, e_m4, e_m7, e_m8, e_m9, e_m10, e_some, e_isAt, e_mvI, e_mvO, e_hasI, e_hasR, e_hasO, e_hasIo, e_rdI, e_rdR, e_rdO, e_rdIo, e_fO, e_add, e_sub, e_mul, e_div, e_mod, e_pow, e_lt, e_le, e_gt, e_ge, e_neg, e_eqI, e_eqStr, e_eqB, e_neI, e_neStr, e_neB, e_isB, e_notB, e_isN0, e_isN1, e_isN2, e_isN3, e_isN4, e_isN5, e_isN6, e_notN6, e_notN0, e_notN1, e_notN2, e_notN3, e_notN4, e_notN5, e_max2, e_min2, e_intI, e_intB, e_lenL, e_lenT, e_blO, e_isO, e_isB', e_isBT, e_ty0, e_ty1, e_ty2, e_ty3, e_ty4, e_ty5, e_map, e_bAt, e_trL, e_trT, e_trI, e_trB, e_trN, e_ifn, e_valF, e_valL, e_valI, e_vals0, e_vals1, e_valsM, e_l0, e_l1, e_l2, e_l3, e_l4, e_l5, e_l6, e_l7, e_l8, e_itsL, e_itsM, e_itsT, e_sz, e_lO, e_ixL, e_ixT, e_ixM, e_at0, e_at1, e_at2, e_at3, qv_lst, qv_tup, qv_int, qv_bl, qv_str, qv_non, qvs_0, qvs_1, qvs_2, qvs_3, qv_lt, qv_tl, e_enO, e_qL, e_qT, e_qM, e_lrgO, e_rdO', e_srtO, e_ints, e_mkcT, e_wv1, e_wv2, e_wv3, e_isX, e_pk1, e_pk2, e_isX0, e_isX1, e_isX2, e_isX3, e_isX4, e_isX5, e_icLi, e_icLl, e_oiO, e_repO, e_st, e_st0, e_st1, e_st2, e_st3, e_svF, e_svL, e_svI, e_okI, e_okR, e_rg1, e_rg2, e_fM, e_fldF, e_fldO, e_sf0, e_sf1, e_sf2, e_sf3, e_sf4, e_sf5, e_sf6, e_sf7, e_isLO, e_isLI, e_apO, e_apI, e_saO, e_saI, e_hrI, e_hrR, e_hrO, e_hrIo, e_bCons, e_bs0, e_bs1, e_bD, e_bR, e_bRs, e_bIs, e_bRi, e_bRr, e_bRo, e_bRio, e_bRoI, e_bRioI, e_allF0, e_allF1, e_bIo, e_bIi, e_ios0, e_iosD, e_iosR, e_iosI, e_pt0, e_pt1, e_ptO, e_ptI, e_cgO, e_cgA, e_apO', e_rds0, e_rdsD, e_rdsI, e_rdsV, e_rdsS, e_ap0, e_ap1, e_ap2, e_ap3, List.contains_cons, List.contains_nil, Nat.reduceBEq, e_cnT, e_hAgT, e_hAgS, e_icV, e_lnO, e_eqO, e_neO, e_mkR, e_mapAg, e_mkB, e_mkM, e_eCons, e_en0, e_enD, e_enR, e_enI, e_oCons, e_os0, e_osD, e_osR, e_osI, e_foO, e_runR, e_runN, List.getElem?_cons_zero, List.getElem?_cons_succ, List.set_cons_zero, List.set_cons_succ, List.cons_append, List.nil_append, List.map_nil, List.append_nil, List.length_cons, List.length_nil, List.length_map, List.any_cons, List.any_nil, decide_true, decide_false, Bool.not_true, Bool.not_false, Bool.false_or, Bool.or_false, Bool.true_or, Bool.or_true, Bool.and_true, Bool.true_and, Bool.and_false, Bool.false_and, beq_self_eq_true, Nat.reduceAdd, Nat.reduceSub, List.reduceReplicate, String.reduceBEq, Nat.reduceMul, Int.reduceAdd, Int.reduceSub, Int.reduceMul, Int.reduceNeg, Int.reduceLT, Int.reduceLE, Int.reducePow, Int.reduceToNat, md_are_integers, run_are_integers h, hin])
theorem md_is_write : f_is_write.md = [.d, .d] := rfl
theorem run_is_write {c t : Int} {ts : List Int} {n k : Nat} (h : ts.length + 1 = 2 * n) (hn : n ≤ 32) (h1 : 1 ≤ k) (h2 : k < 2 * n) (h3 : 0 ≤ t) (h4 : t ≤ c) : f_is_write.run [.v (.ins 0 [.int c, .tup (ts.map .int)]), .v (.tup [.int k, .int t])] = .ok (.f (.bl true)) [] := by
  refine FOk.eq (run_go b_is_write rfl rfl ?_)
  unfold b_is_write
  have a1 : (1 : Int) ≤ (k : Int) := by omega
  have a2 : (k : Int) ≤ 2 * (n : Int) - 1 := by omega
  (simp (disch := first | with_reducible assumption | omega | (simp only [List.length_map, List.length_append, List.length_cons, List.length_nil, List.length_set, List.length_reverse, List.length_replicate] <;> omega) | with_reducible rfl) only [↓e_bind, ↓e_pure, ↓e_fail, ↓e_opt, ↓e_cst, ↓e_vr, ↓e_mv, ↓e_oE, ↓e_hasS, ↓e_rdT, ↓e_rdS, ↓e_bi, ↓e_bo, ↓e_un, ↓e_cb, ↓e_fz, ↓e_tst, ↓e_band, ↓e_bor, ↓e_bnot, ↓e_ttr, ↓e_bnotT, ↓e_tand, ↓e_tor, ↓e_tnot, ↓e_ife, ↓e_tTrue, ↓e_chn, ↓e_isNil, ↓e_isCons, ↓e_eLst, ↓e_eTup, ↓e_idx, ↓e_mkL, ↓e_mkLT, ↓e_mkT, ↓e_mkTT, ↓e_cat, ↓e_oN, ↓e_oI, ↓e_slL, ↓e_slT, ↓e_rep, ↓e_sSet, ↓e_sSetF, ↓e_sRet, ↓e_sEx, ↓e_sNext, ↓e_sBk, ↓e_sCt, ↓e_sIf, ↓e_sq, ↓e_frz, ↓e_tgN, ↓e_tgs0, ↓e_tgs1, ↓e_tgT1, ↓e_tgL1, ↓e_tgT2, ↓e_tgL2, ↓e_tgT3, ↓e_tgL3, ↓e_tgT4, ↓e_tgL4, ↓e_tgT5, ↓e_tgL5, ↓e_tgT6, ↓e_tgL6, ↓e_sAsg, ↓e_par2, ↓e_par3, ↓e_okT, ↓e_okS, ↓e_itL, ↓e_itT, ↓e_itR1, ↓e_itR2, ↓e_for, ↓e_fld, ↓e_sFld, ↓e_sApp, ↓e_sSetAt, ↓e_aNil, ↓e_aV, ↓e_aS, ↓e_call, ↓e_callN, ↓e_callG, ↓e_isC, ↓e_meth, ↓e_prop, ↓e_lenOwn, ↓e_subOwn, ↓e_eqOwn, ↓e_neOwn, ↓e_mk, ↓e_mkK, ↓e_mkKO, ↓e_if1, ↓e_if0, ↓e_hide, ↓e_ok2, ↓e_no2, ↓e_sqN, ↓e_sqR, ↓e_sqB, ↓e_sqC, ↓e_frzO, ↓e_frzI, ↓e_par2O, ↓e_par3O, ↓e_cnO', ↓e_mkO', ↓e_mkI, ↓e_lc', ↓e_while, ↓e_itE, ↓e_itEK, ↓e_itEQ, ↓e_itQ, ↓e_lrg, ↓e_itRd, ↓e_catT, ↓e_srt, ↓e_mkLQ, ↓e_mkTQ, ↓e_methK, ↓e_popAt, ↓e_eqOwnA, ↓e_isCL, ↓e_Go, ↓e_outq, ↓e_retR, ↓e_retN, ↓e_rdqN, ↓e_rdqC, ↓e_rdqB, ↓e_rdqR, ↓reduceIte, Bool.false_eq_true, eq_self, e_nc, e_nc0, e_nc1, Int.reduceEq, and_self, and_true, true_and, e_wi0, e_wi1, e_re0, e_re1, e_li0, e_li1, e_liA, e_liI, e_liR, List.getD_cons_zero, List.getD_cons_succ, e_assoc2, e_m1, e_m2, e_m3, e_m4, e_m7, e_m8, e_m9, e_m10, e_some, e_isAt, e_mvI, e_mvO, e_hasI, e_hasR, e_hasO, e_hasIo, e_rdI, e_rdR, e_rdO, e_rdIo, e_fO, e_add, e_sub, e_mul, e_div, e_mod, e_pow, e_lt, e_le, e_gt, e_ge, e_neg, e_eqI, e_eqStr, e_eqB, e_neI, e_neStr, e_neB, e_isB, e_notB, e_isN0, e_isN1, e_isN2, e_isN3, e_isN4, e_isN5, e_isN6, e_notN6, e_notN0, e_notN1, e_notN2, e_notN3, e_notN4, e_notN5, e_max2, e_min2, e_intI, e_intB, e_lenL, e_lenT, e_blO, e_isO, e_isB', e_isBT, e_ty0, e_ty1, e_ty2, e_ty3, e_ty4, e_ty5, e_map, e_bAt, e_trL, e_trT, e_trI, e_trB, e_trN, e_ifn, e_valF, e_valL, e_valI, e_vals0, e_vals1, e_valsM, e_l0, e_l1, e_l2, e_l3, e_l4, e_l5, e_l6, e_l7, e_l8, e_itsL, e_itsM, e_itsT, e_sz, e_lO, e_ixL, e_ixT, e_ixM, e_at0, e_at1, e_at2, e_at3, qv_lst, qv_tup, qv_int, qv_bl, qv_str, qv_non, qvs_0, qvs_1, qvs_2, qvs_3, qv_lt, qv_tl, e_enO, e_qL, e_qT, e_qM, e_lrgO, e_rdO', e_srtO, e_ints, e_mkcT, e_wv1, e_wv2, e_wv3, e_isX, e_pk1, e_pk2, e_isX0, e_isX1, e_isX2, e_isX3, e_isX4, e_isX5, e_icLi, e_icLl, e_oiO, e_repO, e_st, e_st0, e_st1, e_st2, e_st3, e_svF, e_svL, e_svI, e_okI, e_okR, e_rg1, e_rg2, e_fM, e_fldF, e_fldO, e_sf0, e_sf1, e_sf2, e_sf3, e_sf4, e_sf5, e_sf6, e_sf7, e_isLO, e_isLI, e_apO, e_apI, e_saO, e_saI, e_hrI, e_hrR, e_hrO, e_hrIo, e_bCons, e_bs0, e_bs1, e_bD, e_bR, e_bRs, e_bIs, e_bRi, e_bRr, e_bRo, e_bRio, e_bRoI, e_bRioI, e_allF0, e_allF1, e_bIo, e_bIi, e_ios0, e_iosD, e_iosR, e_iosI, e_pt0, e_pt1, e_ptO, e_ptI, e_cgO, e_cgA, e_apO', e_rds0, e_rdsD, e_rdsI, e_rdsV, e_rdsS, e_ap0, e_ap1, e_ap2, e_ap3, List.contains_cons, List.contains_nil, Nat.reduceBEq, e_cnT, e_hAgT, e_hAgS, e_icV, e_lnO, e_eqO, e_neO, e_mkR, e_mapAg, e_mkB, e_mkM, e_eCons, e_en0, e_enD, e_enR, e_enI, e_oCons, e_os0, e_osD, e_osR, e_osI, e_foO, e_runR, e_runN, List.getElem?_cons_zero, List.getElem?_cons_succ, List.set_cons_zero, List.set_cons_succ, List.cons_append, List.nil_append, List.map_nil, List.append_nil, List.length_cons, List.length_nil, List.length_map, List.any_cons, List.any_nil, decide_true, decide_false, Bool.not_true, Bool.not_false, Bool.false_or, Bool.or_false, Bool.true_or, Bool.or_true, Bool.and_true, Bool.true_and, Bool.and_false, Bool.false_and, beq_self_eq_true, Nat.reduceAdd, Nat.reduceSub, List.reduceReplicate, String.reduceBEq, Nat.reduceMul, Int.reduceAdd, Int.reduceSub, Int.reduceMul, Int.reduceNeg, Int.reduceLT, Int.reduceLE, Int.reducePow, Int.reduceToNat, md_is_integer, run_is_integer, md_Tree_len, run_Tree_len h, a1, a2, h3, h4])
theorem md_Tree_init : f_Tree_init.md = [.io, .d, .r] := rfl
theorem run_Tree_init {xs : List Int} {c : Int} (h1 : 1 ≤ c) (h2 : c ≤ 8) (h : ∀ x ∈ xs, 0 ≤ x ∧ x ≤ c) (hn : xs.length = 3 ∨ xs.length = 7 ∨ xs.length = 15 ∨ xs.length = 31 ∨ xs.length = 63) : f_Tree_init.run [.io (.ins 0 []), .v (.int c), .v (.lst (xs.map .int))] = .ok (.f .non) [.ins 0 [.f (.int c), .f (.tup (xs.map .int))]] := by
  refine FOk.eq (run_go b_Tree_init rfl rfl ?_)
  unfold b_Tree_init
  (simp (disch := first | with_reducible assumption | omega | (simp only [List.length_map, List.length_append, List.length_cons, List.length_nil, List.length_set, List.length_reverse, List.length_replicate] <;> omega) | with_reducible rfl) only [↓e_bind, ↓e_pure, ↓e_fail, ↓e_opt, ↓e_cst, ↓e_vr, ↓e_mv, ↓e_oE, ↓e_hasS, ↓e_rdT, ↓e_rdS, ↓e_bi, ↓e_bo, ↓e_un, ↓e_cb, ↓e_fz, ↓e_tst, ↓e_band, ↓e_bor, ↓e_bnot, ↓e_ttr, ↓e_bnotT, ↓e_tand, ↓e_tor, ↓e_tnot, ↓e_ife, ↓e_tTrue, ↓e_chn, ↓e_isNil, ↓e_isCons, ↓e_eLst, ↓e_eTup, ↓e_idx, ↓e_mkL, ↓e_mkLT, ↓e_mkT, ↓e_mkTT, ↓e_cat, ↓e_oN, ↓e_oI, ↓e_slL, ↓e_slT, ↓e_rep, ↓e_sSet, ↓e_sSetF, ↓e_sRet, ↓e_sEx, ↓e_sNext, ↓e_sBk, ↓e_sCt, ↓e_sIf, ↓e_sq, ↓e_frz, ↓e_tgN, ↓e_tgs0, ↓e_tgs1, ↓e_tgT1, ↓e_tgL1, ↓e_tgT2, ↓e_tgL2, ↓e_tgT3, ↓e_tgL3, ↓e_tgT4, ↓e_tgL4, ↓e_tgT5, ↓e_tgL5, ↓e_tgT6, ↓e_tgL6, ↓e_sAsg, ↓e_par2, ↓e_par3, ↓e_okT, ↓e_okS, ↓e_itL, ↓e_itT, ↓e_itR1, ↓e_itR2, ↓e_for, ↓e_fld, ↓e_sFld, ↓e_sApp, ↓e_sSetAt, ↓e_aNil, ↓e_aV, ↓e_aS, ↓e_call, ↓e_callN, ↓e_callG, ↓e_isC, ↓e_meth, ↓e_prop, ↓e_lenOwn, ↓e_subOwn, ↓e_eqOwn, ↓e_neOwn, ↓e_mk, ↓e_mkK, ↓e_mkKO, ↓e_if1, ↓e_if0, ↓e_hide, ↓e_ok2, ↓e_no2, ↓e_sqN, ↓e_sqR, ↓e_sqB, ↓e_sqC, ↓e_frzO, ↓e_frzI, ↓e_par2O, ↓e_par3O, ↓e_cnO', ↓e_mkO', ↓e_mkI, ↓e_lc', ↓e_while, ↓e_itE, ↓e_itEK, ↓e_itEQ, ↓e_itQ, ↓e_lrg, ↓e_itRd, ↓e_catT, ↓e_srt, ↓e_mkLQ, ↓e_mkTQ, ↓e_methK, ↓e_popAt, ↓e_eqOwnA, ↓e_isCL, ↓e_Go, ↓e_outq, ↓e_retR, ↓e_retN, ↓e_rdqN, ↓e_rdqC, ↓e_rdqB, ↓e_rdqR, ↓reduceIte, Bool.false_eq_true, eq_self, e_nc, e_nc0, e_nc1, Int.reduceEq, and_self, and_true, true_and, e_wi0, e_wi1, e_re0, e_re1, e_li0, e_li1, e_liA, e_liI, e_liR, List.getD_cons_zero, List.getD_cons_succ, e_assoc2, e_m1, e_m2, e_m3, e_m4, e_m7, e_m8, e_m9, e_m10, e_some, e_isAt, e_mvI, e_mvO, e_hasI, e_hasR, e_hasO, e_hasIo, e_rdI, e_rdR, e_rdO, e_rdIo, e_fO, e_add, e_sub, e_mul, e_div, e_mod, e_pow, e_lt, e_le, e_gt, e_ge, e_neg, e_eqI, e_eqStr, e_eqB, e_neI, e_neStr, e_neB, e_isB, e_notB, e_isN0, e_isN1, e_isN2, e_isN3, e_isN4, e_isN5, e_isN6, e_notN6, e_notN0, e_notN1, e_notN2, e_notN3, e_notN4, e_notN5, e_max2, e_min2, e_intI, e_intB, e_lenL, e_lenT, e_blO, e_isO, e_isB', e_isBT, e_ty0, e_ty1, e_ty2, e_ty3, e_ty4, e_ty5, e_map, e_bAt, e_trL, e_trT, e_trI, e_trB, e_trN, e_ifn, e_valF, e_valL, e_valI, e_vals0, e_vals1, e_valsM, e_l0, e_l1, e_l2, e_l3, e_l4, e_l5, e_l6, e_l7, e_l8, e_itsL, e_itsM, e_itsT, e_sz, e_lO, e_ixL, e_ixT, e_ixM, e_at0, e_at1, e_at2, e_at3, qv_lst, qv_tup, qv_int, qv_bl, qv_str, qv_non, qvs_0, qvs_1, qvs_2, qvs_3, qv_lt, qv_tl, e_enO, e_qL, e_qT, e_qM, e_lrgO, e_rdO', e_srtO, e_ints, e_mkcT, e_wv1, e_wv2, e_wv3, e_isX, e_pk1, e_pk2, e_isX0, e_isX1, e_isX2, e_isX3, e_isX4, e_isX5, e_icLi, e_icLl, e_oiO, e_repO, e_st, e_st0, e_st1, e_st2, e_st3, e_svF, e_svL, e_svI, e_okI, e_okR, e_rg1, e_rg2, e_fM, e_fldF, e_fldO, e_sf0, e_sf1, e_sf2, e_sf3, e_sf4, e_sf5, e_sf6, e_sf7, e_isLO, e_isLI, e_apO, e_apI, e_saO, e_saI, e_hrI, e_hrR, e_hrO, e_hrIo, e_bCons, e_bs0, e_bs1, e_bD, e_bR, e_bRs, e_bIs, e_bRi, e_bRr, e_bRo, e_bRio, e_bRoI, e_bRioI, e_allF0, e_allF1, e_bIo, e_bIi, e_ios0, e_iosD, e_iosR, e_iosI, e_pt0, e_pt1, e_ptO, e_ptI, e_cgO, e_cgA, e_apO', e_rds0, e_rdsD, e_rdsI, e_rdsV, e_rdsS, e_ap0, e_ap1, e_ap2, e_ap3, List.contains_cons, List.contains_nil, Nat.reduceBEq, e_cnT, e_hAgT, e_hAgS, e_icV, e_lnO, e_eqO, e_neO, e_mkR, e_mapAg, e_mkB, e_mkM, e_eCons, e_en0, e_enD, e_enR, e_enI, e_oCons, e_os0, e_osD, e_osR, e_osI, e_foO, e_runR, e_runN, List.getElem?_cons_zero, List.getElem?_cons_succ, List.set_cons_zero, List.set_cons_succ, List.cons_append, List.nil_append, List.map_nil, List.append_nil, List.length_cons, List.length_nil, List.length_map, List.any_cons, List.any_nil, decide_true, decide_false, Bool.not_true, Bool.not_false, Bool.false_or, Bool.or_false, Bool.true_or, Bool.or_true, Bool.and_true, Bool.true_and, Bool.and_false, Bool.false_and, beq_self_eq_true, Nat.reduceAdd, Nat.reduceSub, List.reduceReplicate, String.reduceBEq, Nat.reduceMul, Int.reduceAdd, Int.reduceSub, Int.reduceMul, Int.reduceNeg, Int.reduceLT, Int.reduceLE, Int.reducePow, Int.reduceToNat, md_is_integer, run_is_integer, h1, h2, md_are_told, run_are_told h hn])
theorem md_check_row : f_check_row.md = [.d, .r] := rfl
theorem run_check_row {c : Int} {ts : List Int} {n : Nat} {l : List (Nat × Int)} (h : ts.length + 1 = 2 * n) (hn : n ≤ 32) (hk : ∀ p ∈ l, 1 ≤ p.1 ∧ p.1 < 2 * n ∧ 0 ≤ p.2 ∧ p.2 ≤ c) : f_check_row.run [.v (.ins 0 [.int c, .tup (ts.map .int)]), .v (.lst (l.map tv))] = .ok (.f .non) [] := by
  refine FOk.eq (run_go b_check_row rfl rfl ?_)
  unfold b_check_row
  (simp (disch := first | with_reducible assumption | omega | (simp only [List.length_map, List.length_append, List.length_cons, List.length_nil, List.length_set, List.length_reverse, List.length_replicate] <;> omega) | with_reducible rfl) only [↓e_bind, ↓e_pure, ↓e_fail, ↓e_opt, ↓e_cst, ↓e_vr, ↓e_mv, ↓e_oE, ↓e_hasS, ↓e_rdT, ↓e_rdS, ↓e_bi, ↓e_bo, ↓e_un, ↓e_cb, ↓e_fz, ↓e_tst, ↓e_band, ↓e_bor, ↓e_bnot, ↓e_ttr, ↓e_bnotT, ↓e_tand, ↓e_tor, ↓e_tnot, ↓e_ife, ↓e_tTrue, ↓e_chn, ↓e_isNil, ↓e_isCons, ↓e_eLst, ↓e_eTup, ↓e_idx, ↓e_mkL, ↓e_mkLT, ↓e_mkT, ↓e_mkTT, ↓e_cat, ↓e_oN, ↓e_oI, ↓e_slL, ↓e_slT, ↓e_rep, ↓e_sSet, ↓e_sSetF, ↓e_sRet, ↓e_sEx, ↓e_sNext, ↓e_sBk, ↓e_sCt, ↓e_sIf, ↓e_sq, ↓e_frz, ↓e_tgN, ↓e_tgs0, ↓e_tgs1, ↓e_tgT1, ↓e_tgL1, ↓e_tgT2, ↓e_tgL2, ↓e_tgT3, ↓e_tgL3, ↓e_tgT4, ↓e_tgL4, ↓e_tgT5, ↓e_tgL5, ↓e_tgT6, ↓e_tgL6, ↓e_sAsg, ↓e_par2, ↓e_par3, ↓e_okT, ↓e_okS, ↓e_itL, ↓e_itT, ↓e_itR1, ↓e_itR2, ↓e_for, ↓e_fld, ↓e_sFld, ↓e_sApp, ↓e_sSetAt, ↓e_aNil, ↓e_aV, ↓e_aS, ↓e_call, ↓e_callN, ↓e_callG, ↓e_isC, ↓e_meth, ↓e_prop, ↓e_lenOwn, ↓e_subOwn, ↓e_eqOwn, ↓e_neOwn, ↓e_mk, ↓e_mkK, ↓e_mkKO, ↓e_if1, ↓e_if0, ↓e_hide, ↓e_ok2, ↓e_no2, ↓e_sqN, ↓e_sqR, ↓e_sqB, ↓e_sqC, ↓e_frzO, ↓e_frzI, ↓e_par2O, ↓e_par3O, ↓e_cnO', ↓e_mkO', ↓e_mkI, ↓e_lc', ↓e_while, ↓e_itE, ↓e_itEK, ↓e_itEQ, ↓e_itQ, ↓e_lrg, ↓e_itRd, ↓e_catT, ↓e_srt, ↓e_mkLQ, ↓e_mkTQ, ↓e_methK, ↓e_popAt, ↓e_eqOwnA, ↓e_isCL, ↓e_Go, ↓e_outq, ↓e_retR, ↓e_retN, ↓e_rdqN, ↓e_rdqC, ↓e_rdqB, ↓e_rdqR, ↓reduceIte, Bool.false_eq_true, eq_self, e_nc, e_nc0, e_nc1, Int.reduceEq, and_self, and_true, true_and, e_wi0, e_wi1, e_re0, e_re1, e_li0, e_li1, e_liA, e_liI, e_liR, List.getD_cons_zero, List.getD_cons_succ, e_assoc2, e_m1, e_m2, e_m3, e_m4, e_m7, e_m8, e_m9, e_m10, e_some, e_isAt, e_mvI, e_mvO, e_hasI, e_hasR, e_hasO, e_hasIo, e_rdI, e_rdR, e_rdO, e_rdIo, e_fO, e_add, e_sub, e_mul, e_div, e_mod, e_pow, e_lt, e_le, e_gt, e_ge, e_neg, e_eqI, e_eqStr, e_eqB, e_neI, e_neStr, e_neB, e_isB, e_notB, e_isN0, e_isN1, e_isN2, e_isN3, e_isN4, e_isN5, e_isN6, e_notN6, e_notN0, e_notN1, e_notN2, e_notN3, e_notN4, e_notN5, e_max2, e_min2, e_intI, e_intB, e_lenL, e_lenT, e_blO, e_isO, e_isB', e_isBT, e_ty0, e_ty1, e_ty2, e_ty3, e_ty4, e_ty5, e_map, e_bAt, e_trL, e_trT, e_trI, e_trB, e_trN, e_ifn, e_valF, e_valL, e_valI, e_vals0, e_vals1, e_valsM, e_l0, e_l1, e_l2, e_l3, e_l4, e_l5, e_l6, e_l7, e_l8, e_itsL, e_itsM, e_itsT, e_sz, e_lO, e_ixL, e_ixT, e_ixM, e_at0, e_at1, e_at2, e_at3, qv_lst, qv_tup, qv_int, qv_bl, qv_str, qv_non, qvs_0, qvs_1, qvs_2, qvs_3, qv_lt, qv_tl, e_enO, e_qL, e_qT, e_qM, e_lrgO, e_rdO', e_srtO, e_ints, e_mkcT, e_wv1, e_wv2, e_wv3, e_isX, e_pk1, e_pk2, e_isX0, e_isX1, e_isX2, e_isX3, e_isX4, e_isX5, e_icLi, e_icLl, e_oiO, e_repO, e_st, e_st0, e_st1, e_st2, e_st3, e_svF, e_svL, e_svI, e_okI, e_okR, e_rg1, e_rg2, e_fM, e_fldF, e_fldO, e_sf0, e_sf1, e_sf2, e_sf3, e_sf4, e_sf5, e_sf6, e_sf7, e_isLO, e_isLI, e_apO, e_apI, e_saO, e_saI, e_hrI, e_hrR, e_hrO, e_hrIo, e_bCons, e_bs0, e_bs1, e_bD, e_bR, e_bRs, e_bIs, e_bRi, e_bRr, e_bRo, e_bRio, e_bRoI, e_bRioI, e_allF0, e_allF1, e_bIo, e_bIi, e_ios0, e_iosD, e_iosR, e_iosI, e_pt0, e_pt1, e_ptO, e_ptI, e_cgO, e_cgA, e_apO', e_rds0, e_rdsD, e_rdsI, e_rdsV, e_rdsS, e_ap0, e_ap1, e_ap2, e_ap3, List.contains_cons, List.contains_nil, Nat.reduceBEq, e_cnT, e_hAgT, e_hAgS, e_icV, e_lnO, e_eqO, e_neO, e_mkR, e_mapAg, e_mkB, e_mkM, e_eCons, e_en0, e_enD, e_enR, e_enI, e_oCons, e_os0, e_osD, e_osR, e_osI, e_foO, e_runR, e_runN, List.getElem?_cons_zero, List.getElem?_cons_succ, List.set_cons_zero, List.set_cons_succ, List.cons_append, List.nil_append, List.map_nil, List.append_nil, List.length_cons, List.length_nil, List.length_map, List.any_cons, List.any_nil, decide_true, decide_false, Bool.not_true, Bool.not_false, Bool.false_or, Bool.or_false, Bool.true_or, Bool.or_true, Bool.and_true, Bool.true_and, Bool.and_false, Bool.false_and, beq_self_eq_true, Nat.reduceAdd, Nat.reduceSub, List.reduceReplicate, String.reduceBEq, Nat.reduceMul, Int.reduceAdd, Int.reduceSub, Int.reduceMul, Int.reduceNeg, Int.reduceLT, Int.reduceLE, Int.reducePow, Int.reduceToNat, md_check_tree, run_check_tree])
  refine go_forE (fun i e => ∃ (s1 : SV), e = [.is (.ins 0 [.int c, .tup (ts.map .int)]), .rd (.lst (l.map tv)), s1] ∧ s1.free = true)
    ⟨.any, rfl, rfl⟩ (fun i x e hx hp => ?_) (fun e hp => ?_)
  · obtain ⟨s1, rfl, h1⟩ := hp
    obtain ⟨p, hk', rfl⟩ := map_get hx
    have hk2 := hk p (at_of hk')
    (simp (disch := first | with_reducible assumption | omega | (simp only [List.length_map, List.length_append, List.length_cons, List.length_nil, List.length_set, List.length_reverse, List.length_replicate] <;> omega) | with_reducible rfl) only [↓e_bind, ↓e_pure, ↓e_fail, ↓e_opt, ↓e_cst, ↓e_vr, ↓e_mv, ↓e_oE, ↓e_hasS, ↓e_rdT, ↓e_rdS, ↓e_bi, ↓e_bo, ↓e_un, ↓e_cb, ↓e_fz, ↓e_tst, ↓e_band, ↓e_bor, ↓e_bnot, ↓e_ttr, ↓e_bnotT, ↓e_tand, ↓e_tor, ↓e_tnot, ↓e_ife, ↓e_tTrue, ↓e_chn, ↓e_isNil, ↓e_isCons, ↓e_eLst, ↓e_eTup, ↓e_idx, ↓e_mkL, ↓e_mkLT, ↓e_mkT, ↓e_mkTT, ↓e_cat, ↓e_oN, ↓e_oI, ↓e_slL, ↓e_slT, ↓e_rep, ↓e_sSet, ↓e_sSetF, ↓e_sRet, ↓e_sEx, ↓e_sNext, ↓e_sBk, ↓e_sCt, ↓e_sIf, ↓e_sq, ↓e_frz, ↓e_tgN, ↓e_tgs0, ↓e_tgs1, ↓e_tgT1, ↓e_tgL1, ↓e_tgT2, ↓e_tgL2, ↓e_tgT3, ↓e_tgL3, ↓e_tgT4, ↓e_tgL4, ↓e_tgT5, ↓e_tgL5, ↓e_tgT6, ↓e_tgL6, ↓e_sAsg, ↓e_par2, ↓e_par3, ↓e_okT, ↓e_okS, ↓e_itL, ↓e_itT, ↓e_itR1, ↓e_itR2, ↓e_for, ↓e_fld, ↓e_sFld, ↓e_sApp, ↓e_sSetAt, ↓e_aNil, ↓e_aV, ↓e_aS, ↓e_call, ↓e_callN, ↓e_callG, ↓e_isC, ↓e_meth, ↓e_prop, ↓e_lenOwn, ↓e_subOwn, ↓e_eqOwn, ↓e_neOwn, ↓e_mk, ↓e_mkK, ↓e_mkKO, ↓e_if1, ↓e_if0, ↓e_hide, ↓e_ok2, ↓e_no2, ↓e_sqN, ↓e_sqR, ↓e_sqB, ↓e_sqC, ↓e_frzO, ↓e_frzI, ↓e_par2O, ↓e_par3O, ↓e_cnO', ↓e_mkO', ↓e_mkI, ↓e_lc', ↓e_while, ↓e_itE, ↓e_itEK, ↓e_itEQ, ↓e_itQ, ↓e_lrg, ↓e_itRd, ↓e_catT, ↓e_srt, ↓e_mkLQ, ↓e_mkTQ, ↓e_methK, ↓e_popAt, ↓e_eqOwnA, ↓e_isCL, ↓e_Go, ↓e_outq, ↓e_retR, ↓e_retN, ↓e_rdqN, ↓e_rdqC, ↓e_rdqB, ↓e_rdqR, ↓reduceIte, Bool.false_eq_true, eq_self, e_nc, e_nc0, e_nc1, Int.reduceEq, and_self, and_true, true_and, e_wi0, e_wi1, e_re0, e_re1, e_li0, e_li1, e_liA, e_liI, e_liR, List.getD_cons_zero, List.getD_cons_succ, e_assoc2, e_m1, e_m2, e_m3, e_m4, e_m7, e_m8, e_m9, e_m10, e_some, e_isAt, e_mvI, e_mvO, e_hasI, e_hasR, e_hasO, e_hasIo, e_rdI, e_rdR, e_rdO, e_rdIo, e_fO, e_add, e_sub, e_mul, e_div, e_mod, e_pow, e_lt, e_le, e_gt, e_ge, e_neg, e_eqI, e_eqStr, e_eqB, e_neI, e_neStr, e_neB, e_isB, e_notB, e_isN0, e_isN1, e_isN2, e_isN3, e_isN4, e_isN5, e_isN6, e_notN6, e_notN0, e_notN1, e_notN2, e_notN3, e_notN4, e_notN5, e_max2, e_min2, e_intI, e_intB, e_lenL, e_lenT, e_blO, e_isO, e_isB', e_isBT, e_ty0, e_ty1, e_ty2, e_ty3, e_ty4, e_ty5, e_map, e_bAt, e_trL, e_trT, e_trI, e_trB, e_trN, e_ifn, e_valF, e_valL, e_valI, e_vals0, e_vals1, e_valsM, e_l0, e_l1, e_l2, e_l3, e_l4, e_l5, e_l6, e_l7, e_l8, e_itsL, e_itsM, e_itsT, e_sz, e_lO, e_ixL, e_ixT, e_ixM, e_at0, e_at1, e_at2, e_at3, qv_lst, qv_tup, qv_int, qv_bl, qv_str, qv_non, qvs_0, qvs_1, qvs_2, qvs_3, qv_lt, qv_tl, e_enO, e_qL, e_qT, e_qM, e_lrgO, e_rdO', e_srtO, e_ints, e_mkcT, e_wv1, e_wv2, e_wv3, e_isX, e_pk1, e_pk2, e_isX0, e_isX1, e_isX2, e_isX3, e_isX4, e_isX5, e_icLi, e_icLl, e_oiO, e_repO, e_st, e_st0, e_st1, e_st2, e_st3, e_svF, e_svL, e_svI, e_okI, e_okR, e_rg1, e_rg2, e_fM, e_fldF, e_fldO, e_sf0, e_sf1, e_sf2, e_sf3, e_sf4, e_sf5, e_sf6, e_sf7, e_isLO, e_isLI, e_apO, e_apI, e_saO, e_saI, e_hrI, e_hrR, e_hrO, e_hrIo, e_bCons, e_bs0, e_bs1, e_bD, e_bR, e_bRs, e_bIs, e_bRi, e_bRr, e_bRo, e_bRio, e_bRoI, e_bRioI, e_allF0, e_allF1, e_bIo, e_bIi, e_ios0, e_iosD, e_iosR, e_iosI, e_pt0, e_pt1, e_ptO, e_ptI, e_cgO, e_cgA, e_apO', e_rds0, e_rdsD, e_rdsI, e_rdsV, e_rdsS, e_ap0, e_ap1, e_ap2, e_ap3, List.contains_cons, List.contains_nil, Nat.reduceBEq, e_cnT, e_hAgT, e_hAgS, e_icV, e_lnO, e_eqO, e_neO, e_mkR, e_mapAg, e_mkB, e_mkM, e_eCons, e_en0, e_enD, e_enR, e_enI, e_oCons, e_os0, e_osD, e_osR, e_osI, e_foO, e_runR, e_runN, List.getElem?_cons_zero, List.getElem?_cons_succ, List.set_cons_zero, List.set_cons_succ, List.cons_append, List.nil_append, List.map_nil, List.append_nil, List.length_cons, List.length_nil, List.length_map, List.any_cons, List.any_nil, decide_true, decide_false, Bool.not_true, Bool.not_false, Bool.false_or, Bool.or_false, Bool.true_or, Bool.or_true, Bool.and_true, Bool.true_and, Bool.and_false, Bool.false_and, beq_self_eq_true, Nat.reduceAdd, Nat.reduceSub, List.reduceReplicate, String.reduceBEq, Nat.reduceMul, Int.reduceAdd, Int.reduceSub, Int.reduceMul, Int.reduceNeg, Int.reduceLT, Int.reduceLE, Int.reducePow, Int.reduceToNat, md_is_write, tv, run_is_write h hn hk2.1 hk2.2.1 hk2.2.2.1 hk2.2.2.2])
    exact ⟨_, rfl, rfl⟩
  · obtain ⟨s1, rfl, h1⟩ := hp
    (simp (disch := first | with_reducible assumption | omega | (simp only [List.length_map, List.length_append, List.length_cons, List.length_nil, List.length_set, List.length_reverse, List.length_replicate] <;> omega) | with_reducible rfl) only [↓e_bind, ↓e_pure, ↓e_fail, ↓e_opt, ↓e_cst, ↓e_vr, ↓e_mv, ↓e_oE, ↓e_hasS, ↓e_rdT, ↓e_rdS, ↓e_bi, ↓e_bo, ↓e_un, ↓e_cb, ↓e_fz, ↓e_tst, ↓e_band, ↓e_bor, ↓e_bnot, ↓e_ttr, ↓e_bnotT, ↓e_tand, ↓e_tor, ↓e_tnot, ↓e_ife, ↓e_tTrue, ↓e_chn, ↓e_isNil, ↓e_isCons, ↓e_eLst, ↓e_eTup, ↓e_idx, ↓e_mkL, ↓e_mkLT, ↓e_mkT, ↓e_mkTT, ↓e_cat, ↓e_oN, ↓e_oI, ↓e_slL, ↓e_slT, ↓e_rep, ↓e_sSet, ↓e_sSetF, ↓e_sRet, ↓e_sEx, ↓e_sNext, ↓e_sBk, ↓e_sCt, ↓e_sIf, ↓e_sq, ↓e_frz, ↓e_tgN, ↓e_tgs0, ↓e_tgs1, ↓e_tgT1, ↓e_tgL1, ↓e_tgT2, ↓e_tgL2, ↓e_tgT3, ↓e_tgL3, ↓e_tgT4, ↓e_tgL4, ↓e_tgT5, ↓e_tgL5, ↓e_tgT6, ↓e_tgL6, ↓e_sAsg, ↓e_par2, ↓e_par3, ↓e_okT, ↓e_okS, ↓e_itL, ↓e_itT, ↓e_itR1, ↓e_itR2, ↓e_for, ↓e_fld, ↓e_sFld, ↓e_sApp, ↓e_sSetAt, ↓e_aNil, ↓e_aV, ↓e_aS, ↓e_call, ↓e_callN, ↓e_callG, ↓e_isC, ↓e_meth, ↓e_prop, ↓e_lenOwn, ↓e_subOwn, ↓e_eqOwn, ↓e_neOwn, ↓e_mk, ↓e_mkK, ↓e_mkKO, ↓e_if1, ↓e_if0, ↓e_hide, ↓e_ok2, ↓e_no2, ↓e_sqN, ↓e_sqR, ↓e_sqB, ↓e_sqC, ↓e_frzO, ↓e_frzI, ↓e_par2O, ↓e_par3O, ↓e_cnO', ↓e_mkO', ↓e_mkI, ↓e_lc', ↓e_while, ↓e_itE, ↓e_itEK, ↓e_itEQ, ↓e_itQ, ↓e_lrg, ↓e_itRd, ↓e_catT, ↓e_srt, ↓e_mkLQ, ↓e_mkTQ, ↓e_methK, ↓e_popAt, ↓e_eqOwnA, ↓e_isCL, ↓e_Go, ↓e_outq, ↓e_retR, ↓e_retN, ↓e_rdqN, ↓e_rdqC, ↓e_rdqB, ↓e_rdqR, ↓reduceIte, Bool.false_eq_true, eq_self, e_nc, e_nc0, e_nc1, Int.reduceEq, and_self, and_true, true_and, e_wi0, e_wi1, e_re0, e_re1, e_li0, e_li1, e_liA, e_liI, e_liR, List.getD_cons_zero, List.getD_cons_succ, e_assoc2, e_m1, e_m2, e_m3, e_m4, e_m7, e_m8, e_m9, e_m10, e_some, e_isAt, e_mvI, e_mvO, e_hasI, e_hasR, e_hasO, e_hasIo, e_rdI, e_rdR, e_rdO, e_rdIo, e_fO, e_add, e_sub, e_mul, e_div, e_mod, e_pow, e_lt, e_le, e_gt, e_ge, e_neg, e_eqI, e_eqStr, e_eqB, e_neI, e_neStr, e_neB, e_isB, e_notB, e_isN0, e_isN1, e_isN2, e_isN3, e_isN4, e_isN5, e_isN6, e_notN6, e_notN0, e_notN1, e_notN2, e_notN3, e_notN4, e_notN5, e_max2, e_min2, e_intI, e_intB, e_lenL, e_lenT, e_blO, e_isO, e_isB', e_isBT, e_ty0, e_ty1, e_ty2, e_ty3, e_ty4, e_ty5, e_map, e_bAt, e_trL, e_trT, e_trI, e_trB, e_trN, e_ifn, e_valF, e_valL, e_valI, e_vals0, e_vals1, e_valsM, e_l0, e_l1, e_l2, e_l3, e_l4, e_l5, e_l6, e_l7, e_l8, e_itsL, e_itsM, e_itsT, e_sz, e_lO, e_ixL, e_ixT, e_ixM, e_at0, e_at1, e_at2, e_at3, qv_lst, qv_tup, qv_int, qv_bl, qv_str, qv_non, qvs_0, qvs_1, qvs_2, qvs_3, qv_lt, qv_tl, e_enO, e_qL, e_qT, e_qM, e_lrgO, e_rdO', e_srtO, e_ints, e_mkcT, e_wv1, e_wv2, e_wv3, e_isX, e_pk1, e_pk2, e_isX0, e_isX1, e_isX2, e_isX3, e_isX4, e_isX5, e_icLi, e_icLl, e_oiO, e_repO, e_st, e_st0, e_st1, e_st2, e_st3, e_svF, e_svL, e_svI, e_okI, e_okR, e_rg1, e_rg2, e_fM, e_fldF, e_fldO, e_sf0, e_sf1, e_sf2, e_sf3, e_sf4, e_sf5, e_sf6, e_sf7, e_isLO, e_isLI, e_apO, e_apI, e_saO, e_saI, e_hrI, e_hrR, e_hrO, e_hrIo, e_bCons, e_bs0, e_bs1, e_bD, e_bR, e_bRs, e_bIs, e_bRi, e_bRr, e_bRo, e_bRio, e_bRoI, e_bRioI, e_allF0, e_allF1, e_bIo, e_bIi, e_ios0, e_iosD, e_iosR, e_iosI, e_pt0, e_pt1, e_ptO, e_ptI, e_cgO, e_cgA, e_apO', e_rds0, e_rdsD, e_rdsI, e_rdsV, e_rdsS, e_ap0, e_ap1, e_ap2, e_ap3, List.contains_cons, List.contains_nil, Nat.reduceBEq, e_cnT, e_hAgT, e_hAgS, e_icV, e_lnO, e_eqO, e_neO, e_mkR, e_mapAg, e_mkB, e_mkM, e_eCons, e_en0, e_enD, e_enR, e_enI, e_oCons, e_os0, e_osD, e_osR, e_osI, e_foO, e_runR, e_runN, List.getElem?_cons_zero, List.getElem?_cons_succ, List.set_cons_zero, List.set_cons_succ, List.cons_append, List.nil_append, List.map_nil, List.append_nil, List.length_cons, List.length_nil, List.length_map, List.any_cons, List.any_nil, decide_true, decide_false, Bool.not_true, Bool.not_false, Bool.false_or, Bool.or_false, Bool.true_or, Bool.or_true, Bool.and_true, Bool.true_and, Bool.and_false, Bool.false_and, beq_self_eq_true, Nat.reduceAdd, Nat.reduceSub, List.reduceReplicate, String.reduceBEq, Nat.reduceMul, Int.reduceAdd, Int.reduceSub, Int.reduceMul, Int.reduceNeg, Int.reduceLT, Int.reduceLE, Int.reducePow, Int.reduceToNat])
theorem md_Disk_with_flush : f_Disk_with_flush.md = [.d] := rfl
theorem run_Disk_with_flush {xs : List Val} {y z : Val} : f_Disk_with_flush.run [.v (.ins 3 [.ins 0 xs, y, z])] = .ok (.ins 3 [.f (.ins 0 xs), .f (.ins 0 xs), .f (.tup [])]) [] := by
  refine FOk.eq (run_go b_Disk_with_flush rfl rfl ?_)
  unfold b_Disk_with_flush
  (simp (disch := first | with_reducible assumption | omega | (simp only [List.length_map, List.length_append, List.length_cons, List.length_nil, List.length_set, List.length_reverse, List.length_replicate] <;> omega) | with_reducible rfl) only [↓e_bind, ↓e_pure, ↓e_fail, ↓e_opt, ↓e_cst, ↓e_vr, ↓e_mv, ↓e_oE, ↓e_hasS, ↓e_rdT, ↓e_rdS, ↓e_bi, ↓e_bo, ↓e_un, ↓e_cb, ↓e_fz, ↓e_tst, ↓e_band, ↓e_bor, ↓e_bnot, ↓e_ttr, ↓e_bnotT, ↓e_tand, ↓e_tor, ↓e_tnot, ↓e_ife, ↓e_tTrue, ↓e_chn, ↓e_isNil, ↓e_isCons, ↓e_eLst, ↓e_eTup, ↓e_idx, ↓e_mkL, ↓e_mkLT, ↓e_mkT, ↓e_mkTT, ↓e_cat, ↓e_oN, ↓e_oI, ↓e_slL, ↓e_slT, ↓e_rep, ↓e_sSet, ↓e_sSetF, ↓e_sRet, ↓e_sEx, ↓e_sNext, ↓e_sBk, ↓e_sCt, ↓e_sIf, ↓e_sq, ↓e_frz, ↓e_tgN, ↓e_tgs0, ↓e_tgs1, ↓e_tgT1, ↓e_tgL1, ↓e_tgT2, ↓e_tgL2, ↓e_tgT3, ↓e_tgL3, ↓e_tgT4, ↓e_tgL4, ↓e_tgT5, ↓e_tgL5, ↓e_tgT6, ↓e_tgL6, ↓e_sAsg, ↓e_par2, ↓e_par3, ↓e_okT, ↓e_okS, ↓e_itL, ↓e_itT, ↓e_itR1, ↓e_itR2, ↓e_for, ↓e_fld, ↓e_sFld, ↓e_sApp, ↓e_sSetAt, ↓e_aNil, ↓e_aV, ↓e_aS, ↓e_call, ↓e_callN, ↓e_callG, ↓e_isC, ↓e_meth, ↓e_prop, ↓e_lenOwn, ↓e_subOwn, ↓e_eqOwn, ↓e_neOwn, ↓e_mk, ↓e_mkK, ↓e_mkKO, ↓e_if1, ↓e_if0, ↓e_hide, ↓e_ok2, ↓e_no2, ↓e_sqN, ↓e_sqR, ↓e_sqB, ↓e_sqC, ↓e_frzO, ↓e_frzI, ↓e_par2O, ↓e_par3O, ↓e_cnO', ↓e_mkO', ↓e_mkI, ↓e_lc', ↓e_while, ↓e_itE, ↓e_itEK, ↓e_itEQ, ↓e_itQ, ↓e_lrg, ↓e_itRd, ↓e_catT, ↓e_srt, ↓e_mkLQ, ↓e_mkTQ, ↓e_methK, ↓e_popAt, ↓e_eqOwnA, ↓e_isCL, ↓e_Go, ↓e_outq, ↓e_retR, ↓e_retN, ↓e_rdqN, ↓e_rdqC, ↓e_rdqB, ↓e_rdqR, ↓reduceIte, Bool.false_eq_true, eq_self, e_nc, e_nc0, e_nc1, Int.reduceEq, and_self, and_true, true_and, e_wi0, e_wi1, e_re0, e_re1, e_li0, e_li1, e_liA, e_liI, e_liR, List.getD_cons_zero, List.getD_cons_succ, e_assoc2, e_m1, e_m2, e_m3, e_m4, e_m7, e_m8, e_m9, e_m10, e_some, e_isAt, e_mvI, e_mvO, e_hasI, e_hasR, e_hasO, e_hasIo, e_rdI, e_rdR, e_rdO, e_rdIo, e_fO, e_add, e_sub, e_mul, e_div, e_mod, e_pow, e_lt, e_le, e_gt, e_ge, e_neg, e_eqI, e_eqStr, e_eqB, e_neI, e_neStr, e_neB, e_isB, e_notB, e_isN0, e_isN1, e_isN2, e_isN3, e_isN4, e_isN5, e_isN6, e_notN6, e_notN0, e_notN1, e_notN2, e_notN3, e_notN4, e_notN5, e_max2, e_min2, e_intI, e_intB, e_lenL, e_lenT, e_blO, e_isO, e_isB', e_isBT, e_ty0, e_ty1, e_ty2, e_ty3, e_ty4, e_ty5, e_map, e_bAt, e_trL, e_trT, e_trI, e_trB, e_trN, e_ifn, e_valF, e_valL, e_valI, e_vals0, e_vals1, e_valsM, e_l0, e_l1, e_l2, e_l3, e_l4, e_l5, e_l6, e_l7, e_l8, e_itsL, e_itsM, e_itsT, e_sz, e_lO, e_ixL, e_ixT, e_ixM, e_at0, e_at1, e_at2, e_at3, qv_lst, qv_tup, qv_int, qv_bl, qv_str, qv_non, qvs_0, qvs_1, qvs_2, qvs_3, qv_lt, qv_tl, e_enO, e_qL, e_qT, e_qM, e_lrgO, e_rdO', e_srtO, e_ints, e_mkcT, e_wv1, e_wv2, e_wv3, e_isX, e_pk1, e_pk2, e_isX0, e_isX1, e_isX2, e_isX3, e_isX4, e_isX5, e_icLi, e_icLl, e_oiO, e_repO, e_st, e_st0, e_st1, e_st2, e_st3, e_svF, e_svL, e_svI, e_okI, e_okR, e_rg1, e_rg2, e_fM, e_fldF, e_fldO, e_sf0, e_sf1, e_sf2, e_sf3, e_sf4, e_sf5, e_sf6, e_sf7, e_isLO, e_isLI, e_apO, e_apI, e_saO, e_saI, e_hrI, e_hrR, e_hrO, e_hrIo, e_bCons, e_bs0, e_bs1, e_bD, e_bR, e_bRs, e_bIs, e_bRi, e_bRr, e_bRo, e_bRio, e_bRoI, e_bRioI, e_allF0, e_allF1, e_bIo, e_bIi, e_ios0, e_iosD, e_iosR, e_iosI, e_pt0, e_pt1, e_ptO, e_ptI, e_cgO, e_cgA, e_apO', e_rds0, e_rdsD, e_rdsI, e_rdsV, e_rdsS, e_ap0, e_ap1, e_ap2, e_ap3, List.contains_cons, List.contains_nil, Nat.reduceBEq, e_cnT, e_hAgT, e_hAgS, e_icV, e_lnO, e_eqO, e_neO, e_mkR, e_mapAg, e_mkB, e_mkM, e_eCons, e_en0, e_enD, e_enR, e_enI, e_oCons, e_os0, e_osD, e_osR, e_osI, e_foO, e_runR, e_runN, List.getElem?_cons_zero, List.getElem?_cons_succ, List.set_cons_zero, List.set_cons_succ, List.cons_append, List.nil_append, List.map_nil, List.append_nil, List.length_cons, List.length_nil, List.length_map, List.any_cons, List.any_nil, decide_true, decide_false, Bool.not_true, Bool.not_false, Bool.false_or, Bool.or_false, Bool.true_or, Bool.or_true, Bool.and_true, Bool.true_and, Bool.and_false, Bool.false_and, beq_self_eq_true, Nat.reduceAdd, Nat.reduceSub, List.reduceReplicate, String.reduceBEq, Nat.reduceMul, Int.reduceAdd, Int.reduceSub, Int.reduceMul, Int.reduceNeg, Int.reduceLT, Int.reduceLE, Int.reducePow, Int.reduceToNat, md_Disk_init, run_Disk_init])
theorem md_written : f_written.md = [.d, .r] := rfl
theorem run_written {c : Int} {ts : List Int} {n : Nat} {l : List (Nat × Int)} (h : ts.length + 1 = 2 * n) (hn : n = 2 ∨ n = 4 ∨ n = 8 ∨ n = 16 ∨ n = 32) (c1 : 1 ≤ c) (c2 : c ≤ 8) (hr : ∀ z ∈ ts, 0 ≤ z ∧ z ≤ c) (hk : ∀ p ∈ l, 1 ≤ p.1 ∧ p.1 < 2 * n ∧ 0 ≤ p.2 ∧ p.2 ≤ c) :
    f_written.run [.v (.ins 0 [.int c, .tup (ts.map .int)]), .v (.lst (l.map tv))] = .ok (.ins 0 [.f (.int c), .f (.tup ((pR ts l).map .int))]) [] := by
  refine FOk.eq (run_go b_written rfl rfl ?_)
  unfold b_written
  (simp (disch := first | with_reducible assumption | omega | (simp only [List.length_map, List.length_append, List.length_cons, List.length_nil, List.length_set, List.length_reverse, List.length_replicate] <;> omega) | with_reducible rfl) only [↓e_bind, ↓e_pure, ↓e_fail, ↓e_opt, ↓e_cst, ↓e_vr, ↓e_mv, ↓e_oE, ↓e_hasS, ↓e_rdT, ↓e_rdS, ↓e_bi, ↓e_bo, ↓e_un, ↓e_cb, ↓e_fz, ↓e_tst, ↓e_band, ↓e_bor, ↓e_bnot, ↓e_ttr, ↓e_bnotT, ↓e_tand, ↓e_tor, ↓e_tnot, ↓e_ife, ↓e_tTrue, ↓e_chn, ↓e_isNil, ↓e_isCons, ↓e_eLst, ↓e_eTup, ↓e_idx, ↓e_mkL, ↓e_mkLT, ↓e_mkT, ↓e_mkTT, ↓e_cat, ↓e_oN, ↓e_oI, ↓e_slL, ↓e_slT, ↓e_rep, ↓e_sSet, ↓e_sSetF, ↓e_sRet, ↓e_sEx, ↓e_sNext, ↓e_sBk, ↓e_sCt, ↓e_sIf, ↓e_sq, ↓e_frz, ↓e_tgN, ↓e_tgs0, ↓e_tgs1, ↓e_tgT1, ↓e_tgL1, ↓e_tgT2, ↓e_tgL2, ↓e_tgT3, ↓e_tgL3, ↓e_tgT4, ↓e_tgL4, ↓e_tgT5, ↓e_tgL5, ↓e_tgT6, ↓e_tgL6, ↓e_sAsg, ↓e_par2, ↓e_par3, ↓e_okT, ↓e_okS, ↓e_itL, ↓e_itT, ↓e_itR1, ↓e_itR2, ↓e_for, ↓e_fld, ↓e_sFld, ↓e_sApp, ↓e_sSetAt, ↓e_aNil, ↓e_aV, ↓e_aS, ↓e_call, ↓e_callN, ↓e_callG, ↓e_isC, ↓e_meth, ↓e_prop, ↓e_lenOwn, ↓e_subOwn, ↓e_eqOwn, ↓e_neOwn, ↓e_mk, ↓e_mkK, ↓e_mkKO, ↓e_if1, ↓e_if0, ↓e_hide, ↓e_ok2, ↓e_no2, ↓e_sqN, ↓e_sqR, ↓e_sqB, ↓e_sqC, ↓e_frzO, ↓e_frzI, ↓e_par2O, ↓e_par3O, ↓e_cnO', ↓e_mkO', ↓e_mkI, ↓e_lc', ↓e_while, ↓e_itE, ↓e_itEK, ↓e_itEQ, ↓e_itQ, ↓e_lrg, ↓e_itRd, ↓e_catT, ↓e_srt, ↓e_mkLQ, ↓e_mkTQ, ↓e_methK, ↓e_popAt, ↓e_eqOwnA, ↓e_isCL, ↓e_Go, ↓e_outq, ↓e_retR, ↓e_retN, ↓e_rdqN, ↓e_rdqC, ↓e_rdqB, ↓e_rdqR, ↓reduceIte, Bool.false_eq_true, eq_self, e_nc, e_nc0, e_nc1, Int.reduceEq, and_self, and_true, true_and, e_wi0, e_wi1, e_re0, e_re1, e_li0, e_li1, e_liA, e_liI, e_liR, List.getD_cons_zero, List.getD_cons_succ, e_assoc2, e_m1, e_m2, e_m3, e_m4, e_m7, e_m8, e_m9, e_m10, e_some, e_isAt, e_mvI, e_mvO, e_hasI, e_hasR, e_hasO, e_hasIo, e_rdI, e_rdR, e_rdO, e_rdIo, e_fO, e_add, e_sub, e_mul, e_div, e_mod, e_pow, e_lt, e_le, e_gt, e_ge, e_neg, e_eqI, e_eqStr, e_eqB, e_neI, e_neStr, e_neB, e_isB, e_notB, e_isN0, e_isN1, e_isN2, e_isN3, e_isN4, e_isN5, e_isN6, e_notN6, e_notN0, e_notN1, e_notN2, e_notN3, e_notN4, e_notN5, e_max2, e_min2, e_intI, e_intB, e_lenL, e_lenT, e_blO, e_isO, e_isB', e_isBT, e_ty0, e_ty1, e_ty2, e_ty3, e_ty4, e_ty5, e_map, e_bAt, e_trL, e_trT, e_trI, e_trB, e_trN, e_ifn, e_valF, e_valL, e_valI, e_vals0, e_vals1, e_valsM, e_l0, e_l1, e_l2, e_l3, e_l4, e_l5, e_l6, e_l7, e_l8, e_itsL, e_itsM, e_itsT, e_sz, e_lO, e_ixL, e_ixT, e_ixM, e_at0, e_at1, e_at2, e_at3, qv_lst, qv_tup, qv_int, qv_bl, qv_str, qv_non, qvs_0, qvs_1, qvs_2, qvs_3, qv_lt, qv_tl, e_enO, e_qL, e_qT, e_qM, e_lrgO, e_rdO', e_srtO, e_ints, e_mkcT, e_wv1, e_wv2, e_wv3, e_isX, e_pk1, e_pk2, e_isX0, e_isX1, e_isX2, e_isX3, e_isX4, e_isX5, e_icLi, e_icLl, e_oiO, e_repO, e_st, e_st0, e_st1, e_st2, e_st3, e_svF, e_svL, e_svI, e_okI, e_okR, e_rg1, e_rg2, e_fM, e_fldF, e_fldO, e_sf0, e_sf1, e_sf2, e_sf3, e_sf4, e_sf5, e_sf6, e_sf7, e_isLO, e_isLI, e_apO, e_apI, e_saO, e_saI, e_hrI, e_hrR, e_hrO, e_hrIo, e_bCons, e_bs0, e_bs1, e_bD, e_bR, e_bRs, e_bIs, e_bRi, e_bRr, e_bRo, e_bRio, e_bRoI, e_bRioI, e_allF0, e_allF1, e_bIo, e_bIi, e_ios0, e_iosD, e_iosR, e_iosI, e_pt0, e_pt1, e_ptO, e_ptI, e_cgO, e_cgA, e_apO', e_rds0, e_rdsD, e_rdsI, e_rdsV, e_rdsS, e_ap0, e_ap1, e_ap2, e_ap3, List.contains_cons, List.contains_nil, Nat.reduceBEq, e_cnT, e_hAgT, e_hAgS, e_icV, e_lnO, e_eqO, e_neO, e_mkR, e_mapAg, e_mkB, e_mkM, e_eCons, e_en0, e_enD, e_enR, e_enI, e_oCons, e_os0, e_osD, e_osR, e_osI, e_foO, e_runR, e_runN, List.getElem?_cons_zero, List.getElem?_cons_succ, List.set_cons_zero, List.set_cons_succ, List.cons_append, List.nil_append, List.map_nil, List.append_nil, List.length_cons, List.length_nil, List.length_map, List.any_cons, List.any_nil, decide_true, decide_false, Bool.not_true, Bool.not_false, Bool.false_or, Bool.or_false, Bool.true_or, Bool.or_true, Bool.and_true, Bool.true_and, Bool.and_false, Bool.false_and, beq_self_eq_true, Nat.reduceAdd, Nat.reduceSub, List.reduceReplicate, String.reduceBEq, Nat.reduceMul, Int.reduceAdd, Int.reduceSub, Int.reduceMul, Int.reduceNeg, Int.reduceLT, Int.reduceLE, Int.reducePow, Int.reduceToNat, md_check_row, run_check_row h (by omega) hk, md_Tree_told, run_Tree_told])
  refine go_for (fun i e => ∃ (s1 s2 : SV), e = [.is (.ins 0 [.int c, .tup (ts.map .int)]), .rd (.lst (l.map tv)), .own (.lst (((pR ts (l.take i)).map .int).map .f)), s1, s2] ∧ s1.free = true ∧ s2.free = true)
    ⟨.any, .any, rfl, rfl, rfl⟩ (fun i x e hx hp => ?_) (fun e hp => ?_)
  · obtain ⟨s1, s2, rfl, h1, h2⟩ := hp
    obtain ⟨p, hk', rfl⟩ := map_get hx
    have hk2 := hk p (at_of hk')
    unfold tv
    have hb : 0 ≤ (p.1 : Int) - 1 ∧ (p.1 : Int) - 1 < (((pR ts (l.take i)).map Val.int).length : Nat) := by rw [List.length_map, pR_len]; omega
    have e1 : ((p.1 : Int) - 1).toNat = p.1 - 1 := by omega
    (simp (disch := first | with_reducible assumption | omega | (simp only [List.length_map, List.length_append, List.length_cons, List.length_nil, List.length_set, List.length_reverse, List.length_replicate] <;> omega) | with_reducible rfl) only [↓e_bind, ↓e_pure, ↓e_fail, ↓e_opt, ↓e_cst, ↓e_vr, ↓e_mv, ↓e_oE, ↓e_hasS, ↓e_rdT, ↓e_rdS, ↓e_bi, ↓e_bo, ↓e_un, ↓e_cb, ↓e_fz, ↓e_tst, ↓e_band, ↓e_bor, ↓e_bnot, ↓e_ttr, ↓e_bnotT, ↓e_tand, ↓e_tor, ↓e_tnot, ↓e_ife, ↓e_tTrue, ↓e_chn, ↓e_isNil, ↓e_isCons, ↓e_eLst, ↓e_eTup, ↓e_idx, ↓e_mkL, ↓e_mkLT, ↓e_mkT, ↓e_mkTT, ↓e_cat, ↓e_oN, ↓e_oI, ↓e_slL, ↓e_slT, ↓e_rep, ↓e_sSet, ↓e_sSetF, ↓e_sRet, ↓e_sEx, ↓e_sNext, ↓e_sBk, ↓e_sCt, ↓e_sIf, ↓e_sq, ↓e_frz, ↓e_tgN, ↓e_tgs0, ↓e_tgs1, ↓e_tgT1, ↓e_tgL1, ↓e_tgT2, ↓e_tgL2, ↓e_tgT3, ↓e_tgL3, ↓e_tgT4, ↓e_tgL4, ↓e_tgT5, ↓e_tgL5, ↓e_tgT6, ↓e_tgL6, ↓e_sAsg, ↓e_par2, ↓e_par3, ↓e_okT, ↓e_okS, ↓e_itL, ↓e_itT, ↓e_itR1, ↓e_itR2, ↓e_for, ↓e_fld, ↓e_sFld, ↓e_sApp, ↓e_sSetAt, ↓e_aNil, ↓e_aV, ↓e_aS, ↓e_call, ↓e_callN, ↓e_callG, ↓e_isC, ↓e_meth, ↓e_prop, ↓e_lenOwn, ↓e_subOwn, ↓e_eqOwn, ↓e_neOwn, ↓e_mk, ↓e_mkK, ↓e_mkKO, ↓e_if1, ↓e_if0, ↓e_hide, ↓e_ok2, ↓e_no2, ↓e_sqN, ↓e_sqR, ↓e_sqB, ↓e_sqC, ↓e_frzO, ↓e_frzI, ↓e_par2O, ↓e_par3O, ↓e_cnO', ↓e_mkO', ↓e_mkI, ↓e_lc', ↓e_while, ↓e_itE, ↓e_itEK, ↓e_itEQ, ↓e_itQ, ↓e_lrg, ↓e_itRd, ↓e_catT, ↓e_srt, ↓e_mkLQ, ↓e_mkTQ, ↓e_methK, ↓e_popAt, ↓e_eqOwnA, ↓e_isCL, ↓e_Go, ↓e_outq, ↓e_retR, ↓e_retN, ↓e_rdqN, ↓e_rdqC, ↓e_rdqB, ↓e_rdqR, ↓reduceIte, Bool.false_eq_true, eq_self, e_nc, e_nc0, e_nc1, Int.reduceEq, and_self, and_true, true_and, e_wi0, e_wi1, e_re0, e_re1, e_li0, e_li1, e_liA, e_liI, e_liR, List.getD_cons_zero, List.getD_cons_succ, e_assoc2, e_m1, e_m2, e_m3, e_m4, e_m7, e_m8, e_m9, e_m10, e_some, e_isAt, e_mvI, e_mvO, e_hasI, e_hasR, e_hasO, e_hasIo, e_rdI, e_rdR, e_rdO, e_rdIo, e_fO, e_add, e_sub, e_mul, e_div, e_mod, e_pow, e_lt, e_le, e_gt, e_ge, e_neg, e_eqI, e_eqStr, e_eqB, e_neI, e_neStr, e_neB, e_isB, e_notB, e_isN0, e_isN1, e_isN2, e_isN3, e_isN4, e_isN5, e_isN6, e_notN6, e_notN0, e_notN1, e_notN2, e_notN3, e_notN4, e_notN5, e_max2, e_min2, e_intI, e_intB, e_lenL, e_lenT, e_blO, e_isO, e_isB', e_isBT, e_ty0, e_ty1, e_ty2, e_ty3, e_ty4, e_ty5, e_map, e_bAt, e_trL, e_trT, e_trI, e_trB, e_trN, e_ifn, e_valF, e_valL, e_valI, e_vals0, e_vals1, e_valsM, e_l0, e_l1, e_l2, e_l3, e_l4, e_l5, e_l6, e_l7, e_l8, e_itsL, e_itsM, e_itsT, e_sz, e_lO, e_ixL, e_ixT, e_ixM, e_at0, e_at1, e_at2, e_at3, qv_lst, qv_tup, qv_int, qv_bl, qv_str, qv_non, qvs_0, qvs_1, qvs_2, qvs_3, qv_lt, qv_tl, e_enO, e_qL, e_qT, e_qM, e_lrgO, e_rdO', e_srtO, e_ints, e_mkcT, e_wv1, e_wv2, e_wv3, e_isX, e_pk1, e_pk2, e_isX0, e_isX1, e_isX2, e_isX3, e_isX4, e_isX5, e_icLi, e_icLl, e_oiO, e_repO, e_st, e_st0, e_st1, e_st2, e_st3, e_svF, e_svL, e_svI, e_okI, e_okR, e_rg1, e_rg2, e_fM, e_fldF, e_fldO, e_sf0, e_sf1, e_sf2, e_sf3, e_sf4, e_sf5, e_sf6, e_sf7, e_isLO, e_isLI, e_apO, e_apI, e_saO, e_saI, e_hrI, e_hrR, e_hrO, e_hrIo, e_bCons, e_bs0, e_bs1, e_bD, e_bR, e_bRs, e_bIs, e_bRi, e_bRr, e_bRo, e_bRio, e_bRoI, e_bRioI, e_allF0, e_allF1, e_bIo, e_bIi, e_ios0, e_iosD, e_iosR, e_iosI, e_pt0, e_pt1, e_ptO, e_ptI, e_cgO, e_cgA, e_apO', e_rds0, e_rdsD, e_rdsI, e_rdsV, e_rdsS, e_ap0, e_ap1, e_ap2, e_ap3, List.contains_cons, List.contains_nil, Nat.reduceBEq, e_cnT, e_hAgT, e_hAgS, e_icV, e_lnO, e_eqO, e_neO, e_mkR, e_mapAg, e_mkB, e_mkM, e_eCons, e_en0, e_enD, e_enR, e_enI, e_oCons, e_os0, e_osD, e_osR, e_osI, e_foO, e_runR, e_runN, List.getElem?_cons_zero, List.getElem?_cons_succ, List.set_cons_zero, List.set_cons_succ, List.cons_append, List.nil_append, List.map_nil, List.append_nil, List.length_cons, List.length_nil, List.length_map, List.any_cons, List.any_nil, decide_true, decide_false, Bool.not_true, Bool.not_false, Bool.false_or, Bool.or_false, Bool.true_or, Bool.or_true, Bool.and_true, Bool.true_and, Bool.and_false, Bool.false_and, beq_self_eq_true, Nat.reduceAdd, Nat.reduceSub, List.reduceReplicate, String.reduceBEq, Nat.reduceMul, Int.reduceAdd, Int.reduceSub, Int.reduceMul, Int.reduceNeg, Int.reduceLT, Int.reduceLE, Int.reducePow, Int.reduceToNat, e_saO hb, e1, map_set_int, pR_take hk'])
    exact ⟨_, _, rfl, rfl, rfl⟩
  · obtain ⟨s1, s2, rfl, h1, h2⟩ := hp
    have hm : ∀ z ∈ pR ts l, 0 ≤ z ∧ z ≤ c := pR_rng hr fun p hp => (hk p hp).2.2
    have hl := pR_len (l := l) (ts := ts)
    (simp (disch := first | with_reducible assumption | omega | (simp only [List.length_map, List.length_append, List.length_cons, List.length_nil, List.length_set, List.length_reverse, List.length_replicate] <;> omega) | with_reducible rfl) only [↓e_bind, ↓e_pure, ↓e_fail, ↓e_opt, ↓e_cst, ↓e_vr, ↓e_mv, ↓e_oE, ↓e_hasS, ↓e_rdT, ↓e_rdS, ↓e_bi, ↓e_bo, ↓e_un, ↓e_cb, ↓e_fz, ↓e_tst, ↓e_band, ↓e_bor, ↓e_bnot, ↓e_ttr, ↓e_bnotT, ↓e_tand, ↓e_tor, ↓e_tnot, ↓e_ife, ↓e_tTrue, ↓e_chn, ↓e_isNil, ↓e_isCons, ↓e_eLst, ↓e_eTup, ↓e_idx, ↓e_mkL, ↓e_mkLT, ↓e_mkT, ↓e_mkTT, ↓e_cat, ↓e_oN, ↓e_oI, ↓e_slL, ↓e_slT, ↓e_rep, ↓e_sSet, ↓e_sSetF, ↓e_sRet, ↓e_sEx, ↓e_sNext, ↓e_sBk, ↓e_sCt, ↓e_sIf, ↓e_sq, ↓e_frz, ↓e_tgN, ↓e_tgs0, ↓e_tgs1, ↓e_tgT1, ↓e_tgL1, ↓e_tgT2, ↓e_tgL2, ↓e_tgT3, ↓e_tgL3, ↓e_tgT4, ↓e_tgL4, ↓e_tgT5, ↓e_tgL5, ↓e_tgT6, ↓e_tgL6, ↓e_sAsg, ↓e_par2, ↓e_par3, ↓e_okT, ↓e_okS, ↓e_itL, ↓e_itT, ↓e_itR1, ↓e_itR2, ↓e_for, ↓e_fld, ↓e_sFld, ↓e_sApp, ↓e_sSetAt, ↓e_aNil, ↓e_aV, ↓e_aS, ↓e_call, ↓e_callN, ↓e_callG, ↓e_isC, ↓e_meth, ↓e_prop, ↓e_lenOwn, ↓e_subOwn, ↓e_eqOwn, ↓e_neOwn, ↓e_mk, ↓e_mkK, ↓e_mkKO, ↓e_if1, ↓e_if0, ↓e_hide, ↓e_ok2, ↓e_no2, ↓e_sqN, ↓e_sqR, ↓e_sqB, ↓e_sqC, ↓e_frzO, ↓e_frzI, ↓e_par2O, ↓e_par3O, ↓e_cnO', ↓e_mkO', ↓e_mkI, ↓e_lc', ↓e_while, ↓e_itE, ↓e_itEK, ↓e_itEQ, ↓e_itQ, ↓e_lrg, ↓e_itRd, ↓e_catT, ↓e_srt, ↓e_mkLQ, ↓e_mkTQ, ↓e_methK, ↓e_popAt, ↓e_eqOwnA, ↓e_isCL, ↓e_Go, ↓e_outq, ↓e_retR, ↓e_retN, ↓e_rdqN, ↓e_rdqC, ↓e_rdqB, ↓e_rdqR, ↓reduceIte, Bool.false_eq_true, eq_self, e_nc, e_nc0, e_nc1, Int.reduceEq, and_self, and_true, true_and, e_wi0, e_wi1, e_re0, e_re1, e_li0, e_li1, e_liA, e_liI, e_liR, List.getD_cons_zero, List.getD_cons_succ, e_assoc2, e_m1, e_m2, e_m3, e_m4, e_m7, e_m8, e_m9, e_m10, e_some, e_isAt, e_mvI, e_mvO, e_hasI, e_hasR, e_hasO, e_hasIo, e_rdI, e_rdR, e_rdO, e_rdIo, e_fO, e_add, e_sub, e_mul, e_div, e_mod, e_pow, e_lt, e_le, e_gt, e_ge, e_neg, e_eqI, e_eqStr, e_eqB, e_neI, e_neStr, e_neB, e_isB, e_notB, e_isN0, e_isN1, e_isN2, e_isN3, e_isN4, e_isN5, e_isN6, e_notN6, e_notN0, e_notN1, e_notN2, e_notN3, e_notN4, e_notN5, e_max2, e_min2, e_intI, e_intB, e_lenL, e_lenT, e_blO, e_isO, e_isB', e_isBT, e_ty0, e_ty1, e_ty2, e_ty3, e_ty4, e_ty5, e_map, e_bAt, e_trL, e_trT, e_trI, e_trB, e_trN, e_ifn, e_valF, e_valL, e_valI, e_vals0, e_vals1, e_valsM, e_l0, e_l1, e_l2, e_l3, e_l4, e_l5, e_l6, e_l7, e_l8, e_itsL, e_itsM, e_itsT, e_sz, e_lO, e_ixL, e_ixT, e_ixM, e_at0, e_at1, e_at2, e_at3, qv_lst, qv_tup, qv_int, qv_bl, qv_str, qv_non, qvs_0, qvs_1, qvs_2, qvs_3, qv_lt, qv_tl, e_enO, e_qL, e_qT, e_qM, e_lrgO, e_rdO', e_srtO, e_ints, e_mkcT, e_wv1, e_wv2, e_wv3, e_isX, e_pk1, e_pk2, e_isX0, e_isX1, e_isX2, e_isX3, e_isX4, e_isX5, e_icLi, e_icLl, e_oiO, e_repO, e_st, e_st0, e_st1, e_st2, e_st3, e_svF, e_svL, e_svI, e_okI, e_okR, e_rg1, e_rg2, e_fM, e_fldF, e_fldO, e_sf0, e_sf1, e_sf2, e_sf3, e_sf4, e_sf5, e_sf6, e_sf7, e_isLO, e_isLI, e_apO, e_apI, e_saO, e_saI, e_hrI, e_hrR, e_hrO, e_hrIo, e_bCons, e_bs0, e_bs1, e_bD, e_bR, e_bRs, e_bIs, e_bRi, e_bRr, e_bRo, e_bRio, e_bRoI, e_bRioI, e_allF0, e_allF1, e_bIo, e_bIi, e_ios0, e_iosD, e_iosR, e_iosI, e_pt0, e_pt1, e_ptO, e_ptI, e_cgO, e_cgA, e_apO', e_rds0, e_rdsD, e_rdsI, e_rdsV, e_rdsS, e_ap0, e_ap1, e_ap2, e_ap3, List.contains_cons, List.contains_nil, Nat.reduceBEq, e_cnT, e_hAgT, e_hAgS, e_icV, e_lnO, e_eqO, e_neO, e_mkR, e_mapAg, e_mkB, e_mkM, e_eCons, e_en0, e_enD, e_enR, e_enI, e_oCons, e_os0, e_osD, e_osR, e_osI, e_foO, e_runR, e_runN, List.getElem?_cons_zero, List.getElem?_cons_succ, List.set_cons_zero, List.set_cons_succ, List.cons_append, List.nil_append, List.map_nil, List.append_nil, List.length_cons, List.length_nil, List.length_map, List.any_cons, List.any_nil, decide_true, decide_false, Bool.not_true, Bool.not_false, Bool.false_or, Bool.or_false, Bool.true_or, Bool.or_true, Bool.and_true, Bool.true_and, Bool.and_false, Bool.false_and, beq_self_eq_true, Nat.reduceAdd, Nat.reduceSub, List.reduceReplicate, String.reduceBEq, Nat.reduceMul, Int.reduceAdd, Int.reduceSub, Int.reduceMul, Int.reduceNeg, Int.reduceLT, Int.reduceLE, Int.reducePow, Int.reduceToNat, List.take_length, md_Tree_init, run_Tree_init c1 c2 hm (by omega)])
theorem md_law_is_so : f_law_is_so.md = [.d, .d, .d, .d] := rfl
theorem run_law_is_so {c : Int} {us : List Int} {n : Nat} {q : List (Nat × Int)} (h : us.length + 1 = 2 * n) (hn : n = 2 ∨ n = 4 ∨ n = 8 ∨ n = 16 ∨ n = 32) (c1 : 1 ≤ c) (c2 : c ≤ 8) (hr : ∀ z ∈ us, 0 ≤ z ∧ z ≤ c) (hk : ∀ p ∈ q, 1 ≤ p.1 ∧ p.1 < 2 * n ∧ 0 ≤ p.2 ∧ p.2 ≤ c) (hq : q.length ≤ 1000) :
    f_law_is_so.run [.v (.ins 3 [.ins 0 [.int c, .tup ((pR us q).map .int)], .ins 0 [.int c, .tup (us.map .int)], .tup (q.map tv)]), .v (.int c), .v (.lst (us.map .int)), .v (.lst (q.map tv))] = .ok (.f (.bl true)) [] := by
  refine FOk.eq (run_go b_law_is_so rfl rfl ?_)
  unfold b_law_is_so
  have hm : ∀ z ∈ pR us q, 0 ≤ z ∧ z ≤ c := pR_rng hr fun p hp => (hk p hp).2.2
  have hl := pR_len (l := q) (ts := us)
  have o1 := (okd_ts (ts := us) (fun z hz => by have := hr z hz; omega) (by omega)).2
  have o2 := (okd_ts (ts := pR us q) (fun z hz => by have := hm z hz; omega) (by omega)).2
  have o3 := okd_rows (l := q) (fun p hp => by have := hk p hp; omega) hq
  (simp (disch := first | with_reducible assumption | omega | (simp only [List.length_map, List.length_append, List.length_cons, List.length_nil, List.length_set, List.length_reverse, List.length_replicate] <;> omega) | with_reducible rfl) only [↓e_bind, ↓e_pure, ↓e_fail, ↓e_opt, ↓e_cst, ↓e_vr, ↓e_mv, ↓e_oE, ↓e_hasS, ↓e_rdT, ↓e_rdS, ↓e_bi, ↓e_bo, ↓e_un, ↓e_cb, ↓e_fz, ↓e_tst, ↓e_band, ↓e_bor, ↓e_bnot, ↓e_ttr, ↓e_bnotT, ↓e_tand, ↓e_tor, ↓e_tnot, ↓e_ife, ↓e_tTrue, ↓e_chn, ↓e_isNil, ↓e_isCons, ↓e_eLst, ↓e_eTup, ↓e_idx, ↓e_mkL, ↓e_mkLT, ↓e_mkT, ↓e_mkTT, ↓e_cat, ↓e_oN, ↓e_oI, ↓e_slL, ↓e_slT, ↓e_rep, ↓e_sSet, ↓e_sSetF, ↓e_sRet, ↓e_sEx, ↓e_sNext, ↓e_sBk, ↓e_sCt, ↓e_sIf, ↓e_sq, ↓e_frz, ↓e_tgN, ↓e_tgs0, ↓e_tgs1, ↓e_tgT1, ↓e_tgL1, ↓e_tgT2, ↓e_tgL2, ↓e_tgT3, ↓e_tgL3, ↓e_tgT4, ↓e_tgL4, ↓e_tgT5, ↓e_tgL5, ↓e_tgT6, ↓e_tgL6, ↓e_sAsg, ↓e_par2, ↓e_par3, ↓e_okT, ↓e_okS, ↓e_itL, ↓e_itT, ↓e_itR1, ↓e_itR2, ↓e_for, ↓e_fld, ↓e_sFld, ↓e_sApp, ↓e_sSetAt, ↓e_aNil, ↓e_aV, ↓e_aS, ↓e_call, ↓e_callN, ↓e_callG, ↓e_isC, ↓e_meth, ↓e_prop, ↓e_lenOwn, ↓e_subOwn, ↓e_eqOwn, ↓e_neOwn, ↓e_mk, ↓e_mkK, ↓e_mkKO, ↓e_if1, ↓e_if0, ↓e_hide, ↓e_ok2, ↓e_no2, ↓e_sqN, ↓e_sqR, ↓e_sqB, ↓e_sqC, ↓e_frzO, ↓e_frzI, ↓e_par2O, ↓e_par3O, ↓e_cnO', ↓e_mkO', ↓e_mkI, ↓e_lc', ↓e_while, ↓e_itE, ↓e_itEK, ↓e_itEQ, ↓e_itQ, ↓e_lrg, ↓e_itRd, ↓e_catT, ↓e_srt, ↓e_mkLQ, ↓e_mkTQ, ↓e_methK, ↓e_popAt, ↓e_eqOwnA, ↓e_isCL, ↓e_Go, ↓e_outq, ↓e_retR, ↓e_retN, ↓e_rdqN, ↓e_rdqC, ↓e_rdqB, ↓e_rdqR, ↓reduceIte, Bool.false_eq_true, eq_self, e_nc, e_nc0, e_nc1, Int.reduceEq, and_self, and_true, true_and, e_wi0, e_wi1, e_re0, e_re1, e_li0, e_li1, e_liA, e_liI, e_liR, List.getD_cons_zero, List.getD_cons_succ, e_assoc2, e_m1, e_m2, e_m3, e_m4, e_m7, e_m8, e_m9, e_m10, e_some, e_isAt, e_mvI, e_mvO, e_hasI, e_hasR, e_hasO, e_hasIo, e_rdI, e_rdR, e_rdO, e_rdIo, e_fO, e_add, e_sub, e_mul, e_div, e_mod, e_pow, e_lt, e_le, e_gt, e_ge, e_neg, e_eqI, e_eqStr, e_eqB, e_neI, e_neStr, e_neB, e_isB, e_notB, e_isN0, e_isN1, e_isN2, e_isN3, e_isN4, e_isN5, e_isN6, e_notN6, e_notN0, e_notN1, e_notN2, e_notN3, e_notN4, e_notN5, e_max2, e_min2, e_intI, e_intB, e_lenL, e_lenT, e_blO, e_isO, e_isB', e_isBT, e_ty0, e_ty1, e_ty2, e_ty3, e_ty4, e_ty5, e_map, e_bAt, e_trL, e_trT, e_trI, e_trB, e_trN, e_ifn, e_valF, e_valL, e_valI, e_vals0, e_vals1, e_valsM, e_l0, e_l1, e_l2, e_l3, e_l4, e_l5, e_l6, e_l7, e_l8, e_itsL, e_itsM, e_itsT, e_sz, e_lO, e_ixL, e_ixT, e_ixM, e_at0, e_at1, e_at2, e_at3, qv_lst, qv_tup, qv_int, qv_bl, qv_str, qv_non, qvs_0, qvs_1, qvs_2, qvs_3, qv_lt, qv_tl, e_enO, e_qL, e_qT, e_qM, e_lrgO, e_rdO', e_srtO, e_ints, e_mkcT, e_wv1, e_wv2, e_wv3, e_isX, e_pk1, e_pk2, e_isX0, e_isX1, e_isX2, e_isX3, e_isX4, e_isX5, e_icLi, e_icLl, e_oiO, e_repO, e_st, e_st0, e_st1, e_st2, e_st3, e_svF, e_svL, e_svI, e_okI, e_okR, e_rg1, e_rg2, e_fM, e_fldF, e_fldO, e_sf0, e_sf1, e_sf2, e_sf3, e_sf4, e_sf5, e_sf6, e_sf7, e_isLO, e_isLI, e_apO, e_apI, e_saO, e_saI, e_hrI, e_hrR, e_hrO, e_hrIo, e_bCons, e_bs0, e_bs1, e_bD, e_bR, e_bRs, e_bIs, e_bRi, e_bRr, e_bRo, e_bRio, e_bRoI, e_bRioI, e_allF0, e_allF1, e_bIo, e_bIi, e_ios0, e_iosD, e_iosR, e_iosI, e_pt0, e_pt1, e_ptO, e_ptI, e_cgO, e_cgA, e_apO', e_rds0, e_rdsD, e_rdsI, e_rdsV, e_rdsS, e_ap0, e_ap1, e_ap2, e_ap3, List.contains_cons, List.contains_nil, Nat.reduceBEq, e_cnT, e_hAgT, e_hAgS, e_icV, e_lnO, e_eqO, e_neO, e_mkR, e_mapAg, e_mkB, e_mkM, e_eCons, e_en0, e_enD, e_enR, e_enI, e_oCons, e_os0, e_osD, e_osR, e_osI, e_foO, e_runR, e_runN, List.getElem?_cons_zero, List.getElem?_cons_succ, List.set_cons_zero, List.set_cons_succ, List.cons_append, List.nil_append, List.map_nil, List.append_nil, List.length_cons, List.length_nil, List.length_map, List.any_cons, List.any_nil, decide_true, decide_false, Bool.not_true, Bool.not_false, Bool.false_or, Bool.or_false, Bool.true_or, Bool.or_true, Bool.and_true, Bool.true_and, Bool.and_false, Bool.false_and, beq_self_eq_true, Nat.reduceAdd, Nat.reduceSub, List.reduceReplicate, String.reduceBEq, Nat.reduceMul, Int.reduceAdd, Int.reduceSub, Int.reduceMul, Int.reduceNeg, Int.reduceLT, Int.reduceLE, Int.reducePow, Int.reduceToNat, md_Disk_flushed, run_Disk_flushed, md_Disk_now, run_Disk_now, md_Disk_pending, run_Disk_pending, md_Tree_init, run_Tree_init c1 c2 hr (by omega), run_Tree_init c1 c2 hm (by omega), md_law_write, run_law_write (ts := us) (l := q) (fun p hp => by have := hk p hp; omega), md_Tree_eq, run_Tree_eq o1 o1, run_Tree_eq o2 o2, neD_self o3.1, eqD_self o3.1])
theorem md_Disk_with_row : f_Disk_with_row.md = [.d, .r] := rfl
theorem run_Disk_with_row {c : Int} {ts us : List Int} {n : Nat} {l q : List (Nat × Int)} (h : ts.length + 1 = 2 * n) (hn : n = 2 ∨ n = 4 ∨ n = 8 ∨ n = 16 ∨ n = 32) (c1 : 1 ≤ c) (c2 : c ≤ 8) (hr : ∀ z ∈ ts, 0 ≤ z ∧ z ≤ c) (hk : ∀ p ∈ l, 1 ≤ p.1 ∧ p.1 < 2 * n ∧ 0 ≤ p.2 ∧ p.2 ≤ c) (hl : l.length ≤ 10000) (hq : q.length ≤ 10000) :
    f_Disk_with_row.run [.v (.ins 3 [.ins 0 [.int c, .tup (ts.map .int)], .ins 0 [.int c, .tup (us.map .int)], .tup (q.map tv)]), .v (.lst (l.map tv))] = .ok (.ins 3 [.f (.ins 0 [.int c, .tup ((pR ts l).map .int)]), .f (.ins 0 [.int c, .tup (us.map .int)]), .f (.tup ((q ++ l).map tv))]) [] := by
  refine FOk.eq (run_go b_Disk_with_row rfl rfl ?_)
  unfold b_Disk_with_row
  (simp (disch := first | with_reducible assumption | omega | (simp only [List.length_map, List.length_append, List.length_cons, List.length_nil, List.length_set, List.length_reverse, List.length_replicate] <;> omega) | with_reducible rfl) only [↓e_bind, ↓e_pure, ↓e_fail, ↓e_opt, ↓e_cst, ↓e_vr, ↓e_mv, ↓e_oE, ↓e_hasS, ↓e_rdT, ↓e_rdS, ↓e_bi, ↓e_bo, ↓e_un, ↓e_cb, ↓e_fz, ↓e_tst, ↓e_band, ↓e_bor, ↓e_bnot, ↓e_ttr, ↓e_bnotT, ↓e_tand, ↓e_tor, ↓e_tnot, ↓e_ife, ↓e_tTrue, ↓e_chn, ↓e_isNil, ↓e_isCons, ↓e_eLst, ↓e_eTup, ↓e_idx, ↓e_mkL, ↓e_mkLT, ↓e_mkT, ↓e_mkTT, ↓e_cat, ↓e_oN, ↓e_oI, ↓e_slL, ↓e_slT, ↓e_rep, ↓e_sSet, ↓e_sSetF, ↓e_sRet, ↓e_sEx, ↓e_sNext, ↓e_sBk, ↓e_sCt, ↓e_sIf, ↓e_sq, ↓e_frz, ↓e_tgN, ↓e_tgs0, ↓e_tgs1, ↓e_tgT1, ↓e_tgL1, ↓e_tgT2, ↓e_tgL2, ↓e_tgT3, ↓e_tgL3, ↓e_tgT4, ↓e_tgL4, ↓e_tgT5, ↓e_tgL5, ↓e_tgT6, ↓e_tgL6, ↓e_sAsg, ↓e_par2, ↓e_par3, ↓e_okT, ↓e_okS, ↓e_itL, ↓e_itT, ↓e_itR1, ↓e_itR2, ↓e_for, ↓e_fld, ↓e_sFld, ↓e_sApp, ↓e_sSetAt, ↓e_aNil, ↓e_aV, ↓e_aS, ↓e_call, ↓e_callN, ↓e_callG, ↓e_isC, ↓e_meth, ↓e_prop, ↓e_lenOwn, ↓e_subOwn, ↓e_eqOwn, ↓e_neOwn, ↓e_mk, ↓e_mkK, ↓e_mkKO, ↓e_if1, ↓e_if0, ↓e_hide, ↓e_ok2, ↓e_no2, ↓e_sqN, ↓e_sqR, ↓e_sqB, ↓e_sqC, ↓e_frzO, ↓e_frzI, ↓e_par2O, ↓e_par3O, ↓e_cnO', ↓e_mkO', ↓e_mkI, ↓e_lc', ↓e_while, ↓e_itE, ↓e_itEK, ↓e_itEQ, ↓e_itQ, ↓e_lrg, ↓e_itRd, ↓e_catT, ↓e_srt, ↓e_mkLQ, ↓e_mkTQ, ↓e_methK, ↓e_popAt, ↓e_eqOwnA, ↓e_isCL, ↓e_Go, ↓e_outq, ↓e_retR, ↓e_retN, ↓e_rdqN, ↓e_rdqC, ↓e_rdqB, ↓e_rdqR, ↓reduceIte, Bool.false_eq_true, eq_self, e_nc, e_nc0, e_nc1, Int.reduceEq, and_self, and_true, true_and, e_wi0, e_wi1, e_re0, e_re1, e_li0, e_li1, e_liA, e_liI, e_liR, List.getD_cons_zero, List.getD_cons_succ, e_assoc2, e_m1, e_m2, e_m3, e_m4, e_m7, e_m8, e_m9, e_m10, e_some, e_isAt, e_mvI, e_mvO, e_hasI, e_hasR, e_hasO, e_hasIo, e_rdI, e_rdR, e_rdO, e_rdIo, e_fO, e_add, e_sub, e_mul, e_div, e_mod, e_pow, e_lt, e_le, e_gt, e_ge, e_neg, e_eqI, e_eqStr, e_eqB, e_neI, e_neStr, e_neB, e_isB, e_notB, e_isN0, e_isN1, e_isN2, e_isN3, e_isN4, e_isN5, e_isN6, e_notN6, e_notN0, e_notN1, e_notN2, e_notN3, e_notN4, e_notN5, e_max2, e_min2, e_intI, e_intB, e_lenL, e_lenT, e_blO, e_isO, e_isB', e_isBT, e_ty0, e_ty1, e_ty2, e_ty3, e_ty4, e_ty5, e_map, e_bAt, e_trL, e_trT, e_trI, e_trB, e_trN, e_ifn, e_valF, e_valL, e_valI, e_vals0, e_vals1, e_valsM, e_l0, e_l1, e_l2, e_l3, e_l4, e_l5, e_l6, e_l7, e_l8, e_itsL, e_itsM, e_itsT, e_sz, e_lO, e_ixL, e_ixT, e_ixM, e_at0, e_at1, e_at2, e_at3, qv_lst, qv_tup, qv_int, qv_bl, qv_str, qv_non, qvs_0, qvs_1, qvs_2, qvs_3, qv_lt, qv_tl, e_enO, e_qL, e_qT, e_qM, e_lrgO, e_rdO', e_srtO, e_ints, e_mkcT, e_wv1, e_wv2, e_wv3, e_isX, e_pk1, e_pk2, e_isX0, e_isX1, e_isX2, e_isX3, e_isX4, e_isX5, e_icLi, e_icLl, e_oiO, e_repO, e_st, e_st0, e_st1, e_st2, e_st3, e_svF, e_svL, e_svI, e_okI, e_okR, e_rg1, e_rg2, e_fM, e_fldF, e_fldO, e_sf0, e_sf1, e_sf2, e_sf3, e_sf4, e_sf5, e_sf6, e_sf7, e_isLO, e_isLI, e_apO, e_apI, e_saO, e_saI, e_hrI, e_hrR, e_hrO, e_hrIo, e_bCons, e_bs0, e_bs1, e_bD, e_bR, e_bRs, e_bIs, e_bRi, e_bRr, e_bRo, e_bRio, e_bRoI, e_bRioI, e_allF0, e_allF1, e_bIo, e_bIi, e_ios0, e_iosD, e_iosR, e_iosI, e_pt0, e_pt1, e_ptO, e_ptI, e_cgO, e_cgA, e_apO', e_rds0, e_rdsD, e_rdsI, e_rdsV, e_rdsS, e_ap0, e_ap1, e_ap2, e_ap3, List.contains_cons, List.contains_nil, Nat.reduceBEq, e_cnT, e_hAgT, e_hAgS, e_icV, e_lnO, e_eqO, e_neO, e_mkR, e_mapAg, e_mkB, e_mkM, e_eCons, e_en0, e_enD, e_enR, e_enI, e_oCons, e_os0, e_osD, e_osR, e_osI, e_foO, e_runR, e_runN, List.getElem?_cons_zero, List.getElem?_cons_succ, List.set_cons_zero, List.set_cons_succ, List.cons_append, List.nil_append, List.map_nil, List.append_nil, List.length_cons, List.length_nil, List.length_map, List.any_cons, List.any_nil, decide_true, decide_false, Bool.not_true, Bool.not_false, Bool.false_or, Bool.or_false, Bool.true_or, Bool.or_true, Bool.and_true, Bool.true_and, Bool.and_false, Bool.false_and, beq_self_eq_true, Nat.reduceAdd, Nat.reduceSub, List.reduceReplicate, String.reduceBEq, Nat.reduceMul, Int.reduceAdd, Int.reduceSub, Int.reduceMul, Int.reduceNeg, Int.reduceLT, Int.reduceLE, Int.reducePow, Int.reduceToNat, md_Disk_init, run_Disk_init, md_written, run_written h hn c1 c2 hr hk, e_sfCo, List.map_append])
end Rt
set_option maxHeartbeats 8000000
namespace Rt
open PySem PySem.Spec L2 Z
theorem cat_tv {q l : List (Nat × Int)} : List.map tv q ++ List.map tv l = List.map tv (q ++ l) := by rw [List.map_append]
theorem qvs_tv0 {l : List (Nat × Int)} : qvs (l.map tv) [] = decide (l = []) := qvs_tv (m := [])
theorem md_law : f_law.md = [.d] := rfl
theorem pick3 {p : Int × Int} {x y z : Int} : ∃ n : Int, (n = x ∨ n = y ∨ n = z) ∧ f_law_pick.run [.io (pool p), .v (.lst [.int x, .int y, .int z])] = .ok (.f (.int n)) [pool (dn p 3)] := by
  have a := dr_lo (p := p) (n := 3) (by decide)
  have b := dr_hi (p := p) (n := 3) (by decide)
  have R := fun v h => run_law_pick (p := p) (xs := [.int x, .int y, .int z]) (v := v) ⟨by show 0 < 3; decide, by show 3 < 1000; decide⟩ h
  rcases (show dr p 3 = 0 ∨ dr p 3 = 1 ∨ dr p 3 = 2 by omega) with h | h | h
  · exact ⟨x, .inl rfl, R _ (by show atI _ (dr p 3) = _; rw [h]; rfl)⟩
  · exact ⟨y, .inr (.inl rfl), R _ (by show atI _ (dr p 3) = _; rw [h]; rfl)⟩
  · exact ⟨z, .inr (.inr rfl), R _ (by show atI _ (dr p 3) = _; rw [h]; rfl)⟩
theorem law_run (ns : List Int) (hns : ns.length ≤ 63) : f_law.run [.v (.lst (ns.map .int))] = .ok (.f (.bl true)) [] := by
  refine FOk.eq (run_go b_law rfl rfl ?_)
  unfold b_law
  have hm : -4611686018427387904 ≤ (if (if (ns.length : Int) < 5 then (ns.length : Int) else 5) > 1 then (if (ns.length : Int) < 5 then (ns.length : Int) else 5) else 1) ∧ (if (if (ns.length : Int) < 5 then (ns.length : Int) else 5) > 1 then (if (ns.length : Int) < 5 then (ns.length : Int) else 5) else 1) < 4611686018427387904 := by
    split <;> split <;> omega
  (simp (disch := first | with_reducible assumption | omega | (simp only [List.length_map, List.length_append, List.length_cons, List.length_nil, List.length_set, List.length_reverse, List.length_replicate] <;> omega) | with_reducible rfl) only [↓e_bind, ↓e_pure, ↓e_fail, ↓e_opt, ↓e_cst, ↓e_vr, ↓e_mv, ↓e_oE, ↓e_hasS, ↓e_rdT, ↓e_rdS, ↓e_bi, ↓e_bo, ↓e_un, ↓e_cb, ↓e_fz, ↓e_tst, ↓e_band, ↓e_bor, ↓e_bnot, ↓e_ttr, ↓e_bnotT, ↓e_tand, ↓e_tor, ↓e_tnot, ↓e_ife, ↓e_tTrue, ↓e_chn, ↓e_isNil, ↓e_isCons, ↓e_eLst, ↓e_eTup, ↓e_idx, ↓e_mkL, ↓e_mkLT, ↓e_mkT, ↓e_mkTT, ↓e_cat, ↓e_oN, ↓e_oI, ↓e_slL, ↓e_slT, ↓e_rep, ↓e_sSet, ↓e_sSetF, ↓e_sRet, ↓e_sEx, ↓e_sNext, ↓e_sBk, ↓e_sCt, ↓e_sIf, ↓e_sq, ↓e_frz, ↓e_tgN, ↓e_tgs0, ↓e_tgs1, ↓e_tgT1, ↓e_tgL1, ↓e_tgT2, ↓e_tgL2, ↓e_tgT3, ↓e_tgL3, ↓e_tgT4, ↓e_tgL4, ↓e_tgT5, ↓e_tgL5, ↓e_tgT6, ↓e_tgL6, ↓e_sAsg, ↓e_par2, ↓e_par3, ↓e_okT, ↓e_okS, ↓e_itL, ↓e_itT, ↓e_itR1, ↓e_itR2, ↓e_for, ↓e_fld, ↓e_sFld, ↓e_sApp, ↓e_sSetAt, ↓e_aNil, ↓e_aV, ↓e_aS, ↓e_call, ↓e_callN, ↓e_callG, ↓e_isC, ↓e_meth, ↓e_prop, ↓e_lenOwn, ↓e_subOwn, ↓e_eqOwn, ↓e_neOwn, ↓e_mk, ↓e_mkK, ↓e_mkKO, ↓e_if1, ↓e_if0, ↓e_hide, ↓e_ok2, ↓e_no2, ↓e_sqN, ↓e_sqR, ↓e_sqB, ↓e_sqC, ↓e_frzO, ↓e_frzI, ↓e_par2O, ↓e_par3O, ↓e_cnO', ↓e_mkO', ↓e_mkI, ↓e_lc', ↓e_while, ↓e_itE, ↓e_itEK, ↓e_itEQ, ↓e_itQ, ↓e_lrg, ↓e_itRd, ↓e_catT, ↓e_srt, ↓e_mkLQ, ↓e_mkTQ, ↓e_methK, ↓e_popAt, ↓e_eqOwnA, ↓e_isCL, ↓e_Go, ↓e_outq, ↓e_retR, ↓e_retN, ↓e_rdqN, ↓e_rdqC, ↓e_rdqB, ↓e_rdqR, ↓reduceIte, Bool.false_eq_true, eq_self, e_nc, e_nc0, e_nc1, Int.reduceEq, and_self, and_true, true_and, e_wi0, e_wi1, e_re0, e_re1, e_li0, e_li1, e_liA, e_liI, e_liR, List.getD_cons_zero, List.getD_cons_succ, e_assoc2, e_m1, e_m2, e_m3, e_m4, e_m7, e_m8, e_m9, e_m10, e_some, e_isAt, e_mvI, e_mvO, e_hasI, e_hasR, e_hasO, e_hasIo, e_rdI, e_rdR, e_rdO, e_rdIo, e_fO, e_add, e_sub, e_mul, e_div, e_mod, e_pow, e_lt, e_le, e_gt, e_ge, e_neg, e_eqI, e_eqStr, e_eqB, e_neI, e_neStr, e_neB, e_isB, e_notB, e_isN0, e_isN1, e_isN2, e_isN3, e_isN4, e_isN5, e_isN6, e_notN6, e_notN0, e_notN1, e_notN2, e_notN3, e_notN4, e_notN5, e_max2, e_min2, e_intI, e_intB, e_lenL, e_lenT, e_blO, e_isO, e_isB', e_isBT, e_ty0, e_ty1, e_ty2, e_ty3, e_ty4, e_ty5, e_map, e_bAt, e_trL, e_trT, e_trI, e_trB, e_trN, e_ifn, e_valF, e_valL, e_valI, e_vals0, e_vals1, e_valsM, e_l0, e_l1, e_l2, e_l3, e_l4, e_l5, e_l6, e_l7, e_l8, e_itsL, e_itsM, e_itsT, e_sz, e_lO, e_ixL, e_ixT, e_ixM, e_at0, e_at1, e_at2, e_at3, qv_lst, qv_tup, qv_int, qv_bl, qv_str, qv_non, qvs_0, qvs_1, qvs_2, qvs_3, qv_lt, qv_tl, e_enO, e_qL, e_qT, e_qM, e_lrgO, e_rdO', e_srtO, e_ints, e_mkcT, e_wv1, e_wv2, e_wv3, e_isX, e_pk1, e_pk2, e_isX0, e_isX1, e_isX2, e_isX3, e_isX4, e_isX5, e_icLi, e_icLl, e_oiO, e_repO, e_st, e_st0, e_st1, e_st2, e_st3, e_svF, e_svL, e_svI, e_okI, e_okR, e_rg1, e_rg2, e_fM, e_fldF, e_fldO, e_sf0, e_sf1, e_sf2, e_sf3, e_sf4, e_sf5, e_sf6, e_sf7, e_isLO, e_isLI, e_apO, e_apI, e_saO, e_saI, e_hrI, e_hrR, e_hrO, e_hrIo, e_bCons, e_bs0, e_bs1, e_bD, e_bR, e_bRs, e_bIs, e_bRi, e_bRr, e_bRo, e_bRio, e_bRoI, e_bRioI, e_allF0, e_allF1, e_bIo, e_bIi, e_ios0, e_iosD, e_iosR, e_iosI, e_pt0, e_pt1, e_ptO, e_ptI, e_cgO, e_cgA, e_apO', e_rds0, e_rdsD, e_rdsI, e_rdsV, e_rdsS, e_ap0, e_ap1, e_ap2, e_ap3, List.contains_cons, List.contains_nil, Nat.reduceBEq, e_cnT, e_hAgT, e_hAgS, e_icV, e_lnO, e_eqO, e_neO, e_mkR, e_mapAg, e_mkB, e_mkM, e_eCons, e_en0, e_enD, e_enR, e_enI, e_oCons, e_os0, e_osD, e_osR, e_osI, e_foO, e_runR, e_runN, List.getElem?_cons_zero, List.getElem?_cons_succ, List.set_cons_zero, List.set_cons_succ, List.cons_append, List.nil_append, List.map_nil, List.append_nil, List.length_cons, List.length_nil, List.length_map, List.any_cons, List.any_nil, decide_true, decide_false, Bool.not_true, Bool.not_false, Bool.false_or, Bool.or_false, Bool.true_or, Bool.or_true, Bool.and_true, Bool.true_and, Bool.and_false, Bool.false_and, beq_self_eq_true, Nat.reduceAdd, Nat.reduceSub, List.reduceReplicate, String.reduceBEq, Nat.reduceMul, Int.reduceAdd, Int.reduceSub, Int.reduceMul, Int.reduceNeg, Int.reduceLT, Int.reduceLE, Int.reducePow, Int.reduceToNat, e_rg1 hm])
  refine go_for (fun i e => ∃ (s1 s2 s3 s4 s5 s6 s7 s8 s9 s10 s11 s12 : SV), e = [.is (.lst (ns.map .int)), s1, s2, s3, s4, s5, s6, s7, s8, s9, s10, s11, s12] ∧ s1.free = true ∧ s2.free = true ∧ s3.free = true ∧ s4.free = true ∧ s5.free = true ∧ s6.free = true ∧ s7.free = true ∧ s8.free = true ∧ s9.free = true ∧ s10.free = true ∧ s11.free = true ∧ s12.free = true)
    ⟨_, _, _, _, _, _, _, _, _, _, _, _, rfl, rfl, rfl, rfl, rfl, rfl, rfl, rfl, rfl, rfl, rfl, rfl, rfl⟩ (fun i x e hx hp => ?_) (fun e hp => ?_)
  · obtain ⟨s1, s2, s3, s4, s5, s6, s7, s8, s9, s10, s11, s12, rfl, h1, h2, h3, h4, h5, h6, h7, h8, h9, h10, h11, h12⟩ := hp
    obtain ⟨rfl, hi⟩ := irange_get hx
    obtain ⟨_, _, hop, p0, rfl, rfl⟩ := (run_law_opened (ns := ns) (k := i)).ex
    obtain ⟨v, hv, hpk⟩ := pick3 (p := p0) (x := 2) (y := 4) (z := 8)
    obtain ⟨n, rfl, hn⟩ : ∃ n : Nat, v = n ∧ (n = 2 ∨ n = 4 ∨ n = 8) := ⟨v.toNat, by omega, by omega⟩
    have c1 := dr_lo (p := dn p0 3) (n := 4) (by decide)
    have c2 := dr_hi (p := dn p0 3) (n := 4) (by decide)
    (simp (disch := first | with_reducible assumption | omega | (simp only [List.length_map, List.length_append, List.length_cons, List.length_nil, List.length_set, List.length_reverse, List.length_replicate] <;> omega) | with_reducible rfl) only [↓e_bind, ↓e_pure, ↓e_fail, ↓e_opt, ↓e_cst, ↓e_vr, ↓e_mv, ↓e_oE, ↓e_hasS, ↓e_rdT, ↓e_rdS, ↓e_bi, ↓e_bo, ↓e_un, ↓e_cb, ↓e_fz, ↓e_tst, ↓e_band, ↓e_bor, ↓e_bnot, ↓e_ttr, ↓e_bnotT, ↓e_tand, ↓e_tor, ↓e_tnot, ↓e_ife, ↓e_tTrue, ↓e_chn, ↓e_isNil, ↓e_isCons, ↓e_eLst, ↓e_eTup, ↓e_idx, ↓e_mkL, ↓e_mkLT, ↓e_mkT, ↓e_mkTT, ↓e_cat, ↓e_oN, ↓e_oI, ↓e_slL, ↓e_slT, ↓e_rep, ↓e_sSet, ↓e_sSetF, ↓e_sRet, ↓e_sEx, ↓e_sNext, ↓e_sBk, ↓e_sCt, ↓e_sIf, ↓e_sq, ↓e_frz, ↓e_tgN, ↓e_tgs0, ↓e_tgs1, ↓e_tgT1, ↓e_tgL1, ↓e_tgT2, ↓e_tgL2, ↓e_tgT3, ↓e_tgL3, ↓e_tgT4, ↓e_tgL4, ↓e_tgT5, ↓e_tgL5, ↓e_tgT6, ↓e_tgL6, ↓e_sAsg, ↓e_par2, ↓e_par3, ↓e_okT, ↓e_okS, ↓e_itL, ↓e_itT, ↓e_itR1, ↓e_itR2, ↓e_for, ↓e_fld, ↓e_sFld, ↓e_sApp, ↓e_sSetAt, ↓e_aNil, ↓e_aV, ↓e_aS, ↓e_call, ↓e_callN, ↓e_callG, ↓e_isC, ↓e_meth, ↓e_prop, ↓e_lenOwn, ↓e_subOwn, ↓e_eqOwn, ↓e_neOwn, ↓e_mk, ↓e_mkK, ↓e_mkKO, ↓e_if1, ↓e_if0, ↓e_hide, ↓e_ok2, ↓e_no2, ↓e_sqN, ↓e_sqR, ↓e_sqB, ↓e_sqC, ↓e_frzO, ↓e_frzI, ↓e_par2O, ↓e_par3O, ↓e_cnO', ↓e_mkO', ↓e_mkI, ↓e_lc', ↓e_while, ↓e_itE, ↓e_itEK, ↓e_itEQ, ↓e_itQ, ↓e_lrg, ↓e_itRd, ↓e_catT, ↓e_srt, ↓e_mkLQ, ↓e_mkTQ, ↓e_methK, ↓e_popAt, ↓e_eqOwnA, ↓e_isCL, ↓e_Go, ↓e_outq, ↓e_retR, ↓e_retN, ↓e_rdqN, ↓e_rdqC, ↓e_rdqB, ↓e_rdqR, ↓reduceIte, Bool.false_eq_true, eq_self, e_nc, e_nc0, e_nc1, Int.reduceEq, and_self, and_true, true_and, e_wi0, e_wi1, e_re0, e_re1, e_li0, e_li1, e_liA, e_liI, e_liR, List.getD_cons_zero, List.getD_cons_succ, e_assoc2, e_m1, e_m2, e_m3, e_m4, e_m7, e_m8, e_m9, e_m10, e_some, e_isAt, e_mvI, e_mvO, e_hasI, e_hasR, e_hasO, e_hasIo, e_rdI, e_rdR, e_rdO, e_rdIo, e_fO, e_add, e_sub, e_mul, e_div, e_mod, e_pow, e_lt, e_le, e_gt, e_ge, e_neg, e_eqI, e_eqStr, e_eqB, e_neI, e_neStr, e_neB, e_isB, e_notB, e_isN0, e_isN1, e_isN2, e_isN3, e_isN4, e_isN5, e_isN6, e_notN6, e_notN0, e_notN1, e_notN2, e_notN3, e_notN4, e_notN5, e_max2, e_min2, e_intI, e_intB, e_lenL, e_lenT, e_blO, e_isO, e_isB', e_isBT, e_ty0, e_ty1, e_ty2, e_ty3, e_ty4, e_ty5, e_map, e_bAt, e_trL, e_trT, e_trI, e_trB, e_trN, e_ifn, e_valF, e_valL, e_valI, e_vals0, e_vals1, e_valsM, e_l0, e_l1, e_l2, e_l3, e_l4, e_l5, e_l6, e_l7, e_l8, e_itsL, e_itsM, e_itsT, e_sz, e_lO, e_ixL, e_ixT, e_ixM, e_at0, e_at1, e_at2, e_at3, qv_lst, qv_tup, qv_int, qv_bl, qv_str, qv_non, qvs_0, qvs_1, qvs_2, qvs_3, qv_lt, qv_tl, e_enO, e_qL, e_qT, e_qM, e_lrgO, e_rdO', e_srtO, e_ints, e_mkcT, e_wv1, e_wv2, e_wv3, e_isX, e_pk1, e_pk2, e_isX0, e_isX1, e_isX2, e_isX3, e_isX4, e_isX5, e_icLi, e_icLl, e_oiO, e_repO, e_st, e_st0, e_st1, e_st2, e_st3, e_svF, e_svL, e_svI, e_okI, e_okR, e_rg1, e_rg2, e_fM, e_fldF, e_fldO, e_sf0, e_sf1, e_sf2, e_sf3, e_sf4, e_sf5, e_sf6, e_sf7, e_isLO, e_isLI, e_apO, e_apI, e_saO, e_saI, e_hrI, e_hrR, e_hrO, e_hrIo, e_bCons, e_bs0, e_bs1, e_bD, e_bR, e_bRs, e_bIs, e_bRi, e_bRr, e_bRo, e_bRio, e_bRoI, e_bRioI, e_allF0, e_allF1, e_bIo, e_bIi, e_ios0, e_iosD, e_iosR, e_iosI, e_pt0, e_pt1, e_ptO, e_ptI, e_cgO, e_cgA, e_apO', e_rds0, e_rdsD, e_rdsI, e_rdsV, e_rdsS, e_ap0, e_ap1, e_ap2, e_ap3, List.contains_cons, List.contains_nil, Nat.reduceBEq, e_cnT, e_hAgT, e_hAgS, e_icV, e_lnO, e_eqO, e_neO, e_mkR, e_mapAg, e_mkB, e_mkM, e_eCons, e_en0, e_enD, e_enR, e_enI, e_oCons, e_os0, e_osD, e_osR, e_osI, e_foO, e_runR, e_runN, List.getElem?_cons_zero, List.getElem?_cons_succ, List.set_cons_zero, List.set_cons_succ, List.cons_append, List.nil_append, List.map_nil, List.append_nil, List.length_cons, List.length_nil, List.length_map, List.any_cons, List.any_nil, decide_true, decide_false, Bool.not_true, Bool.not_false, Bool.false_or, Bool.or_false, Bool.true_or, Bool.or_true, Bool.and_true, Bool.true_and, Bool.and_false, Bool.false_and, beq_self_eq_true, Nat.reduceAdd, Nat.reduceSub, List.reduceReplicate, String.reduceBEq, Nat.reduceMul, Int.reduceAdd, Int.reduceSub, Int.reduceMul, Int.reduceNeg, Int.reduceLT, Int.reduceLE, Int.reducePow, Int.reduceToNat, Int.zero_add, md_law_opened, hop, sv_pool, md_law_pick, hpk, md_law_draw, run_law_draw])
    obtain ⟨c, hc⟩ : ∃ c, 1 + dr (dn p0 3) 4 = c := ⟨_, rfl⟩
    rw [hc]
    generalize dn (dn p0 3) 4 = p1
    obtain ⟨_, _, htd, p2, ts, rfl, rfl, hts, hrg⟩ := (run_law_drawn_told (p := p1) (c := c) (n := n) (b := false) (by omega) (by omega) (by omega)).ex
    have hlen : ts.length = 3 ∨ ts.length = 7 ∨ ts.length = 15 ∨ ts.length = 31 ∨ ts.length = 63 := by omega
    (simp (disch := first | with_reducible assumption | omega | (simp only [List.length_map, List.length_append, List.length_cons, List.length_nil, List.length_set, List.length_reverse, List.length_replicate] <;> omega) | with_reducible rfl) only [↓e_bind, ↓e_pure, ↓e_fail, ↓e_opt, ↓e_cst, ↓e_vr, ↓e_mv, ↓e_oE, ↓e_hasS, ↓e_rdT, ↓e_rdS, ↓e_bi, ↓e_bo, ↓e_un, ↓e_cb, ↓e_fz, ↓e_tst, ↓e_band, ↓e_bor, ↓e_bnot, ↓e_ttr, ↓e_bnotT, ↓e_tand, ↓e_tor, ↓e_tnot, ↓e_ife, ↓e_tTrue, ↓e_chn, ↓e_isNil, ↓e_isCons, ↓e_eLst, ↓e_eTup, ↓e_idx, ↓e_mkL, ↓e_mkLT, ↓e_mkT, ↓e_mkTT, ↓e_cat, ↓e_oN, ↓e_oI, ↓e_slL, ↓e_slT, ↓e_rep, ↓e_sSet, ↓e_sSetF, ↓e_sRet, ↓e_sEx, ↓e_sNext, ↓e_sBk, ↓e_sCt, ↓e_sIf, ↓e_sq, ↓e_frz, ↓e_tgN, ↓e_tgs0, ↓e_tgs1, ↓e_tgT1, ↓e_tgL1, ↓e_tgT2, ↓e_tgL2, ↓e_tgT3, ↓e_tgL3, ↓e_tgT4, ↓e_tgL4, ↓e_tgT5, ↓e_tgL5, ↓e_tgT6, ↓e_tgL6, ↓e_sAsg, ↓e_par2, ↓e_par3, ↓e_okT, ↓e_okS, ↓e_itL, ↓e_itT, ↓e_itR1, ↓e_itR2, ↓e_for, ↓e_fld, ↓e_sFld, ↓e_sApp, ↓e_sSetAt, ↓e_aNil, ↓e_aV, ↓e_aS, ↓e_call, ↓e_callN, ↓e_callG, ↓e_isC, ↓e_meth, ↓e_prop, ↓e_lenOwn, ↓e_subOwn, ↓e_eqOwn, ↓e_neOwn, ↓e_mk, ↓e_mkK, ↓e_mkKO, ↓e_if1, ↓e_if0, ↓e_hide, ↓e_ok2, ↓e_no2, ↓e_sqN, ↓e_sqR, ↓e_sqB, ↓e_sqC, ↓e_frzO, ↓e_frzI, ↓e_par2O, ↓e_par3O, ↓e_cnO', ↓e_mkO', ↓e_mkI, ↓e_lc', ↓e_while, ↓e_itE, ↓e_itEK, ↓e_itEQ, ↓e_itQ, ↓e_lrg, ↓e_itRd, ↓e_catT, ↓e_srt, ↓e_mkLQ, ↓e_mkTQ, ↓e_methK, ↓e_popAt, ↓e_eqOwnA, ↓e_isCL, ↓e_Go, ↓e_outq, ↓e_retR, ↓e_retN, ↓e_rdqN, ↓e_rdqC, ↓e_rdqB, ↓e_rdqR, ↓reduceIte, Bool.false_eq_true, eq_self, e_nc, e_nc0, e_nc1, Int.reduceEq, and_self, and_true, true_and, e_wi0, e_wi1, e_re0, e_re1, e_li0, e_li1, e_liA, e_liI, e_liR, List.getD_cons_zero, List.getD_cons_succ, e_assoc2, e_m1, e_m2, e_m3, e_m4, e_m7, e_m8, e_m9, e_m10, e_some, e_isAt, e_mvI, e_mvO, e_hasI, e_hasR, e_hasO, e_hasIo, e_rdI, e_rdR, e_rdO, e_rdIo, e_fO, e_add, e_sub, e_mul, e_div, e_mod, e_pow, e_lt, e_le, e_gt, e_ge, e_neg, e_eqI, e_eqStr, e_eqB, e_neI, e_neStr, e_neB, e_isB, e_notB, e_isN0, e_isN1, e_isN2, e_isN3, e_isN4, e_isN5, e_isN6, e_notN6, e_notN0, e_notN1, e_notN2, e_notN3, e_notN4, e_notN5, e_max2, e_min2, e_intI, e_intB, e_lenL, e_lenT, e_blO, e_isO, e_isB', e_isBT, e_ty0, e_ty1, e_ty2, e_ty3, e_ty4, e_ty5, e_map, e_bAt, e_trL, e_trT, e_trI, e_trB, e_trN, e_ifn, e_valF, e_valL, e_valI, e_vals0, e_vals1, e_valsM, e_l0, e_l1, e_l2, e_l3, e_l4, e_l5, e_l6, e_l7, e_l8, e_itsL, e_itsM, e_itsT, e_sz, e_lO, e_ixL, e_ixT, e_ixM, e_at0, e_at1, e_at2, e_at3, qv_lst, qv_tup, qv_int, qv_bl, qv_str, qv_non, qvs_0, qvs_1, qvs_2, qvs_3, qv_lt, qv_tl, e_enO, e_qL, e_qT, e_qM, e_lrgO, e_rdO', e_srtO, e_ints, e_mkcT, e_wv1, e_wv2, e_wv3, e_isX, e_pk1, e_pk2, e_isX0, e_isX1, e_isX2, e_isX3, e_isX4, e_isX5, e_icLi, e_icLl, e_oiO, e_repO, e_st, e_st0, e_st1, e_st2, e_st3, e_svF, e_svL, e_svI, e_okI, e_okR, e_rg1, e_rg2, e_fM, e_fldF, e_fldO, e_sf0, e_sf1, e_sf2, e_sf3, e_sf4, e_sf5, e_sf6, e_sf7, e_isLO, e_isLI, e_apO, e_apI, e_saO, e_saI, e_hrI, e_hrR, e_hrO, e_hrIo, e_bCons, e_bs0, e_bs1, e_bD, e_bR, e_bRs, e_bIs, e_bRi, e_bRr, e_bRo, e_bRio, e_bRoI, e_bRioI, e_allF0, e_allF1, e_bIo, e_bIi, e_ios0, e_iosD, e_iosR, e_iosI, e_pt0, e_pt1, e_ptO, e_ptI, e_cgO, e_cgA, e_apO', e_rds0, e_rdsD, e_rdsI, e_rdsV, e_rdsS, e_ap0, e_ap1, e_ap2, e_ap3, List.contains_cons, List.contains_nil, Nat.reduceBEq, e_cnT, e_hAgT, e_hAgS, e_icV, e_lnO, e_eqO, e_neO, e_mkR, e_mapAg, e_mkB, e_mkM, e_eCons, e_en0, e_enD, e_enR, e_enI, e_oCons, e_os0, e_osD, e_osR, e_osI, e_foO, e_runR, e_runN, List.getElem?_cons_zero, List.getElem?_cons_succ, List.set_cons_zero, List.set_cons_succ, List.cons_append, List.nil_append, List.map_nil, List.append_nil, List.length_cons, List.length_nil, List.length_map, List.any_cons, List.any_nil, decide_true, decide_false, Bool.not_true, Bool.not_false, Bool.false_or, Bool.or_false, Bool.true_or, Bool.or_true, Bool.and_true, Bool.true_and, Bool.and_false, Bool.false_and, beq_self_eq_true, Nat.reduceAdd, Nat.reduceSub, List.reduceReplicate, String.reduceBEq, Nat.reduceMul, Int.reduceAdd, Int.reduceSub, Int.reduceMul, Int.reduceNeg, Int.reduceLT, Int.reduceLE, Int.reducePow, Int.reduceToNat, md_law_drawn_told, htd, md_Tree_init, run_Tree_init (c := c) (xs := ts) (by omega) (by omega) hrg hlen, md_Disk_init, run_Disk_init])
    refine go_forE (fun j e => ∃ (p : Int × Int) (us : List Int) (q : List (Nat × Int)) (s8 s9 s10 s11 s12 : SV), e = [.is (.lst (ns.map .int)), .is (.int i), .own (pool p), .is (.int n), .is (.int c), .is (.lst (us.map .int)), .is (.lst (q.map tv)), .is (.ins 3 [.ins 0 [.int c, .tup ((pR us q).map .int)], .ins 0 [.int c, .tup (us.map .int)], .tup (q.map tv)]), s8, s9, s10, s11, s12] ∧ s8.free = true ∧ s9.free = true ∧ s10.free = true ∧ s11.free = true ∧ s12.free = true ∧
        us.length + 1 = 2 * n ∧ (∀ z ∈ us, 0 ≤ z ∧ z ≤ c) ∧ (∀ p ∈ q, 1 ≤ p.1 ∧ p.1 < 2 * n ∧ 0 ≤ p.2 ∧ p.2 ≤ c) ∧ q.length ≤ 3 * j)
      ⟨p2, ts, [], _, _, _, _, _, rfl, h8, h9, h10, h11, h12, hts, hrg, fun p h => (nomatch h), Nat.le_refl _⟩ (fun j x e hx hp => ?_) (fun e hp => ?_)
    · clear h1 h2 h3 h4 h5 h6 h7 h8 h9 h10 h11 h12 hop hm hpk htd
      obtain ⟨p, us, q, s8, s9, s10, s11, s12, rfl, h8, h9, h10, h11, h12, hus, hur, hqr, hql⟩ := hp
      obtain ⟨rfl, hj⟩ := irange_get hx
      have hn' : n = 2 ∨ n = 4 ∨ n = 8 ∨ n = 16 ∨ n = 32 := by omega
      have hpr : ∀ z ∈ pR us q, 0 ≤ z ∧ z ≤ c := pR_rng hur fun p hp => (hqr p hp).2.2
      have hpl := pR_len (l := q) (ts := us)
      have A0 := run_law_is_so (c := c) (us := us) (n := n) (q := q) hus hn' (by omega) (by omega) hur hqr (by omega)
      have o1 := okd_ts (ts := us) (fun z hz => by have := hur z hz; omega) (by omega)
      have o2 := okd_ts (ts := pR us q) (fun z hz => by have := hpr z hz; omega) (by omega)
      have o3 := okd_rows (l := q) (fun p hp => by have := hqr p hp; omega) (by omega)
      have m1 := (mid_ts (ts := us) (fun z hz => by have := hur z hz; omega) (by omega)).1
      have m2 := (mid_ts (ts := pR us q) (fun z hz => by have := hpr z hz; omega) (by omega)).1
      have m3 := mid_rows (l := q) (fun p hp => by have := hqr p hp; omega) (by omega)
      by_cases hd : dr p 4 = 0
      · have A1 := run_law_is_so (c := c) (us := pR us q) (n := n) (q := []) (by omega) hn' (by omega) (by omega) hpr (fun p h => (nomatch h)) (by decide)
        have W := run_Disk_with_row (c := c) (ts := pR us q) (us := pR us q) (n := n) (l := []) (q := []) (by omega) hn' (by omega) (by omega) hpr (fun p h => (nomatch h)) (by decide) (by decide)
        have Q1 := run_Disk_eq (c := c) (c' := c) (q := []) (q' := []) o2.2 o2.2 (okd_rows (l := []) (fun p h => (nomatch h)) (by decide)).2 o2.2 o2.2 (okd_rows (l := []) (fun p h => (nomatch h)) (by decide)).2
        have Q2 := run_Disk_eq (c := c) (c' := c) (q := []) (q' := q) o2.2 o2.2 (okd_rows (l := []) (fun p h => (nomatch h)) (by decide)).2 o2.2 o1.2 o3.2
        have hAB : (decide (pR us q = us) && decide ([] = q)) = (decide (us = pR us q) && decide (q = [])) := by
          rw [decide_eq_decide.mpr (eq_comm (a := pR us q) (b := us)), decide_eq_decide.mpr (eq_comm (a := ([] : List (Nat × Int))) (b := q))]
        have k1 := okd_pair m1 m3
        have k2 := okd_pair m2 (mid_rows (l := []) (fun p h => (nomatch h)) (by decide))
        simp only [pR_nil, List.map_nil, List.append_nil, List.nil_append] at A1 W Q1 Q2 k2
        (simp (disch := first | with_reducible assumption | omega | (simp only [List.length_map, List.length_append, List.length_cons, List.length_nil, List.length_set, List.length_reverse, List.length_replicate] <;> omega) | with_reducible rfl) only [↓e_bind, ↓e_pure, ↓e_fail, ↓e_opt, ↓e_cst, ↓e_vr, ↓e_mv, ↓e_oE, ↓e_hasS, ↓e_rdT, ↓e_rdS, ↓e_bi, ↓e_bo, ↓e_un, ↓e_cb, ↓e_fz, ↓e_tst, ↓e_band, ↓e_bor, ↓e_bnot, ↓e_ttr, ↓e_bnotT, ↓e_tand, ↓e_tor, ↓e_tnot, ↓e_ife, ↓e_tTrue, ↓e_chn, ↓e_isNil, ↓e_isCons, ↓e_eLst, ↓e_eTup, ↓e_idx, ↓e_mkL, ↓e_mkLT, ↓e_mkT, ↓e_mkTT, ↓e_cat, ↓e_oN, ↓e_oI, ↓e_slL, ↓e_slT, ↓e_rep, ↓e_sSet, ↓e_sSetF, ↓e_sRet, ↓e_sEx, ↓e_sNext, ↓e_sBk, ↓e_sCt, ↓e_sIf, ↓e_sq, ↓e_frz, ↓e_tgN, ↓e_tgs0, ↓e_tgs1, ↓e_tgT1, ↓e_tgL1, ↓e_tgT2, ↓e_tgL2, ↓e_tgT3, ↓e_tgL3, ↓e_tgT4, ↓e_tgL4, ↓e_tgT5, ↓e_tgL5, ↓e_tgT6, ↓e_tgL6, ↓e_sAsg, ↓e_par2, ↓e_par3, ↓e_okT, ↓e_okS, ↓e_itL, ↓e_itT, ↓e_itR1, ↓e_itR2, ↓e_for, ↓e_fld, ↓e_sFld, ↓e_sApp, ↓e_sSetAt, ↓e_aNil, ↓e_aV, ↓e_aS, ↓e_call, ↓e_callN, ↓e_callG, ↓e_isC, ↓e_meth, ↓e_prop, ↓e_lenOwn, ↓e_subOwn, ↓e_eqOwn, ↓e_neOwn, ↓e_mk, ↓e_mkK, ↓e_mkKO, ↓e_if1, ↓e_if0, ↓e_hide, ↓e_ok2, ↓e_no2, ↓e_sqN, ↓e_sqR, ↓e_sqB, ↓e_sqC, ↓e_frzO, ↓e_frzI, ↓e_par2O, ↓e_par3O, ↓e_cnO', ↓e_mkO', ↓e_mkI, ↓e_lc', ↓e_while, ↓e_itE, ↓e_itEK, ↓e_itEQ, ↓e_itQ, ↓e_lrg, ↓e_itRd, ↓e_catT, ↓e_srt, ↓e_mkLQ, ↓e_mkTQ, ↓e_methK, ↓e_popAt, ↓e_eqOwnA, ↓e_isCL, ↓e_Go, ↓e_outq, ↓e_retR, ↓e_retN, ↓e_rdqN, ↓e_rdqC, ↓e_rdqB, ↓e_rdqR, ↓reduceIte, Bool.false_eq_true, eq_self, e_nc, e_nc0, e_nc1, Int.reduceEq, and_self, and_true, true_and, e_wi0, e_wi1, e_re0, e_re1, e_li0, e_li1, e_liA, e_liI, e_liR, List.getD_cons_zero, List.getD_cons_succ, e_assoc2, e_m1, e_m2, e_m3, e_m4, e_m7, e_m8, e_m9, e_m10, e_some, e_isAt, e_mvI, e_mvO, e_hasI, e_hasR, e_hasO, e_hasIo, e_rdI, e_rdR, e_rdO, e_rdIo, e_fO, e_add, e_sub, e_mul, e_div, e_mod, e_pow, e_lt, e_le, e_gt, e_ge, e_neg, e_eqI, e_eqStr, e_eqB, e_neI, e_neStr, e_neB, e_isB, e_notB, e_isN0, e_isN1, e_isN2, e_isN3, e_isN4, e_isN5, e_isN6, e_notN6, e_notN0, e_notN1, e_notN2, e_notN3, e_notN4, e_notN5, e_max2, e_min2, e_intI, e_intB, e_lenL, e_lenT, e_blO, e_isO, e_isB', e_isBT, e_ty0, e_ty1, e_ty2, e_ty3, e_ty4, e_ty5, e_map, e_bAt, e_trL, e_trT, e_trI, e_trB, e_trN, e_ifn, e_valF, e_valL, e_valI, e_vals0, e_vals1, e_valsM, e_l0, e_l1, e_l2, e_l3, e_l4, e_l5, e_l6, e_l7, e_l8, e_itsL, e_itsM, e_itsT, e_sz, e_lO, e_ixL, e_ixT, e_ixM, e_at0, e_at1, e_at2, e_at3, qv_lst, qv_tup, qv_int, qv_bl, qv_str, qv_non, qvs_0, qvs_1, qvs_2, qvs_3, qv_lt, qv_tl, e_enO, e_qL, e_qT, e_qM, e_lrgO, e_rdO', e_srtO, e_ints, e_mkcT, e_wv1, e_wv2, e_wv3, e_isX, e_pk1, e_pk2, e_isX0, e_isX1, e_isX2, e_isX3, e_isX4, e_isX5, e_icLi, e_icLl, e_oiO, e_repO, e_st, e_st0, e_st1, e_st2, e_st3, e_svF, e_svL, e_svI, e_okI, e_okR, e_rg1, e_rg2, e_fM, e_fldF, e_fldO, e_sf0, e_sf1, e_sf2, e_sf3, e_sf4, e_sf5, e_sf6, e_sf7, e_isLO, e_isLI, e_apO, e_apI, e_saO, e_saI, e_hrI, e_hrR, e_hrO, e_hrIo, e_bCons, e_bs0, e_bs1, e_bD, e_bR, e_bRs, e_bIs, e_bRi, e_bRr, e_bRo, e_bRio, e_bRoI, e_bRioI, e_allF0, e_allF1, e_bIo, e_bIi, e_ios0, e_iosD, e_iosR, e_iosI, e_pt0, e_pt1, e_ptO, e_ptI, e_cgO, e_cgA, e_apO', e_rds0, e_rdsD, e_rdsI, e_rdsV, e_rdsS, e_ap0, e_ap1, e_ap2, e_ap3, List.contains_cons, List.contains_nil, Nat.reduceBEq, e_cnT, e_hAgT, e_hAgS, e_icV, e_lnO, e_eqO, e_neO, e_mkR, e_mapAg, e_mkB, e_mkM, e_eCons, e_en0, e_enD, e_enR, e_enI, e_oCons, e_os0, e_osD, e_osR, e_osI, e_foO, e_runR, e_runN, List.getElem?_cons_zero, List.getElem?_cons_succ, List.set_cons_zero, List.set_cons_succ, List.cons_append, List.nil_append, List.map_nil, List.append_nil, List.length_cons, List.length_nil, List.length_map, List.any_cons, List.any_nil, decide_true, decide_false, Bool.not_true, Bool.not_false, Bool.false_or, Bool.or_false, Bool.true_or, Bool.or_true, Bool.and_true, Bool.true_and, Bool.and_false, Bool.false_and, beq_self_eq_true, Nat.reduceAdd, Nat.reduceSub, List.reduceReplicate, String.reduceBEq, Nat.reduceMul, Int.reduceAdd, Int.reduceSub, Int.reduceMul, Int.reduceNeg, Int.reduceLT, Int.reduceLE, Int.reducePow, Int.reduceToNat, Int.zero_add, md_law_draw, run_law_draw, hd, md_Disk_with_flush, run_Disk_with_flush, md_law_write, run_law_write (ts := us) (l := q) (fun p hp => by have := hqr p hp; omega), md_law_is_so, A0, A1, md_Tree_init, run_Tree_init (c := c) (xs := pR us q) (by omega) (by omega) hpr (by omega), md_Disk_init, run_Disk_init, md_Disk_with_row, W, md_Disk_eq, Q1, Q2, run_Disk_eqL, eqD_q k1 k2, qvs_ints, qvs_tv, id, qvs_tv0, hAB])
        exact ⟨_, pR us q, [], _, _, _, _, _, rfl, rfl, rfl, rfl, h11, rfl, by omega, hpr, fun p h => (nomatch h), Nat.zero_le _⟩
      · have d1 := dr_lo (p := dn p 4) (n := 4) (by decide)
        have d2 := dr_hi (p := dn p 4) (n := 4) (by decide)
        obtain ⟨m, hm, em⟩ := drI (p := dn p 4) (n := 4) (by decide)
        have em : dr (dn p 4) 4 = (m : Int) := em
        obtain ⟨_, _, hdr, p3, l, rfl, rfl, hll, hlr⟩ := (run_law_drawn_rows (p := dn (dn p 4) 4) (c := c) (n := n) (m := m) (by omega) (by omega) (by omega) (by omega)).ex
        have hqr' : ∀ p ∈ q ++ l, 1 ≤ p.1 ∧ p.1 < 2 * n ∧ 0 ≤ p.2 ∧ p.2 ≤ c := fun p hp => by
          rcases List.mem_append.mp hp with hp | hp
          · exact hqr p hp
          · exact hlr p hp
        have hlq : (q ++ l).length ≤ 3 * (j + 1) := by rw [List.length_append]; omega
        have hpr' : ∀ z ∈ pR us (q ++ l), 0 ≤ z ∧ z ≤ c := pR_rng hur fun p hp => (hqr' p hp).2.2
        have hpl' := pR_len (l := q ++ l) (ts := us)
        have o4 := okd_ts (ts := pR us (q ++ l)) (fun z hz => by have := hpr' z hz; omega) (by omega)
        have o5 := okd_rows (l := q ++ l) (fun p hp => by have := hqr' p hp; omega) (by omega)
        have m5 := mid_rows (l := q ++ l) (fun p hp => by have := hqr' p hp; omega) (by omega)
        have A1 := run_law_is_so (c := c) (us := us) (n := n) (q := q ++ l) hus hn' (by omega) (by omega) hur hqr' (by omega)
        have W1 := run_Disk_with_row (c := c) (ts := pR us q) (us := us) (n := n) (l := l) (q := q) (by omega) hn' (by omega) (by omega) hpr hlr (by omega) (by omega)
        have W2 := run_Disk_with_row (c := c) (ts := us) (us := us) (n := n) (l := q ++ l) (q := []) hus hn' (by omega) (by omega) hur hqr' (by omega) (by decide)
        rw [← pR_app] at W1
        simp only [List.map_nil, List.nil_append] at W2
        have Q1 := run_Disk_eq (c := c) (c' := c) (q := q ++ l) (q' := q ++ l) o4.2 o1.2 o5.2 o4.2 o1.2 o5.2
        have Q2 := run_Disk_eq (c := c) (c' := c) (q := q ++ l) (q' := q) o4.2 o1.2 o5.2 o2.2 o1.2 o3.2
        have k1 := okd_pair m1 m3
        have k2 := okd_pair m1 m5
        have hAB : (decide (pR us (q ++ l) = pR us q) && decide (q ++ l = q)) = decide (q = q ++ l) := by
          by_cases z : q ++ l = q
          · rw [z, decide_eq_true rfl, decide_eq_true rfl]; rfl
          · have z2 : ¬ q = q ++ l := fun w => z w.symm
            rw [decide_eq_false z, decide_eq_false z2, Bool.and_false]
        (simp (disch := first | with_reducible assumption | omega | (simp only [List.length_map, List.length_append, List.length_cons, List.length_nil, List.length_set, List.length_reverse, List.length_replicate] <;> omega) | with_reducible rfl) only [↓e_bind, ↓e_pure, ↓e_fail, ↓e_opt, ↓e_cst, ↓e_vr, ↓e_mv, ↓e_oE, ↓e_hasS, ↓e_rdT, ↓e_rdS, ↓e_bi, ↓e_bo, ↓e_un, ↓e_cb, ↓e_fz, ↓e_tst, ↓e_band, ↓e_bor, ↓e_bnot, ↓e_ttr, ↓e_bnotT, ↓e_tand, ↓e_tor, ↓e_tnot, ↓e_ife, ↓e_tTrue, ↓e_chn, ↓e_isNil, ↓e_isCons, ↓e_eLst, ↓e_eTup, ↓e_idx, ↓e_mkL, ↓e_mkLT, ↓e_mkT, ↓e_mkTT, ↓e_cat, ↓e_oN, ↓e_oI, ↓e_slL, ↓e_slT, ↓e_rep, ↓e_sSet, ↓e_sSetF, ↓e_sRet, ↓e_sEx, ↓e_sNext, ↓e_sBk, ↓e_sCt, ↓e_sIf, ↓e_sq, ↓e_frz, ↓e_tgN, ↓e_tgs0, ↓e_tgs1, ↓e_tgT1, ↓e_tgL1, ↓e_tgT2, ↓e_tgL2, ↓e_tgT3, ↓e_tgL3, ↓e_tgT4, ↓e_tgL4, ↓e_tgT5, ↓e_tgL5, ↓e_tgT6, ↓e_tgL6, ↓e_sAsg, ↓e_par2, ↓e_par3, ↓e_okT, ↓e_okS, ↓e_itL, ↓e_itT, ↓e_itR1, ↓e_itR2, ↓e_for, ↓e_fld, ↓e_sFld, ↓e_sApp, ↓e_sSetAt, ↓e_aNil, ↓e_aV, ↓e_aS, ↓e_call, ↓e_callN, ↓e_callG, ↓e_isC, ↓e_meth, ↓e_prop, ↓e_lenOwn, ↓e_subOwn, ↓e_eqOwn, ↓e_neOwn, ↓e_mk, ↓e_mkK, ↓e_mkKO, ↓e_if1, ↓e_if0, ↓e_hide, ↓e_ok2, ↓e_no2, ↓e_sqN, ↓e_sqR, ↓e_sqB, ↓e_sqC, ↓e_frzO, ↓e_frzI, ↓e_par2O, ↓e_par3O, ↓e_cnO', ↓e_mkO', ↓e_mkI, ↓e_lc', ↓e_while, ↓e_itE, ↓e_itEK, ↓e_itEQ, ↓e_itQ, ↓e_lrg, ↓e_itRd, ↓e_catT, ↓e_srt, ↓e_mkLQ, ↓e_mkTQ, ↓e_methK, ↓e_popAt, ↓e_eqOwnA, ↓e_isCL, ↓e_Go, ↓e_outq, ↓e_retR, ↓e_retN, ↓e_rdqN, ↓e_rdqC, ↓e_rdqB, ↓e_rdqR, ↓reduceIte, Bool.false_eq_true, eq_self, e_nc, e_nc0, e_nc1, Int.reduceEq, and_self, and_true, true_and, e_wi0, e_wi1, e_re0, e_re1, e_li0, e_li1, e_liA, e_liI, e_liR, List.getD_cons_zero, List.getD_cons_succ, e_assoc2, e_m1, e_m2, e_m3, e_m4, e_m7, e_m8, e_m9, e_m10, e_some, e_isAt, e_mvI, e_mvO, e_hasI, e_hasR, e_hasO, e_hasIo, e_rdI, e_rdR, e_rdO, e_rdIo, e_fO, e_add, e_sub, e_mul, e_div, e_mod, e_pow, e_lt, e_le, e_gt, e_ge, e_neg, e_eqI, e_eqStr, e_eqB, e_neI, e_neStr, e_neB, e_isB, e_notB, e_isN0, e_isN1, e_isN2, e_isN3, e_isN4, e_isN5, e_isN6, e_notN6, e_notN0, e_notN1, e_notN2, e_notN3, e_notN4, e_notN5, e_max2, e_min2, e_intI, e_intB, e_lenL, e_lenT, e_blO, e_isO, e_isB', e_isBT, e_ty0, e_ty1, e_ty2, e_ty3, e_ty4, e_ty5, e_map, e_bAt, e_trL, e_trT, e_trI, e_trB, e_trN, e_ifn, e_valF, e_valL, e_valI, e_vals0, e_vals1, e_valsM, e_l0, e_l1, e_l2, e_l3, e_l4, e_l5, e_l6, e_l7, e_l8, e_itsL, e_itsM, e_itsT, e_sz, e_lO, e_ixL, e_ixT, e_ixM, e_at0, e_at1, e_at2, e_at3, qv_lst, qv_tup, qv_int, qv_bl, qv_str, qv_non, qvs_0, qvs_1, qvs_2, qvs_3, qv_lt, qv_tl, e_enO, e_qL, e_qT, e_qM, e_lrgO, e_rdO', e_srtO, e_ints, e_mkcT, e_wv1, e_wv2, e_wv3, e_isX, e_pk1, e_pk2, e_isX0, e_isX1, e_isX2, e_isX3, e_isX4, e_isX5, e_icLi, e_icLl, e_oiO, e_repO, e_st, e_st0, e_st1, e_st2, e_st3, e_svF, e_svL, e_svI, e_okI, e_okR, e_rg1, e_rg2, e_fM, e_fldF, e_fldO, e_sf0, e_sf1, e_sf2, e_sf3, e_sf4, e_sf5, e_sf6, e_sf7, e_isLO, e_isLI, e_apO, e_apI, e_saO, e_saI, e_hrI, e_hrR, e_hrO, e_hrIo, e_bCons, e_bs0, e_bs1, e_bD, e_bR, e_bRs, e_bIs, e_bRi, e_bRr, e_bRo, e_bRio, e_bRoI, e_bRioI, e_allF0, e_allF1, e_bIo, e_bIi, e_ios0, e_iosD, e_iosR, e_iosI, e_pt0, e_pt1, e_ptO, e_ptI, e_cgO, e_cgA, e_apO', e_rds0, e_rdsD, e_rdsI, e_rdsV, e_rdsS, e_ap0, e_ap1, e_ap2, e_ap3, List.contains_cons, List.contains_nil, Nat.reduceBEq, e_cnT, e_hAgT, e_hAgS, e_icV, e_lnO, e_eqO, e_neO, e_mkR, e_mapAg, e_mkB, e_mkM, e_eCons, e_en0, e_enD, e_enR, e_enI, e_oCons, e_os0, e_osD, e_osR, e_osI, e_foO, e_runR, e_runN, List.getElem?_cons_zero, List.getElem?_cons_succ, List.set_cons_zero, List.set_cons_succ, List.cons_append, List.nil_append, List.map_nil, List.append_nil, List.length_cons, List.length_nil, List.length_map, List.any_cons, List.any_nil, decide_true, decide_false, Bool.not_true, Bool.not_false, Bool.false_or, Bool.or_false, Bool.true_or, Bool.or_true, Bool.and_true, Bool.true_and, Bool.and_false, Bool.false_and, beq_self_eq_true, Nat.reduceAdd, Nat.reduceSub, List.reduceReplicate, String.reduceBEq, Nat.reduceMul, Int.reduceAdd, Int.reduceSub, Int.reduceMul, Int.reduceNeg, Int.reduceLT, Int.reduceLE, Int.reducePow, Int.reduceToNat, Int.zero_add, md_law_draw, run_law_draw, hd, em, md_law_drawn_rows, hdr, md_Disk_with_row, W1, W2, cat_tv, md_law_is_so, A0, A1, md_Tree_init, run_Tree_init (c := c) (xs := us) (by omega) (by omega) hur (by omega), md_Disk_init, run_Disk_init, md_Disk_eq, Q1, Q2, run_Disk_eqL, eqD_q k1 k2, qvs_ints, qvs_tv, id, hAB])
        exact ⟨_, us, q ++ l, _, _, _, _, _, rfl, rfl, rfl, rfl, rfl, rfl, hus, hur, hqr', hlq⟩
    · obtain ⟨p, us, q, s8, s9, s10, s11, s12, rfl, h8, h9, h10, h11, h12, _⟩ := hp
      exact ⟨_, _, _, _, _, _, _, _, _, _, _, _, rfl, rfl, rfl, rfl, rfl, rfl, rfl, rfl, h8, h9, h10, h11, h12⟩
  · obtain ⟨s1, s2, s3, s4, s5, s6, s7, s8, s9, s10, s11, s12, rfl, h1, h2, h3, h4, h5, h6, h7, h8, h9, h10, h11, h12⟩ := hp
    (simp (disch := first | with_reducible assumption | omega | (simp only [List.length_map, List.length_append, List.length_cons, List.length_nil, List.length_set, List.length_reverse, List.length_replicate] <;> omega) | with_reducible rfl) only [↓e_bind, ↓e_pure, ↓e_fail, ↓e_opt, ↓e_cst, ↓e_vr, ↓e_mv, ↓e_oE, ↓e_hasS, ↓e_rdT, ↓e_rdS, ↓e_bi, ↓e_bo, ↓e_un, ↓e_cb, ↓e_fz, ↓e_tst, ↓e_band, ↓e_bor, ↓e_bnot, ↓e_ttr, ↓e_bnotT, ↓e_tand, ↓e_tor, ↓e_tnot, ↓e_ife, ↓e_tTrue, ↓e_chn, ↓e_isNil, ↓e_isCons, ↓e_eLst, ↓e_eTup, ↓e_idx, ↓e_mkL, ↓e_mkLT, ↓e_mkT, ↓e_mkTT, ↓e_cat, ↓e_oN, ↓e_oI, ↓e_slL, ↓e_slT, ↓e_rep, ↓e_sSet, ↓e_sSetF, ↓e_sRet, ↓e_sEx, ↓e_sNext, ↓e_sBk, ↓e_sCt, ↓e_sIf, ↓e_sq, ↓e_frz, ↓e_tgN, ↓e_tgs0, ↓e_tgs1, ↓e_tgT1, ↓e_tgL1, ↓e_tgT2, ↓e_tgL2, ↓e_tgT3, ↓e_tgL3, ↓e_tgT4, ↓e_tgL4, ↓e_tgT5, ↓e_tgL5, ↓e_tgT6, ↓e_tgL6, ↓e_sAsg, ↓e_par2, ↓e_par3, ↓e_okT, ↓e_okS, ↓e_itL, ↓e_itT, ↓e_itR1, ↓e_itR2, ↓e_for, ↓e_fld, ↓e_sFld, ↓e_sApp, ↓e_sSetAt, ↓e_aNil, ↓e_aV, ↓e_aS, ↓e_call, ↓e_callN, ↓e_callG, ↓e_isC, ↓e_meth, ↓e_prop, ↓e_lenOwn, ↓e_subOwn, ↓e_eqOwn, ↓e_neOwn, ↓e_mk, ↓e_mkK, ↓e_mkKO, ↓e_if1, ↓e_if0, ↓e_hide, ↓e_ok2, ↓e_no2, ↓e_sqN, ↓e_sqR, ↓e_sqB, ↓e_sqC, ↓e_frzO, ↓e_frzI, ↓e_par2O, ↓e_par3O, ↓e_cnO', ↓e_mkO', ↓e_mkI, ↓e_lc', ↓e_while, ↓e_itE, ↓e_itEK, ↓e_itEQ, ↓e_itQ, ↓e_lrg, ↓e_itRd, ↓e_catT, ↓e_srt, ↓e_mkLQ, ↓e_mkTQ, ↓e_methK, ↓e_popAt, ↓e_eqOwnA, ↓e_isCL, ↓e_Go, ↓e_outq, ↓e_retR, ↓e_retN, ↓e_rdqN, ↓e_rdqC, ↓e_rdqB, ↓e_rdqR, ↓reduceIte, Bool.false_eq_true, eq_self, e_nc, e_nc0, e_nc1, Int.reduceEq, and_self, and_true, true_and, e_wi0, e_wi1, e_re0, e_re1, e_li0, e_li1, e_liA, e_liI, e_liR, List.getD_cons_zero, List.getD_cons_succ, e_assoc2, e_m1, e_m2, e_m3, e_m4, e_m7, e_m8, e_m9, e_m10, e_some, e_isAt, e_mvI, e_mvO, e_hasI, e_hasR, e_hasO, e_hasIo, e_rdI, e_rdR, e_rdO, e_rdIo, e_fO, e_add, e_sub, e_mul, e_div, e_mod, e_pow, e_lt, e_le, e_gt, e_ge, e_neg, e_eqI, e_eqStr, e_eqB, e_neI, e_neStr, e_neB, e_isB, e_notB, e_isN0, e_isN1, e_isN2, e_isN3, e_isN4, e_isN5, e_isN6, e_notN6, e_notN0, e_notN1, e_notN2, e_notN3, e_notN4, e_notN5, e_max2, e_min2, e_intI, e_intB, e_lenL, e_lenT, e_blO, e_isO, e_isB', e_isBT, e_ty0, e_ty1, e_ty2, e_ty3, e_ty4, e_ty5, e_map, e_bAt, e_trL, e_trT, e_trI, e_trB, e_trN, e_ifn, e_valF, e_valL, e_valI, e_vals0, e_vals1, e_valsM, e_l0, e_l1, e_l2, e_l3, e_l4, e_l5, e_l6, e_l7, e_l8, e_itsL, e_itsM, e_itsT, e_sz, e_lO, e_ixL, e_ixT, e_ixM, e_at0, e_at1, e_at2, e_at3, qv_lst, qv_tup, qv_int, qv_bl, qv_str, qv_non, qvs_0, qvs_1, qvs_2, qvs_3, qv_lt, qv_tl, e_enO, e_qL, e_qT, e_qM, e_lrgO, e_rdO', e_srtO, e_ints, e_mkcT, e_wv1, e_wv2, e_wv3, e_isX, e_pk1, e_pk2, e_isX0, e_isX1, e_isX2, e_isX3, e_isX4, e_isX5, e_icLi, e_icLl, e_oiO, e_repO, e_st, e_st0, e_st1, e_st2, e_st3, e_svF, e_svL, e_svI, e_okI, e_okR, e_rg1, e_rg2, e_fM, e_fldF, e_fldO, e_sf0, e_sf1, e_sf2, e_sf3, e_sf4, e_sf5, e_sf6, e_sf7, e_isLO, e_isLI, e_apO, e_apI, e_saO, e_saI, e_hrI, e_hrR, e_hrO, e_hrIo, e_bCons, e_bs0, e_bs1, e_bD, e_bR, e_bRs, e_bIs, e_bRi, e_bRr, e_bRo, e_bRio, e_bRoI, e_bRioI, e_allF0, e_allF1, e_bIo, e_bIi, e_ios0, e_iosD, e_iosR, e_iosI, e_pt0, e_pt1, e_ptO, e_ptI, e_cgO, e_cgA, e_apO', e_rds0, e_rdsD, e_rdsI, e_rdsV, e_rdsS, e_ap0, e_ap1, e_ap2, e_ap3, List.contains_cons, List.contains_nil, Nat.reduceBEq, e_cnT, e_hAgT, e_hAgS, e_icV, e_lnO, e_eqO, e_neO, e_mkR, e_mapAg, e_mkB, e_mkM, e_eCons, e_en0, e_enD, e_enR, e_enI, e_oCons, e_os0, e_osD, e_osR, e_osI, e_foO, e_runR, e_runN, List.getElem?_cons_zero, List.getElem?_cons_succ, List.set_cons_zero, List.set_cons_succ, List.cons_append, List.nil_append, List.map_nil, List.append_nil, List.length_cons, List.length_nil, List.length_map, List.any_cons, List.any_nil, decide_true, decide_false, Bool.not_true, Bool.not_false, Bool.false_or, Bool.or_false, Bool.true_or, Bool.or_true, Bool.and_true, Bool.true_and, Bool.and_false, Bool.false_and, beq_self_eq_true, Nat.reduceAdd, Nat.reduceSub, List.reduceReplicate, String.reduceBEq, Nat.reduceMul, Int.reduceAdd, Int.reduceSub, Int.reduceMul, Int.reduceNeg, Int.reduceLT, Int.reduceLE, Int.reducePow, Int.reduceToNat])
end Rt
set_option maxHeartbeats 8000000
namespace Rt
open PySem PySem.Spec L2 Z
theorem all_mk {l : PySem.W.OpenLaw} {w : World} {K : PySem.W.Frag} {h : Heap} {mg : Str → Option Value} {fa C_Tree C_Disk f_is_integer f_are_integers f_are_told f_Tree_init f_Tree_told f_Tree_len f_Tree_eq f_check_tree f_is_write f_check_row f_written f_Disk_init f_Disk_now f_Disk_flushed f_Disk_pending f_Disk_with_row f_Disk_with_flush f_Disk_eq f_law_opened f_law_draw f_law_pick f_law_write f_law_drawn_told f_law_drawn_rows f_law_is_so f_law pp_Tree_told pp_Disk_now pp_Disk_flushed pp_Disk_pending t_NODES : Addr} (X : K.In h) (G : h.Ns mainGlobals mg) (hfa : mg "law" = some (.ref fa))
    {od_is_integer an_is_integer od_are_integers an_are_integers od_are_told an_are_told od_Tree_init an_Tree_init od_Tree_told an_Tree_told od_Tree_len an_Tree_len od_Tree_eq an_Tree_eq od_check_tree an_check_tree od_is_write an_is_write od_check_row an_check_row od_written an_written od_Disk_init an_Disk_init od_Disk_now an_Disk_now od_Disk_flushed an_Disk_flushed od_Disk_pending an_Disk_pending od_Disk_with_row an_Disk_with_row od_Disk_with_flush an_Disk_with_flush od_Disk_eq an_Disk_eq od_law_opened an_law_opened od_law_draw an_law_draw od_law_pick an_law_pick od_law_write an_law_write od_law_drawn_told an_law_drawn_told od_law_drawn_rows an_law_drawn_rows od_law_is_so an_law_is_so od_law an_law : Option Addr} {sl_is_integer sl_are_integers sl_are_told sl_Tree_init sl_Tree_told sl_Tree_len sl_Tree_eq sl_check_tree sl_is_write sl_check_row sl_written sl_Disk_init sl_Disk_now sl_Disk_flushed sl_Disk_pending sl_Disk_with_row sl_Disk_with_flush sl_Disk_eq sl_law_opened sl_law_draw sl_law_pick sl_law_write sl_law_drawn_told sl_law_drawn_rows sl_law_is_so sl_law : Array (Option Value)} {oc_is_integer kV_is_integer dc_is_integer pm_is_integer cd_is_integer ct_is_integer oc_are_integers kV_are_integers dc_are_integers pm_are_integers cd_are_integers ct_are_integers oc_are_told kV_are_told dc_are_told pm_are_told cd_are_told ct_are_told oc_Tree_init kV_Tree_init dc_Tree_init pm_Tree_init cd_Tree_init ct_Tree_init oc_Tree_told kV_Tree_told dc_Tree_told pm_Tree_told cd_Tree_told ct_Tree_told oc_Tree_len kV_Tree_len dc_Tree_len pm_Tree_len cd_Tree_len ct_Tree_len oc_Tree_eq kV_Tree_eq dc_Tree_eq pm_Tree_eq cd_Tree_eq ct_Tree_eq oc_check_tree kV_check_tree dc_check_tree pm_check_tree cd_check_tree ct_check_tree oc_is_write kV_is_write dc_is_write pm_is_write cd_is_write ct_is_write oc_check_row kV_check_row dc_check_row pm_check_row cd_check_row ct_check_row oc_written kV_written dc_written pm_written cd_written ct_written oc_Disk_init kV_Disk_init dc_Disk_init pm_Disk_init cd_Disk_init ct_Disk_init oc_Disk_now kV_Disk_now dc_Disk_now pm_Disk_now cd_Disk_now ct_Disk_now oc_Disk_flushed kV_Disk_flushed dc_Disk_flushed pm_Disk_flushed cd_Disk_flushed ct_Disk_flushed oc_Disk_pending kV_Disk_pending dc_Disk_pending pm_Disk_pending cd_Disk_pending ct_Disk_pending oc_Disk_with_row kV_Disk_with_row dc_Disk_with_row pm_Disk_with_row cd_Disk_with_row ct_Disk_with_row oc_Disk_with_flush kV_Disk_with_flush dc_Disk_with_flush pm_Disk_with_flush cd_Disk_with_flush ct_Disk_with_flush oc_Disk_eq kV_Disk_eq dc_Disk_eq pm_Disk_eq cd_Disk_eq ct_Disk_eq oc_law_opened kV_law_opened dc_law_opened pm_law_opened cd_law_opened ct_law_opened oc_law_draw kV_law_draw dc_law_draw pm_law_draw cd_law_draw ct_law_draw oc_law_pick kV_law_pick dc_law_pick pm_law_pick cd_law_pick ct_law_pick oc_law_write kV_law_write dc_law_write pm_law_write cd_law_write ct_law_write oc_law_drawn_told kV_law_drawn_told dc_law_drawn_told pm_law_drawn_told cd_law_drawn_told ct_law_drawn_told oc_law_drawn_rows kV_law_drawn_rows dc_law_drawn_rows pm_law_drawn_rows cd_law_drawn_rows ct_law_drawn_rows oc_law_is_so kV_law_is_so dc_law_is_so pm_law_is_so cd_law_is_so ct_law_is_so oc_law kV_law dc_law pm_law cd_law ct_law : Value} {tk_MOST_CLASSES : Tok}
    {u0_NODES u1_NODES u2_NODES u3_NODES u4_NODES : Tok} {dt_NODES : Option Addr} {nt_NODES : Nat} {st_NODES : Array (Option Value)}
    {rest_Tree_told rest_Disk_now rest_Disk_flushed rest_Disk_pending : List Value}
    (aC_Tree : PySem.W.nsIn K mainGlobals "Tree" = some (some (.ref C_Tree)))
    (aC_Disk : PySem.W.nsIn K mainGlobals "Disk" = some (some (.ref C_Disk)))
    (a_is_integer : PySem.W.nsIn K mainGlobals "is_integer" = some (some (.ref f_is_integer)))
    (l_is_integer : K.lookup f_is_integer = some ⟨oc_is_integer, od_is_integer, .func (PySem.W.fnOf "is_integer" "is_integer" (defArgs s_is_integer) (defBody s_is_integer) (defScope s_is_integer) .none kV_is_integer dc_is_integer pm_is_integer an_is_integer cd_is_integer ct_is_integer), sl_is_integer⟩)
    (c_is_integer : PySem.W.codeIn K cd_is_integer "is_integer" = true)
    (k_is_integer : PySem.W.keepIn K (.ref f_is_integer) = true)
    (a_are_integers : PySem.W.nsIn K mainGlobals "are_integers" = some (some (.ref f_are_integers)))
    (l_are_integers : K.lookup f_are_integers = some ⟨oc_are_integers, od_are_integers, .func (PySem.W.fnOf "are_integers" "are_integers" (defArgs s_are_integers) (defBody s_are_integers) (defScope s_are_integers) .none kV_are_integers dc_are_integers pm_are_integers an_are_integers cd_are_integers ct_are_integers), sl_are_integers⟩)
    (c_are_integers : PySem.W.codeIn K cd_are_integers "are_integers" = true)
    (k_are_integers : PySem.W.keepIn K (.ref f_are_integers) = true)
    (a_are_told : PySem.W.nsIn K mainGlobals "are_told" = some (some (.ref f_are_told)))
    (l_are_told : K.lookup f_are_told = some ⟨oc_are_told, od_are_told, .func (PySem.W.fnOf "are_told" "are_told" (defArgs s_are_told) (defBody s_are_told) (defScope s_are_told) .none kV_are_told dc_are_told pm_are_told an_are_told cd_are_told ct_are_told), sl_are_told⟩)
    (c_are_told : PySem.W.codeIn K cd_are_told "are_told" = true)
    (k_are_told : PySem.W.keepIn K (.ref f_are_told) = true)
    (a_Tree_init : PySem.W.findIn K (.ref C_Tree) "__init__" = some (some (.ref f_Tree_init)))
    (i_Tree_init : PySem.W.isFn K (.ref f_Tree_init) = true)
    (l_Tree_init : K.lookup f_Tree_init = some ⟨oc_Tree_init, od_Tree_init, .func (PySem.W.fnOf "__init__" "Tree.__init__" (defArgs s_Tree_init) (defBody s_Tree_init) (defScope s_Tree_init) .none kV_Tree_init dc_Tree_init pm_Tree_init an_Tree_init cd_Tree_init ct_Tree_init), sl_Tree_init⟩)
    (c_Tree_init : PySem.W.codeIn K cd_Tree_init "Tree.__init__" = true)
    (k_Tree_init : PySem.W.keepIn K (.ref f_Tree_init) = true)
    (pa_Tree_told : PySem.W.findIn K (.ref C_Tree) "told" = some (some (.ref pp_Tree_told)))
    (pt_Tree_told : PySem.W.specialIn K (.ref pp_Tree_told) "__get__" = some (some (.builtin "property.__get__")))
    (pk_Tree_told : PySem.W.takesIn K (.ref pp_Tree_told) = some true)
    (pr_Tree_told : PySem.W.recIn K pp_Tree_told "property" = some (.ref f_Tree_told :: rest_Tree_told))
    (l_Tree_told : K.lookup f_Tree_told = some ⟨oc_Tree_told, od_Tree_told, .func (PySem.W.fnOf "told" "Tree.told" (defArgs s_Tree_told) (defBody s_Tree_told) (defScope s_Tree_told) .none kV_Tree_told dc_Tree_told pm_Tree_told an_Tree_told cd_Tree_told ct_Tree_told), sl_Tree_told⟩)
    (c_Tree_told : PySem.W.codeIn K cd_Tree_told "Tree.told" = true)
    (k_Tree_told : PySem.W.keepIn K (.ref f_Tree_told) = true)
    (a_Tree_len : PySem.W.findIn K (.ref C_Tree) "__len__" = some (some (.ref f_Tree_len)))
    (i_Tree_len : PySem.W.isFn K (.ref f_Tree_len) = true)
    (l_Tree_len : K.lookup f_Tree_len = some ⟨oc_Tree_len, od_Tree_len, .func (PySem.W.fnOf "__len__" "Tree.__len__" (defArgs s_Tree_len) (defBody s_Tree_len) (defScope s_Tree_len) .none kV_Tree_len dc_Tree_len pm_Tree_len an_Tree_len cd_Tree_len ct_Tree_len), sl_Tree_len⟩)
    (c_Tree_len : PySem.W.codeIn K cd_Tree_len "Tree.__len__" = true)
    (k_Tree_len : PySem.W.keepIn K (.ref f_Tree_len) = true)
    (a_Tree_eq : PySem.W.findIn K (.ref C_Tree) "__eq__" = some (some (.ref f_Tree_eq)))
    (i_Tree_eq : PySem.W.isFn K (.ref f_Tree_eq) = true)
    (l_Tree_eq : K.lookup f_Tree_eq = some ⟨oc_Tree_eq, od_Tree_eq, .func (PySem.W.fnOf "__eq__" "Tree.__eq__" (defArgs s_Tree_eq) (defBody s_Tree_eq) (defScope s_Tree_eq) .none kV_Tree_eq dc_Tree_eq pm_Tree_eq an_Tree_eq cd_Tree_eq ct_Tree_eq), sl_Tree_eq⟩)
    (c_Tree_eq : PySem.W.codeIn K cd_Tree_eq "Tree.__eq__" = true)
    (k_Tree_eq : PySem.W.keepIn K (.ref f_Tree_eq) = true)
    (a_check_tree : PySem.W.nsIn K mainGlobals "check_tree" = some (some (.ref f_check_tree)))
    (l_check_tree : K.lookup f_check_tree = some ⟨oc_check_tree, od_check_tree, .func (PySem.W.fnOf "check_tree" "check_tree" (defArgs s_check_tree) (defBody s_check_tree) (defScope s_check_tree) .none kV_check_tree dc_check_tree pm_check_tree an_check_tree cd_check_tree ct_check_tree), sl_check_tree⟩)
    (c_check_tree : PySem.W.codeIn K cd_check_tree "check_tree" = true)
    (k_check_tree : PySem.W.keepIn K (.ref f_check_tree) = true)
    (a_is_write : PySem.W.nsIn K mainGlobals "is_write" = some (some (.ref f_is_write)))
    (l_is_write : K.lookup f_is_write = some ⟨oc_is_write, od_is_write, .func (PySem.W.fnOf "is_write" "is_write" (defArgs s_is_write) (defBody s_is_write) (defScope s_is_write) .none kV_is_write dc_is_write pm_is_write an_is_write cd_is_write ct_is_write), sl_is_write⟩)
    (c_is_write : PySem.W.codeIn K cd_is_write "is_write" = true)
    (k_is_write : PySem.W.keepIn K (.ref f_is_write) = true)
    (a_check_row : PySem.W.nsIn K mainGlobals "check_row" = some (some (.ref f_check_row)))
    (l_check_row : K.lookup f_check_row = some ⟨oc_check_row, od_check_row, .func (PySem.W.fnOf "check_row" "check_row" (defArgs s_check_row) (defBody s_check_row) (defScope s_check_row) .none kV_check_row dc_check_row pm_check_row an_check_row cd_check_row ct_check_row), sl_check_row⟩)
    (c_check_row : PySem.W.codeIn K cd_check_row "check_row" = true)
    (k_check_row : PySem.W.keepIn K (.ref f_check_row) = true)
    (a_written : PySem.W.nsIn K mainGlobals "written" = some (some (.ref f_written)))
    (l_written : K.lookup f_written = some ⟨oc_written, od_written, .func (PySem.W.fnOf "written" "written" (defArgs s_written) (defBody s_written) (defScope s_written) .none kV_written dc_written pm_written an_written cd_written ct_written), sl_written⟩)
    (c_written : PySem.W.codeIn K cd_written "written" = true)
    (k_written : PySem.W.keepIn K (.ref f_written) = true)
    (a_Disk_init : PySem.W.findIn K (.ref C_Disk) "__init__" = some (some (.ref f_Disk_init)))
    (i_Disk_init : PySem.W.isFn K (.ref f_Disk_init) = true)
    (l_Disk_init : K.lookup f_Disk_init = some ⟨oc_Disk_init, od_Disk_init, .func (PySem.W.fnOf "__init__" "Disk.__init__" (defArgs s_Disk_init) (defBody s_Disk_init) (defScope s_Disk_init) .none kV_Disk_init dc_Disk_init pm_Disk_init an_Disk_init cd_Disk_init ct_Disk_init), sl_Disk_init⟩)
    (c_Disk_init : PySem.W.codeIn K cd_Disk_init "Disk.__init__" = true)
    (k_Disk_init : PySem.W.keepIn K (.ref f_Disk_init) = true)
    (pa_Disk_now : PySem.W.findIn K (.ref C_Disk) "now" = some (some (.ref pp_Disk_now)))
    (pt_Disk_now : PySem.W.specialIn K (.ref pp_Disk_now) "__get__" = some (some (.builtin "property.__get__")))
    (pk_Disk_now : PySem.W.takesIn K (.ref pp_Disk_now) = some true)
    (pr_Disk_now : PySem.W.recIn K pp_Disk_now "property" = some (.ref f_Disk_now :: rest_Disk_now))
    (l_Disk_now : K.lookup f_Disk_now = some ⟨oc_Disk_now, od_Disk_now, .func (PySem.W.fnOf "now" "Disk.now" (defArgs s_Disk_now) (defBody s_Disk_now) (defScope s_Disk_now) .none kV_Disk_now dc_Disk_now pm_Disk_now an_Disk_now cd_Disk_now ct_Disk_now), sl_Disk_now⟩)
    (c_Disk_now : PySem.W.codeIn K cd_Disk_now "Disk.now" = true)
    (k_Disk_now : PySem.W.keepIn K (.ref f_Disk_now) = true)
    (pa_Disk_flushed : PySem.W.findIn K (.ref C_Disk) "flushed" = some (some (.ref pp_Disk_flushed)))
    (pt_Disk_flushed : PySem.W.specialIn K (.ref pp_Disk_flushed) "__get__" = some (some (.builtin "property.__get__")))
    (pk_Disk_flushed : PySem.W.takesIn K (.ref pp_Disk_flushed) = some true)
    (pr_Disk_flushed : PySem.W.recIn K pp_Disk_flushed "property" = some (.ref f_Disk_flushed :: rest_Disk_flushed))
    (l_Disk_flushed : K.lookup f_Disk_flushed = some ⟨oc_Disk_flushed, od_Disk_flushed, .func (PySem.W.fnOf "flushed" "Disk.flushed" (defArgs s_Disk_flushed) (defBody s_Disk_flushed) (defScope s_Disk_flushed) .none kV_Disk_flushed dc_Disk_flushed pm_Disk_flushed an_Disk_flushed cd_Disk_flushed ct_Disk_flushed), sl_Disk_flushed⟩)
    (c_Disk_flushed : PySem.W.codeIn K cd_Disk_flushed "Disk.flushed" = true)
    (k_Disk_flushed : PySem.W.keepIn K (.ref f_Disk_flushed) = true)
    (pa_Disk_pending : PySem.W.findIn K (.ref C_Disk) "pending" = some (some (.ref pp_Disk_pending)))
    (pt_Disk_pending : PySem.W.specialIn K (.ref pp_Disk_pending) "__get__" = some (some (.builtin "property.__get__")))
    (pk_Disk_pending : PySem.W.takesIn K (.ref pp_Disk_pending) = some true)
    (pr_Disk_pending : PySem.W.recIn K pp_Disk_pending "property" = some (.ref f_Disk_pending :: rest_Disk_pending))
    (l_Disk_pending : K.lookup f_Disk_pending = some ⟨oc_Disk_pending, od_Disk_pending, .func (PySem.W.fnOf "pending" "Disk.pending" (defArgs s_Disk_pending) (defBody s_Disk_pending) (defScope s_Disk_pending) .none kV_Disk_pending dc_Disk_pending pm_Disk_pending an_Disk_pending cd_Disk_pending ct_Disk_pending), sl_Disk_pending⟩)
    (c_Disk_pending : PySem.W.codeIn K cd_Disk_pending "Disk.pending" = true)
    (k_Disk_pending : PySem.W.keepIn K (.ref f_Disk_pending) = true)
    (a_Disk_with_row : PySem.W.findIn K (.ref C_Disk) "with_row" = some (some (.ref f_Disk_with_row)))
    (i_Disk_with_row : PySem.W.isFn K (.ref f_Disk_with_row) = true)
    (l_Disk_with_row : K.lookup f_Disk_with_row = some ⟨oc_Disk_with_row, od_Disk_with_row, .func (PySem.W.fnOf "with_row" "Disk.with_row" (defArgs s_Disk_with_row) (defBody s_Disk_with_row) (defScope s_Disk_with_row) .none kV_Disk_with_row dc_Disk_with_row pm_Disk_with_row an_Disk_with_row cd_Disk_with_row ct_Disk_with_row), sl_Disk_with_row⟩)
    (c_Disk_with_row : PySem.W.codeIn K cd_Disk_with_row "Disk.with_row" = true)
    (k_Disk_with_row : PySem.W.keepIn K (.ref f_Disk_with_row) = true)
    (a_Disk_with_flush : PySem.W.findIn K (.ref C_Disk) "with_flush" = some (some (.ref f_Disk_with_flush)))
    (i_Disk_with_flush : PySem.W.isFn K (.ref f_Disk_with_flush) = true)
    (l_Disk_with_flush : K.lookup f_Disk_with_flush = some ⟨oc_Disk_with_flush, od_Disk_with_flush, .func (PySem.W.fnOf "with_flush" "Disk.with_flush" (defArgs s_Disk_with_flush) (defBody s_Disk_with_flush) (defScope s_Disk_with_flush) .none kV_Disk_with_flush dc_Disk_with_flush pm_Disk_with_flush an_Disk_with_flush cd_Disk_with_flush ct_Disk_with_flush), sl_Disk_with_flush⟩)
    (c_Disk_with_flush : PySem.W.codeIn K cd_Disk_with_flush "Disk.with_flush" = true)
    (k_Disk_with_flush : PySem.W.keepIn K (.ref f_Disk_with_flush) = true)
    (a_Disk_eq : PySem.W.findIn K (.ref C_Disk) "__eq__" = some (some (.ref f_Disk_eq)))
    (i_Disk_eq : PySem.W.isFn K (.ref f_Disk_eq) = true)
    (l_Disk_eq : K.lookup f_Disk_eq = some ⟨oc_Disk_eq, od_Disk_eq, .func (PySem.W.fnOf "__eq__" "Disk.__eq__" (defArgs s_Disk_eq) (defBody s_Disk_eq) (defScope s_Disk_eq) .none kV_Disk_eq dc_Disk_eq pm_Disk_eq an_Disk_eq cd_Disk_eq ct_Disk_eq), sl_Disk_eq⟩)
    (c_Disk_eq : PySem.W.codeIn K cd_Disk_eq "Disk.__eq__" = true)
    (k_Disk_eq : PySem.W.keepIn K (.ref f_Disk_eq) = true)
    (a_law_opened : PySem.W.nsIn K mainGlobals "_law_opened" = some (some (.ref f_law_opened)))
    (l_law_opened : K.lookup f_law_opened = some ⟨oc_law_opened, od_law_opened, .func (PySem.W.fnOf "_law_opened" "_law_opened" (defArgs s_law_opened) (defBody s_law_opened) (defScope s_law_opened) .none kV_law_opened dc_law_opened pm_law_opened an_law_opened cd_law_opened ct_law_opened), sl_law_opened⟩)
    (c_law_opened : PySem.W.codeIn K cd_law_opened "_law_opened" = true)
    (k_law_opened : PySem.W.keepIn K (.ref f_law_opened) = true)
    (a_law_draw : PySem.W.nsIn K mainGlobals "_law_draw" = some (some (.ref f_law_draw)))
    (l_law_draw : K.lookup f_law_draw = some ⟨oc_law_draw, od_law_draw, .func (PySem.W.fnOf "_law_draw" "_law_draw" (defArgs s_law_draw) (defBody s_law_draw) (defScope s_law_draw) .none kV_law_draw dc_law_draw pm_law_draw an_law_draw cd_law_draw ct_law_draw), sl_law_draw⟩)
    (c_law_draw : PySem.W.codeIn K cd_law_draw "_law_draw" = true)
    (k_law_draw : PySem.W.keepIn K (.ref f_law_draw) = true)
    (a_law_pick : PySem.W.nsIn K mainGlobals "_law_pick" = some (some (.ref f_law_pick)))
    (l_law_pick : K.lookup f_law_pick = some ⟨oc_law_pick, od_law_pick, .func (PySem.W.fnOf "_law_pick" "_law_pick" (defArgs s_law_pick) (defBody s_law_pick) (defScope s_law_pick) .none kV_law_pick dc_law_pick pm_law_pick an_law_pick cd_law_pick ct_law_pick), sl_law_pick⟩)
    (c_law_pick : PySem.W.codeIn K cd_law_pick "_law_pick" = true)
    (k_law_pick : PySem.W.keepIn K (.ref f_law_pick) = true)
    (a_law_write : PySem.W.nsIn K mainGlobals "_law_write" = some (some (.ref f_law_write)))
    (l_law_write : K.lookup f_law_write = some ⟨oc_law_write, od_law_write, .func (PySem.W.fnOf "_law_write" "_law_write" (defArgs s_law_write) (defBody s_law_write) (defScope s_law_write) .none kV_law_write dc_law_write pm_law_write an_law_write cd_law_write ct_law_write), sl_law_write⟩)
    (c_law_write : PySem.W.codeIn K cd_law_write "_law_write" = true)
    (k_law_write : PySem.W.keepIn K (.ref f_law_write) = true)
    (a_law_drawn_told : PySem.W.nsIn K mainGlobals "_law_drawn_told" = some (some (.ref f_law_drawn_told)))
    (l_law_drawn_told : K.lookup f_law_drawn_told = some ⟨oc_law_drawn_told, od_law_drawn_told, .func (PySem.W.fnOf "_law_drawn_told" "_law_drawn_told" (defArgs s_law_drawn_told) (defBody s_law_drawn_told) (defScope s_law_drawn_told) .none kV_law_drawn_told dc_law_drawn_told pm_law_drawn_told an_law_drawn_told cd_law_drawn_told ct_law_drawn_told), sl_law_drawn_told⟩)
    (c_law_drawn_told : PySem.W.codeIn K cd_law_drawn_told "_law_drawn_told" = true)
    (k_law_drawn_told : PySem.W.keepIn K (.ref f_law_drawn_told) = true)
    (a_law_drawn_rows : PySem.W.nsIn K mainGlobals "_law_drawn_rows" = some (some (.ref f_law_drawn_rows)))
    (l_law_drawn_rows : K.lookup f_law_drawn_rows = some ⟨oc_law_drawn_rows, od_law_drawn_rows, .func (PySem.W.fnOf "_law_drawn_rows" "_law_drawn_rows" (defArgs s_law_drawn_rows) (defBody s_law_drawn_rows) (defScope s_law_drawn_rows) .none kV_law_drawn_rows dc_law_drawn_rows pm_law_drawn_rows an_law_drawn_rows cd_law_drawn_rows ct_law_drawn_rows), sl_law_drawn_rows⟩)
    (c_law_drawn_rows : PySem.W.codeIn K cd_law_drawn_rows "_law_drawn_rows" = true)
    (k_law_drawn_rows : PySem.W.keepIn K (.ref f_law_drawn_rows) = true)
    (a_law_is_so : PySem.W.nsIn K mainGlobals "_law_is_so" = some (some (.ref f_law_is_so)))
    (l_law_is_so : K.lookup f_law_is_so = some ⟨oc_law_is_so, od_law_is_so, .func (PySem.W.fnOf "_law_is_so" "_law_is_so" (defArgs s_law_is_so) (defBody s_law_is_so) (defScope s_law_is_so) .none kV_law_is_so dc_law_is_so pm_law_is_so an_law_is_so cd_law_is_so ct_law_is_so), sl_law_is_so⟩)
    (c_law_is_so : PySem.W.codeIn K cd_law_is_so "_law_is_so" = true)
    (k_law_is_so : PySem.W.keepIn K (.ref f_law_is_so) = true)
    (a_law : PySem.W.nsIn K mainGlobals "law" = some (some (.ref f_law)))
    (l_law : K.lookup f_law = some ⟨oc_law, od_law, .func (PySem.W.fnOf "law" "law" (defArgs s_law) (defBody s_law) (defScope s_law) .none kV_law dc_law pm_law an_law cd_law ct_law), sl_law⟩)
    (c_law : PySem.W.codeIn K cd_law "law" = true)
    (k_law : PySem.W.keepIn K (.ref f_law) = true)
    (pg_Tree : PySem.W.plainGet K C_Tree Str.empty = true)
    (hd_Tree : PySem.W.hasDictIn K C_Tree = true)
    (po_Tree : PySem.W.plainOver K C_Tree = true)
    (sa_Tree : PySem.W.findIn K (.ref C_Tree) "__setattr__" = some (some (.builtin "object.__setattr__")))
    (mk_Tree : PySem.W.makesIn K C_Tree = true)
    (kc_Tree : PySem.W.keepIn K (.ref C_Tree) = true)
    (nf_Tree_classes : PySem.W.findIn K (.ref C_Tree) "classes" = some none)
    (nf_Tree_told : PySem.W.findIn K (.ref C_Tree) "_told" = some none)
    (hm_Tree : PySem.W.mroIn K C_Tree (.type "object") = some true)
    (ha_Tree : PySem.W.findIn K (.ref C_Tree) "__class__" = some (some (.builtin "object.__class__")))
    (hn_Tree : PySem.W.specialIn K (.builtin "object.__class__") "__get__" = some (some (.builtin "getset_descriptor.__get__")))
    (ht_Tree : PySem.W.takesIn K (.builtin "object.__class__") = some true)
    (ss_Tree : PySem.W.subIn K (.ref C_Tree) (.ref C_Tree) = some true)
    (ne_Tree : PySem.W.findIn K (.ref C_Tree) "__ne__" = some (some (.builtin "object.__ne__")))
    (pg_Disk : PySem.W.plainGet K C_Disk Str.empty = true)
    (hd_Disk : PySem.W.hasDictIn K C_Disk = true)
    (po_Disk : PySem.W.plainOver K C_Disk = true)
    (sa_Disk : PySem.W.findIn K (.ref C_Disk) "__setattr__" = some (some (.builtin "object.__setattr__")))
    (mk_Disk : PySem.W.makesIn K C_Disk = true)
    (kc_Disk : PySem.W.keepIn K (.ref C_Disk) = true)
    (nf_Disk_now : PySem.W.findIn K (.ref C_Disk) "_now" = some none)
    (nf_Disk_flushed : PySem.W.findIn K (.ref C_Disk) "_flushed" = some none)
    (nf_Disk_pending : PySem.W.findIn K (.ref C_Disk) "_pending" = some none)
    (hm_Disk : PySem.W.mroIn K C_Disk (.type "object") = some true)
    (ha_Disk : PySem.W.findIn K (.ref C_Disk) "__class__" = some (some (.builtin "object.__class__")))
    (hn_Disk : PySem.W.specialIn K (.builtin "object.__class__") "__get__" = some (some (.builtin "getset_descriptor.__get__")))
    (ht_Disk : PySem.W.takesIn K (.builtin "object.__class__") = some true)
    (sb_Disk_NoneType : PySem.W.subIn K (.type "NoneType") (.ref C_Disk) = some false)
    (sb_Disk_bool : PySem.W.subIn K (.type "bool") (.ref C_Disk) = some false)
    (sb_Disk_int : PySem.W.subIn K (.type "int") (.ref C_Disk) = some false)
    (sb_Disk_str : PySem.W.subIn K (.type "str") (.ref C_Disk) = some false)
    (sb_Disk_tuple : PySem.W.subIn K (.type "tuple") (.ref C_Disk) = some false)
    (sb_Disk_list : PySem.W.subIn K (.type "list") (.ref C_Disk) = some false)
    (ic_Disk : PySem.W.isClsIn K C_Disk = true)
    (ty_Disk : PySem.W.typeIn K (.ref C_Disk) = some (.type "type"))
    (so_Tree_Disk : PySem.W.subIn K (.ref C_Tree) (.ref C_Disk) = some false)
    (ne_Disk : PySem.W.findIn K (.ref C_Disk) "__ne__" = some (some (.builtin "object.__ne__")))
    (cc_MOST_CLASSES : PySem.W.nsIn K mainGlobals "MOST_CLASSES" = some (some (.int 8 tk_MOST_CLASSES)))
    (gt_NODES : PySem.W.nsIn K mainGlobals "NODES" = some (some (.ref t_NODES)))
    (lt_NODES : K.lookup t_NODES = some ⟨.type "tuple", dt_NODES, .seq #[.int 3 u0_NODES, .int 7 u1_NODES, .int 15 u2_NODES, .int 31 u3_NODES, .int 63 u4_NODES] nt_NODES, st_NODES⟩)
    (z_bool : PySem.W.nsIn K mainGlobals "bool" = some none)
    (z_int : PySem.W.nsIn K mainGlobals "int" = some none)
    (z_isinstance : PySem.W.nsIn K mainGlobals "isinstance" = some none)
    (z_len : PySem.W.nsIn K mainGlobals "len" = some none)
    (z_list : PySem.W.nsIn K mainGlobals "list" = some none)
    (z_max : PySem.W.nsIn K mainGlobals "max" = some none)
    (z_min : PySem.W.nsIn K mainGlobals "min" = some none)
    (z_range : PySem.W.nsIn K mainGlobals "range" = some none)
    (z_tuple : PySem.W.nsIn K mainGlobals "tuple" = some none)
    : ∃ fd : FuncData, (∀ (s : Shared) (v : Value), BindsTo s fd ⟨[v], []⟩ [("_law_script", v)]) ∧ ∀ base : Heap, K.In base → base.Ns mainGlobals mg → FnOk l.prog w K mg base CX0 8 fa fd ["_law_script"] (spLaw K) := by
  have e := hfa.symm.trans (PySem.W.mg_of X G a_law)
  cases e
  have F_is_integer := fun_mk (st := s_is_integer) l_is_integer c_is_integer k_is_integer
  have b_is_integer := F_is_integer.binds (ps := ["value", "least", "greatest"]) fun _ _ _ _ _ _ us hl => match us, hl with | [_, _, _], _ => rfl
  have F_are_integers := fun_mk (st := s_are_integers) l_are_integers c_are_integers k_are_integers
  have b_are_integers := F_are_integers.binds (ps := ["value", "least", "greatest"]) fun _ _ _ _ _ _ us hl => match us, hl with | [_, _, _], _ => rfl
  have F_are_told := fun_mk (st := s_are_told) l_are_told c_are_told k_are_told
  have b_are_told := F_are_told.binds (ps := ["value", "classes"]) fun _ _ _ _ _ _ us hl => match us, hl with | [_, _], _ => rfl
  have F_Tree_init := fun_mk (st := s_Tree_init) l_Tree_init c_Tree_init k_Tree_init
  have b_Tree_init := F_Tree_init.binds (ps := ["self", "classes", "told"]) fun _ _ _ _ _ _ us hl => match us, hl with | [_, _, _], _ => rfl
  have F_Tree_told := fun_mk (st := s_Tree_told) l_Tree_told c_Tree_told k_Tree_told
  have b_Tree_told := F_Tree_told.binds (ps := ["self"]) fun _ _ _ _ _ _ us hl => match us, hl with | [_], _ => rfl
  have F_Tree_len := fun_mk (st := s_Tree_len) l_Tree_len c_Tree_len k_Tree_len
  have b_Tree_len := F_Tree_len.binds (ps := ["self"]) fun _ _ _ _ _ _ us hl => match us, hl with | [_], _ => rfl
  have F_Tree_eq := fun_mk (st := s_Tree_eq) l_Tree_eq c_Tree_eq k_Tree_eq
  have b_Tree_eq := F_Tree_eq.binds (ps := ["self", "other"]) fun _ _ _ _ _ _ us hl => match us, hl with | [_, _], _ => rfl
  have F_check_tree := fun_mk (st := s_check_tree) l_check_tree c_check_tree k_check_tree
  have b_check_tree := F_check_tree.binds (ps := ["tree"]) fun _ _ _ _ _ _ us hl => match us, hl with | [_], _ => rfl
  have F_is_write := fun_mk (st := s_is_write) l_is_write c_is_write k_is_write
  have b_is_write := F_is_write.binds (ps := ["tree", "value"]) fun _ _ _ _ _ _ us hl => match us, hl with | [_, _], _ => rfl
  have F_check_row := fun_mk (st := s_check_row) l_check_row c_check_row k_check_row
  have b_check_row := F_check_row.binds (ps := ["tree", "row"]) fun _ _ _ _ _ _ us hl => match us, hl with | [_, _], _ => rfl
  have F_written := fun_mk (st := s_written) l_written c_written k_written
  have b_written := F_written.binds (ps := ["tree", "row"]) fun _ _ _ _ _ _ us hl => match us, hl with | [_, _], _ => rfl
  have F_Disk_init := fun_mk (st := s_Disk_init) l_Disk_init c_Disk_init k_Disk_init
  have b_Disk_init := F_Disk_init.binds (ps := ["self", "tree"]) fun _ _ _ _ _ _ us hl => match us, hl with | [_, _], _ => rfl
  have F_Disk_now := fun_mk (st := s_Disk_now) l_Disk_now c_Disk_now k_Disk_now
  have b_Disk_now := F_Disk_now.binds (ps := ["self"]) fun _ _ _ _ _ _ us hl => match us, hl with | [_], _ => rfl
  have F_Disk_flushed := fun_mk (st := s_Disk_flushed) l_Disk_flushed c_Disk_flushed k_Disk_flushed
  have b_Disk_flushed := F_Disk_flushed.binds (ps := ["self"]) fun _ _ _ _ _ _ us hl => match us, hl with | [_], _ => rfl
  have F_Disk_pending := fun_mk (st := s_Disk_pending) l_Disk_pending c_Disk_pending k_Disk_pending
  have b_Disk_pending := F_Disk_pending.binds (ps := ["self"]) fun _ _ _ _ _ _ us hl => match us, hl with | [_], _ => rfl
  have F_Disk_with_row := fun_mk (st := s_Disk_with_row) l_Disk_with_row c_Disk_with_row k_Disk_with_row
  have b_Disk_with_row := F_Disk_with_row.binds (ps := ["self", "row"]) fun _ _ _ _ _ _ us hl => match us, hl with | [_, _], _ => rfl
  have F_Disk_with_flush := fun_mk (st := s_Disk_with_flush) l_Disk_with_flush c_Disk_with_flush k_Disk_with_flush
  have b_Disk_with_flush := F_Disk_with_flush.binds (ps := ["self"]) fun _ _ _ _ _ _ us hl => match us, hl with | [_], _ => rfl
  have F_Disk_eq := fun_mk (st := s_Disk_eq) l_Disk_eq c_Disk_eq k_Disk_eq
  have b_Disk_eq := F_Disk_eq.binds (ps := ["self", "other"]) fun _ _ _ _ _ _ us hl => match us, hl with | [_, _], _ => rfl
  have F_law_opened := fun_mk (st := s_law_opened) l_law_opened c_law_opened k_law_opened
  have b_law_opened := F_law_opened.binds (ps := ["_law_script", "_law_k"]) fun _ _ _ _ _ _ us hl => match us, hl with | [_, _], _ => rfl
  have F_law_draw := fun_mk (st := s_law_draw) l_law_draw c_law_draw k_law_draw
  have b_law_draw := F_law_draw.binds (ps := ["_law_pool", "_law_many"]) fun _ _ _ _ _ _ us hl => match us, hl with | [_, _], _ => rfl
  have F_law_pick := fun_mk (st := s_law_pick) l_law_pick c_law_pick k_law_pick
  have b_law_pick := F_law_pick.binds (ps := ["_law_pool", "_law_some"]) fun _ _ _ _ _ _ us hl => match us, hl with | [_, _], _ => rfl
  have F_law_write := fun_mk (st := s_law_write) l_law_write c_law_write k_law_write
  have b_law_write := F_law_write.binds (ps := ["_law_told", "_law_rows"]) fun _ _ _ _ _ _ us hl => match us, hl with | [_, _], _ => rfl
  have F_law_drawn_told := fun_mk (st := s_law_drawn_told) l_law_drawn_told c_law_drawn_told k_law_drawn_told
  have b_law_drawn_told := F_law_drawn_told.binds (ps := ["_law_pool", "_law_pages", "_law_classes", "_law_rightly"]) fun _ _ _ _ _ _ us hl => match us, hl with | [_, _, _, _], _ => rfl
  have F_law_drawn_rows := fun_mk (st := s_law_drawn_rows) l_law_drawn_rows c_law_drawn_rows k_law_drawn_rows
  have b_law_drawn_rows := F_law_drawn_rows.binds (ps := ["_law_pool", "_law_pages", "_law_classes", "_law_many"]) fun _ _ _ _ _ _ us hl => match us, hl with | [_, _, _, _], _ => rfl
  have F_law_is_so := fun_mk (st := s_law_is_so) l_law_is_so c_law_is_so k_law_is_so
  have b_law_is_so := F_law_is_so.binds (ps := ["_law_disk", "_law_classes", "_law_base", "_law_since"]) fun _ _ _ _ _ _ us hl => match us, hl with | [_, _, _, _], _ => rfl
  have F_law := fun_mk (st := s_law) l_law c_law k_law
  have b_law := F_law.binds (ps := ["_law_script"]) fun _ _ _ _ _ _ us hl => match us, hl with | [_], _ => rfl
  have T : Txt K mg { C_Tree := C_Tree, C_Disk := C_Disk, a_is_integer := f_is_integer, fd_is_integer := _, a_are_integers := f_are_integers, fd_are_integers := _, a_are_told := f_are_told, fd_are_told := _, a_Tree_init := f_Tree_init, fd_Tree_init := _, a_Tree_told := f_Tree_told, fd_Tree_told := _, a_Tree_len := f_Tree_len, fd_Tree_len := _, a_Tree_eq := f_Tree_eq, fd_Tree_eq := _, a_check_tree := f_check_tree, fd_check_tree := _, a_is_write := f_is_write, fd_is_write := _, a_check_row := f_check_row, fd_check_row := _, a_written := f_written, fd_written := _, a_Disk_init := f_Disk_init, fd_Disk_init := _, a_Disk_now := f_Disk_now, fd_Disk_now := _, a_Disk_flushed := f_Disk_flushed, fd_Disk_flushed := _, a_Disk_pending := f_Disk_pending, fd_Disk_pending := _, a_Disk_with_row := f_Disk_with_row, fd_Disk_with_row := _, a_Disk_with_flush := f_Disk_with_flush, fd_Disk_with_flush := _, a_Disk_eq := f_Disk_eq, fd_Disk_eq := _, a_law_opened := f_law_opened, fd_law_opened := _, a_law_draw := f_law_draw, fd_law_draw := _, a_law_pick := f_law_pick, fd_law_pick := _, a_law_write := f_law_write, fd_law_write := _, a_law_drawn_told := f_law_drawn_told, fd_law_drawn_told := _, a_law_drawn_rows := f_law_drawn_rows, fd_law_drawn_rows := _, a_law_is_so := f_law_is_so, fd_law_is_so := _, a_law := fa, fd_law := _, tk_MOST_CLASSES := tk_MOST_CLASSES, pp_Tree_told := pp_Tree_told, pp_Disk_now := pp_Disk_now, pp_Disk_flushed := pp_Disk_flushed, pp_Disk_pending := pp_Disk_pending, t_NODES := t_NODES } := { cl_Tree := ⟨pg_Tree, hd_Tree, po_Tree, sa_Tree⟩, g_Tree := PySem.W.mg_of X G aC_Tree, nf_Tree_classes := nf_Tree_classes, nf_Tree_told := nf_Tree_told, mk_Tree := ⟨mk_Tree, a_Tree_init, i_Tree_init, kc_Tree⟩, m_Tree_len := ⟨a_Tree_len, i_Tree_len, k_Tree_len⟩, m_Tree_eq := ⟨a_Tree_eq, i_Tree_eq, k_Tree_eq⟩, p_Tree_told := ⟨pa_Tree_told, pt_Tree_told, pk_Tree_told, ⟨_, pr_Tree_told⟩⟩, hm_Tree := hm_Tree, ha_Tree := ha_Tree, hn_Tree := hn_Tree, ht_Tree := ht_Tree, ss_Tree := ss_Tree, ne_Tree := ne_Tree, cl_Disk := ⟨pg_Disk, hd_Disk, po_Disk, sa_Disk⟩, g_Disk := PySem.W.mg_of X G aC_Disk, nf_Disk_now := nf_Disk_now, nf_Disk_flushed := nf_Disk_flushed, nf_Disk_pending := nf_Disk_pending, mk_Disk := ⟨mk_Disk, a_Disk_init, i_Disk_init, kc_Disk⟩, m_Disk_with_row := ⟨a_Disk_with_row, i_Disk_with_row, k_Disk_with_row⟩, m_Disk_with_flush := ⟨a_Disk_with_flush, i_Disk_with_flush, k_Disk_with_flush⟩, m_Disk_eq := ⟨a_Disk_eq, i_Disk_eq, k_Disk_eq⟩, p_Disk_now := ⟨pa_Disk_now, pt_Disk_now, pk_Disk_now, ⟨_, pr_Disk_now⟩⟩, p_Disk_flushed := ⟨pa_Disk_flushed, pt_Disk_flushed, pk_Disk_flushed, ⟨_, pr_Disk_flushed⟩⟩, p_Disk_pending := ⟨pa_Disk_pending, pt_Disk_pending, pk_Disk_pending, ⟨_, pr_Disk_pending⟩⟩, hm_Disk := hm_Disk, ha_Disk := ha_Disk, hn_Disk := hn_Disk, ht_Disk := ht_Disk, sb_Disk_NoneType := sb_Disk_NoneType, sb_Disk_bool := sb_Disk_bool, sb_Disk_int := sb_Disk_int, sb_Disk_str := sb_Disk_str, sb_Disk_tuple := sb_Disk_tuple, sb_Disk_list := sb_Disk_list, ic_Disk := ic_Disk, ty_Disk := ty_Disk, so_Tree_Disk := so_Tree_Disk, ne_Disk := ne_Disk, F_is_integer := F_is_integer, b_is_integer := b_is_integer, g_is_integer := PySem.W.mg_of X G a_is_integer, F_are_integers := F_are_integers, b_are_integers := b_are_integers, g_are_integers := PySem.W.mg_of X G a_are_integers, F_are_told := F_are_told, b_are_told := b_are_told, g_are_told := PySem.W.mg_of X G a_are_told, F_Tree_init := F_Tree_init, b_Tree_init := b_Tree_init, F_Tree_told := F_Tree_told, b_Tree_told := b_Tree_told, F_Tree_len := F_Tree_len, b_Tree_len := b_Tree_len, F_Tree_eq := F_Tree_eq, b_Tree_eq := b_Tree_eq, F_check_tree := F_check_tree, b_check_tree := b_check_tree, g_check_tree := PySem.W.mg_of X G a_check_tree, F_is_write := F_is_write, b_is_write := b_is_write, g_is_write := PySem.W.mg_of X G a_is_write, F_check_row := F_check_row, b_check_row := b_check_row, g_check_row := PySem.W.mg_of X G a_check_row, F_written := F_written, b_written := b_written, g_written := PySem.W.mg_of X G a_written, F_Disk_init := F_Disk_init, b_Disk_init := b_Disk_init, F_Disk_now := F_Disk_now, b_Disk_now := b_Disk_now, F_Disk_flushed := F_Disk_flushed, b_Disk_flushed := b_Disk_flushed, F_Disk_pending := F_Disk_pending, b_Disk_pending := b_Disk_pending, F_Disk_with_row := F_Disk_with_row, b_Disk_with_row := b_Disk_with_row, F_Disk_with_flush := F_Disk_with_flush, b_Disk_with_flush := b_Disk_with_flush, F_Disk_eq := F_Disk_eq, b_Disk_eq := b_Disk_eq, F_law_opened := F_law_opened, b_law_opened := b_law_opened, g__law_opened := PySem.W.mg_of X G a_law_opened, F_law_draw := F_law_draw, b_law_draw := b_law_draw, g__law_draw := PySem.W.mg_of X G a_law_draw, F_law_pick := F_law_pick, b_law_pick := b_law_pick, g__law_pick := PySem.W.mg_of X G a_law_pick, F_law_write := F_law_write, b_law_write := b_law_write, g__law_write := PySem.W.mg_of X G a_law_write, F_law_drawn_told := F_law_drawn_told, b_law_drawn_told := b_law_drawn_told, g__law_drawn_told := PySem.W.mg_of X G a_law_drawn_told, F_law_drawn_rows := F_law_drawn_rows, b_law_drawn_rows := b_law_drawn_rows, g__law_drawn_rows := PySem.W.mg_of X G a_law_drawn_rows, F_law_is_so := F_law_is_so, b_law_is_so := b_law_is_so, g__law_is_so := PySem.W.mg_of X G a_law_is_so, F_law := F_law, b_law := b_law, g_law := PySem.W.mg_of X G a_law, c_MOST_CLASSES := PySem.W.mg_of X G cc_MOST_CLASSES, g_NODES := PySem.W.mg_of X G gt_NODES, q_NODES := fun H => .inr ⟨_, #[.int 3 u0_NODES, .int 7 u1_NODES, .int 15 u2_NODES, .int 31 u3_NODES, .int 63 u4_NODES], nt_NODES, lt_NODES, rfl, rfl, (by show 5 ≤ sizeLine; decide), (.cons ⟨_, rfl⟩ (.cons ⟨_, rfl⟩ (.cons ⟨_, rfl⟩ (.cons ⟨_, rfl⟩ (.cons ⟨_, rfl⟩ .nil)))))⟩, n_bool := PySem.W.mg_none_of X G z_bool, n_int := PySem.W.mg_none_of X G z_int, n_isinstance := PySem.W.mg_none_of X G z_isinstance, n_len := PySem.W.mg_none_of X G z_len, n_list := PySem.W.mg_none_of X G z_list, n_max := PySem.W.mg_none_of X G z_max, n_min := PySem.W.mg_none_of X G z_min, n_range := PySem.W.mg_none_of X G z_range, n_tuple := PySem.W.mg_none_of X G z_tuple }
  exact ⟨PySem.W.fnOf "law" "law" (defArgs s_law) (defBody s_law) (defScope s_law) .none kV_law dc_law pm_law an_law cd_law ct_law, fun s v => .of_eq rfl, fun base _ _ => (ok_law T).imp fun _ _ _ _ h => law_sp rfl law_run h⟩
end Rt
open PySem PySem.W PyProof.Rows in
set_option maxRecDepth 100000 in
set_option maxHeartbeats 0 in
theorem PySem.Challenge.cw_roomtold_k29_disks_written_and_flushed_holds : PySem.Challenge.rw_roomtold_k29_disks_written_and_flushed.Holds := by
  w_on; o_law; k_head; (case hw => w_witness2)
  k_fill
  refine L2.walk_ofK (l := PySem.Challenge.rw_roomtold_k29_disks_written_and_flushed) (n := 63) (k := 8) (x := "_law_script") (CX := L2.CX0) (sp := Z.spLaw) rfl (by decide) rfl ⟨rfl, by decide, by decide⟩ (fun w h Y => PySem.W.kIn_of Y) ?F (fun _ _ a ns hl _ hS => ⟨a, ns, rfl, hS, hl, fun _ => rfl⟩) (fun _ _ _ _ z => z)
  case F =>
    intro w mg fa h KX G hmg
    refine' Rt.all_mk KX G hmg ?aC_Tree ?aC_Disk ?a_is_integer ?l_is_integer ?c_is_integer ?k_is_integer ?a_are_integers ?l_are_integers ?c_are_integers ?k_are_integers ?a_are_told ?l_are_told ?c_are_told ?k_are_told ?a_Tree_init ?i_Tree_init ?l_Tree_init ?c_Tree_init ?k_Tree_init ?pa_Tree_told ?pt_Tree_told ?pk_Tree_told ?pr_Tree_told ?l_Tree_told ?c_Tree_told ?k_Tree_told ?a_Tree_len ?i_Tree_len ?l_Tree_len ?c_Tree_len ?k_Tree_len ?a_Tree_eq ?i_Tree_eq ?l_Tree_eq ?c_Tree_eq ?k_Tree_eq ?a_check_tree ?l_check_tree ?c_check_tree ?k_check_tree ?a_is_write ?l_is_write ?c_is_write ?k_is_write ?a_check_row ?l_check_row ?c_check_row ?k_check_row ?a_written ?l_written ?c_written ?k_written ?a_Disk_init ?i_Disk_init ?l_Disk_init ?c_Disk_init ?k_Disk_init ?pa_Disk_now ?pt_Disk_now ?pk_Disk_now ?pr_Disk_now ?l_Disk_now ?c_Disk_now ?k_Disk_now ?pa_Disk_flushed ?pt_Disk_flushed ?pk_Disk_flushed ?pr_Disk_flushed ?l_Disk_flushed ?c_Disk_flushed ?k_Disk_flushed ?pa_Disk_pending ?pt_Disk_pending ?pk_Disk_pending ?pr_Disk_pending ?l_Disk_pending ?c_Disk_pending ?k_Disk_pending ?a_Disk_with_row ?i_Disk_with_row ?l_Disk_with_row ?c_Disk_with_row ?k_Disk_with_row ?a_Disk_with_flush ?i_Disk_with_flush ?l_Disk_with_flush ?c_Disk_with_flush ?k_Disk_with_flush ?a_Disk_eq ?i_Disk_eq ?l_Disk_eq ?c_Disk_eq ?k_Disk_eq ?a_law_opened ?l_law_opened ?c_law_opened ?k_law_opened ?a_law_draw ?l_law_draw ?c_law_draw ?k_law_draw ?a_law_pick ?l_law_pick ?c_law_pick ?k_law_pick ?a_law_write ?l_law_write ?c_law_write ?k_law_write ?a_law_drawn_told ?l_law_drawn_told ?c_law_drawn_told ?k_law_drawn_told ?a_law_drawn_rows ?l_law_drawn_rows ?c_law_drawn_rows ?k_law_drawn_rows ?a_law_is_so ?l_law_is_so ?c_law_is_so ?k_law_is_so ?a_law ?l_law ?c_law ?k_law ?pg_Tree ?hd_Tree ?po_Tree ?sa_Tree ?mk_Tree ?kc_Tree ?nf_Tree_classes ?nf_Tree_told ?hm_Tree ?ha_Tree ?hn_Tree ?ht_Tree ?ss_Tree ?ne_Tree ?pg_Disk ?hd_Disk ?po_Disk ?sa_Disk ?mk_Disk ?kc_Disk ?nf_Disk_now ?nf_Disk_flushed ?nf_Disk_pending ?hm_Disk ?ha_Disk ?hn_Disk ?ht_Disk ?sb_Disk_NoneType ?sb_Disk_bool ?sb_Disk_int ?sb_Disk_str ?sb_Disk_tuple ?sb_Disk_list ?ic_Disk ?ty_Disk ?so_Tree_Disk ?ne_Disk ?cc_MOST_CLASSES ?gt_NODES ?lt_NODES ?z_bool ?z_int ?z_isinstance ?z_len ?z_list ?z_max ?z_min ?z_range ?z_tuple
    (case aC_Tree => k_is)
    (case aC_Disk => k_is)
    (case a_is_integer => k_is)
    (case l_is_integer => k_is)
    (case c_is_integer => k_is)
    (case k_is_integer => k_is)
    (case a_are_integers => k_is)
    (case l_are_integers => k_is)
    (case c_are_integers => k_is)
    (case k_are_integers => k_is)
    (case a_are_told => k_is)
    (case l_are_told => k_is)
    (case c_are_told => k_is)
    (case k_are_told => k_is)
    (case a_Tree_init => k_is)
    (case i_Tree_init => k_is)
    (case l_Tree_init => k_is)
    (case c_Tree_init => k_is)
    (case k_Tree_init => k_is)
    (case pa_Tree_told => k_is)
    (case pt_Tree_told => k_is)
    (case pk_Tree_told => k_is)
    (case pr_Tree_told => k_is)
    (case l_Tree_told => k_is)
    (case c_Tree_told => k_is)
    (case k_Tree_told => k_is)
    (case a_Tree_len => k_is)
    (case i_Tree_len => k_is)
    (case l_Tree_len => k_is)
    (case c_Tree_len => k_is)
    (case k_Tree_len => k_is)
    (case a_Tree_eq => k_is)
    (case i_Tree_eq => k_is)
    (case l_Tree_eq => k_is)
    (case c_Tree_eq => k_is)
    (case k_Tree_eq => k_is)
    (case a_check_tree => k_is)
    (case l_check_tree => k_is)
    (case c_check_tree => k_is)
    (case k_check_tree => k_is)
    (case a_is_write => k_is)
    (case l_is_write => k_is)
    (case c_is_write => k_is)
    (case k_is_write => k_is)
    (case a_check_row => k_is)
    (case l_check_row => k_is)
    (case c_check_row => k_is)
    (case k_check_row => k_is)
    (case a_written => k_is)
    (case l_written => k_is)
    (case c_written => k_is)
    (case k_written => k_is)
    (case a_Disk_init => k_is)
    (case i_Disk_init => k_is)
    (case l_Disk_init => k_is)
    (case c_Disk_init => k_is)
    (case k_Disk_init => k_is)
    (case pa_Disk_now => k_is)
    (case pt_Disk_now => k_is)
    (case pk_Disk_now => k_is)
    (case pr_Disk_now => k_is)
    (case l_Disk_now => k_is)
    (case c_Disk_now => k_is)
    (case k_Disk_now => k_is)
    (case pa_Disk_flushed => k_is)
    (case pt_Disk_flushed => k_is)
    (case pk_Disk_flushed => k_is)
    (case pr_Disk_flushed => k_is)
    (case l_Disk_flushed => k_is)
    (case c_Disk_flushed => k_is)
    (case k_Disk_flushed => k_is)
    (case pa_Disk_pending => k_is)
    (case pt_Disk_pending => k_is)
    (case pk_Disk_pending => k_is)
    (case pr_Disk_pending => k_is)
    (case l_Disk_pending => k_is)
    (case c_Disk_pending => k_is)
    (case k_Disk_pending => k_is)
    (case a_Disk_with_row => k_is)
    (case i_Disk_with_row => k_is)
    (case l_Disk_with_row => k_is)
    (case c_Disk_with_row => k_is)
    (case k_Disk_with_row => k_is)
    (case a_Disk_with_flush => k_is)
    (case i_Disk_with_flush => k_is)
    (case l_Disk_with_flush => k_is)
    (case c_Disk_with_flush => k_is)
    (case k_Disk_with_flush => k_is)
    (case a_Disk_eq => k_is)
    (case i_Disk_eq => k_is)
    (case l_Disk_eq => k_is)
    (case c_Disk_eq => k_is)
    (case k_Disk_eq => k_is)
    (case a_law_opened => k_is)
    (case l_law_opened => k_is)
    (case c_law_opened => k_is)
    (case k_law_opened => k_is)
    (case a_law_draw => k_is)
    (case l_law_draw => k_is)
    (case c_law_draw => k_is)
    (case k_law_draw => k_is)
    (case a_law_pick => k_is)
    (case l_law_pick => k_is)
    (case c_law_pick => k_is)
    (case k_law_pick => k_is)
    (case a_law_write => k_is)
    (case l_law_write => k_is)
    (case c_law_write => k_is)
    (case k_law_write => k_is)
    (case a_law_drawn_told => k_is)
    (case l_law_drawn_told => k_is)
    (case c_law_drawn_told => k_is)
    (case k_law_drawn_told => k_is)
    (case a_law_drawn_rows => k_is)
    (case l_law_drawn_rows => k_is)
    (case c_law_drawn_rows => k_is)
    (case k_law_drawn_rows => k_is)
    (case a_law_is_so => k_is)
    (case l_law_is_so => k_is)
    (case c_law_is_so => k_is)
    (case k_law_is_so => k_is)
    (case a_law => k_is)
    (case l_law => k_is)
    (case c_law => k_is)
    (case k_law => k_is)
    (case pg_Tree => k_is)
    (case hd_Tree => k_is)
    (case po_Tree => k_is)
    (case sa_Tree => k_is)
    (case mk_Tree => k_is)
    (case kc_Tree => k_is)
    (case nf_Tree_classes => k_is)
    (case nf_Tree_told => k_is)
    (case hm_Tree => k_is)
    (case ha_Tree => k_is)
    (case hn_Tree => k_is)
    (case ht_Tree => k_is)
    (case ss_Tree => k_is)
    (case ne_Tree => k_is)
    (case pg_Disk => k_is)
    (case hd_Disk => k_is)
    (case po_Disk => k_is)
    (case sa_Disk => k_is)
    (case mk_Disk => k_is)
    (case kc_Disk => k_is)
    (case nf_Disk_now => k_is)
    (case nf_Disk_flushed => k_is)
    (case nf_Disk_pending => k_is)
    (case hm_Disk => k_is)
    (case ha_Disk => k_is)
    (case hn_Disk => k_is)
    (case ht_Disk => k_is)
    (case sb_Disk_NoneType => k_is)
    (case sb_Disk_bool => k_is)
    (case sb_Disk_int => k_is)
    (case sb_Disk_str => k_is)
    (case sb_Disk_tuple => k_is)
    (case sb_Disk_list => k_is)
    (case ic_Disk => k_is)
    (case ty_Disk => k_is)
    (case so_Tree_Disk => k_is)
    (case ne_Disk => k_is)
    (case cc_MOST_CLASSES => k_is)
    (case gt_NODES => k_is)
    (case lt_NODES => k_is)
    (case z_bool => k_is)
    (case z_int => k_is)
    (case z_isinstance => k_is)
    (case z_len => k_is)
    (case z_list => k_is)
    (case z_max => k_is)
    (case z_min => k_is)
    (case z_range => k_is)
    (case z_tuple => k_is)
