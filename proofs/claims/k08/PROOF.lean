import PyProof.Rows.All
import Wide.All
import OpenK.AllK
import Wide.FinOn
import HandS.ForMost
import HandS.IsInst
import HandS.Conv
import HandS.Style
import HandS.Property
import PyProof.InstNe
import PyProof.ReprRoads
import PyProof.ReprLen
import KE.KEqSeq
import KE.KSortedM
import PySem.Challenge.RW_roomtold_k08_flat_and_exact_trees
set_option Elab.async false
set_option linter.all false
set_option maxRecDepth 100000
set_option maxHeartbeats 4000000
namespace PySem.W
open PySem PySem.Spec PySem.Calls PyProof.Rows
section
variable {prog : Program} {w : World} {A : Around} {E : Value → Shared → Prop} {s : Shared} {K : Frag} {x y C L f : Addr} {h₀ : Heap} {m : Str → Option Value} {ox : Obj} {od : Option Obj}
theorem ifBound_ne {M : Model} {args : List Value} {Q : Option Value → Shared → Prop} (X : K.In s.heap) (I : InstAt s.heap x ox C od) (hs : findIn K (.ref C) "__ne__" = some (some (.builtin "object.__ne__")))
    (h : wpAny M A (call (.builtin "object.__ne__") (.ref x :: args)) (fun v => Q (some v)) E s) : wpAny M A (callSpecialIfBound? (.ref x) "__ne__" args) Q E s := by
  simp only [callSpecialIfBound?, bindSpecialIfBound?]
  refine wpAny_holding (wpAny_bind (wpAny_bind (wpAny_bind (I.type.here ((looks_findIn X hs).here ?_)))))
  refine wpAny_bind (wpAny_askSetting (wpAny_ite ?_))
  have fin : wpAny M A (call (.builtin "object.__ne__") ([.ref x] ++ args) >>= fun v => pure (some v)) Q E s := wpAny_bind (wpAny_mono h (fun v s' h' => wpAny_pure h') fun _ _ h' => h')
  split
  · exact wpAny_bind (wpAny_of_eq (PySem.F.cmp_object.ne.bind _) (wpAny_pure (by exact fin)))
  · exact wpAny_tryCatch (wpAny_bind (wpAny_of_eq (PySem.F.cmp_object.ne.bind _) (wpAny_pure (by exact fin))))
theorem objNe_own {b : Value} (X : K.In s.heap) (I : InstAt s.heap x ox C od) (he : findIn K (.ref C) "__eq__" = some (some (.ref f))) (hf : isFn K (.ref f) = true) (hu : A.units < cLine) {Q : Fin → Shared → Prop}
    (hcall : wpAny (model prog w) A (call (.ref f) [.ref x, b]) (fun v s' => ∃ r, v = .bool r ∧ Q (.done (.ret (.bool (!r)))) s') E s) :
    wpAny (model prog w) A (Builtin.«object.__ne__» ⟨[.ref x, b], []⟩) Q E s := by
  unfold Builtin.«object.__ne__»
  repeat (first
    | with_reducible refine wpAny_cRoomFor hu ?_
    | (refine wpAny_bind (m := callSpecialIfBound? (.ref x) (Str.ofString "__eq__") [b])
        (ifBound_K X I he hf (wpAny_mono hcall (fun r s' hr => by
          obtain ⟨b, rfl, hq⟩ := hr
          repeat (first | exact hq | exact wpAny_pure hq | exact wpAny_truthy_bool hq | (refine wpAny_bind (m := truthy (.bool _)) (wpAny_truthy_bool ?_)) | wp_step)) fun _ _ e => e)))
    | wp_step)
theorem rc_ne_own {b : Value} {Q : Value → Shared → Prop} (hu : A.units + 1 < cLine) (F : Fr h₀ L s.heap m) (X₀ : K.In h₀) (I : InstAt s.heap x ox C od) (hb : Looks (model prog w) s.heap (typeOf b) (.ref C))
    (hne : findIn K (.ref C) "__ne__" = some (some (.builtin "object.__ne__"))) (he : findIn K (.ref C) "__eq__" = some (some (.ref f))) (hf : isFn K (.ref f) = true) (hm : mroIn K C (.type "object") = some true)
    (h : wpAny (model prog w) A.in1 (call (.ref f) [.ref x, b]) (fun v s' => ∃ r, v = .bool r ∧ Q (.bool (!r)) s') E s) : wpAny (model prog w) A (richCompare .NotEq (.ref x) b) Q E s := by
  have X := X₀.keeps F.keep
  have one : wpAny (model prog w) A (tryCompare (.ref x) (cmpInfo .NotEq).2.1 b) (fun r s' => ∃ v, r = some v ∧ Q v s') E s := by
    show wpAny (model prog w) A (tryCompare (.ref x) "__ne__" b) _ _ _
    simp only [tryCompare]
    refine wpAny_bind (ifBound_ne X I hne (wpAny_call (codeAny_call_builtin PySem.F.cmp_object.ne.plain PySem.F.cmpEntry_ne
      (check_slot PySem.F.cmpKind_ne PySem.F.cmpSplit_ne (I.type.andThen (looks_mroIn X hm)) (PySem.F.cmpArgs_ne _ _)
        (objNe_own (A := A.in1) X I he hf hu (wpAny_mono h (fun v s' hv => ?_) fun _ _ e => e))))))
    obtain ⟨r, rfl, hq⟩ := hv
    first | exact ⟨r, rfl, wpAny_pure ⟨_, rfl, hq⟩⟩ | exact ⟨r, rfl, wpAny_pure (wpAny_pure ⟨_, rfl, hq⟩)⟩ | exact ⟨r, rfl, ⟨_, rfl, hq⟩⟩
  unfold richCompare
  simp only [oneThing_ref]
  refine wpAny_holding (wpAny_bind (wpAny_cRoomFor (Nat.lt_of_succ_lt hu) ?_))
  refine wpAny_bind (I.type.here (wpAny_bind (hb.here ?_)))
  rw [show (Value.ref C != Value.ref C) = false from by simp]
  simp only [Bool.false_eq_true, if_false, Bool.false_and]
  refine wpAny_bind (wpAny_pure ?_)
  simp only [Bool.false_eq_true, if_false]
  refine wpAny_bind (wpAny_mono one (fun r s' z => ?_) fun _ _ e => e)
  obtain ⟨v, rfl, hq⟩ := z
  exact wpAny_pure hq
end
end PySem.W
namespace L2
open PySem PySem.Spec PyProof.Rows
/-! ### own special methods, called by len, by a subscript, by == and != -/
section
variable {X : Cx} {CX : CXT} {k : Nat} {f C : Addr} {fd : FuncData} {ps : List Str} {sp : Sp} {E : XK}
theorem run_at {A : Around} (hA : A.frames = X.A.frames) {pins : List (Addr × Obj)} {σ : L2.St} {H : Hp} {s : Shared} {Q : VK} {us : List Value} {vs : List V} (F : FnOk X.prog X.w X.K X.mg X.base CX k f fd ps sp) (hr : Room k A) (hb : Binds X.K fd ps []) (hx : Passes CX X E)
    (I : Inv X pins σ H s) (r : Vals vs us) (h : sp vs H Q E) : wpAny (model X.prog X.w) A (call (.ref f) us) (EP X pins σ Q) X.xe s := by
  have hl : us.length = ps.length := by rw [← r.length]; exact F.len _ _ _ _ h
  have e0 : Env0 X.prog X.w X.K X.mg X.base A X.stack s H := by
    have e := I.env0
    exact ⟨by rw [hA]; exact e.frames, e.mod, e.bs, e.bsz, e.funs, e.frf, e.hok, e.bare⟩
  have hb2 := hb s us I.kIn (by rw [List.append_nil]; exact hl)
  rw [List.append_nil] at hb2
  refine wpAny_call (codeAny_mono (F.run A X.stack s H ⟨us, []⟩ us vs Q E hr e0 hb2 r h) fun r s' hq => ?_)
  cases r with
  | error e => exact hx pins σ H s e s' I hq
  | ok fl =>
    cases fl with
    | ret u => exact I.after hq
    | next => exact False.elim hq
    | brk => exact False.elim hq
    | cont => exact False.elim hq
def rLenOwn (C : Addr) (sp : Sp) (E : XK) : List V → Hp → VK → Prop := fun xs H Q => ∃ p dx fs, xs = [.ref p] ∧ H p = some (.ins C dx fs) ∧ sp [.ref p] H (fun v H' => ∃ n : Int, v = .int n ∧ 0 ≤ n ∧ n < 2 ^ 63 ∧ Q (.int n) H') E
theorem call_lenOwn (F : FnOk X.prog X.w X.K X.mg X.base CX k f fd ps sp) (hr : Room (k + 1) X.A) (hs : PySem.W.findIn X.K (.ref C) "__len__" = some (some (.ref f))) (hf : PySem.W.isFn X.K (.ref f) = true) (hb : Binds X.K fd ps []) (hx : Passes CX X E) :
    CallR X (.builtin "len") (rLenOwn C sp E) := by
  intro pins s σ H xs us Q I r h
  obtain ⟨p, dx, fs, rfl, hp, h⟩ := h
  obtain ⟨u, rfl, ru⟩ := vals1 r
  cases ru
  obtain ⟨mA, J, _⟩ := ins_get I.hok hp
  obtain ⟨od, J, _⟩ := J.look
  obtain ⟨m, hF⟩ := I.fr
  refine PySem.W.len_K hF I.ok.mod.kin J hs hf (wpAny_mono (run_at (A := X.A.in1) (vs := [.ref p]) rfl F hr.in1 hb hx I (.cons rfl .nil) h) (fun v s' z => ?_) fun _ _ z => z)
  obtain ⟨x, H', I', rx, n, ex, n0, n1, q⟩ := z
  subst ex
  obtain ⟨t, rfl⟩ := rx
  exact ⟨⟨n0, n1⟩, .int n, H', I'.tok _, ⟨_, rfl⟩, q⟩
def rSubOwn (C : Addr) (sp : Sp) (E : XK) : R2 := fun x y H Q => ∃ p dx fs, x = .ref p ∧ H p = some (.ins C dx fs) ∧ sp [.ref p, y] H Q E
theorem pe_subOwn {va vb : Expr} {ta tb : TE} {pos : Pos} (F : FnOk X.prog X.w X.K X.mg X.base CX k f fd ps sp) (hr : Room (k + 1) X.A) (hs : PySem.W.findIn X.K (.ref C) "__getitem__" = some (some (.ref f))) (hf : PySem.W.isFn X.K (.ref f) = true) (hfn : PySem.W.fnIn X.K f = true) (hb : Binds X.K fd ps []) (hx : Passes CX X E)
    (ha : PE X va ta) (hb' : PE X vb tb) (hsl : ∀ o i, subscripted vb true o i = runValue (.builtin "lifetime.subscript" ⟨[o, i], []⟩)) : PE X (.Subscript va vb pos) (tOp (rSubOwn C sp E) ta tb) := by
  refine ⟨fun pins s σ H Q I h => ?_⟩
  refine Subscript_ (binT ha hb' I h fun v u s2 x y H2 I2 rx ry q => ?_)
  obtain ⟨p, dx, fs, rfl, hp, q⟩ := q
  cases rx
  obtain ⟨mA, J, _⟩ := ins_get I2.hok hp
  obtain ⟨od, J, _⟩ := J.look
  obtain ⟨m, hF⟩ := I2.fr
  exact PySem.W.sub_K hF I2.ok.mod.kin J hs hfn hf (run_at (A := X.A.in1) (vs := [.ref p, y]) rfl F hr.in1 hb hx I2 (.cons rfl (.cons ry .nil)) q) (hsl _ _)
def rEqOwn (C : Addr) (sp : Sp) (E : XK) : R2 := fun x y H Q => ∃ p q dx dy fs gs, x = .ref p ∧ y = .ref q ∧ H p = some (.ins C dx fs) ∧ H q = some (.ins C dy gs) ∧ sp [.ref p, .ref q] H (fun v H' => ∃ r : Bool, v = .bl r ∧ Q (.bl r) H') E
def rNeOwn (C : Addr) (sp : Sp) (E : XK) : R2 := fun x y H Q => ∃ p q dx dy fs gs, x = .ref p ∧ y = .ref q ∧ H p = some (.ins C dx fs) ∧ H q = some (.ins C dy gs) ∧ sp [.ref p, .ref q] H (fun v H' => ∃ r : Bool, v = .bl r ∧ Q (.bl (!r)) H') E
theorem op_eqOwn (F : FnOk X.prog X.w X.K X.mg X.base CX k f fd ps sp) (hr : Room k X.A) (hs : PySem.W.findIn X.K (.ref C) "__eq__" = some (some (.ref f))) (hf : PySem.W.isFn X.K (.ref f) = true) (hb : Binds X.K fd ps []) (hx : Passes CX X E) :
    OpR X (compareOp .Eq) (rEqOwn C sp E) := by
  intro pins s σ H x y v u Q I rx ry h
  obtain ⟨p, q, dx, dy, fs, gs, rfl, rfl, hp, hq, h⟩ := h
  cases rx
  cases ry
  obtain ⟨mA, J, _⟩ := ins_get I.hok hp
  obtain ⟨mB, J', _⟩ := ins_get I.hok hq
  obtain ⟨od, J, _⟩ := J.look
  obtain ⟨od', J', _⟩ := J'.look
  obtain ⟨m, hF⟩ := I.fr
  show wpAny (model X.prog X.w) X.A (richCompare .Eq _ _) (EP X pins σ Q) X.xe s
  refine PySem.W.cmp_K (op := .Eq) (tb := .ref C) hr.units0 hF I.ok.mod.kin J J'.type (by simp [PySem.W.notFirst]) hs hf (wpAny_mono (run_at (vs := [.ref p, .ref q]) rfl F hr hb hx I (.cons rfl (.cons rfl .nil)) h) (fun v s' z => ?_) fun _ _ z => z)
  obtain ⟨x, H', I', rx, r, ex, qq⟩ := z
  subst ex
  cases rx
  exact ⟨.bl r, H', I', rfl, qq⟩
theorem op_neOwn (F : FnOk X.prog X.w X.K X.mg X.base CX k f fd ps sp) (hr : Room (k + 1) X.A) (hs : PySem.W.findIn X.K (.ref C) "__eq__" = some (some (.ref f))) (hf : PySem.W.isFn X.K (.ref f) = true)
    (hne : PySem.W.findIn X.K (.ref C) "__ne__" = some (some (.builtin "object.__ne__"))) (hm : PySem.W.mroIn X.K C (.type "object") = some true) (hb : Binds X.K fd ps []) (hx : Passes CX X E) :
    OpR X (compareOp .NotEq) (rNeOwn C sp E) := by
  intro pins s σ H x y v u Q I rx ry h
  obtain ⟨p, q, dx, dy, fs, gs, rfl, rfl, hp, hq, h⟩ := h
  cases rx
  cases ry
  obtain ⟨mA, J, _⟩ := ins_get I.hok hp
  obtain ⟨mB, J', _⟩ := ins_get I.hok hq
  obtain ⟨od, J, _⟩ := J.look
  obtain ⟨od', J', _⟩ := J'.look
  obtain ⟨m, hF⟩ := I.fr
  show wpAny (model X.prog X.w) X.A (richCompare .NotEq _ _) (EP X pins σ Q) X.xe s
  refine PySem.W.rc_ne_own hr.in1.units0 hF I.ok.mod.kin J J'.type hne hs hf hm (wpAny_mono (run_at (A := X.A.in1) (vs := [.ref p, .ref q]) rfl F hr.in1 hb hx I (.cons rfl (.cons rfl .nil)) h) (fun v s' z => ?_) fun _ _ z => z)
  obtain ⟨x, H', I', rx, r, ex, qq⟩ := z
  subst ex
  cases rx
  exact ⟨r, rfl, .bl (!r), H', I', rfl, qq⟩
end
end L2
set_option maxHeartbeats 4000000
namespace L2
open PySem PySem.Spec PyProof.Rows
/-! ### a def that is known to run where no repr is under way: its promise, the law's end -/
structure FnOkG (P : Program) (w : World) (K : PySem.W.Frag) (mg : Str → Option Value) (base : Heap) (CX : CXT) (k : Nat) (f : Addr) (fd : FuncData) (ps : List Str) (sp : Sp) : Prop where
  len : ∀ vs H Q E, sp vs H Q E → vs.length = ps.length
  run : ∀ (A : Around) (outer : List Env) (s : Shared) (H : Hp) (args : Args) (us : List Value) (vs : List V) (Q : VK) (E : XK), A.guards = some [] → Room k A → Env0 P w K mg base A outer s H → BindsTo s fd args (ps.zip us) → Vals vs us → sp vs H Q E →
    codeAny (model P w) A (.call (.ref f) args) (CR CX outer P w H s Q E) s
theorem fn_ofG {CX : CXT} {P : Program} {w : World} {K : PySem.W.Frag} {mg : Str → Option Value} {base : Heap} {k : Nat} {f : Addr} {name qual : Str} {params : Arguments} {body : List Stmt} {scope : Scope} {dV kV doc pm cdv ct oc : Value} {an od : Option Addr}
    {osl : Array (Option Value)} {N ps : List Str} {sp : Sp} (lk : K.lookup f = some ⟨oc, od, .func (PySem.W.fnOf name qual params body scope dV kV doc pm an cdv ct), osl⟩) (hcd : PySem.W.codeIn K cdv qual = true) (S : FnScope N ps scope)
    (len : ∀ vs H Q E, sp vs H Q E → vs.length = ps.length)
    (hbody : ∀ (A : Around) (outer : List Env) (s : Shared) (H : Hp) (vs : List V) (Q : VK) (E : XK), A.guards = some [] → Room k (A.deeper (envOfC qual scope s.heap.objs.size f cdv)) → sp vs H Q E →
      ∃ t, PSs (cxOf CX P w K mg base N qual scope f cdv A outer s H E) body t ∧ t { nx := fun _ H' => Q .non H', rt := Q } (start N vs) H) :
    FnOkG P w K mg base CX (k + 1) f (PySem.W.fnOf name qual params body scope dV kV doc pm an cdv ct) ps sp := by
  refine ⟨len, fun A outer s H args us vs Q E hgd hr e0 hb r hsp => ?_⟩
  have hl := len _ _ _ _ hsp
  have KX : K.In s.heap := e0.mod.kin.keeps fun b o e => (e0.bs b o e).1
  have lim : s.heap.NoLimit := e0.mod.nolimit.keeps fun b o e => (e0.bs b o e).1
  have hkind : ∀ y ∈ ps.zip us, scope.names.lookup y.1 = some .local ∨ (scope.names.lookup y.1 = some .cell ∧ ((cellsFrom (s.heap.objs.size + 1) scope.names []).lookup y.1).isSome = true) := fun ⟨n, v⟩ hy => by
    rcases S.par n (List.of_mem_zip hy).1 with q | q
    · exact .inl q
    · exact .inr ⟨q, PySem.W.cellsFrom_some _ _ _ (.inl q)⟩
  refine codeAny_call_function hr.depth (KX _ _ lk) rfl S.co S.gen rfl (PySem.W.codeRec_of KX hcd) (hb _ _ _ _ ?_)
  refine wpAny_newFunctionEnv_cells S.kind hkind fun env he s1 x => ?_
  subst he
  refine ⟨lim.keeps x.toInCall.keep, codeAny_func ?_⟩
  obtain ⟨t, ht, hq⟩ := hbody A outer s H vs Q E hgd (hr.deeper _) hsp
  have I : Inv (cxOf CX P w K mg base N qual scope f cdv A outer s H E) [] (start N vs) H s1 := inv_start S hr.hd e0 hl r x
  refine wpAny_mono (ht.run [] s1 (start N vs) H _ I hq) (fun fl s' hs => ?_) fun e s' hs => hs
  have fin : ∀ {σ' : L2.St} {H' : Hp} {v : V} {u : Value}, Inv (cxOf CX P w K mg base N qual scope f cdv A outer s H E) [] σ' H' s' → RelV v u → Q v H' → CE outer P w H s Q u s' :=
    fun {σ' H' v u} J rv q => ⟨v, H', J.os, J.bare, J.base, J.hok, rv, q⟩
  cases fl with
  | ret u =>
    obtain ⟨v, σ', H', J, rv, q⟩ := hs
    exact fin J rv q
  | next =>
    obtain ⟨σ', H', J, q⟩ := hs
    exact fin (v := V.non) (u := Value.none) J rfl q
  | brk =>
    obtain ⟨_, _, _, z⟩ := hs
    exact False.elim z
  | cont =>
    obtain ⟨_, _, _, z⟩ := hs
    exact False.elim z
theorem Fun.okG {P : Program} {w : World} {K : PySem.W.Frag} {mg : Str → Option Value} {base : Heap} {x qual : Str} {st : Stmt} {f : Addr} {fd : FuncData} {N ps : List Str} {k : Nat} {sp : Sp} (F : Fun K x qual st f fd) (S : FnScope N ps (defScope st)) (len : ∀ vs H Q E, sp vs H Q E → vs.length = ps.length)
    (hbody : ∀ (cdv : Value) (A : Around) (outer : List Env) (s : Shared) (H : Hp) (vs : List V) (Q : VK) (E : XK), (A.deeper (envOfC qual (defScope st) s.heap.objs.size f cdv)).guards = some [] → Room k (A.deeper (envOfC qual (defScope st) s.heap.objs.size f cdv)) → sp vs H Q E →
      ∃ t, PSs (cxOf CX0 P w K mg base N qual (defScope st) f cdv A outer s H E).nox (defBody st) t ∧ t { nx := fun _ H' => Q .non H', rt := Q } (start N vs) H) : FnOkG P w K mg base CX0 (k + 1) f fd ps sp := by
  obtain ⟨oc, od, kV, doc, pm, an, cdv, ct, osl, rfl, lk, hcd⟩ := F.ex
  refine fn_ofG lk hcd S len fun A outer s H vs Q E hgd hr hsp => ?_
  obtain ⟨t, h, q⟩ := hbody cdv A outer s H vs Q E hgd hr hsp
  exact ⟨t, h.nox, q⟩
theorem law_callG {P : Program} {w : World} {K : PySem.W.Frag} {mg mb : Str → Option Value} {CX : CXT} {k : Nat} {fa a : Addr} {fd : FuncData} {x : Str} {sp : Sp} {s₁ : Shared} {vs : List Value} {ns : List Int}
    (inK : K.In s₁.heap) (gNs : s₁.heap.Ns mainGlobals mg) (blt : s₁.heap.Ns builtinsNs mb) (bAll : ∀ x : Str, x ≠ "__name__" → mb x = bootBuiltins x) (noLim : s₁.heap.NoLimit) (noGen : s₁.gens = #[])
    (atS : s₁.heap.get? a = some { cls := .type "list", data := .seq vs.toArray }) (intsH : IntsAre vs ns) (lenH : ns.length ≤ sizeLine) (roomH : Room k callerA)
    (F : ∀ base : Heap, K.In base → base.Ns mainGlobals mg → FnOkG P w K mg base CX k fa fd [x] sp) (bnd : ∀ (s : Shared) (u : Value), BindsTo s fd ⟨[u], []⟩ [(x, u)])
    (prom : ∀ H : Hp, Only H → SqL K H a (ns.map V.int) → sp [.ref a] H (fun v _ => v = .bl true) fun _ _ _ => False)
    (noOut : ∀ H e s', CX [] H s₁ (fun _ _ _ => False) e s' → False) :
    codeAny (model P w) callerA (.call (.ref fa) ⟨[.ref a], []⟩) (fun r s' => r = .ok (.ret (.bool true)) ∧ OldK s₁.heap s'.heap ∧ s'.os = s₁.os ∧ AllBare s'.gens) s₁ := by
  have valsR := vals_ints intsH
  have lenW := intsH.length
  -- from an abstract heap in which nothing but the script may be tracked
  have heart : ∀ H : Hp, Only H → SqL K H a (ns.map V.int) → HOk P w H s₁.heap → (∀ b, H b ≠ none → b = a) → (H a ≠ none → K.lookup a = none) →
      codeAny (model P w) callerA (.call (.ref fa) ⟨[.ref a], []⟩) (fun r s' => r = .ok (.ret (.bool true)) ∧ OldK s₁.heap s'.heap ∧ s'.os = s₁.os ∧ AllBare s'.gens) s₁ := by
    intro H onl sq okH atA kA
    have ofBase : ∀ {b : Addr} {o : Obj}, s₁.heap.get? b = some o → H b = none → (hidT s₁.heap H).get? b = some o := fun e n => hidT_get e n
    have offA : ∀ {b : Addr} {o : Obj} {es : Array DictEntry} {ep : Nat}, s₁.heap.get? b = some o → o.data = .dict es ep → H b = none := fun {b o es ep} e d => by
      cases q : H b with
      | none => rfl
      | some u =>
        have e' : b = a := atA b (by rw [q]; simp)
        subst e'
        rw [atS] at e; cases e
        have d' : Data.seq vs.toArray _ = Data.dict es ep := d
        cases d'
    have keepNs : ∀ {b : Addr} {m : Str → Option Value}, s₁.heap.Ns b m → (hidT s₁.heap H).Ns b m := fun {b m} ⟨o, es, ep, e, d, r⟩ => ⟨o, es, ep, ofBase e (offA e d), d, r⟩
    have inB : K.In (hidT s₁.heap H) := fun b o e => ofBase (inK b o e) (by
      cases q : H b with
      | none => rfl
      | some u =>
        have e' : b = a := atA b (by rw [q]; simp)
        subst e'
        rw [kA (by rw [q]; simp)] at e; cases e)
    have modB : Mod K mg (hidT s₁.heap H) := ⟨inB, keepNs gNs, ⟨mb, keepNs blt, bAll⟩, let ⟨mc, h1, h2⟩ := noLim; ⟨mc, keepNs h1, h2⟩⟩
    have start0 : Env0 P w K mg (hidT s₁.heap H) callerA [] s₁ H := ⟨rfl, modB, fun b o e => of_hidT e, Nat.le_of_eq (hidT_size _ _), trivial, fun b blt => absurd (show b ∈ ([] : List Addr) from blt) (by simp), okH, .of_eq noGen⟩
    refine codeAny_mono ((F _ inB (keepNs gNs)).run callerA [] s₁ H ⟨[.ref a], []⟩ [.ref a] [.ref a] _ _ rfl roomH start0 (bnd s₁ (.ref a)) (.cons rfl .nil) (prom H onl sq)) fun r s' h => ?_
    cases r with
    | error e => exact (noOut H e s' h).elim
    | ok fl =>
      cases fl with
      | next => exact False.elim h
      | brk => exact False.elim h
      | cont => exact False.elim h
      | ret u =>
        obtain ⟨v, H', os, bare, un, hok', r', q⟩ := h
        have q' : v = .bl true := q
        subst q'
        obtain rfl : u = Value.bool true := r'
        refine ⟨rfl, OldK.of_keep fun b o e => ?_, os, bare⟩
        cases q : H b with
        | none => exact un.keep b o e q (by intro z; exact absurd (show b ∈ ([] : List Addr) from z) (by simp)) (by simp)
        | some u =>
          rcases onl b with z | ⟨ob, xs, z⟩
          · rw [q] at z; cases z
          · have z2 := un.frzs b ob _ z
            obtain ⟨e1, _⟩ := okH b _ z
            obtain ⟨e2, _⟩ := hok' b _ z2
            rw [e] at e1; cases e1
            exact e2
  cases hk : K.lookup a with
  | some o =>
    -- the script is one of the module's own objects
    have e := inK a o hk
    rw [atS] at e
    cases e
    refine heart (fun _ => none) (fun _ => .inl rfl) (.inr ⟨_, vs.toArray, _, hk, rfl, rfl, rfl, by rw [List.size_toArray, lenW]; exact lenH, by simpa using valsR⟩) (fun b u z => by have z' : (none : Option HO) = some u := z; cases z') (fun b z => absurd rfl z) fun z => absurd rfl z
  | none =>
    refine heart (fun b => if b = a then some (.frz { cls := .type "list", data := .seq vs.toArray } (.lst (ns.map V.int))) else none) (fun b => ?_) (.inl (.inr ⟨{ cls := .type "list", data := .seq vs.toArray }, if_pos rfl⟩)) (fun b u z => ?_) (fun b z => ?_) fun _ => hk
    · by_cases blt : b = a
      · exact .inr ⟨_, _, if_pos blt⟩
      · exact .inl (if_neg blt)
    · by_cases blt : b = a
      · have z' := (if_pos blt).symm.trans z
        cases z'
        subst blt
        exact ⟨atS, by rw [List.length_map]; exact lenH, vs, _, valsR, atS⟩
      · have z' := (if_neg blt).symm.trans z
        cases z'
    · by_cases blt : b = a
      · exact blt
      · exact absurd (if_neg blt) z
theorem walk_ofG {l : PySem.W.OpenLaw} {n k : Nat} {q : Program} {loose : List Str} {XP : (Str → Option Value) → Heap → Prop} {YP : World → Heap → Prop} {d : DefRec} {K : Params → PySem.W.Frag} {sp : PySem.W.Frag → Sp} {x : Str}
    (hn : l.most = some n) (hn2 : n ≤ sizeLine) (hdf : d.params.defaults = []) (hr : Room k callerA) (hY : ∀ (w : World) (h : Heap), YP w h → (K w.params).In h)
    (F : ∀ (w : World) (mg : Str → Option Value) (fa : Addr) (h : Heap), (K w.params).In h → h.Ns mainGlobals mg → mg d.name = some (.ref fa) →
      ∃ fd : FuncData, (∀ (s : Shared) (u : Value), BindsTo s fd ⟨[u], []⟩ [(x, u)]) ∧ ∀ base : Heap, (K w.params).In base → base.Ns mainGlobals mg → FnOkG l.prog w (K w.params) mg base CX0 k fa fd [x] (sp (K w.params)))
    (hsp : ∀ (K : PySem.W.Frag) (H : Hp) (a : Addr) (ns : List Int), ns.length ≤ n → Only H → SqL K H a (ns.map V.int) → sp K [.ref a] H (fun v _ => v = .bl true) fun _ _ _ => False) :
    PySem.W.WalkO q loose XP YP l.row.toRowW d [] (fun f vs => PySem.call f vs) := by
  refine Att.attach_call hn hdf fun w s₀ s₁ mg mb fa o pm cd doc a vs ns G Y ho hd hcd hmg hobj hints hlen hg => ?_
  have inK := hY w _ Y
  obtain ⟨fd, bnd, hF⟩ := F w mg fa _ inK G.T.g hmg
  exact law_callG inK G.T.g G.T.b G.T.builtins G.T.nolimit hg hobj hints (Nat.le_trans hlen hn2) hr hF bnd (fun H onl sq => hsp (K w.params) H a ns hlen onl sq) fun H e s' z => z
/-! ### repr of data -/
structure rShow (K : PySem.W.Frag) (xs : List V) (H : Hp) (Q : VK) : Prop where
  ex : ∃ v d, xs = [v] ∧ Dp K H v d ∧ d.showable = true ∧ d.hasDict = false ∧ d.depth ≤ 90 ∧ d.shown.length ≤ sizeLine ∧ Q (.str d.shown) H
theorem call_reprD {X : Cx} (hgd : X.A.guards = some []) (hu : X.A.units + 100 < cLine) : CallR X (.builtin "repr") (rShow X.K) := by
  intro pins s σ H xs us Q I r h
  obtain ⟨v, d, rfl, hd, hsh, hnd, hdp, hsz, q⟩ := h.ex
  obtain ⟨u, rfl, ru⟩ := vals1 r
  obtain ⟨as, R⟩ := Dp.reads I d v u hd ru
  cases hd with
  | non =>
    cases ru
    have e : PyData.shown .none = ("None" : Str) := by simp only [PyData.shown]
    rw [e] at q
    exact PySem.P.repr_of_none ⟨.str "None", H, I.tok _, ⟨_, rfl⟩, q⟩
  | bl b =>
    cases ru
    refine PySem.P.repr_of_bool ⟨.str (if b then "True" else "False"), H, I.tok _, ⟨_, rfl⟩, ?_⟩
    have e : PyData.shown (.bool b) = (if b then "True" else "False" : Str) := by simp only [PyData.shown]
    rw [e] at q
    exact q
  | int i =>
    obtain ⟨t, rfl⟩ := ru
    have e : PyData.shown (.int i) = (toString i : Str) := by simp only [PyData.shown]
    rw [e] at q
    exact PySem.P.repr_of_int (by simpa [PyData.showable] using hsh) ⟨.str (toString i), H, I.tok _, ⟨_, rfl⟩, q⟩
  | str x =>
    obtain ⟨t, rfl⟩ := ru
    have e : PyData.shown (.str x) = reprText x := by simp only [PyData.shown]
    rw [e] at q hsz
    exact PySem.P.repr_of_str ⟨.str (reprText x), H, I.tok _, ⟨_, rfl⟩, q⟩ hsz
  | lst h1 h2 =>
    cases ru
    refine repr_of_reads' R hsh (PyData.noDict_hsm hnd) hgd (by omega) (fun _ _ e => e) (fun h' u tk hk => ?_) hsz
    exact ⟨.str _, H, I.kept (t' := tk) hk, ⟨_, rfl⟩, q⟩
  | tup h1 h2 =>
    cases ru
    refine repr_of_reads' R hsh (PyData.noDict_hsm hnd) hgd (by omega) (fun _ _ e => e) (fun h' u tk hk => ?_) hsz
    exact ⟨.str _, H, I.kept (t' := tk) hk, ⟨_, rfl⟩, q⟩
end L2
set_option maxHeartbeats 4000000
namespace L2
open PySem PySem.Spec PyProof.Rows
/-! ### a static method read off its class and called -/
structure CStat (K : PySem.W.Frag) (C : Addr) (m : Str) (p g : Addr) : Prop where
  ty : PySem.W.typeIn K (.ref C) = some (.type "type")
  rd : PySem.W.readsIn K C (.type "type") = true
  ga : PySem.W.specialIn K (.ref C) "__getattribute__" = some (some (.builtin "type.__getattribute__"))
  at_ : PySem.W.findCls K (.ref C) (.type "type") m = some (.get (.builtin "staticmethod.__get__") (.ref p) .none (.ref C))
  rc : ∃ rest, PySem.W.recIn K p "staticmethod" = some (.ref g :: rest)
  kp : PySem.W.keepIn K (.ref g) = true
def tStat (C : Addr) (sp : Sp) (dvs : List V) (E : XK) (ta : TE) (t : TA) : TE := fun σ H Q => ta σ H fun x H1 => x = .ref C ∧ t σ H1 fun vs H2 => sp (vs ++ dvs) H2 Q E
section
variable {X : Cx} {CX : CXT} {k : Nat} {C p g : Addr} {fd : FuncData} {ps : List Str} {sp : Sp} {dvs : List V} {ds : List Value} {E : XK} {o e : Expr} {es : List Expr} {m : Str} {pos apos : Pos} {ta : TE} {t : TA}
theorem pe_static {pl : Sem Bool} (he : PE X o ta) (c : CStat X.K C m p g) (F : FnOk X.prog X.w X.K X.mg X.base CX k g fd ps sp) (hr : Room k X.A) (hb : Binds X.K fd ps ds) (hd : Vals dvs ds) (hx : Passes CX X E) (ha : PA X (e :: es) t)
    (hst : starEach (e :: es) X.env = (false, eval e X.env) :: starEach es X.env := by rfl) (hpl : (backTo pos (starEach es X.env)).any (·.1) = false := by rfl)
    (ht : eval (.Call (.Attribute o m apos) (e :: es) [] pos) X.env = (do
      let ov ← eval o X.env
      standAt apos.atName
      let (f, first) ← holding [ov] (getMethod ov m pl)
      callWith pos f first (backTo pos (starEach (e :: es) X.env)) (backToKw pos (keywordEach [] X.env))) := by rfl) :
    PE X (.Call (.Attribute o m apos) (e :: es) [] pos) (tStat C sp dvs E ta t) := by
  refine ⟨fun pins s σ H Q I h => ?_⟩
  refine PySem.W.methodCall_KW (pl := pl) (thn (he.run pins s σ H _ I h) fun u s1 ⟨x, H1, I1, rx, ex, q⟩ => ?_) ht
  subst ex
  obtain rfl : u = Value.ref C := rx
  obtain ⟨rest, hp⟩ := c.rc
  refine PySem.W.method_cls I1.kIn c.ga (PySem.W.cls_bind I1.kIn c.rd c.at_ ?_)
  refine wpAny_call (PySem.W.sm_get (s := { s1 with toks := s1.toks + 1 }) I1.kIn hp (PySem.W.handed_on rfl ?_))
  have I2 : Inv X pins σ H1 { s1 with toks := s1.toks + 1 } := I1.tok _
  refine PySem.W.callWith_K (first := []) (h₀ := X.base) I1.ok.mod.kin c.kp (thn (ha.run pos pins _ σ H1 _ I2 q) fun us s2 ⟨vs, H2, I3, r, q2⟩ => ⟨I3.kIn, ?_⟩) hst hpl
  exact run_fn F hr hb hd hx I3 r q2
end
end L2
namespace Rt
open PySem L2
def topS (i : Nat) : Stmt := PySem.Challenge.pw_roomtold_k08_flat_and_exact_trees.main.body.getD i (.Pass ⟨0, 0, 0, 0⟩)
abbrev s_is_integer : Stmt := (topS 14)
theorem sc_is_integer : FnScope ["value", "least", "greatest"] ["value", "least", "greatest"] (defScope s_is_integer) := ⟨rfl, rfl, rfl, by decide +kernel, rfl, by decide +kernel, by decide +kernel⟩
abbrev s_are_integers : Stmt := (topS 15)
theorem sc_are_integers : FnScope ["value", "least", "greatest", "number"] ["value", "least", "greatest"] (defScope s_are_integers) := ⟨rfl, rfl, rfl, by decide +kernel, rfl, by decide +kernel, by decide +kernel⟩
abbrev s_are_bounds : Stmt := (topS 16)
theorem sc_are_bounds : FnScope ["value", "most", "at"] ["value", "most"] (defScope s_are_bounds) := ⟨rfl, rfl, rfl, by decide +kernel, rfl, by decide +kernel, by decide +kernel⟩
abbrev s_Steps_init : Stmt := (inClass (topS 17) 0)
theorem sc_Steps_init : FnScope ["self", "most", "bounds"] ["self", "most", "bounds"] (defScope s_Steps_init) := ⟨rfl, rfl, rfl, by decide +kernel, rfl, by decide +kernel, by decide +kernel⟩
abbrev s_Steps_len : Stmt := (inClass (topS 17) 2)
theorem sc_Steps_len : FnScope ["self"] ["self"] (defScope s_Steps_len) := ⟨rfl, rfl, rfl, by decide +kernel, rfl, by decide +kernel, by decide +kernel⟩
abbrev s_Steps_class_of : Stmt := (inClass (topS 17) 5)
theorem sc_Steps_class_of : FnScope ["self", "room", "bound"] ["self", "room"] (defScope s_Steps_class_of) := ⟨rfl, rfl, rfl, by decide +kernel, rfl, by decide +kernel, by decide +kernel⟩
abbrev s_is_page_count : Stmt := (topS 22)
theorem sc_is_page_count : FnScope ["value"] ["value"] (defScope s_is_page_count) := ⟨rfl, rfl, rfl, by decide +kernel, rfl, by decide +kernel, by decide +kernel⟩
abbrev s_are_told : Stmt := (topS 23)
theorem sc_are_told : FnScope ["value", "classes"] ["value", "classes"] (defScope s_are_told) := ⟨rfl, rfl, rfl, by decide +kernel, rfl, by decide +kernel, by decide +kernel⟩
abbrev s_are_rooms : Stmt := (topS 24)
theorem sc_are_rooms : FnScope ["value", "most"] ["value", "most"] (defScope s_are_rooms) := ⟨rfl, rfl, rfl, by decide +kernel, rfl, by decide +kernel, by decide +kernel⟩
abbrev s_Tree_init : Stmt := (inClass (topS 25) 0)
theorem sc_Tree_init : FnScope ["self", "classes", "told"] ["self", "classes", "told"] (defScope s_Tree_init) := ⟨rfl, rfl, rfl, by decide +kernel, rfl, by decide +kernel, by decide +kernel⟩
abbrev s_Tree_flat : Stmt := (inClass (topS 25) 1)
theorem sc_Tree_flat : FnScope ["classes", "pages", "told"] ["classes", "pages", "told"] (defScope s_Tree_flat) := ⟨rfl, rfl, rfl, by decide +kernel, rfl, by decide +kernel, by decide +kernel⟩
abbrev s_Tree_exact : Stmt := (inClass (topS 25) 2)
theorem sc_Tree_exact : FnScope ["steps", "rooms", "leaves", "inner", "room"] ["steps", "rooms"] (defScope s_Tree_exact) := ⟨rfl, rfl, rfl, by decide +kernel, rfl, by decide +kernel, by decide +kernel⟩
abbrev s_Tree_told : Stmt := (inClass (topS 25) 3)
theorem sc_Tree_told : FnScope ["self"] ["self"] (defScope s_Tree_told) := ⟨rfl, rfl, rfl, by decide +kernel, rfl, by decide +kernel, by decide +kernel⟩
abbrev s_Tree_is_upright : Stmt := (inClass (topS 25) 4)
theorem sc_Tree_is_upright : FnScope ["self", "node"] ["self"] (defScope s_Tree_is_upright) := ⟨rfl, rfl, rfl, by decide +kernel, rfl, by decide +kernel, by decide +kernel⟩
abbrev s_Tree_len : Stmt := (inClass (topS 25) 5)
theorem sc_Tree_len : FnScope ["self"] ["self"] (defScope s_Tree_len) := ⟨rfl, rfl, rfl, by decide +kernel, rfl, by decide +kernel, by decide +kernel⟩
abbrev s_Tree_getitem : Stmt := (inClass (topS 25) 6)
theorem sc_Tree_getitem : FnScope ["self", "node"] ["self", "node"] (defScope s_Tree_getitem) := ⟨rfl, rfl, rfl, by decide +kernel, rfl, by decide +kernel, by decide +kernel⟩
abbrev s_Tree_leaf : Stmt := (inClass (topS 25) 8)
theorem sc_Tree_leaf : FnScope ["self", "page"] ["self", "page"] (defScope s_Tree_leaf) := ⟨rfl, rfl, rfl, by decide +kernel, rfl, by decide +kernel, by decide +kernel⟩
abbrev s_Tree_way : Stmt := (inClass (topS 25) 9)
theorem sc_Tree_way : FnScope ["self", "page", "node", "upward"] ["self", "page"] (defScope s_Tree_way) := ⟨rfl, rfl, rfl, by decide +kernel, rfl, by decide +kernel, by decide +kernel⟩
abbrev s_Treemisses : Stmt := (inClass (topS 25) 11)
theorem sc_Treemisses : FnScope ["self", "page", "least", "node"] ["self", "page"] (defScope s_Treemisses) := ⟨rfl, rfl, rfl, by decide +kernel, rfl, by decide +kernel, by decide +kernel⟩
abbrev s_Tree_missed : Stmt := (inClass (topS 25) 12)
theorem sc_Tree_missed : FnScope ["self", "page"] ["self"] (defScope s_Tree_missed) := ⟨rfl, rfl, rfl, by decide +kernel, rfl, by decide +kernel, by decide +kernel⟩
abbrev s_Tree_mended : Stmt := (inClass (topS 25) 13)
theorem sc_Tree_mended : FnScope ["self", "told", "node"] ["self"] (defScope s_Tree_mended) := ⟨rfl, rfl, rfl, by decide +kernel, rfl, by decide +kernel, by decide +kernel⟩
abbrev s_Tree_eq : Stmt := (inClass (topS 25) 15)
theorem sc_Tree_eq : FnScope ["self", "other"] ["self", "other"] (defScope s_Tree_eq) := ⟨rfl, rfl, rfl, by decide +kernel, rfl, by decide +kernel, by decide +kernel⟩
abbrev s_law_opened : Stmt := (topS 27)
theorem sc_law_opened : FnScope ["_law_script", "_law_k", "_law_cell", "_law_great"] ["_law_script", "_law_k"] (defScope s_law_opened) := ⟨rfl, rfl, rfl, by decide +kernel, rfl, by decide +kernel, by decide +kernel⟩
abbrev s_law_draw : Stmt := (topS 28)
theorem sc_law_draw : FnScope ["_law_pool", "_law_many", "_law_digit"] ["_law_pool", "_law_many"] (defScope s_law_draw) := ⟨rfl, rfl, rfl, by decide +kernel, rfl, by decide +kernel, by decide +kernel⟩
abbrev s_law_bounds : Stmt := (topS 29)
theorem sc_law_bounds : FnScope ["_law_pool", "_law_top", "_law_most", "_law_menu", "_law_bounds_here", "_law_step", "_law_one"] ["_law_pool", "_law_top"] (defScope s_law_bounds) := ⟨rfl, rfl, rfl, by decide +kernel, rfl, by decide +kernel, by decide +kernel⟩
abbrev s_law_class : Stmt := (topS 30)
theorem sc_law_class : FnScope ["_law_plan", "_law_room", "_law_one"] ["_law_plan", "_law_room"] (defScope s_law_class) := ⟨rfl, rfl, rfl, by decide +kernel, rfl, by decide +kernel, by decide +kernel⟩
abbrev s_law_made_steps : Stmt := (topS 31)
theorem sc_law_made_steps : FnScope ["_law_plan"] ["_law_plan"] (defScope s_law_made_steps) := ⟨rfl, rfl, rfl, by decide +kernel, rfl, by decide +kernel, by decide +kernel⟩
abbrev s_law_told : Stmt := (topS 32)
theorem sc_law_told : FnScope ["_law_pool", "_law_classes", "_law_pages_here", "_law_kind", "_law_row", "_law_node"] ["_law_pool", "_law_classes", "_law_pages_here"] (defScope s_law_told) := ⟨rfl, rfl, rfl, by decide +kernel, rfl, by decide +kernel, by decide +kernel⟩
abbrev s_law_pages : Stmt := (topS 33)
theorem sc_law_pages : FnScope ["_law_pool", "_law_many"] ["_law_pool", "_law_many"] (defScope s_law_pages) := ⟨rfl, rfl, rfl, by decide +kernel, rfl, by decide +kernel, by decide +kernel⟩
abbrev s_law_rooms : Stmt := (topS 34)
theorem sc_law_rooms : FnScope ["_law_pool", "_law_plan", "_law_pages_here", "_law_page"] ["_law_pool", "_law_plan", "_law_pages_here"] (defScope s_law_rooms) := ⟨rfl, rfl, rfl, by decide +kernel, rfl, by decide +kernel, by decide +kernel⟩
abbrev s_law_greater : Stmt := (topS 35)
theorem sc_law_greater : FnScope ["_law_row", "_law_node"] ["_law_row", "_law_node"] (defScope s_law_greater) := ⟨rfl, rfl, rfl, by decide +kernel, rfl, by decide +kernel, by decide +kernel⟩
abbrev s_law_mended : Stmt := (topS 36)
theorem sc_law_mended : FnScope ["_law_row", "_law_out", "_law_node"] ["_law_row"] (defScope s_law_mended) := ⟨rfl, rfl, rfl, by decide +kernel, rfl, by decide +kernel, by decide +kernel⟩
abbrev s_law_exact : Stmt := (topS 37)
theorem sc_law_exact : FnScope ["_law_plan", "_law_rooms_here", "_law_out", "_law_room"] ["_law_plan", "_law_rooms_here"] (defScope s_law_exact) := ⟨rfl, rfl, rfl, by decide +kernel, rfl, by decide +kernel, by decide +kernel⟩
abbrev s_law_tree : Stmt := (topS 38)
theorem sc_law_tree : FnScope ["_law_plan", "_law_row"] ["_law_plan", "_law_row"] (defScope s_law_tree) := ⟨rfl, rfl, rfl, by decide +kernel, rfl, by decide +kernel, by decide +kernel⟩
abbrev s_law : Stmt := (topS 39)
theorem sc_law : FnScope ["_law_script", "_law_k", "_law_pool", "_law_plan", "_law_pages_here", "_law_steps", "_law_rooms_here", "_law_many", "_law_told_here", "_law_flat", "_law_given", "_law_tree_here", "_law_due", "_law_stale"] ["_law_script"] (defScope s_law) := ⟨rfl, rfl, rfl, by decide +kernel, rfl, by decide +kernel, by decide +kernel⟩

structure Ad where
  C_Steps : Addr
  C_Tree : Addr
  a_is_integer : Addr
  fd_is_integer : FuncData
  a_are_integers : Addr
  fd_are_integers : FuncData
  a_are_bounds : Addr
  fd_are_bounds : FuncData
  a_Steps_init : Addr
  fd_Steps_init : FuncData
  a_Steps_len : Addr
  fd_Steps_len : FuncData
  a_Steps_class_of : Addr
  fd_Steps_class_of : FuncData
  a_is_page_count : Addr
  fd_is_page_count : FuncData
  a_are_told : Addr
  fd_are_told : FuncData
  a_are_rooms : Addr
  fd_are_rooms : FuncData
  a_Tree_init : Addr
  fd_Tree_init : FuncData
  a_Tree_flat : Addr
  fd_Tree_flat : FuncData
  a_Tree_exact : Addr
  fd_Tree_exact : FuncData
  a_Tree_told : Addr
  fd_Tree_told : FuncData
  a_Tree_is_upright : Addr
  fd_Tree_is_upright : FuncData
  a_Tree_len : Addr
  fd_Tree_len : FuncData
  a_Tree_getitem : Addr
  fd_Tree_getitem : FuncData
  a_Tree_leaf : Addr
  fd_Tree_leaf : FuncData
  a_Tree_way : Addr
  fd_Tree_way : FuncData
  a_Treemisses : Addr
  fd_Treemisses : FuncData
  a_Tree_missed : Addr
  fd_Tree_missed : FuncData
  a_Tree_mended : Addr
  fd_Tree_mended : FuncData
  a_Tree_eq : Addr
  fd_Tree_eq : FuncData
  a_law_opened : Addr
  fd_law_opened : FuncData
  a_law_draw : Addr
  fd_law_draw : FuncData
  a_law_bounds : Addr
  fd_law_bounds : FuncData
  a_law_class : Addr
  fd_law_class : FuncData
  a_law_made_steps : Addr
  fd_law_made_steps : FuncData
  a_law_told : Addr
  fd_law_told : FuncData
  a_law_pages : Addr
  fd_law_pages : FuncData
  a_law_rooms : Addr
  fd_law_rooms : FuncData
  a_law_greater : Addr
  fd_law_greater : FuncData
  a_law_mended : Addr
  fd_law_mended : FuncData
  a_law_exact : Addr
  fd_law_exact : FuncData
  a_law_tree : Addr
  fd_law_tree : FuncData
  a_law : Addr
  fd_law : FuncData
  pp_Tree_told : Addr
  pp_Tree_is_upright : Addr
  sm_Tree_flat : Addr
  sm_Tree_exact : Addr
  t_PAGES : Addr
  t_NODES : Addr
  tk_GREATEST_ROOM : Tok
  tk_MOST_BOUNDS : Tok
  tk_MOST_CLASSES : Tok
structure Txt (K : PySem.W.Frag) (mg : Str → Option Value) (a : Ad) : Prop where
  cl_Steps : Cls K a.C_Steps
  g_Steps : mg "Steps" = some (.ref a.C_Steps)
  nf_Steps_most : NoAttr K a.C_Steps "most"
  nf_Steps_bounds : NoAttr K a.C_Steps "_bounds"
  mk_Steps : Mk K a.C_Steps a.a_Steps_init
  m_Steps_len : Meth K a.C_Steps "__len__" a.a_Steps_len
  m_Steps_class_of : Meth K a.C_Steps "class_of" a.a_Steps_class_of
  hm_Steps : PySem.W.mroIn K a.C_Steps (.type "object") = some true
  ha_Steps : PySem.W.findIn K (.ref a.C_Steps) "__class__" = some (some (.builtin "object.__class__"))
  hn_Steps : PySem.W.specialIn K (.builtin "object.__class__") "__get__" = some (some (.builtin "getset_descriptor.__get__"))
  ht_Steps : PySem.W.takesIn K (.builtin "object.__class__") = some true
  cl_Tree : Cls K a.C_Tree
  g_Tree : mg "Tree" = some (.ref a.C_Tree)
  nf_Tree_classes : NoAttr K a.C_Tree "classes"
  nf_Tree_told : NoAttr K a.C_Tree "_told"
  mk_Tree : Mk K a.C_Tree a.a_Tree_init
  m_Tree_len : Meth K a.C_Tree "__len__" a.a_Tree_len
  m_Tree_getitem : Meth K a.C_Tree "__getitem__" a.a_Tree_getitem
  m_Tree_leaf : Meth K a.C_Tree "leaf" a.a_Tree_leaf
  m_Tree_way : Meth K a.C_Tree "way" a.a_Tree_way
  m_Treemisses : Meth K a.C_Tree "_misses" a.a_Treemisses
  m_Tree_missed : Meth K a.C_Tree "missed" a.a_Tree_missed
  m_Tree_mended : Meth K a.C_Tree "mended" a.a_Tree_mended
  m_Tree_eq : Meth K a.C_Tree "__eq__" a.a_Tree_eq
  p_Tree_told : PropOf K a.C_Tree "told" a.pp_Tree_told a.a_Tree_told
  p_Tree_is_upright : PropOf K a.C_Tree "is_upright" a.pp_Tree_is_upright a.a_Tree_is_upright
  st_Tree_flat : CStat K a.C_Tree "flat" a.sm_Tree_flat a.a_Tree_flat
  st_Tree_exact : CStat K a.C_Tree "exact" a.sm_Tree_exact a.a_Tree_exact
  fn_Tree_getitem : PySem.W.fnIn K a.a_Tree_getitem = true
  ne_Tree : PySem.W.findIn K (.ref a.C_Tree) "__ne__" = some (some (.builtin "object.__ne__"))
  hm_Tree : PySem.W.mroIn K a.C_Tree (.type "object") = some true
  ha_Tree : PySem.W.findIn K (.ref a.C_Tree) "__class__" = some (some (.builtin "object.__class__"))
  hn_Tree : PySem.W.specialIn K (.builtin "object.__class__") "__get__" = some (some (.builtin "getset_descriptor.__get__"))
  ht_Tree : PySem.W.takesIn K (.builtin "object.__class__") = some true
  F_is_integer : Fun K "is_integer" "is_integer" s_is_integer a.a_is_integer a.fd_is_integer
  b_is_integer : Binds K a.fd_is_integer ["value", "least", "greatest"] []
  g_is_integer : mg "is_integer" = some (.ref a.a_is_integer)
  F_are_integers : Fun K "are_integers" "are_integers" s_are_integers a.a_are_integers a.fd_are_integers
  b_are_integers : Binds K a.fd_are_integers ["value", "least", "greatest"] []
  g_are_integers : mg "are_integers" = some (.ref a.a_are_integers)
  F_are_bounds : Fun K "are_bounds" "are_bounds" s_are_bounds a.a_are_bounds a.fd_are_bounds
  b_are_bounds : Binds K a.fd_are_bounds ["value", "most"] []
  g_are_bounds : mg "are_bounds" = some (.ref a.a_are_bounds)
  F_Steps_init : Fun K "__init__" "Steps.__init__" s_Steps_init a.a_Steps_init a.fd_Steps_init
  b_Steps_init : Binds K a.fd_Steps_init ["self", "most", "bounds"] []
  F_Steps_len : Fun K "__len__" "Steps.__len__" s_Steps_len a.a_Steps_len a.fd_Steps_len
  b_Steps_len : Binds K a.fd_Steps_len ["self"] []
  F_Steps_class_of : Fun K "class_of" "Steps.class_of" s_Steps_class_of a.a_Steps_class_of a.fd_Steps_class_of
  b_Steps_class_of : Binds K a.fd_Steps_class_of ["self", "room"] []
  F_is_page_count : Fun K "is_page_count" "is_page_count" s_is_page_count a.a_is_page_count a.fd_is_page_count
  b_is_page_count : Binds K a.fd_is_page_count ["value"] []
  g_is_page_count : mg "is_page_count" = some (.ref a.a_is_page_count)
  F_are_told : Fun K "are_told" "are_told" s_are_told a.a_are_told a.fd_are_told
  b_are_told : Binds K a.fd_are_told ["value", "classes"] []
  g_are_told : mg "are_told" = some (.ref a.a_are_told)
  F_are_rooms : Fun K "are_rooms" "are_rooms" s_are_rooms a.a_are_rooms a.fd_are_rooms
  b_are_rooms : Binds K a.fd_are_rooms ["value", "most"] []
  g_are_rooms : mg "are_rooms" = some (.ref a.a_are_rooms)
  F_Tree_init : Fun K "__init__" "Tree.__init__" s_Tree_init a.a_Tree_init a.fd_Tree_init
  b_Tree_init : Binds K a.fd_Tree_init ["self", "classes", "told"] []
  F_Tree_flat : Fun K "flat" "Tree.flat" s_Tree_flat a.a_Tree_flat a.fd_Tree_flat
  b_Tree_flat : Binds K a.fd_Tree_flat ["classes", "pages", "told"] []
  F_Tree_exact : Fun K "exact" "Tree.exact" s_Tree_exact a.a_Tree_exact a.fd_Tree_exact
  b_Tree_exact : Binds K a.fd_Tree_exact ["steps", "rooms"] []
  F_Tree_told : Fun K "told" "Tree.told" s_Tree_told a.a_Tree_told a.fd_Tree_told
  b_Tree_told : Binds K a.fd_Tree_told ["self"] []
  F_Tree_is_upright : Fun K "is_upright" "Tree.is_upright" s_Tree_is_upright a.a_Tree_is_upright a.fd_Tree_is_upright
  b_Tree_is_upright : Binds K a.fd_Tree_is_upright ["self"] []
  F_Tree_len : Fun K "__len__" "Tree.__len__" s_Tree_len a.a_Tree_len a.fd_Tree_len
  b_Tree_len : Binds K a.fd_Tree_len ["self"] []
  F_Tree_getitem : Fun K "__getitem__" "Tree.__getitem__" s_Tree_getitem a.a_Tree_getitem a.fd_Tree_getitem
  b_Tree_getitem : Binds K a.fd_Tree_getitem ["self", "node"] []
  F_Tree_leaf : Fun K "leaf" "Tree.leaf" s_Tree_leaf a.a_Tree_leaf a.fd_Tree_leaf
  b_Tree_leaf : Binds K a.fd_Tree_leaf ["self", "page"] []
  F_Tree_way : Fun K "way" "Tree.way" s_Tree_way a.a_Tree_way a.fd_Tree_way
  b_Tree_way : Binds K a.fd_Tree_way ["self", "page"] []
  F_Treemisses : Fun K "_misses" "Tree._misses" s_Treemisses a.a_Treemisses a.fd_Treemisses
  b_Treemisses : Binds K a.fd_Treemisses ["self", "page"] []
  F_Tree_missed : Fun K "missed" "Tree.missed" s_Tree_missed a.a_Tree_missed a.fd_Tree_missed
  b_Tree_missed : Binds K a.fd_Tree_missed ["self"] []
  F_Tree_mended : Fun K "mended" "Tree.mended" s_Tree_mended a.a_Tree_mended a.fd_Tree_mended
  b_Tree_mended : Binds K a.fd_Tree_mended ["self"] []
  F_Tree_eq : Fun K "__eq__" "Tree.__eq__" s_Tree_eq a.a_Tree_eq a.fd_Tree_eq
  b_Tree_eq : Binds K a.fd_Tree_eq ["self", "other"] []
  F_law_opened : Fun K "_law_opened" "_law_opened" s_law_opened a.a_law_opened a.fd_law_opened
  b_law_opened : Binds K a.fd_law_opened ["_law_script", "_law_k"] []
  g__law_opened : mg "_law_opened" = some (.ref a.a_law_opened)
  F_law_draw : Fun K "_law_draw" "_law_draw" s_law_draw a.a_law_draw a.fd_law_draw
  b_law_draw : Binds K a.fd_law_draw ["_law_pool", "_law_many"] []
  g__law_draw : mg "_law_draw" = some (.ref a.a_law_draw)
  F_law_bounds : Fun K "_law_bounds" "_law_bounds" s_law_bounds a.a_law_bounds a.fd_law_bounds
  b_law_bounds : Binds K a.fd_law_bounds ["_law_pool", "_law_top"] []
  g__law_bounds : mg "_law_bounds" = some (.ref a.a_law_bounds)
  F_law_class : Fun K "_law_class" "_law_class" s_law_class a.a_law_class a.fd_law_class
  b_law_class : Binds K a.fd_law_class ["_law_plan", "_law_room"] []
  g__law_class : mg "_law_class" = some (.ref a.a_law_class)
  F_law_made_steps : Fun K "_law_made_steps" "_law_made_steps" s_law_made_steps a.a_law_made_steps a.fd_law_made_steps
  b_law_made_steps : Binds K a.fd_law_made_steps ["_law_plan"] []
  g__law_made_steps : mg "_law_made_steps" = some (.ref a.a_law_made_steps)
  F_law_told : Fun K "_law_told" "_law_told" s_law_told a.a_law_told a.fd_law_told
  b_law_told : Binds K a.fd_law_told ["_law_pool", "_law_classes", "_law_pages_here"] []
  g__law_told : mg "_law_told" = some (.ref a.a_law_told)
  F_law_pages : Fun K "_law_pages" "_law_pages" s_law_pages a.a_law_pages a.fd_law_pages
  b_law_pages : Binds K a.fd_law_pages ["_law_pool", "_law_many"] []
  g__law_pages : mg "_law_pages" = some (.ref a.a_law_pages)
  F_law_rooms : Fun K "_law_rooms" "_law_rooms" s_law_rooms a.a_law_rooms a.fd_law_rooms
  b_law_rooms : Binds K a.fd_law_rooms ["_law_pool", "_law_plan", "_law_pages_here"] []
  g__law_rooms : mg "_law_rooms" = some (.ref a.a_law_rooms)
  F_law_greater : Fun K "_law_greater" "_law_greater" s_law_greater a.a_law_greater a.fd_law_greater
  b_law_greater : Binds K a.fd_law_greater ["_law_row", "_law_node"] []
  g__law_greater : mg "_law_greater" = some (.ref a.a_law_greater)
  F_law_mended : Fun K "_law_mended" "_law_mended" s_law_mended a.a_law_mended a.fd_law_mended
  b_law_mended : Binds K a.fd_law_mended ["_law_row"] []
  g__law_mended : mg "_law_mended" = some (.ref a.a_law_mended)
  F_law_exact : Fun K "_law_exact" "_law_exact" s_law_exact a.a_law_exact a.fd_law_exact
  b_law_exact : Binds K a.fd_law_exact ["_law_plan", "_law_rooms_here"] []
  g__law_exact : mg "_law_exact" = some (.ref a.a_law_exact)
  F_law_tree : Fun K "_law_tree" "_law_tree" s_law_tree a.a_law_tree a.fd_law_tree
  b_law_tree : Binds K a.fd_law_tree ["_law_plan", "_law_row"] []
  g__law_tree : mg "_law_tree" = some (.ref a.a_law_tree)
  F_law : Fun K "law" "law" s_law a.a_law a.fd_law
  b_law : Binds K a.fd_law ["_law_script"] []
  g_law : mg "law" = some (.ref a.a_law)
  g_PAGES : mg "PAGES" = some (.ref a.t_PAGES)
  q_PAGES : ∀ H, SqT K H a.t_PAGES (([2, 4, 8, 16, 32] : List Int).map V.int)
  g_NODES : mg "NODES" = some (.ref a.t_NODES)
  q_NODES : ∀ H, SqT K H a.t_NODES (([3, 7, 15, 31, 63] : List Int).map V.int)
  c_GREATEST_ROOM : mg "GREATEST_ROOM" = some (.int 1000 a.tk_GREATEST_ROOM)
  c_MOST_BOUNDS : mg "MOST_BOUNDS" = some (.int 8 a.tk_MOST_BOUNDS)
  c_MOST_CLASSES : mg "MOST_CLASSES" = some (.int 8 a.tk_MOST_CLASSES)
  n_isinstance : mg "isinstance" = none
  n_int : mg "int" = none
  n_bool : mg "bool" = none
  n_list : mg "list" = none
  n_tuple : mg "tuple" = none
  n_len : mg "len" = none
  n_range : mg "range" = none
  n_max : mg "max" = none
  n_min : mg "min" = none
  n_sorted : mg "sorted" = none
  n_repr : mg "repr" = none
end Rt
set_option maxHeartbeats 4000000
namespace Rt
open PySem L2
/-! ### a for over a list or a tuple, whichever it is -/
def SqE (K : PySem.W.Frag) (tp : Bool) (H : Hp) (p : Addr) (xs : List V) : Prop := if tp = true then SqT K H p xs else SqL K H p xs
def iSeq (K : PySem.W.Frag) (te : TE) : TI := fun σ H R => te σ H fun x H1 => ∃ p, x = .ref p ∧ (((∃ xs, SqL K H1 p xs) ∧ R (Itl K p) H1) ∨ ((∃ xs, SqT K H1 p xs) ∧ R (Itt K p) H1))
open PySem.Spec PyProof.Rows in
theorem pi_seq {X : Cx} {tg l : Expr} {tl : TE} (hl : PE X l tl) : PI X tg l (iSeq X.K tl) := by
  refine ⟨fun pins s σ H R I h => ?_⟩
  refine thn (hl.run pins s σ H _ I h) fun v s1 ⟨x, H1, I1, r1, q1⟩ => ?_
  obtain ⟨p, e, q⟩ := q1
  subst e
  cases r1
  rcases q with ⟨⟨xs, hq⟩, q⟩ | ⟨⟨xs, hq⟩, q⟩
  · obtain ⟨its, rv, pp, hz⟩ := I1.list hq
    refine wpAny_pyIter_list pp.isList ⟨s1.heap.objs.size, [s1.heap.objs.size], _, _, H1, rfl, I1.kept (t' := s1.toks) fun b o e => Heap.get?_push_of_some _ e, turn_list p _, ⟨_, Heap.get?_push_size _ rfl, rfl, rfl⟩, fun b hb => ?_, q⟩
    have e : b = s1.heap.objs.size := by simpa using hb
    exact e ▸ I1.fpOk (Nat.le_refl _) (I1.hok.fresh (Nat.le_refl _))
  · obtain ⟨its, rv, pp, hz⟩ := I1.tuple hq
    refine wpAny_pyIter_tuple (show s1.heap.IsTuple p its.toArray from pp) ⟨s1.heap.objs.size, [s1.heap.objs.size], _, _, H1, rfl, I1.kept (t' := s1.toks) fun b o e => Heap.get?_push_of_some _ e, turn_tuple p _, ⟨_, Heap.get?_push_size _ rfl, rfl, rfl⟩, fun b hb => ?_, q⟩
    have e : b = s1.heap.objs.size := by simpa using hb
    exact e ▸ I1.fpOk (Nat.le_refl _) (I1.hok.fresh (Nat.le_refl _))
theorem for_seq {K : PySem.W.Frag} {p : Addr} {xs : List V} {g : TG} {tb : TS} {D : Ends} {σ : St} {H : Hp} (tp : Bool) (Pv : Nat → St → Hp → Prop) (h0 : Pv 0 σ H) (hl : ∀ i σ H, i ≤ xs.length → Pv i σ H → SqE K tp H p xs)
    (hs : ∀ i x σ H, xs[i]? = some x → Pv i σ H → g x σ H fun σ2 H2 => tb { D with nx := Pv (i + 1), ct := Pv (i + 1), bk := D.nx } σ2 H2) (hd : ∀ σ H, Pv xs.length σ H → D.nx σ H) :
    ((∃ xs, SqL K H p xs) ∧ ∃ W : Nat → Nat → St → Hp → Prop, (∃ m, W 0 m σ H) ∧ ∀ i m σ H, W i m σ H →
      ((Itl K p).stop i H ∧ D.nx σ H) ∨ ((Itl K p).go i H ∧ ∃ N : St → Hp → Prop, (∀ σ' H', N σ' H' → ∃ m', m' < m ∧ W (i + 1) m' σ' H') ∧ ∀ x H', (Itl K p).yld i H x H' → g x σ H' fun σ2 H2 => tb { D with nx := N, ct := N, bk := D.nx } σ2 H2)) ∨
    ((∃ xs, SqT K H p xs) ∧ ∃ W : Nat → Nat → St → Hp → Prop, (∃ m, W 0 m σ H) ∧ ∀ i m σ H, W i m σ H →
      ((Itt K p).stop i H ∧ D.nx σ H) ∨ ((Itt K p).go i H ∧ ∃ N : St → Hp → Prop, (∀ σ' H', N σ' H' → ∃ m', m' < m ∧ W (i + 1) m' σ' H') ∧ ∀ x H', (Itt K p).yld i H x H' → g x σ H' fun σ2 H2 => tb { D with nx := N, ct := N, bk := D.nx } σ2 H2)) := by
  cases tp with
  | false => exact .inl ⟨⟨xs, hl 0 σ H (Nat.zero_le _) h0⟩, for_list (K := K) (a := p) (xs := xs) Pv h0 hl hs hd⟩
  | true => exact .inr ⟨⟨xs, hl 0 σ H (Nat.zero_le _) h0⟩, for_tup (K := K) (a := p) (xs := xs) Pv h0 hl hs hd⟩
/-! ### plain values -/
inductive Pl (H : Hp) : V → Prop
  | non : Pl H .non
  | bl (b : Bool) : Pl H (.bl b)
  | int (i : Int) : Pl H (.int i)
  | str (x : Str) : Pl H (.str x)
  | lst {p : Addr} {xs : List V} (e : H p = some (.lst xs)) : Pl H (.ref p)
  | tup {p : Addr} {xs : List V} (e : H p = some (.tup xs)) : Pl H (.ref p)
  | dK {p : Addr} {kvs : List (Key × V)} (e : H p = some (.dK kvs)) : Pl H (.ref p)
theorem Pl.mono {H H' : Hp} {v : V} (h : Pl H v) (s : Same H H') : Pl H' v := by
  cases h with
  | non => exact .non
  | bl b => exact .bl b
  | int i => exact .int i
  | str x => exact .str x
  | lst e => exact .lst (s _ _ e)
  | tup e => exact .tup (s _ _ e)
  | dK e => exact .dK (s _ _ e)
def inI (x lo hi : Int) : Bool := decide (lo ≤ x) && decide (x ≤ hi)
theorem inI_T {x lo hi : Int} (h : lo ≤ x ∧ x ≤ hi) : inI x lo hi = true := by
  unfold inI; rw [decide_eq_true h.1, decide_eq_true h.2]; rfl
theorem inI_iff {x lo hi : Int} : inI x lo hi = true ↔ lo ≤ x ∧ x ≤ hi := by
  unfold inI; rw [Bool.and_eq_true, decide_eq_true_eq, decide_eq_true_eq]
def inW (v : V) (lo hi : Int) : Bool := match v with
  | .int x => inI x lo hi
  | _ => false
theorem inW_int {v : V} {lo hi : Int} (h : inW v lo hi = true) : ∃ x, v = .int x ∧ lo ≤ x ∧ x ≤ hi := by
  cases v with
  | int x => exact ⟨x, rfl, inI_iff.mp h⟩
  | _ => cases h
/-- what the type of a plain value is asked -/
theorem Pl.ty {K : PySem.W.Frag} {H : Hp} {v : V} (h : Pl H v) : ∃ t : String, TyX K H v (.type t) ∧ ((∃ x, v = .int x) ∧ kitB t "int" = some true ∧ kitB t "bool" = some false ∨ (∀ lo hi, inW v lo hi = false) ∧ (kitB t "int" = some false ∨ kitB t "int" = some true ∧ kitB t "bool" = some true)) := by
  cases h with
  | non => exact ⟨_, .base .non, .inr ⟨fun _ _ => rfl, .inl (by decide +kernel)⟩⟩
  | bl b => exact ⟨_, .base (.bl b), .inr ⟨fun _ _ => rfl, .inr ⟨by decide +kernel, by decide +kernel⟩⟩⟩
  | int i => exact ⟨_, .base (.int i), .inl ⟨⟨i, rfl⟩, by decide +kernel, by decide +kernel⟩⟩
  | str x => exact ⟨_, .base (.str x), .inr ⟨fun _ _ => rfl, .inl (by decide +kernel)⟩⟩
  | lst e => exact ⟨_, .base (.lst e), .inr ⟨fun _ _ => rfl, .inl (by decide +kernel)⟩⟩
  | tup e => exact ⟨_, .base (.tup e), .inr ⟨fun _ _ => rfl, .inl (by decide +kernel)⟩⟩
  | dK e => exact ⟨_, .base (.dK e), .inr ⟨fun _ _ => rfl, .inl (by decide +kernel)⟩⟩
section
variable {P : Program} {w : World} {K : PySem.W.Frag} {mg : Str → Option Value} {base : Heap} {a : Ad}
theorem same_new {H : Hp} {p : Addr} {o : HO} (h : H p = none) : Same H (upd H p o) := fun b u e => by rw [upd_ne (ne_of_none e h)]; exact e
/-! ### is_integer -/
def sp_is_integer : Sp := fun vs H Q _ => ∃ (v : V) (lo hi : Int), vs = [v, .int lo, .int hi] ∧ Pl H v ∧ Q (.bl (inW v lo hi)) H
theorem ok_is_integer (T : Txt K mg a) : FnOk P w K mg base CX0 1 a.a_is_integer a.fd_is_integer ["value", "least", "greatest"] sp_is_integer := by
  refine T.F_is_integer.ok sc_is_integer (fun vs H Q E h => ?_) (fun cdv A outer s H vs Q E hr h => ?_)
  · obtain ⟨x, lo, hi, rfl, _⟩ := h
    rfl
  · obtain ⟨v, lo, hi, rfl, hv, k⟩ := h
    refine ⟨_, (pss_cons (ps_if (PW.pt (pw_or (pt_not (pt_val (pe_callB call_isi (by rfl) T.n_isinstance (by decide +kernel) (pa_cons (pv 0) (pa_cons (pe_bltn (v := .ty "int") (by rfl) T.n_int (by decide +kernel) rfl) pa_nil))))) (pw_or1 (pt_val (pe_callB call_isi (by rfl) T.n_isinstance (by decide +kernel) (pa_cons (pv 0) (pa_cons (pe_bltn (v := .ty "bool") (by rfl) T.n_bool (by decide +kernel) rfl) pa_nil)))))))
      (pss_one (ps_ret pe_bl))
      pss_nil)
      (pss_one (ps_ret (pe_chain op_le op_le (pv 1) (pv 0) (pv 2))))), ?_⟩
    obtain ⟨t, ty, ⟨⟨x, rfl⟩, k1, k2⟩ | ⟨no, k1 | ⟨k1, k2⟩⟩⟩ := hv.ty (K := K)
    · refine ⟨_, rfl, _, _, _, _, true, rfl, .ty "int", ty, kit_ty k1, _, rfl, ?_⟩
      refine iteF ?_
      refine ⟨_, rfl, _, _, _, _, false, rfl, .ty "bool", ty, kit_ty k2, _, rfl, ?_⟩
      refine iteF ?_
      refine ⟨_, rfl, _, rfl, _, _, rfl, rfl, _, rfl, ?_⟩
      have k' : Q (.bl (decide (lo ≤ x) && decide (x ≤ hi))) H := k
      by_cases c : lo ≤ x
      · rw [decide_eq_true c] at k' ⊢
        refine iteT ⟨_, rfl, _, _, rfl, rfl, k'⟩
      · rw [decide_eq_false c] at k' ⊢
        exact iteF k'
    · refine ⟨_, rfl, _, _, _, _, false, rfl, .ty "int", ty, kit_ty k1, _, rfl, ?_⟩
      refine iteT ?_
      rw [no] at k
      exact k
    · refine ⟨_, rfl, _, _, _, _, true, rfl, .ty "int", ty, kit_ty k1, _, rfl, ?_⟩
      refine iteF ?_
      refine ⟨_, rfl, _, _, _, _, true, rfl, .ty "bool", ty, kit_ty k2, _, rfl, ?_⟩
      refine iteT ?_
      rw [no] at k
      exact k
/-! ### are_integers -/
/-- the items of a value, none where it is no list or tuple -/
inductive Cont (H : Hp) : V → Option (List V) → Prop
  | non : Cont H .non none
  | bl (b : Bool) : Cont H (.bl b) none
  | int (i : Int) : Cont H (.int i) none
  | str (x : Str) : Cont H (.str x) none
  | dK {p : Addr} {kvs : List (Key × V)} (e : H p = some (.dK kvs)) : Cont H (.ref p) none
  | lst {p : Addr} {xs : List V} (e : H p = some (.lst xs)) (h : ∀ x ∈ xs, Pl H x) : Cont H (.ref p) (some xs)
  | tup {p : Addr} {xs : List V} (e : H p = some (.tup xs)) (h : ∀ x ∈ xs, Pl H x) : Cont H (.ref p) (some xs)
theorem Cont.mono {H H' : Hp} {v : V} {o : Option (List V)} (h : Cont H v o) (s : Same H H') : Cont H' v o := by
  cases h with
  | non => exact .non
  | bl b => exact .bl b
  | int i => exact .int i
  | str x => exact .str x
  | dK e => exact .dK (s _ _ e)
  | lst e h => exact .lst (s _ _ e) fun x hx => (h x hx).mono s
  | tup e h => exact .tup (s _ _ e) fun x hx => (h x hx).mono s
/-- by its type: no list or tuple; or one of the two, with its items -/
theorem Cont.ty {K : PySem.W.Frag} {H : Hp} {v : V} {o : Option (List V)} (h : Cont H v o) :
    (o = none ∧ ∃ t : String, TyX K H v (.type t) ∧ kitB t "list" = some false ∧ kitB t "tuple" = some false) ∨
    (∃ (p : Addr) (xs : List V) (tp : Bool), v = .ref p ∧ o = some xs ∧ (∀ x ∈ xs, Pl H x) ∧ H p = some (if tp = true then .tup xs else .lst xs)) := by
  cases h with
  | non => exact .inl ⟨rfl, _, .base .non, by decide +kernel, by decide +kernel⟩
  | bl b => exact .inl ⟨rfl, _, .base (.bl b), by decide +kernel, by decide +kernel⟩
  | int i => exact .inl ⟨rfl, _, .base (.int i), by decide +kernel, by decide +kernel⟩
  | str x => exact .inl ⟨rfl, _, .base (.str x), by decide +kernel, by decide +kernel⟩
  | dK e => exact .inl ⟨rfl, _, .base (.dK e), by decide +kernel, by decide +kernel⟩
  | lst e h => exact .inr ⟨_, _, false, rfl, rfl, h, by rw [if_neg Bool.false_ne_true]; exact e⟩
  | tup e h => exact .inr ⟨_, _, true, rfl, rfl, h, by rw [if_pos rfl]; exact e⟩
theorem sqe_of {tp : Bool} {H : Hp} {p : Addr} {xs : List V} (h : H p = some (if tp = true then .tup xs else .lst xs)) : SqE K tp H p xs := by
  cases tp with
  | false => exact SqL.of h
  | true => exact SqT.of h
theorem kit_lt {H : Hp} {tp : Bool} {p : Addr} {xs : List V} (h : H p = some (if tp = true then .tup xs else .lst xs)) : ∃ t, TyX K H (.ref p) t ∧ PySem.W.kitAny K t [.type "list", .type "tuple"] = some true := by
  cases tp with
  | false => exact ⟨_, .base (.lst h), kitAny_cons (b := true) (kit_ty (by decide +kernel)) (fun z => by cases z) (fun _ => rfl)⟩
  | true => exact ⟨_, .base (.tup h), kitAny_cons (b := false) (kit_ty (by decide +kernel)) (fun _ => kitAny_cons (b := true) (kit_ty (by decide +kernel)) (fun z => by cases z) (fun _ => rfl)) (fun z => by cases z)⟩
def allW (o : Option (List V)) (lo hi : Int) : Bool := match o with
  | none => false
  | some xs => xs.all fun v => inW v lo hi
def sp_are_integers : Sp := fun vs H Q _ => ∃ (v : V) (o : Option (List V)) (lo hi : Int), vs = [v, .int lo, .int hi] ∧ Cont H v o ∧ ∀ H', Same H H' → Q (.bl (allW o lo hi)) H'
theorem ok_are_integers (T : Txt K mg a) : FnOk P w K mg base CX0 2 a.a_are_integers a.fd_are_integers ["value", "least", "greatest"] sp_are_integers := by
  refine T.F_are_integers.ok sc_are_integers (fun vs H Q E h => ?_) (fun cdv A outer s H vs Q E hr h => ?_)
  · obtain ⟨v, o, lo, hi, rfl, _⟩ := h
    rfl
  · obtain ⟨v, o, lo, hi, rfl, hv, k⟩ := h
    refine ⟨_, (pss_cons (ps_if (pt_not (pt_val (pe_callB call_isiT (by rfl) T.n_isinstance (by decide +kernel) (pa_cons (pv 0) (pa_cons (pe_tup (pa_cons (pe_bltn (v := .ty "list") (by rfl) T.n_list (by decide +kernel) rfl) (pa_cons (pe_bltn (v := .ty "tuple") (by rfl) T.n_tuple (by decide +kernel) rfl) pa_nil))) pa_nil)))))
      (pss_one (ps_ret pe_bl))
      pss_nil)
      (pss_cons (ps_for PassesOwn.never rfl (pi_seq (pv 0)) (pg_name (i := 3) sc_are_integers.nd rfl (Or.inl rfl))
      (pss_one (ps_if (pt_not (pt_val (pe_call (ok_is_integer T) (hr.mono (by decide)) rfl T.g_is_integer T.F_is_integer.kp T.b_is_integer .nil pass0 (pa_cons (pv 3) (pa_cons (pv 1) (pa_cons (pv 2) pa_nil))))))
        (pss_one (ps_ret pe_bl))
        pss_nil)))
      (pss_one (ps_ret pe_bl)))), ?_⟩
    refine ⟨_, rfl, (by show 2 ≤ sizeLine; decide), fun t ht => ?_⟩
    have s0 : Same H (upd H t (.tup [.ty "list", .ty "tuple"])) := same_new ht
    have hv2 := hv.mono s0
    rcases hv2.ty (K := K) with ⟨rfl, ty, tyx, k1, k2⟩ | ⟨p, xs, tp, rfl, rfl, hpl, hp2⟩
    · refine ⟨_, t, _, .type ty, [.type "list", .type "tuple"], false, rfl, upd_same, .cons (.ty _) (.cons (.ty _) .nil), tyx, kitAny_cons (b := false) (kit_ty k1) (fun _ => kitAny_cons (b := false) (kit_ty k2) (fun _ => rfl) (fun z => by cases z)) (fun z => by cases z), _, rfl, ?_⟩
      exact iteT (k _ s0)
    · obtain ⟨tt, tyx, kit⟩ := kit_lt (K := K) hp2
      refine ⟨_, t, _, tt, [.type "list", .type "tuple"], true, rfl, upd_same, .cons (.ty _) (.cons (.ty _) .nil), tyx, kit, _, rfl, ?_⟩
      refine iteF ?_
      refine ⟨_, rfl, p, rfl, for_seq (K := K) (p := p) (xs := xs) tp (fun i σ H' => (∃ v : Option V, σ = [some (.ref p), some (.int lo), some (.int hi), v]) ∧ (xs.take i).all (fun v => inW v lo hi) = true ∧ Same (upd H t (.tup [.ty "list", .ty "tuple"])) H')
        ⟨⟨none, rfl⟩, rfl, Same.refl _⟩ (fun i σ H' _ h => sqe_of (h.2.2 _ _ hp2)) ?_ ?_⟩
      · rintro i y σ H' hk ⟨⟨v, rfl⟩, ha, s1⟩
        have py := hpl y (List.mem_of_getElem? hk)
        refine ⟨_, rfl, _, rfl, _, rfl, y, lo, hi, rfl, py.mono s1, _, rfl, ?_⟩
        have e1 : xs.take (i + 1) = xs.take i ++ [y] := by rw [List.take_add_one, hk]; rfl
        cases c : inW y lo hi with
        | true =>
          refine iteF ⟨⟨_, rfl⟩, ?_, s1⟩
          rw [e1, List.all_append, ha]
          show (inW y lo hi && true) = true
          rw [c]; rfl
        | false =>
          refine iteT ?_
          have e2 : allW (some xs) lo hi = false := by
            cases c2 : allW (some xs) lo hi with
            | false => rfl
            | true =>
              have := List.all_eq_true.mp c2 y (List.mem_of_getElem? hk)
              rw [c] at this; cases this
          rw [e2] at k
          exact k _ (s0.trans s1)
      · rintro σ H' ⟨⟨v, rfl⟩, ha, s1⟩
        rw [List.take_length] at ha
        have e2 : allW (some xs) lo hi = true := ha
        rw [e2] at k
        exact k _ (s0.trans s1)
end
end Rt
set_option maxHeartbeats 4000000
namespace Rt
open PySem L2
/-! ### trees -/
theorem ct_ : ¬ (("classes" : Str) = "_told") := by decide +kernel
def tf (c : Int) (t : Addr) : List (Str × V) := putF "_told" (.ref t) (putF "classes" (.int c) [])
theorem tf_classes (c : Int) (t : Addr) : (tf c t).lookup ("classes" : Str) = some (.int c) := by
  unfold tf
  rw [lookup_putF, if_neg ct_, lookup_putF, if_pos rfl]
theorem tf_told (c : Int) (t : Addr) : (tf c t).lookup ("_told" : Str) = some (.ref t) := by
  unfold tf
  rw [lookup_putF, if_pos rfl]
theorem tf_no (c : Int) (t : Addr) {x : Str} (h1 : ¬ x = "_told") (h2 : ¬ x = "classes") : (tf c t).lookup x = none := by
  unfold tf
  rw [lookup_putF, if_neg h1, lookup_putF, if_neg h2]
  all_goals rfl
/-- told classes of a tree with n pages -/
structure Told (c : Int) (ts : List Int) (n : Nat) : Prop where
  c1 : 1 ≤ c
  c8 : c ≤ 8
  lo : ∀ z ∈ ts, 0 ≤ z
  hi : ∀ z ∈ ts, z ≤ c
  num : n = 2 ∨ n = 4 ∨ n = 8 ∨ n = 16 ∨ n = 32
  len : ts.length + 1 = 2 * n
theorem Told.n2 {c : Int} {ts : List Int} {n : Nat} (g : Told c ts n) : 2 ≤ n ∧ n ≤ 32 := by
  rcases g.num with h | h | h | h | h <;> omega
def TreeAt (C : Addr) (H : Hp) (p : Addr) (c : Int) (ts : List Int) : Prop := ∃ (dx t : Addr), H p = some (.ins C dx (tf c t)) ∧ H t = some (.tup (ts.map V.int))
theorem TreeAt.mono {C : Addr} {H H' : Hp} {p : Addr} {c : Int} {ts : List Int} (h : TreeAt C H p c ts) (s : Same H H') : TreeAt C H' p c ts := by
  obtain ⟨dx, t, h1, h2⟩ := h
  exact ⟨dx, t, s _ _ h1, s _ _ h2⟩
/-- all as it was but what stands at p -/
def But (p : Addr) (H H' : Hp) : Prop := ∀ b o, b ≠ p → H b = some o → H' b = some o
theorem map_at {ns : List Int} {i : Nat} {y : V} (h : (ns.map V.int)[i]? = some y) : ∃ z, ns[i]? = some z ∧ y = V.int z := by
  rw [List.getElem?_map] at h
  cases e : ns[i]? with
  | none => rw [e] at h; cases h
  | some z => rw [e] at h; exact ⟨z, rfl, (Option.some.inj h).symm⟩
theorem at_map {ns : List Int} {i : Nat} {z : Int} (h : ns[i]? = some z) : (ns.map V.int)[i]? = some (V.int z) := by
  rw [List.getElem?_map, h]; rfl
/-- what node k is told -/
def val (ts : List Int) (k : Nat) : Int := ts.getD (k - 1) 0
theorem val_at {ts : List Int} {k : Nat} (h1 : 1 ≤ k) (h2 : k ≤ ts.length) : ts[k - 1]? = some (val ts k) := by
  unfold val
  rw [List.getD_eq_getElem?_getD]
  have : k - 1 < ts.length := by omega
  rw [List.getElem?_eq_getElem this]; rfl
theorem allW_told {c : Int} {ts : List Int} {n : Nat} (g : Told c ts n) : allW (some (ts.map V.int)) 0 c = true := by
  show (ts.map V.int).all (fun v => inW v 0 c) = true
  rw [List.all_eq_true]
  intro x hx
  obtain ⟨z, hz, rfl⟩ := List.mem_map.mp hx
  exact inI_T ⟨g.lo z hz, g.hi z hz⟩
theorem pl_ints (H : Hp) (ns : List Int) : ∀ x ∈ ns.map V.int, Pl H x := fun x hx => by
  obtain ⟨z, _, rfl⟩ := List.mem_map.mp hx
  exact .int z
section
variable {P : Program} {w : World} {K : PySem.W.Frag} {mg : Str → Option Value} {base : Heap} {a : Ad}
def sp_are_told : Sp := fun vs H Q _ => ∃ (l : Addr) (c : Int) (ts : List Int) (n : Nat), vs = [.ref l, .int c] ∧ H l = some (.lst (ts.map V.int)) ∧ Told c ts n ∧ ∀ H', Same H H' → Q (.bl true) H'
theorem ok_are_told (T : Txt K mg a) : FnOk P w K mg base CX0 3 a.a_are_told a.fd_are_told ["value", "classes"] sp_are_told := by
  refine T.F_are_told.ok sc_are_told (fun vs H Q E h => ?_) (fun cdv A outer s H vs Q E hr h => ?_)
  · obtain ⟨l, c, ts, n, rfl, _⟩ := h
    rfl
  · obtain ⟨l, c, ts, n, rfl, hl, g, k⟩ := h
    refine ⟨_, (pss_one (ps_ret (pe_and (pe_call (ok_are_integers T) (hr.mono (by decide)) rfl T.g_are_integers T.F_are_integers.kp T.b_are_integers .nil pass0 (pa_cons (pv 0) (pa_cons pe_int (pa_cons (pv 1) pa_nil)))) (pe_one (pe_cmpR op_in_seq (pe_callB call_len_seq (by rfl) T.n_len PySem.boot_len (pa_cons (pv 0) pa_nil)) (pe_glob (v := .ref a.t_NODES) rfl T.g_NODES rfl) (by rfl)))))), ?_⟩
    refine ⟨_, rfl, _, rfl, .ref l, some (ts.map V.int), 0, c, rfl, .lst hl (pl_ints H ts), fun H1 s1 => ⟨_, rfl, ?_⟩⟩
    rw [allW_told g]
    refine iteT ?_
    refine ⟨_, rfl, l, _, rfl, .inl (SqL.of (s1 _ _ hl)), a.t_NODES, _, rfl, .inr (T.q_NODES _), rfl, (by decide), ?_⟩
    have e : inV (V.int ((ts.map V.int).length : Nat)) (([3, 7, 15, 31, 63] : List Int).map V.int) = true := by
      rw [List.length_map]
      have := g.len
      rcases g.num with h | h | h | h | h
      · rw [show ts.length = 3 by omega]; decide
      · rw [show ts.length = 7 by omega]; decide
      · rw [show ts.length = 15 by omega]; decide
      · rw [show ts.length = 31 by omega]; decide
      · rw [show ts.length = 63 by omega]; decide
    rw [e]
    exact k _ s1
def sp_Tree_init (C : Addr) : Sp := fun vs H Q _ => ∃ (p dx l : Addr) (c : Int) (ts : List Int) (n : Nat), vs = [.ref p, .int c, .ref l] ∧ H p = some (.ins C dx []) ∧ H l = some (.lst (ts.map V.int)) ∧ Told c ts n ∧
  ∀ H', But p H H' → TreeAt C H' p c ts → Q .non H'
theorem ok_Tree_init (T : Txt K mg a) : FnOk P w K mg base CX0 4 a.a_Tree_init a.fd_Tree_init ["self", "classes", "told"] (sp_Tree_init a.C_Tree) := by
  refine T.F_Tree_init.ok sc_Tree_init (fun vs H Q E h => ?_) (fun cdv A outer s H vs Q E hr h => ?_)
  · obtain ⟨p, dx, l, c, ts, n, rfl, _⟩ := h
    rfl
  · obtain ⟨p, dx, l, c, ts, n, rfl, hp, hl, g, k⟩ := h
    have c1 := g.c1
    have c8 := g.c8
    refine ⟨_, (pss_cons (ps_if (pt_not (pt_val (pe_call (ok_is_integer T) (hr.mono (by decide)) rfl T.g_is_integer T.F_is_integer.kp T.b_is_integer .nil pass0 (pa_cons (pv 1) (pa_cons pe_int (pa_cons (pe_glob (v := .int 8) rfl T.c_MOST_CLASSES ⟨_, rfl⟩) pa_nil))))))
      (pss_one ps_never)
      pss_nil)
      (pss_cons (ps_if (pt_not (pt_val (pe_call (ok_are_told T) (hr.mono (by decide)) rfl T.g_are_told T.F_are_told.kp T.b_are_told .nil pass0 (pa_cons (pv 2) (pa_cons (pv 1) pa_nil)))))
      (pss_one ps_never)
      pss_nil)
      (pss_cons (ps_fld (pv 0) (pv 1) rfl)
      (pss_one (ps_fld (pv 0) (pe_callTy call_tuple_of (by rfl) T.n_tuple (by decide +kernel) (pa_cons (pv 2) pa_nil)) rfl))))), ?_⟩
    refine ⟨_, rfl, .int c, 1, 8, rfl, .int c, _, rfl, ?_⟩
    have e : inW (.int c) 1 8 = true := inI_T ⟨c1, c8⟩
    rw [e]
    refine iteF ?_
    refine ⟨_, rfl, _, rfl, l, c, ts, n, rfl, hl, g, fun H1 s1 => ⟨_, rfl, ?_⟩⟩
    refine iteF ?_
    refine ⟨_, rfl, _, rfl, p, a.C_Tree, dx, [], rfl, s1 _ _ hp, T.cl_Tree, T.nf_Tree_classes, (by show 0 < 1000; decide), ?_⟩
    have hl1 := s1 _ _ hl
    have hp1 := s1 _ _ hp
    have nlp : l ≠ p := ne_of hl1 hp1 (by intro q; cases q)
    refine ⟨_, rfl, l, _, rfl, .inl ⟨SqL.of (by rw [upd_ne nlp]; exact hl1), fun t ht => ?_⟩⟩
    have ntp : t ≠ p := fun q => by rw [q, upd_same] at ht; cases ht
    have ht1 : H1 t = none := by rw [upd_ne ntp] at ht; exact ht
    refine ⟨_, rfl, p, a.C_Tree, dx, _, rfl, (by rw [upd_ne ntp.symm]; exact upd_same), T.cl_Tree, T.nf_Tree_told, (by show 1 < 1000; decide), ?_⟩
    refine k _ (fun b o nb e => ?_) ⟨dx, t, upd_same, ?_⟩
    · rw [upd_ne nb, upd_ne (ne_of_none (s1 _ _ e) ht1), upd_ne nb]
      exact s1 _ _ e
    · rw [upd_ne ntp, upd_same]
def sp_Tree_told (C : Addr) : Sp := fun vs H Q _ => ∃ (p : Addr) (c : Int) (ts : List Int), vs = [.ref p] ∧ TreeAt C H p c ts ∧ ∀ H' l, Same H H' → H l = none → H' l = some (.lst (ts.map V.int)) → Q (.ref l) H'
theorem ok_Tree_told (T : Txt K mg a) : FnOk P w K mg base CX0 1 a.a_Tree_told a.fd_Tree_told ["self"] (sp_Tree_told a.C_Tree) := by
  refine T.F_Tree_told.ok sc_Tree_told (fun vs H Q E h => ?_) (fun cdv A outer s H vs Q E hr h => ?_)
  · obtain ⟨p, c, ts, rfl, _⟩ := h
    rfl
  · obtain ⟨p, c, ts, rfl, ⟨dx, t, hp, ht⟩, k⟩ := h
    refine ⟨_, (pss_one (ps_ret (pe_callTy call_list_of (by rfl) T.n_list (by decide +kernel) (pa_cons (pe_fld (pv 0) rfl) pa_nil)))), ?_⟩
    refine ⟨_, rfl, p, a.C_Tree, dx, _, _, rfl, hp, T.cl_Tree, T.nf_Tree_told, tf_told _ _, t, _, rfl, .inr (SqT.of ht), fun l hl => ?_⟩
    exact k _ l (same_new hl) hl upd_same
def sp_Tree_len (C : Addr) : Sp := fun vs H Q _ => ∃ (p : Addr) (c : Int) (ts : List Int) (n : Nat), vs = [.ref p] ∧ TreeAt C H p c ts ∧ Told c ts n ∧ ∀ H', Same H H' → Q (.int (n : Nat)) H'
theorem ok_Tree_len (T : Txt K mg a) : FnOk P w K mg base CX0 1 a.a_Tree_len a.fd_Tree_len ["self"] (sp_Tree_len a.C_Tree) := by
  refine T.F_Tree_len.ok sc_Tree_len (fun vs H Q E h => ?_) (fun cdv A outer s H vs Q E hr h => ?_)
  · obtain ⟨p, c, ts, n, rfl, _⟩ := h
    rfl
  · obtain ⟨p, c, ts, n, rfl, ⟨dx, t, hp, ht⟩, g, k⟩ := h
    have hlen := g.len
    have n2 := g.n2
    have hml : (ts.map V.int).length = ts.length := List.length_map _
    refine ⟨_, (pss_one (ps_ret (pe_callB call_len_seq (by rfl) T.n_len PySem.boot_len (pa_cons (pe_slice sl_tup (pe_fld (pv 0) rfl) (po_some (pe_op op_fdiv (pe_callB call_len_seq (by rfl) T.n_len PySem.boot_len (pa_cons (pe_fld (pv 0) rfl) pa_nil)) pe_int)) po_none) pa_nil)))), ?_⟩
    refine ⟨_, rfl, p, a.C_Tree, dx, _, _, rfl, hp, T.cl_Tree, T.nf_Tree_told, tf_told _ _, _, rfl, p, a.C_Tree, dx, _, _, rfl, hp, T.cl_Tree, T.nf_Tree_told, tf_told _ _, t, _, rfl, .inr (SqT.of ht), _, _, rfl, rfl, ⟨by decide, by decide⟩, _, rfl, t, _, rfl, SqT.of ht, ?_⟩
    have eh : ((ts.map V.int).length : Int) / 2 = ((n - 1 : Nat) : Int) := by rw [hml]; omega
    refine ⟨fun z => ?_, fun q hq => ?_⟩
    · have z1 := z.1
      rw [eh, HT.sIx_nat, hml] at z1
      omega
    · refine ⟨q, _, rfl, .inr (SqT.of upd_same), ?_⟩
      have e : (cutV (ts.map V.int) (some (((ts.map V.int).length : Int) / 2)) none).length = n := by
        unfold cutV
        rw [eh, HT.sIx_nat, HT.sIx_none, List.length_take, List.length_drop, hml]
        omega
      have k2 := k _ (same_new (o := .tup (cutV (ts.map V.int) (some (((ts.map V.int).length : Int) / 2)) none)) hq)
      rw [← e] at k2
      exact k2
def sp_Tree_getitem (C : Addr) : Sp := fun vs H Q _ => ∃ (p : Addr) (c : Int) (ts : List Int) (n j : Nat), vs = [.ref p, .int (j : Nat)] ∧ TreeAt C H p c ts ∧ Told c ts n ∧ 1 ≤ j ∧ j ≤ ts.length ∧ Q (.int (val ts j)) H
theorem ok_Tree_getitem (T : Txt K mg a) : FnOk P w K mg base CX0 2 a.a_Tree_getitem a.fd_Tree_getitem ["self", "node"] (sp_Tree_getitem a.C_Tree) := by
  refine T.F_Tree_getitem.ok sc_Tree_getitem (fun vs H Q E h => ?_) (fun cdv A outer s H vs Q E hr h => ?_)
  · obtain ⟨p, c, ts, n, j, rfl, _⟩ := h
    rfl
  · obtain ⟨p, c, ts, n, j, rfl, ⟨dx, t, hp, ht⟩, g, j1, j2, k⟩ := h
    have hml : (ts.map V.int).length = ts.length := List.length_map _
    refine ⟨_, (pss_cons (ps_if (pt_not (pt_val (pe_call (ok_is_integer T) (hr.mono (by decide)) rfl T.g_is_integer T.F_is_integer.kp T.b_is_integer .nil pass0 (pa_cons (pv 1) (pa_cons pe_int (pa_cons (pe_callB call_len_seq (by rfl) T.n_len PySem.boot_len (pa_cons (pe_fld (pv 0) rfl) pa_nil)) pa_nil))))))
      (pss_one ps_never)
      pss_nil)
      (pss_one (ps_ret (pe_ix ix_tup (pe_fld (pv 0) rfl) (pe_op op_sub (pv 1) pe_int) (fun _ _ => rfl))))), ?_⟩
    refine ⟨_, rfl, _, rfl, p, a.C_Tree, dx, _, _, rfl, hp, T.cl_Tree, T.nf_Tree_told, tf_told _ _, t, _, rfl, .inr (SqT.of ht), _, _, _, rfl, .int _, _, rfl, ?_⟩
    have e : inW (.int (j : Nat)) 1 ((ts.map V.int).length : Nat) = true := inI_T ⟨by omega, by rw [hml]; omega⟩
    rw [e]
    refine iteF ?_
    refine ⟨_, rfl, p, a.C_Tree, dx, _, _, rfl, hp, T.cl_Tree, T.nf_Tree_told, tf_told _ _, _, rfl, _, _, rfl, rfl, t, _, _, _, rfl, rfl, SqT.of ht, at_of (j := j - 1) (by omega) (at_map (val_at j1 j2)), k⟩
def sp_Tree_leaf (C : Addr) : Sp := fun vs H Q _ => ∃ (p : Addr) (c : Int) (ts : List Int) (n j : Nat), vs = [.ref p, .int (j : Nat)] ∧ TreeAt C H p c ts ∧ Told c ts n ∧ j < n ∧ ∀ H', Same H H' → Q (.int ((j + n : Nat) : Int)) H'
theorem ok_Tree_leaf (T : Txt K mg a) : FnOk P w K mg base CX0 4 a.a_Tree_leaf a.fd_Tree_leaf ["self", "page"] (sp_Tree_leaf a.C_Tree) := by
  refine T.F_Tree_leaf.ok sc_Tree_leaf (fun vs H Q E h => ?_) (fun cdv A outer s H vs Q E hr h => ?_)
  · obtain ⟨p, c, ts, n, j, rfl, _⟩ := h
    rfl
  · obtain ⟨p, c, ts, n, j, rfl, ht, g, j2, k⟩ := h
    obtain ⟨dx, t, hp, _⟩ := id ht
    refine ⟨_, (pss_cons (ps_if (pt_not (pt_val (pe_call (ok_is_integer T) (hr.mono (by decide)) rfl T.g_is_integer T.F_is_integer.kp T.b_is_integer .nil pass0 (pa_cons (pv 1) (pa_cons pe_int (pa_cons (pe_op op_sub (pe_callB (call_lenOwn (ok_Tree_len T) (hr.mono (by decide)) T.m_Tree_len.at_ T.m_Tree_len.fn T.b_Tree_len pass0) (by rfl) T.n_len PySem.boot_len (pa_cons (pv 0) pa_nil)) pe_int) pa_nil))))))
      (pss_one ps_never)
      pss_nil)
      (pss_one (ps_ret (pe_op op_add (pv 1) (pe_callB (call_lenOwn (ok_Tree_len T) (hr.mono (by decide)) T.m_Tree_len.at_ T.m_Tree_len.fn T.b_Tree_len pass0) (by rfl) T.n_len PySem.boot_len (pa_cons (pv 0) pa_nil)))))), ?_⟩
    refine ⟨_, rfl, _, rfl, p, dx, _, rfl, hp, p, c, ts, n, rfl, ht, g, fun H1 s1 => ⟨_, rfl, by omega, by have := g.n2; omega, ?_⟩⟩
    refine ⟨_, _, rfl, rfl, _, _, _, rfl, .int _, _, rfl, ?_⟩
    have e : inW (.int (j : Nat)) 0 ((n : Int) - 1) = true := inI_T ⟨by omega, by omega⟩
    rw [e]
    refine iteF ?_
    refine ⟨_, rfl, _, rfl, p, dx, _, rfl, s1 _ _ hp, p, c, ts, n, rfl, ht.mono s1, g, fun H2 s2 => ⟨_, rfl, by omega, by have := g.n2; omega, ?_⟩⟩
    refine ⟨_, _, rfl, rfl, ?_⟩
    have k2 := k _ (s1.trans s2)
    rw [Int.natCast_add] at k2
    exact k2
end
end Rt
set_option maxHeartbeats 4000000
namespace Rt
open PySem L2
/-! ### the way of a page -/
def anc (k : Nat) : List Nat := if h : k ≤ 1 then [k] else k :: anc (k / 2)
termination_by k
decreasing_by omega
theorem anc_1 {k : Nat} (h : k ≤ 1) : anc k = [k] := by rw [anc, dif_pos h]
theorem anc_2 {k : Nat} (h : ¬ k ≤ 1) : anc k = k :: anc (k / 2) := by rw [anc, dif_neg h]
theorem anc_mem : ∀ (k : Nat), 1 ≤ k → ∀ j ∈ anc k, 1 ≤ j ∧ j ≤ k
  | k, h1, j, hj => by
    by_cases h : k ≤ 1
    · rw [anc_1 h] at hj
      rw [List.mem_singleton.mp hj]
      omega
    · rw [anc_2 h] at hj
      rcases List.mem_cons.mp hj with rfl | hj
      · omega
      · have := anc_mem (k / 2) (by omega) j hj
        omega
termination_by k => k
decreasing_by omega
theorem anc_ne (k : Nat) : anc k ≠ [] := by
  by_cases h : k ≤ 1
  · rw [anc_1 h]; simp
  · rw [anc_2 h]; simp
theorem anc_self (k : Nat) : k ∈ anc k := by
  by_cases h : k ≤ 1
  · rw [anc_1 h]; simp
  · rw [anc_2 h]; simp
def iN (ks : List Nat) : List V := ks.map fun k => V.int ((k : Nat) : Int)
/-- the nodes of the way of leaf f, from the root on -/
def way (f : Nat) : List Nat := (anc f).reverse
theorem same_new2 {H H1 : Hp} {p : Addr} {o : HO} (s : Same H H1) (h : H1 p = none) : Same H (upd H1 p o) := s.trans (same_new h)
theorem but_same {D : Addr} {H H' : Hp} (h : But D H H') (hD : H D = none) : Same H H' := fun b u e => h b u (ne_of_none e hD) e
theorem but_put {D : Addr} {H H' : Hp} {o : HO} (h : But D H H') : But D H (upd H' D o) := fun b u nb e => by rw [upd_ne nb]; exact h b u nb e
theorem but_then {D : Addr} {H H1 H2 : Hp} (h : But D H H1) (s : Same H1 H2) : But D H H2 := fun b u nb e => s b u (h b u nb e)
theorem but_new {D : Addr} {H : Hp} {o : HO} : But D H (upd H D o) := fun b u nb e => by rw [upd_ne nb]; exact e
section
variable {P : Program} {w : World} {K : PySem.W.Frag} {mg : Str → Option Value} {base : Heap} {a : Ad}
def sp_Tree_way (C : Addr) : Sp := fun vs H Q _ => ∃ (p : Addr) (c : Int) (ts : List Int) (n j : Nat), vs = [.ref p, .int (j : Nat)] ∧ TreeAt C H p c ts ∧ Told c ts n ∧ j < n ∧ ∀ H' l, Same H H' → H l = none → H' l = some (.lst (iN (way (j + n)))) → Q (.ref l) H'
theorem ok_Tree_way (T : Txt K mg a) : FnOk P w K mg base CX0 5 a.a_Tree_way a.fd_Tree_way ["self", "page"] (sp_Tree_way a.C_Tree) := by
  refine T.F_Tree_way.ok sc_Tree_way (fun vs H Q E h => ?_) (fun cdv A outer s H vs Q E hr h => ?_)
  · obtain ⟨p, c, ts, n, j, rfl, _⟩ := h
    rfl
  · obtain ⟨p, c, ts, n, j, rfl, ht, g, j2, k⟩ := h
    obtain ⟨dx, t, hp, _⟩ := id ht
    have n2 := g.n2
    refine ⟨_, (pss_cons (ps_set (i := 2) sc_Tree_way.nd rfl (Or.inl rfl) (pe_meth (pv 0) T.cl_Tree T.m_Tree_leaf (ok_Tree_leaf T) (hr.mono (by decide)) T.b_Tree_leaf .nil pass0 (pa_cons (pv 1) pa_nil)))
      (pss_cons (ps_set (i := 3) sc_Tree_way.nd rfl (Or.inl rfl) (pe_lst (pa_cons (pv 2) pa_nil)))
      (pss_cons (ps_while PassesOwn.never (pt_cmpR op_gt (pv 2) pe_int (nomark _))
      (pss_cons (ps_set (i := 2) sc_Tree_way.nd rfl (Or.inl rfl) (pe_op op_fdiv (pv 2) pe_int))
        (pss_one (ps_expr (pe_bm PySem.F.plainAttrs_list PySem.F.slot_list_append PySem.F.type_list_append mt_append (pv 3) (pa_cons (pv 2) pa_nil))))))
      (pss_one (ps_ret (pe_revL (pv 3))))))), ?_⟩
    refine ⟨_, rfl, p, dx, _, rfl, hp, tf_no _ _ (by decide +kernel) (by decide +kernel), _, rfl, p, c, ts, n, j, rfl, ht, g, j2, fun H1 s1 => ?_⟩
    refine ⟨_, rfl, (by show 1 ≤ sizeLine; decide), fun l hl => ?_⟩
    have hl0 : H l = none := Same.free s1 hl
    refine while_by (fun σ H' => ∃ (us : List Nat) (f : Nat), σ = [some (.ref p), some (.int (j : Nat)), some (.int (f : Nat)), some (.ref l)] ∧ H' l = some (.lst (iN (us ++ [f]))) ∧ But l H1 H' ∧ us ++ anc f = anc (j + n) ∧ us.length + f ≤ j + n ∧ 1 ≤ f)
      (fun σ H' => match σ with | [_, _, some (.int f), _] => f.toNat | _ => 0) ⟨[], j + n, rfl, upd_same, but_new, rfl, by simp, by omega⟩ ?_ ?_
    · rintro σ H' ⟨us, f, rfl, hl', b', ha, hlen, f1⟩
      refine ⟨_, rfl, _, _, rfl, rfl, _, rfl, ?_⟩
      by_cases c1 : (1 : Int) < (f : Nat)
      · rw [decide_eq_true c1]
        refine iteT ?_
        refine ⟨_, rfl, _, _, rfl, rfl, ⟨by decide, by decide⟩, ?_⟩
        refine ⟨_, rfl, .inl ⟨rfl, _, SqL.of hl'⟩, _, rfl, l, _, _, rfl, rfl, hl', ?_, ?_⟩
        · unfold iN
          rw [List.length_map, List.length_append]
          exact Nat.lt_of_le_of_lt (show us.length + 1 ≤ 100 by omega) (by decide)
        · have ef : ((f : Nat) : Int) / 2 = ((f / 2 : Nat) : Int) := by omega
          have hnf : ¬ f ≤ 1 := by omega
          refine ⟨⟨us ++ [f], f / 2, ?_, ?_, but_put b', ?_, ?_, by omega⟩, ?_⟩
          · rw [← ef]; rfl
          · have e3 : iN (us ++ [f] ++ [f / 2]) = iN (us ++ [f]) ++ [V.int (((f : Nat) : Int) / 2)] := by
              unfold iN
              rw [List.map_append (l₁ := us ++ [f]), ef]; rfl
            rw [upd_same, e3]
          · rw [List.append_assoc, ← ha]
            rw [anc_2 hnf]; rfl
          · rw [List.length_append]; show us.length + 1 + f / 2 ≤ j + n; omega
          · show (((f : Nat) : Int) / 2).toNat < ((f : Nat) : Int).toNat
            omega
      · rw [decide_eq_false c1]
        refine iteF ?_
        have hf1 : f ≤ 1 := by omega
        rw [anc_1 hf1] at ha
        refine ⟨_, rfl, l, _, rfl, SqL.of hl', fun q hq => ?_⟩
        refine k _ q (fun b o e => ?_) ?_ ?_
        · have e1 := s1 _ _ e
          have e2 := b' b o (ne_of_none e hl0) e1
          rw [upd_ne (ne_of_none e2 hq)]
          exact e2
        · exact Same.free s1 (Same.free (but_same b' hl) hq)
        · rw [upd_same, ha]
          unfold way iN
          rw [List.map_reverse]
    · rintro σ H' Q1 Q2 hq ⟨v, hv, i1, j1, e1, e2, k1, e3, q⟩
      exact ⟨v, hv, i1, j1, e1, e2, k1, e3, hq _ _ q⟩
/-! ### misses -/
/-- a leaf is told more than some node of its way -/
def missB (ts : List Int) (f : Nat) : Bool := (anc f).any fun k => decide (val ts k < val ts f)
def sp_Treemisses (C : Addr) : Sp := fun vs H Q _ => ∃ (p : Addr) (c : Int) (ts : List Int) (n j : Nat), vs = [.ref p, .int (j : Nat)] ∧ TreeAt C H p c ts ∧ Told c ts n ∧ j < n ∧ ∀ H', Same H H' → Q (.bl (missB ts (j + n))) H'
theorem ok_Treemisses (T : Txt K mg a) : FnOk P w K mg base CX0 6 a.a_Treemisses a.fd_Treemisses ["self", "page"] (sp_Treemisses a.C_Tree) := by
  refine T.F_Treemisses.ok sc_Treemisses (fun vs H Q E h => ?_) (fun cdv A outer s H vs Q E hr h => ?_)
  · obtain ⟨p, c, ts, n, j, rfl, _⟩ := h
    rfl
  · obtain ⟨p, c, ts, n, j, rfl, ht, g, j2, k⟩ := h
    obtain ⟨dx, t, hp, _⟩ := id ht
    have n2 := g.n2
    have hlen := g.len
    refine ⟨_, (pss_cons (ps_set (i := 2) sc_Treemisses.nd rfl (Or.inl rfl) (pe_callB (cr_min rfl) (by rfl) T.n_min (by decide +kernel) (pa_cons (pe_lc (own := [("node", 3)]) (g := gName 3) (tt := tYes) (by rfl) sc_Treemisses.nd (pi_list (pe_meth (pv 0) T.cl_Tree T.m_Tree_way (ok_Tree_way T) (hr.mono (by decide)) T.b_Tree_way .nil pass0 (pa_cons (pv 1) pa_nil))) (blkOk_by (own := [("node", 3)]) (N := ["self", "page", "least", "node"]) (sc := defScope s_Treemisses) (by decide +kernel)) (fun _ _ _ _ _ => pg_name (i := 3) sc_Treemisses.nd rfl (Or.inl rfl)) (fun _ _ _ _ _ => pts_nil) (fun _ _ _ _ _ => (pe_subOwn (ok_Tree_getitem T) (hr.mono (by decide)) T.m_Tree_getitem.at_ T.m_Tree_getitem.fn T.fn_Tree_getitem T.b_Tree_getitem pass0 (pv 0) (pv 3) (fun _ _ => rfl)))) pa_nil)))
      (pss_one (ps_ret (pe_cmpR op_gt (pe_subOwn (ok_Tree_getitem T) (hr.mono (by decide)) T.m_Tree_getitem.at_ T.m_Tree_getitem.fn T.fn_Tree_getitem T.b_Tree_getitem pass0 (pv 0) (pe_meth (pv 0) T.cl_Tree T.m_Tree_leaf (ok_Tree_leaf T) (hr.mono (by decide)) T.b_Tree_leaf .nil pass0 (pa_cons (pv 1) pa_nil)) (fun _ _ => rfl)) (pv 2) (nomark _))))), ?_⟩
    refine ⟨_, rfl, p, dx, _, rfl, hp, tf_no _ _ (by decide +kernel) (by decide +kernel), _, rfl, p, c, ts, n, j, rfl, ht, g, j2, fun H1 l s1 hl hl1 => ?_⟩
    have hway : ∀ f ∈ way (j + n), 1 ≤ f ∧ f ≤ ts.length := fun f hf => by
      unfold way at hf
      have := anc_mem (j + n) (by omega) f (List.mem_reverse.mp hf)
      omega
    have hsz : (way (j + n)).length ≤ 100 := by
      unfold way
      rw [List.length_reverse]
      have : ∀ m : Nat, 1 ≤ m → (anc m).length ≤ m := fun m => by
        induction m using Nat.strongRecOn with
        | ind m ih =>
          intro h1
          by_cases h : m ≤ 1
          · rw [anc_1 h]; exact h1
          · rw [anc_2 h, List.length_cons]
            have := ih (m / 2) (by omega) (by omega)
            omega
      have := this (j + n) (by omega)
      omega
    refine ⟨l, rfl, ⟨_, SqL.of hl1⟩, fun D hD => ?_⟩
    refine lc_list (K := K) (a := l) (xs := iN (way (j + n))) (fun i H' => But D H1 H' ∧ H' D = some (.lst ((((way (j + n)).take i).map fun f => val ts f).map V.int)))
      ⟨but_new, by rw [upd_same]; rfl⟩ (fun i H' _ h => SqL.of (but_same h.1 hD _ _ hl1)) ?_ ?_
    · rintro i y H' hk ⟨bD, hd⟩
      obtain ⟨f, hf, rfl⟩ : ∃ f, (way (j + n))[i]? = some f ∧ y = V.int ((f : Nat) : Int) := by
        unfold iN at hk
        rw [List.getElem?_map] at hk
        cases e : (way (j + n))[i]? with
        | none => rw [e] at hk; cases hk
        | some z => rw [e] at hk; exact ⟨z, rfl, (Option.some.inj hk).symm⟩
      have hf2 := hway f (List.mem_of_getElem? hf)
      have ht2 := ht.mono (s1.trans (but_same bD hD))
      obtain ⟨dx2, t2, hp2, _⟩ := id ht2
      refine ⟨rfl, _, rfl, _, rfl, p, dx2, _, rfl, hp2, p, c, ts, n, f, rfl, ht2, g, hf2.1, hf2.2, ?_⟩
      refine ⟨_, hd, ?_, but_put bD, ?_⟩
      · rw [List.length_map, List.length_map]
        have := List.length_take_le i (way (j + n))
        exact Nat.lt_of_le_of_lt (show _ ≤ 100 by rw [List.length_take]; omega) (by decide)
      · rw [upd_same, List.take_add_one, hf, List.map_append, List.map_append]; rfl
    · rintro H2 ⟨bD, hd⟩
      have hiN : (iN (way (j + n))).length = (way (j + n)).length := List.length_map _
      rw [hiN, List.take_length] at hd
      have s2 := but_same bD hD
      have hwne : 0 < (way (j + n)).length := by
        have := anc_ne (j + n)
        unfold way
        rw [List.length_reverse]
        exact List.length_pos_iff.mpr this
      refine ⟨D, _, rfl, SqL.of hd, by rw [List.length_map]; exact hwne, fun m hm hle => ?_⟩
      have ht2 := ht.mono (s1.trans s2)
      obtain ⟨dx2, t2, hp2, _⟩ := id ht2
      refine ⟨_, rfl, _, rfl, p, dx2, _, rfl, hp2, tf_no _ _ (by decide +kernel) (by decide +kernel), _, rfl, p, c, ts, n, j, rfl, ht2, g, j2, fun H3 s3 => ?_⟩
      have ht3 := ht2.mono s3
      obtain ⟨dx3, t3, hp3, _⟩ := id ht3
      refine ⟨p, dx3, _, rfl, hp3, p, c, ts, n, j + n, rfl, ht3, g, by omega, by omega, ?_⟩
      refine ⟨_, rfl, _, _, rfl, rfl, ?_⟩
      have e : missB ts (j + n) = decide (m < val ts (j + n)) := by
        unfold missB
        by_cases c1 : m < val ts (j + n)
        · rw [decide_eq_true c1, List.any_eq_true]
          obtain ⟨f, hf, e⟩ := List.mem_map.mp hm
          refine ⟨f, List.mem_reverse.mp hf, ?_⟩
          rw [e]
          exact decide_eq_true c1
        · rw [decide_eq_false c1, List.any_eq_false]
          intro f hf
          have := hle (val ts f) (List.mem_map.mpr ⟨f, List.mem_reverse.mpr hf, rfl⟩)
          simp
          omega
      have k2 := k _ (s1.trans (s2.trans s3))
      rw [e] at k2
      exact k2
def missL (ts : List Int) (n : Nat) : List Nat := (List.range n).filter fun p => missB ts (p + n)
theorem ft_T {α : Type} {f : α → Bool} {l : List α} {i : Nat} {z : α} (h : l[i]? = some z) (c : f z = true) : (l.take (i + 1)).filter f = (l.take i).filter f ++ [z] := by
  rw [List.take_add_one, h, List.filter_append]
  simp [c]
theorem ft_F {α : Type} {f : α → Bool} {l : List α} {i : Nat} {z : α} (h : l[i]? = some z) (c : f z = false) : (l.take (i + 1)).filter f = (l.take i).filter f := by
  rw [List.take_add_one, h, List.filter_append]
  simp [c]
theorem fr_T {f : Nat → Bool} {i : Nat} (c : f i = true) : (List.range (i + 1)).filter f = (List.range i).filter f ++ [i] := by
  rw [List.range_succ, List.filter_append]
  simp [c]
theorem fr_F {f : Nat → Bool} {i : Nat} (c : f i = false) : (List.range (i + 1)).filter f = (List.range i).filter f := by
  rw [List.range_succ, List.filter_append]
  simp [c]
theorem iN_app (xs : List Nat) (k : Nat) : iN (xs ++ [k]) = iN xs ++ [V.int ((k : Nat) : Int)] := by unfold iN; rw [List.map_append]; rfl
def sp_Tree_missed (C : Addr) : Sp := fun vs H Q _ => ∃ (p : Addr) (c : Int) (ts : List Int) (n : Nat), vs = [.ref p] ∧ TreeAt C H p c ts ∧ Told c ts n ∧ ∀ H' l, Same H H' → H l = none → H' l = some (.lst (iN (missL ts n))) → Q (.ref l) H'
theorem ok_Tree_missed (T : Txt K mg a) : FnOk P w K mg base CX0 7 a.a_Tree_missed a.fd_Tree_missed ["self"] (sp_Tree_missed a.C_Tree) := by
  refine T.F_Tree_missed.ok sc_Tree_missed (fun vs H Q E h => ?_) (fun cdv A outer s H vs Q E hr h => ?_)
  · obtain ⟨p, c, ts, n, rfl, _⟩ := h
    rfl
  · obtain ⟨p, c, ts, n, rfl, ht, g, k⟩ := h
    obtain ⟨dx, t, hp, _⟩ := id ht
    have n2 := g.n2
    refine ⟨_, (pss_one (ps_ret (pe_lc (own := [("page", 1)]) (g := gName 1) (by rfl) sc_Tree_missed.nd (pi_range1 (by rfl) T.n_range (pa_cons (pe_callB (call_lenOwn (ok_Tree_len T) (hr.mono (by decide)) T.m_Tree_len.at_ T.m_Tree_len.fn T.b_Tree_len pass0) (by rfl) T.n_len PySem.boot_len (pa_cons (pv 0) pa_nil)) pa_nil)) (blkOk_by (own := [("page", 1)]) (N := ["self", "page"]) (sc := defScope s_Tree_missed) (by decide +kernel)) (fun _ _ _ _ _ => pg_name (i := 1) sc_Tree_missed.nd rfl (Or.inl rfl)) (fun _ _ _ _ _ => pts_one (pt_val (pe_meth (pv 0) T.cl_Tree T.m_Treemisses (ok_Treemisses T) (hr.mono (by decide)) T.b_Treemisses .nil pass0 (pa_cons (pv 1) pa_nil)))) (fun _ _ _ _ _ => (pv 1))))), ?_⟩
    refine ⟨_, rfl, p, dx, _, rfl, hp, p, c, ts, n, rfl, ht, g, fun H1 s1 => ⟨_, rfl, by omega, by omega, ?_⟩⟩
    refine ⟨_, rfl, by omega, by omega, fun D hD => ?_⟩
    have hD0 : H D = none := Same.free s1 hD
    refine lc_range (lo := 0) (n := ((n : Nat) : Int).toNat) (fun i H' => But D H1 H' ∧ H' D = some (.lst (iN ((List.range i).filter fun p => missB ts (p + n)))))
      ⟨but_new, by rw [upd_same]; rfl⟩ ?_ ?_
    · rintro i H' hi ⟨bD, hd⟩
      have e0 : (0 : Int) + (i : Int) = ((i : Nat) : Int) := by omega
      rw [e0]
      have ht2 := ht.mono (s1.trans (but_same bD hD))
      obtain ⟨dx2, t2, hp2, _⟩ := id ht2
      refine ⟨rfl, _, rfl, p, dx2, _, rfl, hp2, tf_no _ _ (by decide +kernel) (by decide +kernel), _, rfl, p, c, ts, n, i, rfl, ht2, g, by omega, fun H3 s3 => ⟨_, rfl, ?_⟩⟩
      cases cm : missB ts (i + n) with
      | true =>
        refine iteT ⟨_, rfl, _, s3 _ _ hd, ?_, but_put (but_then bD s3), ?_⟩
        · unfold iN
          rw [List.length_map]
          have := List.length_filter_le (fun p => missB ts (p + n)) (List.range i)
          rw [List.length_range] at this
          exact Nat.lt_of_le_of_lt (show _ ≤ 100 by omega) (by decide)
        · rw [upd_same, fr_T (f := fun p => missB ts (p + n)) cm, iN_app]
      | false =>
        refine iteF ⟨but_then bD s3, ?_⟩
        rw [fr_F (f := fun p => missB ts (p + n)) cm]
        exact s3 _ _ hd
    · rintro H2 ⟨bD, hd⟩
      rw [Int.toNat_natCast] at hd
      exact k _ D (s1.trans (but_same bD hD)) hD0 hd
end
end Rt
set_option maxHeartbeats 4000000
namespace Rt
open PySem L2
/-! ### mending -/
def mx (x y : Int) : Int := if y > x then y else x
def mstep (ts : List Int) (k : Nat) : List Int := ts.set (k - 1) (mx (val ts (2 * k)) (val ts (2 * k + 1)))
def mendI (ts : List Int) (n : Nat) : Nat → List Int
  | 0 => ts
  | i + 1 => mstep (mendI ts n i) (n - 1 - i)
def mend (ts : List Int) (n : Nat) : List Int := mendI ts n (n - 1)
theorem mstep_len (ts : List Int) (k : Nat) : (mstep ts k).length = ts.length := by unfold mstep; rw [List.length_set]
theorem mendI_len (ts : List Int) (n : Nat) : ∀ i, (mendI ts n i).length = ts.length
  | 0 => rfl
  | i + 1 => by
    show (mstep (mendI ts n i) (n - 1 - i)).length = _
    rw [mstep_len, mendI_len ts n i]
theorem val_mem {ts : List Int} {k : Nat} (h1 : 1 ≤ k) (h2 : k ≤ ts.length) : val ts k ∈ ts := List.mem_of_getElem? (val_at h1 h2)
theorem mx_or (x y : Int) : mx x y = x ∨ mx x y = y := by unfold mx; split; exact .inr rfl; exact .inl rfl
theorem mx_le (x y : Int) : x ≤ mx x y ∧ y ≤ mx x y := by unfold mx; split <;> omega
theorem Told.step {c : Int} {ts : List Int} {n k : Nat} (g : Told c ts n) (h1 : 1 ≤ k) (h2 : k < n) : Told c (mstep ts k) n := by
  have hl := g.len
  have m1 : val ts (2 * k) ∈ ts := val_mem (by omega) (by omega)
  have m2 : val ts (2 * k + 1) ∈ ts := val_mem (by omega) (by omega)
  have mm : mx (val ts (2 * k)) (val ts (2 * k + 1)) ∈ ts := by
    rcases mx_or (val ts (2 * k)) (val ts (2 * k + 1)) with e | e <;> rw [e] <;> assumption
  refine ⟨g.c1, g.c8, fun z hz => ?_, fun z hz => ?_, g.num, by rw [mstep_len]; exact hl⟩
  · rcases List.mem_or_eq_of_mem_set hz with h | h
    · exact g.lo z h
    · rw [h]; exact g.lo _ mm
  · rcases List.mem_or_eq_of_mem_set hz with h | h
    · exact g.hi z h
    · rw [h]; exact g.hi _ mm
theorem Told.mendI {c : Int} {ts : List Int} {n : Nat} (g : Told c ts n) : ∀ i, i ≤ n - 1 → Told c (mendI ts n i) n
  | 0, _ => g
  | i + 1, h => (Told.mendI g i (by omega)).step (by omega) (by omega)
theorem Told.mend {c : Int} {ts : List Int} {n : Nat} (g : Told c ts n) : Told c (mend ts n) n := g.mendI _ (Nat.le_refl _)
/-! ### upright -/
def uprB (ts : List Int) : Bool := (List.range (ts.length - 1)).all fun i => decide (val ts (i + 2) ≤ val ts ((i + 2) / 2))
section
variable {P : Program} {w : World} {K : PySem.W.Frag} {mg : Str → Option Value} {base : Heap} {a : Ad}
def sp_Tree_is_upright (C : Addr) : Sp := fun vs H Q _ => ∃ (p : Addr) (c : Int) (ts : List Int) (n : Nat), vs = [.ref p] ∧ TreeAt C H p c ts ∧ Told c ts n ∧ Q (.bl (uprB ts)) H
theorem ok_Tree_is_upright (T : Txt K mg a) : FnOk P w K mg base CX0 4 a.a_Tree_is_upright a.fd_Tree_is_upright ["self"] (sp_Tree_is_upright a.C_Tree) := by
  refine T.F_Tree_is_upright.ok sc_Tree_is_upright (fun vs H Q E h => ?_) (fun cdv A outer s H vs Q E hr h => ?_)
  · obtain ⟨p, c, ts, n, rfl, _⟩ := h
    rfl
  · obtain ⟨p, c, ts, n, rfl, ht, g, k⟩ := h
    obtain ⟨dx, t, hp, htt⟩ := id ht
    have n2 := g.n2
    have hlen := g.len
    have hml : (ts.map V.int).length = ts.length := List.length_map _
    refine ⟨_, (pss_cons (ps_for PassesOwn.never rfl (pi_range2 (by rfl) T.n_range (pa_cons pe_int (pa_cons (pe_op op_add (pe_callB call_len_seq (by rfl) T.n_len PySem.boot_len (pa_cons (pe_fld (pv 0) rfl) pa_nil)) pe_int) pa_nil))) (pg_name (i := 1) sc_Tree_is_upright.nd rfl (Or.inl rfl))
      (pss_one (ps_if (pt_cmpR op_gt (pe_subOwn (ok_Tree_getitem T) (hr.mono (by decide)) T.m_Tree_getitem.at_ T.m_Tree_getitem.fn T.fn_Tree_getitem T.b_Tree_getitem pass0 (pv 0) (pv 1) (fun _ _ => rfl)) (pe_subOwn (ok_Tree_getitem T) (hr.mono (by decide)) T.m_Tree_getitem.at_ T.m_Tree_getitem.fn T.fn_Tree_getitem T.b_Tree_getitem pass0 (pv 0) (pe_op op_fdiv (pv 1) pe_int) (fun _ _ => rfl)) (nomark _))
        (pss_one (ps_ret pe_bl))
        pss_nil)))
      (pss_one (ps_ret pe_bl))), ?_⟩
    refine ⟨_, rfl, p, a.C_Tree, dx, _, _, rfl, hp, T.cl_Tree, T.nf_Tree_told, tf_told _ _, t, _, rfl, .inr (SqT.of htt), _, _, rfl, rfl, 2, _, rfl, ⟨by decide, by decide, by rw [hml]; omega, by rw [hml]; omega⟩,
      for_range (lo := 2) (n := (((ts.map V.int).length : Int) + 1 - 2).toNat) (fun i σ H' => (∃ v : Option V, σ = [some (.ref p), v]) ∧ H' = H ∧ (List.range i).all (fun i => decide (val ts (i + 2) ≤ val ts ((i + 2) / 2))) = true) ⟨⟨none, rfl⟩, rfl, rfl⟩ ?_ ?_⟩
    · rintro i σ H' hi ⟨⟨v, rfl⟩, rfl, ha⟩
      have hi2 : i + 2 ≤ ts.length := by rw [hml] at hi; omega
      have e1 : (2 : Int) + (i : Int) = ((i + 2 : Nat) : Int) := by omega
      rw [e1]
      have e2 : ((i + 2 : Nat) : Int) / 2 = (((i + 2) / 2 : Nat) : Int) := by omega
      refine ⟨_, rfl, _, rfl, p, dx, _, rfl, hp, p, c, ts, n, i + 2, rfl, ht, g, by omega, hi2, ?_⟩
      refine ⟨_, rfl, _, rfl, _, _, rfl, rfl, ⟨by decide, by decide⟩, p, dx, _, rfl, hp, p, c, ts, n, (i + 2) / 2, by rw [← e2], ht, g, by omega, by omega, ?_⟩
      refine ⟨_, _, rfl, rfl, _, rfl, ?_⟩
      by_cases c1 : val ts ((i + 2) / 2) < val ts (i + 2)
      · rw [decide_eq_true c1]
        refine iteT ?_
        have e : uprB ts = false := by
          unfold uprB
          rw [List.all_eq_false]
          refine ⟨i, List.mem_range.mpr (by omega), fun z => ?_⟩
          have := of_decide_eq_true z
          omega
        rw [e] at k
        exact k
      · rw [decide_eq_false c1]
        refine iteF ⟨⟨_, rfl⟩, rfl, ?_⟩
        rw [List.range_succ, List.all_append, ha]
        show (true && (decide (val ts (i + 2) ≤ val ts ((i + 2) / 2)) && true)) = true
        rw [decide_eq_true (by omega)]; rfl
    · rintro σ H' ⟨⟨v, rfl⟩, rfl, ha⟩
      have e : uprB ts = true := by
        unfold uprB
        rw [hml] at ha
        rw [show ts.length - 1 = ((ts.length : Int) + 1 - 2).toNat by omega]
        exact ha
      rw [e] at k
      exact k
def sp_Tree_mended (C : Addr) : Sp := fun vs H Q _ => ∃ (p : Addr) (c : Int) (ts : List Int) (n : Nat), vs = [.ref p] ∧ TreeAt C H p c ts ∧ Told c ts n ∧ ∀ H' q, Same H H' → H q = none → TreeAt C H' q c (mend ts n) → Q (.ref q) H'
theorem ok_Tree_mended (T : Txt K mg a) : FnOk P w K mg base CX0 6 a.a_Tree_mended a.fd_Tree_mended ["self"] (sp_Tree_mended a.C_Tree) := by
  refine T.F_Tree_mended.ok sc_Tree_mended (fun vs H Q E h => ?_) (fun cdv A outer s H vs Q E hr h => ?_)
  · obtain ⟨p, c, ts, n, rfl, _⟩ := h
    rfl
  · obtain ⟨p, c, ts, n, rfl, ht, g, k⟩ := h
    obtain ⟨dx, t, hp, htt⟩ := id ht
    have n2 := g.n2
    have hlen := g.len
    refine ⟨_, (pss_cons (ps_set (i := 1) sc_Tree_mended.nd rfl (Or.inl rfl) (pe_callTy call_list_of (by rfl) T.n_list (by decide +kernel) (pa_cons (pe_fld (pv 0) rfl) pa_nil)))
      (pss_cons (ps_for PassesOwn.never rfl (pi_range3 (by rfl) T.n_range (pa_cons (pe_op op_sub (pe_callB (call_lenOwn (ok_Tree_len T) (hr.mono (by decide)) T.m_Tree_len.at_ T.m_Tree_len.fn T.b_Tree_len pass0) (by rfl) T.n_len PySem.boot_len (pa_cons (pv 0) pa_nil)) pe_int) (pa_cons pe_int (pa_cons (pe_un un_neg pe_int) pa_nil)))) (pg_name (i := 2) sc_Tree_mended.nd rfl (Or.inl rfl))
      (pss_one (ps_asg (pe_callB (call_max2 rfl) (by rfl) T.n_max (by decide +kernel) (pa_cons (pe_ix (r := rIxL K) ix_list (pv 1) (pe_op op_sub (pe_op op_mul pe_int (pv 2)) pe_int) (fun _ _ => rfl)) (pa_cons (pe_ix (r := rIxL K) ix_list (pv 1) (pe_op op_mul pe_int (pv 2)) (fun _ _ => rfl)) pa_nil))) (pg_sub (pv 1) (pe_op op_sub (pv 2) pe_int) set_list))))
      (pss_one (ps_ret (pe_make T.mk_Tree (ok_Tree_init T) (hr.mono (by decide)) rfl T.g_Tree T.b_Tree_init .nil pass0 (pa_cons (pe_fld (pv 0) rfl) (pa_cons (pv 1) pa_nil))))))), ?_⟩
    refine ⟨_, rfl, p, a.C_Tree, dx, _, _, rfl, hp, T.cl_Tree, T.nf_Tree_told, tf_told _ _, t, _, rfl, .inr (SqT.of htt), fun l hl => ?_⟩
    have s0 := same_new (o := .lst (ts.map V.int)) hl
    refine ⟨_, rfl, p, dx, _, rfl, s0 _ _ hp, p, c, ts, n, rfl, ht.mono s0, g, fun H1 s1 => ⟨_, rfl, by omega, by omega, ?_⟩⟩
    refine ⟨_, _, rfl, rfl, _, rfl, _, _, _, _, rfl, RgC.neg (by omega) (by omega) (by omega) (by omega), ?_⟩
    refine for_rangeC (lo := (n : Int) - 1) (c := -1) (n := ((n : Int) - 1 - 0).toNat) (fun i σ H' => (∃ v : Option V, σ = [some (.ref p), some (.ref l), v]) ∧ But l H1 H' ∧ H' l = some (.lst ((mendI ts n i).map V.int)))
      ⟨⟨none, rfl⟩, fun b o _ e => e, s1 _ _ upd_same⟩ ?_ ?_
    · rintro i σ H' hi ⟨⟨v, rfl⟩, b', hl'⟩
      have hi2 : i < n - 1 := by omega
      obtain ⟨kk, hk⟩ : ∃ kk : Nat, kk = n - 1 - i := ⟨_, rfl⟩
      have ek : (n : Int) - 1 + (i : Int) * -1 = ((kk : Nat) : Int) := by omega
      rw [ek]
      have gI := g.mendI i (by omega)
      have hlI := gI.len
      have hmI : ((mendI ts n i).map V.int).length = (mendI ts n i).length := List.length_map _
      refine ⟨_, rfl, _, rfl, _, _, rfl, rfl, .inl ⟨by decide, by decide⟩, _, _, rfl, rfl, l, _, _, _, rfl, rfl, SqL.of hl', at_of (j := 2 * kk - 1) (by omega) (at_map (val_at (k := 2 * kk) (by omega) (by omega))), ?_⟩
      refine ⟨_, rfl, _, rfl, _, _, rfl, rfl, .inl ⟨by decide, by decide⟩, l, _, _, _, rfl, rfl, SqL.of hl', at_of (j := 2 * kk + 1 - 1) (by omega) (at_map (val_at (k := 2 * kk + 1) (by omega) (by omega))), _, _, rfl, ?_⟩
      refine ⟨_, rfl, _, rfl, _, _, rfl, rfl, l, _, _, kk - 1, rfl, rfl, hl', ?_, ?_⟩
      · unfold ixN
        rw [hmI, if_pos (show (0 : Int) ≤ (kk : Int) - 1 by omega), if_pos (by omega)]
        congr 1
        omega
      · refine ⟨⟨_, rfl⟩, but_put b', ?_⟩
        rw [upd_same]
        show some (HO.lst _) = some (HO.lst ((mstep (mendI ts n i) (n - 1 - i)).map V.int))
        rw [← hk]
        unfold mstep mx
        rw [List.map_set]
    · rintro σ H' ⟨⟨v, rfl⟩, b', hl'⟩
      have e1 : ((n : Int) - 1 - 0).toNat = n - 1 := by omega
      rw [e1] at hl'
      have s2 : Same H H' := fun b o e => b' b o (ne_of_none e hl) (s1 _ _ (s0 _ _ e))
      refine ⟨_, rfl, p, a.C_Tree, dx, _, _, rfl, s2 _ _ hp, T.cl_Tree, T.nf_Tree_classes, tf_classes _ _, _, rfl, ?_⟩
      intro x dx2 nx ndx nex
      have s3 : Same H' (upd (upd H' dx2 (.own x)) x (.ins a.C_Tree dx2 [])) := fun b o e => by
        rw [upd_ne (ne_of_none e nx), upd_ne (ne_of_none e ndx)]; exact e
      refine ⟨x, dx2, l, c, mend ts n, n, rfl, upd_same, s3 _ _ hl', g.mend, fun H4 b4 t4 => ⟨rfl, ?_⟩⟩
      have nx0 : H x = none := Same.free s2 nx
      exact k _ x (fun b o e => b4 b o (ne_of_none e nx0) (s3 _ _ (s2 _ _ e))) nx0 t4
theorem kit_self {K : PySem.W.Frag} {t : Value} : PySem.W.kitOne K t t = some true := by
  unfold PySem.W.kitOne
  rw [if_pos (beq_iff_eq.mpr rfl)]
theorem dp_ints {K : PySem.W.Frag} {H : Hp} : ∀ ns : List Int, DpAll K H (ns.map V.int) (ns.map PyData.int)
  | [] => .nil
  | n :: r => .cons (.int n) (dp_ints r)
theorem eqvAll_ints : ∀ ns ms : List Int, PyData.eqvAll (ns.map PyData.int) (ms.map PyData.int) = decide (ns = ms)
  | [], [] => by simp [PyData.eqvAll]
  | [], m :: r => by simp [PyData.eqvAll]
  | n :: r, [] => by simp [PyData.eqvAll]
  | n :: r, m :: t => by
    have ih := eqvAll_ints r t
    simp only [List.map_cons, PyData.eqvAll, PyData.eqv, ih]
    by_cases h : n = m
    · subst h
      by_cases h2 : r = t <;> simp [h2]
    · simp [h]
theorem shaped_tup (ns : List Int) : SeqAt.shaped (.tuple (ns.map PyData.int)) = true := by
  simp [SeqAt.shaped, PyData.canLay0, PyData.depth, PySem.W.ke_canLayAll0, PySem.W.ke_depthAll]
def sp_Tree_eq (C : Addr) : Sp := fun vs H Q _ => ∃ (p q : Addr) (c c' : Int) (ts ts' : List Int), vs = [.ref p, .ref q] ∧ TreeAt C H p c ts ∧ TreeAt C H q c' ts' ∧ Q (.bl (decide (c = c' ∧ ts = ts'))) H
theorem ok_Tree_eq (T : Txt K mg a) : FnOk P w K mg base CX0 1 a.a_Tree_eq a.fd_Tree_eq ["self", "other"] (sp_Tree_eq a.C_Tree) := by
  refine T.F_Tree_eq.ok sc_Tree_eq (fun vs H Q E h => ?_) (fun cdv A outer s H vs Q E hr h => ?_)
  · obtain ⟨p, q, c, c', ts, ts', rfl, _⟩ := h
    rfl
  · obtain ⟨p, q, c, c', ts, ts', rfl, ⟨dx, t, hp, ht⟩, ⟨dy, t', hq, ht'⟩, k⟩ := h
    refine ⟨_, (pss_one (ps_ret (pe_and (pe_callB call_isi (by rfl) T.n_isinstance (by decide +kernel) (pa_cons (pv 1) (pa_cons (pe_glob (v := .ref a.C_Tree) rfl T.g_Tree rfl) pa_nil))) (pe_and (pe_cmpR op_eq (pe_fld (pv 0) rfl) (pe_fld (pv 1) rfl) (nomark _)) (pe_one (pe_cmpR (op_eqD hr.units) (pe_fld (pv 0) rfl) (pe_fld (pv 1) rfl) (nomark _))))))), ?_⟩
    refine ⟨_, rfl, _, _, _, _, true, rfl, .own _, .base (.ins hq T.cl_Tree T.ha_Tree T.hn_Tree T.ht_Tree T.hm_Tree), kit_self, _, rfl, ?_⟩
    refine iteT ?_
    refine ⟨_, rfl, p, a.C_Tree, dx, _, _, rfl, hp, T.cl_Tree, T.nf_Tree_classes, tf_classes _ _, _, rfl, q, a.C_Tree, dy, _, _, rfl, hq, T.cl_Tree, T.nf_Tree_classes, tf_classes _ _, rfl, _, rfl, ?_⟩
    by_cases c1 : c = c'
    · subst c1
      rw [decide_eq_true rfl]
      refine iteT ?_
      refine ⟨_, rfl, p, a.C_Tree, dx, _, _, rfl, hp, T.cl_Tree, T.nf_Tree_told, tf_told _ _, _, rfl, q, a.C_Tree, dy, _, _, rfl, hq, T.cl_Tree, T.nf_Tree_told, tf_told _ _, _, _, .tup (SqT.of ht) (dp_ints ts), .tup (SqT.of ht') (dp_ints ts'), shaped_tup _, shaped_tup _, ?_⟩
      have e : PyData.eqv (.tuple (ts.map PyData.int)) (.tuple (ts'.map PyData.int)) = decide (c = c ∧ ts = ts') := by
        simp only [PyData.eqv, eqvAll_ints, true_and]
      rw [e]
      exact k
    · have e : decide (c = c' ∧ ts = ts') = false := decide_eq_false fun z => c1 z.1
      rw [e] at k
      have c2 : ¬ (V.int c = V.int c') := fun z => c1 (by injection z)
      rw [decide_eq_false c2]
      exact iteF k
end
end Rt
set_option maxHeartbeats 4000000
namespace Rt
open PySem L2
section
variable {P : Program} {w : World} {K : PySem.W.Frag} {mg : Str → Option Value} {base : Heap} {a : Ad}
/-! ### the pool -/
def PoolAt (H : Hp) (p : Addr) : Prop := ∃ (x y : Int), H p = some (.lst [.int x, .int y]) ∧ 0 ≤ x ∧ 0 ≤ y ∧ y < 2147483647
def sp_law_opened (K : PySem.W.Frag) : Sp := fun vs H Q _ => ∃ (s : Addr) (k : Int) (ns : List Int), vs = [.ref s, .int k] ∧ SqL K H s (ns.map V.int) ∧ 0 ≤ k ∧ k ≤ 63 ∧
  ∀ H' p, H p = none → Same H H' → PoolAt H' p → Q (.ref p) H'
theorem max_nonneg (c : Int) : 0 ≤ (if -1 - c > c then -1 - c else c) := by split <;> omega
theorem ok_law_opened (T : Txt K mg a) : FnOk P w K mg base CX0 1 a.a_law_opened a.fd_law_opened ["_law_script", "_law_k"] (sp_law_opened K) := by
  refine T.F_law_opened.ok sc_law_opened (fun vs H Q E h => ?_) (fun cdv A outer s H vs Q E hr h => ?_)
  · obtain ⟨p, k, ns, rfl, _⟩ := h
    rfl
  · obtain ⟨p, k, ns, rfl, hs, k0, k63, kk⟩ := h
    refine ⟨_, (pss_cons (ps_set (i := 2) sc_law_opened.nd rfl (Or.inl rfl) (pe_ifExp (pt_cmpR op_lt (pv 1) (pe_callB call_len_seq (by rfl) T.n_len PySem.boot_len (pa_cons (pv 0) pa_nil)) (nomark _)) (pe_ix (r := rIxL K) ix_list (pv 0) (pv 1) (fun _ _ => rfl)) pe_int))
      (pss_cons (ps_set (i := 3) sc_law_opened.nd rfl (Or.inl rfl) (pe_callB (call_max2 rfl) (by rfl) T.n_max (by decide +kernel) (pa_cons (pe_callTy call_int1 (by rfl) T.n_int (by decide +kernel) (pa_cons (pv 2) pa_nil)) (pa_cons (pe_callTy call_int1 (by rfl) T.n_int (by decide +kernel) (pa_cons (pe_op op_sub (pe_un un_neg pe_int) (pv 2)) pa_nil)) pa_nil))))
      (pss_one (ps_ret (pe_lst (pa_cons (pe_op op_mul (pv 3) (pe_callTy call_int1 (by rfl) T.n_int (by decide +kernel) (pa_cons (pe_cmpR op_ge (pv 3) (pe_op op_pow pe_int pe_int) (nomark _)) pa_nil))) (pa_cons (pe_op op_mod (pe_callTy call_int1 (by rfl) T.n_int (by decide +kernel) (pa_cons (pe_op op_mul (pe_op op_add (pe_op op_add (pe_op op_mod (pv 3) pe_int) (pe_op op_mul pe_int (pv 1))) pe_int) pe_int) pa_nil)) pe_int) pa_nil))))))), ?_⟩
    refine ⟨_, rfl, _, rfl, p, _, rfl, .inl hs, _, _, rfl, rfl, _, rfl, ?_⟩
    refine ite2 (fun c => ?_) (fun c => ?_)
    have c2 : k < (ns.length : Int) := by
      have := of_decide_eq_true c
      rw [List.length_map] at this
      exact this
    obtain ⟨z, hz⟩ : ∃ z, ns[k.toNat]? = some z := ⟨ns[k.toNat], by simp⟩
    refine ⟨_, rfl, _, rfl, p, _, _, _, rfl, rfl, hs, at_of (show k = ((k.toNat : Nat) : Int) by omega) (at_map hz), ?_⟩
    clear c2 hz
    rotate_left
    generalize hz : (5 : Int) = z
    clear hz
    all_goals clear c
    all_goals
      refine ⟨_, rfl, .inl ⟨_, rfl, _, rfl, _, rfl, _, _, rfl, rfl, .inl ⟨_, rfl, _, _, rfl, ?_⟩⟩⟩
      have g0 := max_nonneg z
      generalize (if -1 - z > z then -1 - z else z) = g at g0
      refine ⟨_, rfl, _, rfl, _, _, rfl, rfl, ⟨by decide, by decide, by decide⟩, _, _, rfl, rfl, .inr ⟨_, rfl, _, _, rfl, rfl, .inr ?_, ?_⟩⟩
      · split <;> decide
      have m0 := Int.emod_nonneg g (show (2147483629 : Int) ≠ 0 by decide)
      have m1 := Int.emod_lt_of_pos g (show (0 : Int) < 2147483629 by decide)
      refine ⟨_, rfl, _, _, rfl, rfl, (by show (0 : Int) < _; decide), _, rfl, _, _, rfl, rfl, .inl ⟨by decide, by decide⟩, _, _, rfl, rfl, _, _, rfl, rfl, _, _, rfl, rfl, .inl ⟨?_, ?_⟩, .inl ⟨_, rfl, _, _, rfl, rfl, (by show (0 : Int) < _; decide), ?_⟩⟩
      · omega
      · omega
      refine ⟨by show 2 ≤ sizeLine; decide, fun l hl => ?_⟩
      refine kk _ l hl (same_new hl) ⟨_, _, upd_same, ?_, ?_, ?_⟩
      · split
        · rw [Int.mul_one]; exact g0
        · rw [Int.mul_zero]; exact Int.le_refl 0
      · exact Int.emod_nonneg _ (by decide)
      · exact Int.emod_lt_of_pos _ (by decide)
/-! ### draw -/
def sp_law_draw : Sp := fun vs H Q _ => ∃ (p : Addr) (m : Int), vs = [.ref p, .int m] ∧ PoolAt H p ∧ 1 ≤ m ∧ m < 1073741824 ∧
  ∀ H' d, 0 ≤ d → d < m → But p H H' → PoolAt H' p → Q (.int d) H'
theorem ok_law_draw (T : Txt K mg a) : FnOk P w K mg base CX0 1 a.a_law_draw a.fd_law_draw ["_law_pool", "_law_many"] sp_law_draw := by
  refine T.F_law_draw.ok sc_law_draw (fun vs H Q E h => ?_) (fun cdv A outer s H vs Q E hr h => ?_)
  · obtain ⟨p, m, rfl, _⟩ := h
    rfl
  · obtain ⟨p, m, rfl, ⟨x, y, hp, x0, y0, y1⟩, m1, m2, k⟩ := h
    have hq := SqL.of (K := K) hp
    refine ⟨_, (pss_cons (ps_if (pt_cmpR op_gt (pe_ix (r := rIxL K) ix_list (pv 0) pe_int (fun _ _ => rfl)) pe_int (nomark _))
      (pss_cons (ps_set (i := 2) sc_law_draw.nd rfl (Or.inl rfl) (pe_op op_modN (pe_callTy call_int1 (by rfl) T.n_int (by decide +kernel) (pa_cons (pe_ix (r := rIxL K) ix_list (pv 0) pe_int (fun _ _ => rfl)) pa_nil)) (pv 1)))
        (pss_cons (ps_asg (pe_op op_fdivN (pe_ix (r := rIxL K) ix_list (pv 0) pe_int (fun _ _ => rfl)) (pv 1)) (pg_sub (pv 0) pe_int set_list))
        (pss_one (ps_ret (pv 2)))))
      pss_nil)
      (pss_cons (ps_asg (pe_op op_mod (pe_callTy call_int1 (by rfl) T.n_int (by decide +kernel) (pa_cons (pe_op op_add (pe_op op_mul (pe_ix (r := rIxL K) ix_list (pv 0) pe_int (fun _ _ => rfl)) pe_int) pe_int) pa_nil)) pe_int) (pg_sub (pv 0) pe_int set_list))
      (pss_one (ps_ret (pe_op op_modN (pe_op op_fdiv (pe_op op_mod (pe_callTy call_int1 (by rfl) T.n_int (by decide +kernel) (pa_cons (pe_op op_mul (pe_ix (r := rIxL K) ix_list (pv 0) pe_int (fun _ _ => rfl)) (pe_ix (r := rIxL K) ix_list (pv 0) pe_int (fun _ _ => rfl))) pa_nil)) pe_int) pe_int) (pv 1)))))), ?_⟩
    have a0 : ∀ x y : Int, atI [V.int x, V.int y] 0 = some (V.int x) := fun x y => at_of (j := 0) rfl rfl
    have a1 : ∀ x y : Int, atI [V.int x, V.int y] 1 = some (V.int y) := fun x y => at_of (j := 1) rfl rfl
    have but : ∀ o, But p H (upd H p o) := fun o b u nb e => by rw [upd_ne nb]; exact e
    have m3 : m ≠ 0 := by omega
    refine ⟨_, rfl, p, _, _, _, rfl, rfl, hq, a0 x y, _, _, rfl, rfl, _, rfl, ?_⟩
    refine ite2 (fun c => ?_) (fun c => ?_)
    · refine ⟨_, rfl, p, _, _, _, rfl, rfl, hq, a0 x y, .inl ⟨_, rfl, _, rfl, _, _, rfl, rfl, m3, ?_⟩⟩
      refine ⟨_, rfl, p, _, _, _, rfl, rfl, hq, a0 x y, _, rfl, _, _, rfl, rfl, ⟨m3, by omega⟩, _, rfl, p, _, _, 0, rfl, rfl, hp, rfl, ?_⟩
      refine ⟨_, rfl, ?_⟩
      refine k _ _ (Int.fmod_nonneg_of_pos _ (by omega)) (Int.fmod_lt_of_pos _ (by omega)) (but _) ⟨_, y, upd_same, ?_, y0, y1⟩
      exact Int.fdiv_nonneg x0 (by omega)
    · refine ⟨_, rfl, p, _, _, _, rfl, rfl, hq, a1 x y, _, _, rfl, rfl, .inl ⟨by omega, by omega⟩, _, _, rfl, rfl, .inl ⟨_, rfl, _, _, rfl, rfl, (by show (0 : Int) < _; decide), ?_⟩⟩
      have z0 := Int.emod_nonneg (y * 39373 + 7) (show (2147483647 : Int) ≠ 0 by decide)
      have z1 := Int.emod_lt_of_pos (y * 39373 + 7) (show (0 : Int) < 2147483647 by decide)
      obtain ⟨z, hz⟩ : ∃ z, z = (y * 39373 + 7) % 2147483647 := ⟨_, rfl⟩
      rw [← hz] at z0 z1
      refine ⟨_, rfl, p, _, _, 1, rfl, rfl, hp, rfl, ?_⟩
      have hq2 : SqL K (upd H p (.lst ([V.int x, V.int y].set 1 (V.int ((y * 39373 + 7) % 2147483647))))) p [.int x, .int z] := by rw [hz]; exact SqL.of upd_same
      refine ⟨_, rfl, p, _, _, _, rfl, rfl, hq2, a1 x z, _, rfl, p, _, _, _, rfl, rfl, hq2, a1 x z, _, _, rfl, rfl, .inl ⟨by omega, by omega⟩, .inl ⟨_, rfl, _, _, rfl, rfl, (by show (0 : Int) < _; decide), _, _, rfl, rfl, ⟨by decide, by decide⟩, _, rfl, _, _, rfl, rfl, m3, ?_⟩⟩
      exact k _ _ (Int.fmod_nonneg_of_pos _ (by omega)) (Int.fmod_lt_of_pos _ (by omega)) (but _) ⟨x, z, (by rw [hz]; exact upd_same), x0, z0, z1⟩
end
end Rt
set_option maxHeartbeats 4000000
namespace L2
open PySem PySem.Spec PyProof.Rows
/-! ### list(range(a, b, -1)) -/
def dnV (a b : Int) : List V := (List.range (a - b).toNat).map fun i => V.int (a - (i : Nat))
theorem vals_dn {a b : Int} {acc : Array Value} (h : ItemsOf (fun i v => ∃ t, v = .int (a + i * -1) t) acc (a - b).toNat) : Vals (dnV a b) acc.toList := by
  have e : acc.toList.length = (a - b).toNat := by rw [Array.length_toList]; exact h.1
  unfold dnV
  rw [← e]
  refine vals_of_get acc.toList _ fun j u hj => ?_
  obtain ⟨t, rfl⟩ := h.2 j u (by rw [← hj, Array.getElem?_toList])
  exact ⟨t, by congr 1; omega⟩
def tLstDn (ta tb tc : TE) : TE := fun σ H Q => ta σ H fun x H1 => tb σ H1 fun y H2 => tc σ H2 fun z H3 => ∃ i j, x = .int i ∧ y = .int j ∧ z = .int (-1) ∧ (0 ≤ i ∧ i ≤ 1000000 ∧ 0 ≤ j ∧ j ≤ 1000000) ∧ ∀ q, H3 q = none → Q (.ref q) (upd H3 q (.lst (dnV i j)))
theorem pe_listRg3 {X : Cx} {ea eb ec : Expr} {ta tb tc : TE} {p pos p2 pos2 : Pos} (hc : X.calm = true) (hg : Gl X "list") (hm : X.mg "list" = none) (hg2 : Gl X "range") (hm2 : X.mg "range" = none) (ha : PE X ea ta) (hb : PE X eb tb) (hcc : PE X ec tc)
    (na : starEach [ea, eb, ec] X.env = (false, eval ea X.env) :: starEach [eb, ec] X.env := by rfl) (nb : starEach [eb, ec] X.env = (false, eval eb X.env) :: starEach [ec] X.env := by rfl) (nc : starEach [ec] X.env = (false, eval ec X.env) :: starEach [] X.env := by rfl)
    (hp : (backTo pos2 (starEach [eb, ec] X.env)).any (·.1) = false := by rfl)
    (no : starEach [.Call (.Name "range" p2) [ea, eb, ec] [] pos2] X.env = (false, eval (.Call (.Name "range" p2) [ea, eb, ec] [] pos2) X.env) :: starEach [] X.env := by rfl) :
    PE X (.Call (.Name "list" p) [.Call (.Name "range" p2) [ea, eb, ec] [] pos2] [] pos) (tLstDn ta tb tc) := by
  refine ⟨fun pins s σ H Q I h => ?_⟩
  have rng : wpAny (model X.prog X.w) X.A (eval (.Call (.Name "range" p2) [ea, eb, ec] [] pos2) X.env) (fun x s' => ∃ r a b t u v H', x = .ref r ∧ IsRange s'.heap r a b (-1) t u v ∧ Inv X pins σ H' s' ∧ (0 ≤ a ∧ a ≤ 1000000 ∧ 0 ≤ b ∧ b ≤ 1000000) ∧ ∀ q, H' q = none → Q (.ref q) (upd H' q (.lst (dnV a b)))) X.xe s := by
    refine Call_ (ld_blt I hg2 hm2 boot_range (PyProof.Rows.callWith_type1 (args_cons (thn (ha.run pins s σ H _ I h) fun v s1 ⟨x, H1, I1, r1, q1⟩ => args_cons (thn (hb.run pins s1 σ H1 _ I1 q1) fun v2 s2 ⟨y, H2, I2, r2, q2⟩ => one_arg hcc I2 q2 (fun v3 s3 z H3 I3 r3 q => ?_) nc) nb) na) na hp))
    obtain ⟨i, j, rfl, rfl, rfl, bd, q⟩ := q
    obtain ⟨t, rfl⟩ := r1
    obtain ⟨t', rfl⟩ := r2
    obtain ⟨t'', rfl⟩ := r3
    obtain ⟨b1, b2, b3, b4⟩ := bd
    exact call_range_3 (by decide) ⟨_, i, j, _, _, _, H3, rfl, IsRange.new _ _ _ _ _ _ _, I3.kept (t' := s3.toks) fun b u e => Heap.get?_push_of_some _ e, ⟨b1, b2, b3, b4⟩, q⟩ (Or.inl (PyProof.noPylong_small (by omega)))
  refine Call_ (ld_blt I hg hm boot_list (PyProof.Rows.callWith_type1 (args_cons (thn rng fun x s1 ⟨r, a, b, t, u, v, H1, ex, hr, I1, ⟨b1, b2, b3, b4⟩, q⟩ => args_nil ?_) no) no))
  subst ex
  have R : RgC a b (-1) (a - b).toNat := RgC.neg (by omega) (by omega) (by omega) (by omega)
  refine call_list_range (n := (a - b).toNat) (I1.ok.hd hc) hr R.2.2.1 R.2.2.2 (by omega) fun h' tk acc c' hk e' hi => ?_
  refine ⟨.ref s1.heap.objs.size, upd H1 s1.heap.objs.size (.lst (dnV a b)), I1.laid hk (Nat.le_refl _) (show ObjOk X.prog X.w _ _ _ (.lst (dnV a b)) from ⟨?_, acc.toList, c', vals_dn hi, ?_⟩), rfl, q _ (I1.hok.fresh (Nat.le_refl _))⟩
  · unfold dnV
    rw [List.length_map, List.length_range, sizeLine_eq]; omega
  · rw [Array.toArray_toList]; exact e'
end L2
set_option maxHeartbeats 4000000
namespace Rt
open PySem L2
theorem But.trans {p : Addr} {H H1 H2 : Hp} (h1 : But p H H1) (h2 : But p H1 H2) : But p H H2 := fun b o nb e => h2 b o nb (h1 b o nb e)
theorem Same.but {p : Addr} {H H1 : Hp} (h1 : Same H H1) : But p H H1 := fun b o _ e => h1 b o e
theorem PoolAt.mono {H H' : Hp} {p : Addr} (h : PoolAt H p) (s : Same H H') : PoolAt H' p := by
  obtain ⟨x, y, h1, h2⟩ := h
  exact ⟨x, y, s _ _ h1, h2⟩
theorem PoolAt.ne {H : Hp} {p l : Addr} (h : PoolAt H p) (hl : H l = none) : l ≠ p := fun z => by
  obtain ⟨x, y, e, _⟩ := h
  rw [z, e] at hl
  cases hl
section
variable {P : Program} {w : World} {K : PySem.W.Frag} {mg : Str → Option Value} {base : Heap} {a : Ad}
def sp_law_told : Sp := fun vs H Q _ => ∃ (p : Addr) (c : Int) (n : Nat), vs = [.ref p, .int c, .int ((n : Nat) : Int)] ∧ PoolAt H p ∧ 1 ≤ c ∧ c ≤ 8 ∧ (n = 2 ∨ n = 4 ∨ n = 8 ∨ n = 16 ∨ n = 32) ∧
  ∀ H' l ts, But p H H' → PoolAt H' p → H l = none → l ≠ p → H' l = some (.lst (ts.map V.int)) → Told c ts n → Q (.ref l) H'
theorem ok_law_told (T : Txt K mg a) : FnOk P w K mg base CX0 2 a.a_law_told a.fd_law_told ["_law_pool", "_law_classes", "_law_pages_here"] sp_law_told := by
  refine T.F_law_told.ok sc_law_told (fun vs H Q E h => ?_) (fun cdv A outer s H vs Q E hr h => ?_)
  · obtain ⟨p, c, n, rfl, _⟩ := h
    rfl
  · obtain ⟨p, c, n, rfl, hp, c1, c8, hn, k⟩ := h
    have n2 : 2 ≤ n ∧ n ≤ 32 := by rcases hn with h | h | h | h | h <;> omega
    refine ⟨_, (pss_cons (ps_par (i := 3) (j := 4) (by rfl) sc_law_told.nd rfl rfl (by decide) rfl rfl (pa_cons (pe_call (ok_law_draw T) (hr.mono (by decide)) rfl T.g__law_draw T.F_law_draw.kp T.b_law_draw .nil pass0 (pa_cons (pv 0) (pa_cons pe_int pa_nil))) (pa_cons (pe_lst pa_nil) pa_nil)) (by rfl))
      (pss_cons (ps_for PassesOwn.never rfl (pi_range2 (by rfl) T.n_range (pa_cons pe_int (pa_cons (pe_op op_mul pe_int (pv 2)) pa_nil))) (pg_name (i := 5) sc_law_told.nd rfl (Or.inl rfl))
      (pss_one (ps_if (PW.pt (pw_and (pt_cmpR op_eq (pv 3) pe_int (nomark _)) (pw_and1 (pt_cmpR op_gt (pv 5) pe_int (nomark _)))))
        (pss_one (ps_expr (pe_bm PySem.F.plainAttrs_list PySem.F.slot_list_append PySem.F.type_list_append mt_append (pv 4) (pa_cons (pe_call (ok_law_draw T) (hr.mono (by decide)) rfl T.g__law_draw T.F_law_draw.kp T.b_law_draw .nil pass0 (pa_cons (pv 0) (pa_cons (pe_op op_add (pe_ix (r := rIxL K) ix_list (pv 4) (pe_op op_sub (pe_op op_fdiv (pv 5) pe_int) pe_int) (fun _ _ => rfl)) pe_int) pa_nil))) pa_nil))))
        (pss_one (ps_if (pt_cmpR op_eq (pv 3) pe_int (nomark _))
          (pss_one (ps_expr (pe_bm PySem.F.plainAttrs_list PySem.F.slot_list_append PySem.F.type_list_append mt_append (pv 4) (pa_cons (pe_ifExp (pt_cmpR op_eq (pe_call (ok_law_draw T) (hr.mono (by decide)) rfl T.g__law_draw T.F_law_draw.kp T.b_law_draw .nil pass0 (pa_cons (pv 0) (pa_cons pe_int pa_nil))) pe_int (nomark _)) (pe_call (ok_law_draw T) (hr.mono (by decide)) rfl T.g__law_draw T.F_law_draw.kp T.b_law_draw .nil pass0 (pa_cons (pv 0) (pa_cons (pe_op op_add (pv 1) pe_int) pa_nil))) (pv 1)) pa_nil))))
          (pss_one (ps_expr (pe_bm PySem.F.plainAttrs_list PySem.F.slot_list_append PySem.F.type_list_append mt_append (pv 4) (pa_cons (pe_call (ok_law_draw T) (hr.mono (by decide)) rfl T.g__law_draw T.F_law_draw.kp T.b_law_draw .nil pass0 (pa_cons (pv 0) (pa_cons (pe_op op_add (pv 1) pe_int) pa_nil))) pa_nil)))))))))
      (pss_one (ps_ret (pv 4))))), ?_⟩
    refine ⟨_, rfl, p, 4, rfl, hp, by decide, by decide, fun H1 kd kd0 kd1 b1 p1 => ?_⟩
    refine ⟨Nat.zero_le _, fun l hl => ⟨_, _, rfl, ?_⟩⟩
    have nlp : l ≠ p := p1.ne hl
    have hl0 : H l = none := by
      cases e : H l with
      | none => rfl
      | some o => rw [b1 _ _ nlp e] at hl; cases hl
    refine ⟨_, rfl, _, _, rfl, rfl, .inl ⟨by decide, by decide⟩, 1, _, rfl, ⟨by decide, by decide, by omega, by omega⟩,
      for_range (lo := 1) (n := (2 * (n : Int) - 1).toNat) (fun i σ H' => (∃ v : Option V, σ = [some (.ref p), some (.int c), some (.int (n : Nat)), some (.int kd), some (.ref l), v]) ∧ (∀ b o, b ≠ p → b ≠ l → H1 b = some o → H' b = some o) ∧ PoolAt H' p ∧
        ∃ ts : List Int, H' l = some (.lst (ts.map V.int)) ∧ ts.length = i ∧ ∀ z ∈ ts, 0 ≤ z ∧ z ≤ c)
      ⟨⟨none, rfl⟩, fun b o _ nb e => by rw [upd_ne nb]; exact e, p1.mono (same_new hl), [], upd_same, rfl, fun z hz => by cases hz⟩ ?_ ?_⟩
    · rintro i σ H' hi ⟨⟨v, rfl⟩, b', p', ts, hl', htl, hts⟩
      have fin : ∀ (H5 : Hp) (d : Int), But p H' H5 → PoolAt H5 p → 0 ≤ d → d ≤ c → ((∃ v : Option V, [some (.ref p), some (.int c), some (.int (n : Nat)), some (.int kd), some (.ref l), some (V.int (1 + (i : Int)))] = [some (.ref p), some (.int c), some (.int (n : Nat)), some (.int kd), some (.ref l), v]) ∧ (∀ b o, b ≠ p → b ≠ l → H1 b = some o → upd H5 l (.lst (ts.map V.int ++ [.int d])) b = some o) ∧ PoolAt (upd H5 l (.lst (ts.map V.int ++ [.int d]))) p ∧
          ∃ ts' : List Int, upd H5 l (.lst (ts.map V.int ++ [.int d])) l = some (.lst (ts'.map V.int)) ∧ ts'.length = i + 1 ∧ ∀ z ∈ ts', 0 ≤ z ∧ z ≤ c) := fun H5 d b5 p5 d0 d1 => by
        refine ⟨⟨_, rfl⟩, fun b o nb nbl e => ?_, ?_, ts ++ [d], ?_, ?_, ?_⟩
        · rw [upd_ne nbl]; exact b5 b o nb (b' b o nb nbl e)
        · obtain ⟨x, y, e, r⟩ := p5
          exact ⟨x, y, by rw [upd_ne nlp.symm]; exact e, r⟩
        · rw [upd_same, List.map_append]; rfl
        · rw [List.length_append, htl]; rfl
        · intro z hz
          rcases List.mem_append.mp hz with h | h
          · exact hts z h
          · rw [List.mem_singleton.mp h]; exact ⟨d0, d1⟩
      have lsz : (ts.map V.int).length < sizeLine := by
        rw [List.length_map]
        exact Nat.lt_of_le_of_lt (show ts.length ≤ 100 by omega) (by decide)
      have hl5 : ∀ H5, But p H' H5 → H5 l = some (.lst (ts.map V.int)) := fun H5 b5 => b5 _ _ nlp hl'
      refine ⟨_, rfl, rfl, _, rfl, ?_⟩
      have other : ∀ (D : Ends), D.nx = (fun σ H' => (∃ v : Option V, σ = [some (.ref p), some (.int c), some (.int (n : Nat)), some (.int kd), some (.ref l), v]) ∧ (∀ b o, b ≠ p → b ≠ l → H1 b = some o → H' b = some o) ∧ PoolAt H' p ∧
        ∃ ts : List Int, H' l = some (.lst (ts.map V.int)) ∧ ts.length = i + 1 ∧ ∀ z ∈ ts, 0 ≤ z ∧ z ≤ c) → True := fun _ _ => trivial
      by_cases k0 : V.int kd = V.int 0
      · rw [decide_eq_true k0]
        refine iteT ?_
        refine ⟨_, rfl, _, _, rfl, rfl, _, rfl, ?_⟩
        by_cases k1 : (1 : Int) < 1 + (i : Int)
        · rw [decide_eq_true k1]
          refine iteT ?_
          obtain ⟨z, hz⟩ : ∃ z, ts[(1 + i) / 2 - 1]? = some z := ⟨ts[(1 + i) / 2 - 1]'(by omega), by simp⟩
          have hz2 := hts z (List.mem_of_getElem? hz)
          refine ⟨_, rfl, .inl ⟨rfl, _, SqL.of hl'⟩, _, rfl, _, rfl, _, rfl, _, _, rfl, rfl, ⟨by decide, by decide⟩, _, _, rfl, rfl, l, _, _, _, rfl, rfl, SqL.of hl', at_of (j := (1 + i) / 2 - 1) (by omega) (at_map hz), _, _, rfl, rfl, p, z + 1, rfl, p', by omega, by omega, fun H5 d d0 d1 b5 p5 => ?_⟩
          exact ⟨l, _, _, rfl, rfl, hl5 _ b5, lsz, fin H5 d b5 p5 d0 (by omega)⟩
        · rw [decide_eq_false k1]
          refine iteF ?_
          refine ⟨_, rfl, rfl, _, rfl, ?_⟩
          have k2 : ¬ V.int kd = V.int 1 := fun z => by rw [k0] at z; cases z
          rw [decide_eq_false k2]
          refine iteF ?_
          refine ⟨_, rfl, .inl ⟨rfl, _, SqL.of hl'⟩, _, rfl, _, rfl, _, _, rfl, rfl, p, c + 1, rfl, p', by omega, by omega, fun H5 d d0 d1 b5 p5 => ?_⟩
          exact ⟨l, _, _, rfl, rfl, hl5 _ b5, lsz, fin H5 d b5 p5 d0 (by omega)⟩
      · rw [decide_eq_false k0]
        refine iteF (iteF ?_)
        refine ⟨_, rfl, rfl, _, rfl, ?_⟩
        by_cases k2 : V.int kd = V.int 1
        · rw [decide_eq_true k2]
          refine iteT ?_
          refine ⟨_, rfl, .inl ⟨rfl, _, SqL.of hl'⟩, _, rfl, p, 4, rfl, p', by decide, by decide, fun H4 e e0 e1 b4 p4 => ⟨rfl, _, rfl, ?_⟩⟩
          by_cases k3 : V.int e = V.int 0
          · rw [decide_eq_true k3]
            refine iteT ?_
            refine ⟨_, rfl, _, rfl, _, _, rfl, rfl, p, c + 1, rfl, p4, by omega, by omega, fun H5 d d0 d1 b5 p5 => ?_⟩
            exact ⟨l, _, _, rfl, rfl, hl5 _ (But.trans b4 b5), lsz, fin H5 d (But.trans b4 b5) p5 d0 (by omega)⟩
          · rw [decide_eq_false k3]
            refine iteF ⟨_, rfl, ?_⟩
            exact ⟨l, _, _, rfl, rfl, hl5 _ b4, lsz, fin H4 c b4 p4 (by omega) (Int.le_refl c)⟩
        · rw [decide_eq_false k2]
          refine iteF ?_
          refine ⟨_, rfl, .inl ⟨rfl, _, SqL.of hl'⟩, _, rfl, _, rfl, _, _, rfl, rfl, p, c + 1, rfl, p', by omega, by omega, fun H5 d d0 d1 b5 p5 => ?_⟩
          exact ⟨l, _, _, rfl, rfl, hl5 _ b5, lsz, fin H5 d b5 p5 d0 (by omega)⟩
    · rintro σ H' ⟨⟨v, rfl⟩, b', p', ts, hl', htl, hts⟩
      refine ⟨_, rfl, ?_⟩
      refine k H' l ts (fun b o nb e => ?_) p' hl0 nlp hl' ⟨c1, c8, fun z hz => (hts z hz).1, fun z hz => (hts z hz).2, hn, by omega⟩
      exact b' b o nb (ne_of_none e hl0) (b1 b o nb e)
def sp_law_pages : Sp := fun vs H Q _ => ∃ (p : Addr), vs = [.ref p, .int 5] ∧ PoolAt H p ∧ ∀ H' (n : Nat), But p H H' → PoolAt H' p → (n = 2 ∨ n = 4 ∨ n = 8 ∨ n = 16 ∨ n = 32) → Q (.int ((n : Nat) : Int)) H'
theorem ok_law_pages (T : Txt K mg a) : FnOk P w K mg base CX0 2 a.a_law_pages a.fd_law_pages ["_law_pool", "_law_many"] sp_law_pages := by
  refine T.F_law_pages.ok sc_law_pages (fun vs H Q E h => ?_) (fun cdv A outer s H vs Q E hr h => ?_)
  · obtain ⟨p, rfl, _⟩ := h
    rfl
  · obtain ⟨p, rfl, hp, k⟩ := h
    refine ⟨_, (pss_one (ps_ret (pe_ix (r := rIxL K) ix_list (pe_lst (pa_cons pe_int (pa_cons pe_int (pa_cons pe_int (pa_cons pe_int (pa_cons pe_int pa_nil)))))) (pe_call (ok_law_draw T) (hr.mono (by decide)) rfl T.g__law_draw T.F_law_draw.kp T.b_law_draw .nil pass0 (pa_cons (pv 0) (pa_cons (pv 1) pa_nil))) (fun _ _ => rfl)))), ?_⟩
    refine ⟨(by show 5 ≤ sizeLine; decide), fun l hl => ?_⟩
    have s0 := same_new (o := .lst [.int 2, .int 4, .int 8, .int 16, .int 32]) hl
    have nlp : l ≠ p := hp.ne hl
    refine ⟨_, rfl, _, rfl, p, 5, rfl, hp.mono s0, by decide, by decide, fun H1 d d0 d1 b1 p1 => ?_⟩
    obtain ⟨n, hat, hn⟩ : ∃ n : Nat, atI [V.int 2, V.int 4, V.int 8, V.int 16, V.int 32] d = some (.int ((n : Nat) : Int)) ∧ (n = 2 ∨ n = 4 ∨ n = 8 ∨ n = 16 ∨ n = 32) := by
      rcases (show d = 0 ∨ d = 1 ∨ d = 2 ∨ d = 3 ∨ d = 4 by omega) with rfl | rfl | rfl | rfl | rfl
      · exact ⟨2, at_of (j := 0) rfl rfl, by decide⟩
      · exact ⟨4, at_of (j := 1) rfl rfl, by decide⟩
      · exact ⟨8, at_of (j := 2) rfl rfl, by decide⟩
      · exact ⟨16, at_of (j := 3) rfl rfl, by decide⟩
      · exact ⟨32, at_of (j := 4) rfl rfl, by decide⟩
    refine ⟨l, _, d, _, rfl, rfl, SqL.of (b1 _ _ nlp upd_same), hat, ?_⟩
    exact k H1 n (But.trans (Same.but s0) b1) p1 hn
end
end Rt
set_option maxHeartbeats 4000000
namespace Rt
open PySem L2
/-- the bounds of steps, as this file holds them -/
structure Good (ns : List Int) (m : Int) : Prop where
  most : 1 ≤ m
  top : m ≤ 1000
  one : 1 ≤ ns.length
  eight : ns.length ≤ 8
  lo : ∀ z ∈ ns, 1 ≤ z
  hi : ∀ z ∈ ns, z ≤ m
  asc : ns.Pairwise (· < ·)
theorem Good.lt {ns : List Int} {m : Int} (g : Good ns m) {i j : Nat} {x y : Int} (h1 : ns[i]? = some x) (h2 : ns[j]? = some y) (h : i < j) : x < y := by
  obtain ⟨q1, e1⟩ := List.getElem?_eq_some_iff.mp h1
  obtain ⟨q2, e2⟩ := List.getElem?_eq_some_iff.mp h2
  have := List.pairwise_iff_getElem.mp g.asc i j q1 q2 h
  rw [e1, e2] at this
  exact this
/-- it can be the bounds -/
def OkB (o : Option (List V)) (m : Int) : Prop := ∃ ns, o = some (ns.map V.int) ∧ Good ns m
theorem allW_ints {o : Option (List V)} {lo hi : Int} (h : allW o lo hi = true) : ∃ ns : List Int, o = some (ns.map V.int) ∧ ∀ z ∈ ns, lo ≤ z ∧ z ≤ hi := by
  cases o with
  | none => cases h
  | some xs =>
    have h2 : xs.all (fun v => inW v lo hi) = true := h
    clear h
    induction xs with
    | nil => exact ⟨[], rfl, fun z hz => by cases hz⟩
    | cons x r ih =>
      rw [List.all_cons, Bool.and_eq_true] at h2
      obtain ⟨z, rfl, hz⟩ := inW_int h2.1
      obtain ⟨ns, e, hn⟩ := ih h2.2
      refine ⟨z :: ns, ?_, fun y hy => ?_⟩
      · rw [Option.some.inj e]; rfl
      · rcases List.mem_cons.mp hy with rfl | hy
        · exact hz
        · exact hn y hy
theorem allW_good {ns : List Int} {m : Int} (g : Good ns m) : allW (some (ns.map V.int)) 1 m = true := by
  show (ns.map V.int).all (fun v => inW v 1 m) = true
  rw [List.all_eq_true]
  intro x hx
  obtain ⟨z, hz, rfl⟩ := List.mem_map.mp hx
  exact inI_T ⟨g.lo z hz, g.hi z hz⟩
theorem asc_of {ns : List Int} (h : ∀ i x y, ns[i]? = some x → ns[i + 1]? = some y → x < y) : ns.Pairwise (· < ·) := by
  induction ns with
  | nil => exact .nil
  | cons x r ih =>
    have hr : r.Pairwise (· < ·) := ih fun i a b h1 h2 => h (i + 1) a b h1 h2
    cases r with
    | nil => exact .cons (fun _ hy => by cases hy) hr
    | cons y t =>
      have hxy : x < y := h 0 x y rfl rfl
      refine .cons (fun z hz => ?_) hr
      rcases List.mem_cons.mp hz with rfl | hz
      · exact hxy
      · have := (List.pairwise_cons.mp hr).1 z hz
        omega
section
variable {P : Program} {w : World} {K : PySem.W.Frag} {mg : Str → Option Value} {base : Heap} {a : Ad}
def sp_are_bounds : Sp := fun vs H Q _ => ∃ (v : V) (o : Option (List V)) (m : Int) (r : Bool), vs = [v, .int m] ∧ Cont H v o ∧ 1 ≤ m ∧ m ≤ 1000 ∧ (r = true ↔ OkB o m) ∧ ∀ H', Same H H' → Q (.bl r) H'
theorem ok_are_bounds (T : Txt K mg a) : FnOk P w K mg base CX0 3 a.a_are_bounds a.fd_are_bounds ["value", "most"] sp_are_bounds := by
  refine T.F_are_bounds.ok sc_are_bounds (fun vs H Q E h => ?_) (fun cdv A outer s H vs Q E hr h => ?_)
  · obtain ⟨v, o, m, r, rfl, _⟩ := h
    rfl
  · obtain ⟨v, o, m, r, rfl, hv, m1, m2, hr', k⟩ := h
    refine ⟨_, (pss_cons (ps_if (PW.pt (pw_or (pt_not (pt_val (pe_call (ok_are_integers T) (hr.mono (by decide)) rfl T.g_are_integers T.F_are_integers.kp T.b_are_integers .nil pass0 (pa_cons (pv 0) (pa_cons pe_int (pa_cons (pv 1) pa_nil)))))) (pw_or1 (pt_not (pt_chain op_le op_le pe_int (pe_callB call_len_seq (by rfl) T.n_len PySem.boot_len (pa_cons (pv 0) pa_nil)) (pe_glob (v := .int 8) rfl T.c_MOST_BOUNDS ⟨_, rfl⟩))))))
      (pss_one (ps_ret pe_bl))
      pss_nil)
      (pss_cons (ps_for PassesOwn.never rfl (pi_range2 (by rfl) T.n_range (pa_cons pe_int (pa_cons (pe_callB call_len_seq (by rfl) T.n_len PySem.boot_len (pa_cons (pv 0) pa_nil)) pa_nil))) (pg_name (i := 2) sc_are_bounds.nd rfl (Or.inl rfl))
      (pss_one (ps_if (pt_cmpR op_ge (pe_ix ix_seq (pv 0) (pe_op op_sub (pv 2) pe_int) (fun _ _ => rfl)) (pe_ix ix_seq (pv 0) (pv 2) (fun _ _ => rfl)) (nomark _))
        (pss_one (ps_ret pe_bl))
        pss_nil)))
      (pss_one (ps_ret pe_bl)))), ?_⟩
    refine ⟨_, rfl, _, rfl, v, o, 1, m, rfl, hv, fun H1 s1 => ⟨_, rfl, ?_⟩⟩
    have hv1 := hv.mono s1
    cases c : allW o 1 m with
    | false =>
      refine iteT ?_
      have er : r = false := by
        cases r with
        | false => rfl
        | true =>
          obtain ⟨ns, e, g⟩ := hr'.mp rfl
          rw [e, allW_good g] at c
          cases c
      rw [er] at k
      exact k _ s1
    | true =>
      refine iteF ?_
      obtain ⟨ns, rfl, hns⟩ := allW_ints c
      rcases hv1.ty (K := K) with ⟨z, _⟩ | ⟨p, xs, tp, rfl, exs, hpl, hp1⟩
      · cases z
      have exs2 := Option.some.inj exs
      subst exs2
      have hlen : ∀ H' : Hp, Same H1 H' → SqL K H' p (ns.map V.int) ∨ SqT K H' p (ns.map V.int) := fun H' s' => by
        have := sqe_of (K := K) (s' _ _ hp1)
        cases tp with
        | false => exact .inl this
        | true => exact .inr this
      refine ⟨_, rfl, p, _, rfl, hlen _ (Same.refl _), _, _, rfl, rfl, _, rfl, ?_⟩
      have bad : ¬ (1 ≤ ns.length ∧ ns.length ≤ 8) → r = false := fun z => by
        cases r with
        | false => rfl
        | true =>
          obtain ⟨ms, e, g⟩ := hr'.mp rfl
          have e2 : (ns.map V.int).length = (ms.map V.int).length := by rw [Option.some.inj e]
          rw [List.length_map, List.length_map] at e2
          exact absurd ⟨by rw [e2]; exact g.one, by rw [e2]; exact g.eight⟩ z
      rw [List.length_map]
      by_cases l1 : (1 : Int) ≤ (ns.length : Int)
      case neg =>
        rw [decide_eq_false l1]
        refine iteF ⟨_, rfl, ?_⟩
        refine iteT ?_
        rw [bad fun z => by omega] at k
        exact k _ s1
      rw [decide_eq_true l1]
      refine iteT ?_
      refine ⟨_, _, rfl, rfl, _, rfl, ?_⟩
      by_cases l8 : (ns.length : Int) ≤ 8
      case neg =>
        rw [decide_eq_false l8]
        refine iteT ?_
        rw [bad fun z => by omega] at k
        exact k _ s1
      rw [decide_eq_true l8]
      refine iteF ?_
      refine ⟨_, rfl, p, _, rfl, hlen _ (Same.refl _), 1, _, rfl, ?_, for_range (lo := 1) (n := (((ns.map V.int).length : Int) - 1).toNat) (fun i σ H' => (∃ v : Option V, σ = [some (.ref p), some (.int m), v]) ∧ Same H1 H' ∧ ∀ j x y, j < i → ns[j]? = some x → ns[j + 1]? = some y → x < y)
        ⟨⟨none, rfl⟩, Same.refl _, fun j x y hj => absurd hj (Nat.not_lt_zero _)⟩ ?_ ?_⟩
      · rw [List.length_map]; omega
      · rintro i σ H' hi ⟨⟨v, rfl⟩, s2, hasc⟩
        have hi2 : i + 1 < ns.length := by rw [List.length_map] at hi; omega
        obtain ⟨x, hx⟩ : ∃ x, ns[i]? = some x := ⟨ns[i], by simp⟩
        obtain ⟨y, hy⟩ : ∃ y, ns[i + 1]? = some y := ⟨ns[i + 1], by simp⟩
        have ix : ∀ (i : Int) (z : V) (Q' : VK), atI (ns.map V.int) i = some z → Q' z H' → rIx K (.ref p) (.int i) H' Q' := fun i z Q' h1 h2 => by
          rcases hlen _ s2 with h | h
          · exact .inl ⟨p, _, i, z, rfl, rfl, h, h1, h2⟩
          · exact .inr (.inl ⟨p, _, i, z, rfl, rfl, h, h1, h2⟩)
        refine ⟨_, rfl, _, rfl, _, _, rfl, rfl, ix _ _ _ (at_of (show (1 : Int) + (i : Int) - 1 = (i : Int) by omega) (at_map hx)) ?_⟩
        refine ⟨_, rfl, _, rfl, ix _ _ _ (at_of (show (1 : Int) + (i : Int) = ((i + 1 : Nat) : Int) by omega) (at_map hy)) ?_⟩
        refine ⟨_, _, rfl, rfl, _, rfl, ?_⟩
        by_cases c2 : y ≤ x
        · rw [decide_eq_true c2]
          refine iteT ?_
          have er : r = false := by
            cases r with
            | false => rfl
            | true =>
              obtain ⟨ms, e, g⟩ := hr'.mp rfl
              have e3 : ns.map V.int = ms.map V.int := Option.some.inj e
              have e2 : ns = ms := List.map_inj_right (fun _ _ h => by injection h) |>.mp e3
              have := g.lt (e2 ▸ hx) (e2 ▸ hy) (Nat.lt_succ_self i)
              omega
          rw [er] at k
          exact k _ (s1.trans s2)
        · rw [decide_eq_false c2]
          refine iteF ⟨⟨_, rfl⟩, s2, fun j x' y' hj h1 h2 => ?_⟩
          by_cases q : j = i
          · subst q
            rw [hx] at h1; rw [hy] at h2
            cases h1; cases h2
            omega
          · exact hasc j x' y' (by omega) h1 h2
      · rintro σ H' ⟨⟨v, rfl⟩, s2, hasc⟩
        have er : r = true := hr'.mpr ⟨ns, rfl, m1, m2, by omega, by omega, fun z hz => (hns z hz).1, fun z hz => (hns z hz).2, asc_of fun i x y h1 h2 => by
          have hl := (List.getElem?_eq_some_iff.mp h2).1
          exact hasc i x y (by rw [List.length_map]; omega) h1 h2⟩
        rw [er] at k
        exact k _ (s1.trans s2)
/-! ### the fields of Steps -/
theorem mb_ : ¬ (("most" : Str) = "_bounds") := by decide +kernel
theorem bm_ : ¬ (("_bounds" : Str) = "most") := by decide +kernel
def sf (m : Int) (t : Addr) : List (Str × V) := putF "_bounds" (.ref t) (putF "most" (.int m) [])
theorem sf_most (m : Int) (t : Addr) : (sf m t).lookup ("most" : Str) = some (.int m) := by
  unfold sf
  rw [lookup_putF, if_neg mb_, lookup_putF, if_pos rfl]
theorem sf_bounds (m : Int) (t : Addr) : (sf m t).lookup ("_bounds" : Str) = some (.ref t) := by
  unfold sf
  rw [lookup_putF, if_pos rfl]
theorem sf_no (m : Int) (t : Addr) {x : Str} (h1 : ¬ x = "_bounds") (h2 : ¬ x = "most") : (sf m t).lookup x = none := by
  unfold sf
  rw [lookup_putF, if_neg h1, lookup_putF, if_neg h2]
  all_goals rfl
/-- steps stand at p -/
def StepsAt (C : Addr) (H : Hp) (p : Addr) (m : Int) (ns : List Int) : Prop := ∃ (dx t : Addr), H p = some (.ins C dx (sf m t)) ∧ H t = some (.tup (ns.map V.int))
theorem StepsAt.mono {C : Addr} {H H' : Hp} {p : Addr} {m : Int} {ns : List Int} (h : StepsAt C H p m ns) (s : Same H H') : StepsAt C H' p m ns := by
  obtain ⟨dx, t, h1, h2⟩ := h
  exact ⟨dx, t, s _ _ h1, s _ _ h2⟩
def sp_Steps_init (C : Addr) : Sp := fun vs H Q _ => ∃ (p dx l : Addr) (m : Int) (ns : List Int), vs = [.ref p, .int m, .ref l] ∧ H p = some (.ins C dx []) ∧ H l = some (.lst (ns.map V.int)) ∧ Good ns m ∧
  ∀ H', But p H H' → StepsAt C H' p m ns → Q .non H'
theorem ok_Steps_init (T : Txt K mg a) : FnOk P w K mg base CX0 4 a.a_Steps_init a.fd_Steps_init ["self", "most", "bounds"] (sp_Steps_init a.C_Steps) := by
  refine T.F_Steps_init.ok sc_Steps_init (fun vs H Q E h => ?_) (fun cdv A outer s H vs Q E hr h => ?_)
  · obtain ⟨p, dx, l, m, ns, rfl, _⟩ := h
    rfl
  · obtain ⟨p, dx, l, m, ns, rfl, hp, hl, g, k⟩ := h
    have m1 := g.most
    have m2 := g.top
    refine ⟨_, (pss_cons (ps_if (pt_not (pt_val (pe_call (ok_is_integer T) (hr.mono (by decide)) rfl T.g_is_integer T.F_is_integer.kp T.b_is_integer .nil pass0 (pa_cons (pv 1) (pa_cons pe_int (pa_cons (pe_glob (v := .int 1000) rfl T.c_GREATEST_ROOM ⟨_, rfl⟩) pa_nil))))))
      (pss_one ps_never)
      pss_nil)
      (pss_cons (ps_if (pt_not (pt_val (pe_call (ok_are_bounds T) (hr.mono (by decide)) rfl T.g_are_bounds T.F_are_bounds.kp T.b_are_bounds .nil pass0 (pa_cons (pv 2) (pa_cons (pv 1) pa_nil)))))
      (pss_one ps_never)
      pss_nil)
      (pss_cons (ps_fld (pv 0) (pv 1) rfl)
      (pss_one (ps_fld (pv 0) (pe_callTy call_tuple_of (by rfl) T.n_tuple (by decide +kernel) (pa_cons (pv 2) pa_nil)) rfl))))), ?_⟩
    refine ⟨_, rfl, .int m, 1, 1000, rfl, .int m, _, rfl, ?_⟩
    have e : inW (.int m) 1 1000 = true := inI_T ⟨m1, m2⟩
    rw [e]
    refine iteF ?_
    refine ⟨_, rfl, _, rfl, .ref l, _, m, true, rfl, .lst hl (pl_ints H ns), m1, m2, ⟨fun _ => ⟨ns, rfl, g⟩, fun _ => rfl⟩, fun H1 s1 => ⟨_, rfl, ?_⟩⟩
    refine iteF ?_
    refine ⟨_, rfl, _, rfl, p, a.C_Steps, dx, [], rfl, s1 _ _ hp, T.cl_Steps, T.nf_Steps_most, (by show 0 < 1000; decide), ?_⟩
    have hl1 := s1 _ _ hl
    have hp1 := s1 _ _ hp
    have nlp : l ≠ p := ne_of hl1 hp1 (by intro q; cases q)
    refine ⟨_, rfl, l, _, rfl, .inl ⟨SqL.of (by rw [upd_ne nlp]; exact hl1), fun t ht => ?_⟩⟩
    have ntp : t ≠ p := fun q => by rw [q, upd_same] at ht; cases ht
    have ht1 : H1 t = none := by rw [upd_ne ntp] at ht; exact ht
    refine ⟨_, rfl, p, a.C_Steps, dx, _, rfl, (by rw [upd_ne ntp.symm]; exact upd_same), T.cl_Steps, T.nf_Steps_bounds, (by show 1 < 1000; decide), ?_⟩
    refine k _ (fun b o nb e => ?_) ⟨dx, t, upd_same, ?_⟩
    · rw [upd_ne nb, upd_ne (ne_of_none (s1 _ _ e) ht1), upd_ne nb]
      exact s1 _ _ e
    · rw [upd_ne ntp, upd_same]
def sp_Steps_len (C : Addr) : Sp := fun vs H Q _ => ∃ (p : Addr) (m : Int) (ns : List Int), vs = [.ref p] ∧ StepsAt C H p m ns ∧ Q (.int (ns.length : Nat)) H
theorem ok_Steps_len (T : Txt K mg a) : FnOk P w K mg base CX0 1 a.a_Steps_len a.fd_Steps_len ["self"] (sp_Steps_len a.C_Steps) := by
  refine T.F_Steps_len.ok sc_Steps_len (fun vs H Q E h => ?_) (fun cdv A outer s H vs Q E hr h => ?_)
  · obtain ⟨p, m, ns, rfl, _⟩ := h
    rfl
  · obtain ⟨p, m, ns, rfl, ⟨dx, t, hp, ht⟩, k⟩ := h
    refine ⟨_, (pss_one (ps_ret (pe_callB call_len_seq (by rfl) T.n_len PySem.boot_len (pa_cons (pe_fld (pv 0) rfl) pa_nil)))), ?_⟩
    refine ⟨_, rfl, p, a.C_Steps, dx, _, _, rfl, hp, T.cl_Steps, T.nf_Steps_bounds, sf_bounds _ _, t, _, rfl, .inr (SqT.of ht), ?_⟩
    rw [List.length_map]
    exact k
/-! ### class_of -/
def clsI (ns : List Int) (r : Int) : Int := ((ns.filter fun b => decide (b ≤ r)).length : Nat)
def sp_Steps_class_of (C : Addr) : Sp := fun vs H Q _ => ∃ (p : Addr) (m r : Int) (ns : List Int), vs = [.ref p, .int r] ∧ StepsAt C H p m ns ∧ ns.length ≤ 8 ∧ 0 ≤ r ∧ r ≤ m ∧ ∀ H', Same H H' → Q (.int (clsI ns r)) H'
theorem ok_Steps_class_of (T : Txt K mg a) : FnOk P w K mg base CX0 2 a.a_Steps_class_of a.fd_Steps_class_of ["self", "room"] (sp_Steps_class_of a.C_Steps) := by
  refine T.F_Steps_class_of.ok sc_Steps_class_of (fun vs H Q E h => ?_) (fun cdv A outer s H vs Q E hr h => ?_)
  · obtain ⟨p, m, r, ns, rfl, _⟩ := h
    rfl
  · obtain ⟨p, m, r, ns, rfl, ⟨dx, t, hp, ht⟩, h8, r0, r1, k⟩ := h
    refine ⟨_, (pss_cons (ps_if (pt_not (pt_val (pe_call (ok_is_integer T) (hr.mono (by decide)) rfl T.g_is_integer T.F_is_integer.kp T.b_is_integer .nil pass0 (pa_cons (pv 1) (pa_cons pe_int (pa_cons (pe_fld (pv 0) rfl) pa_nil))))))
      (pss_one ps_never)
      pss_nil)
      (pss_one (ps_ret (pe_callB call_len_seq (by rfl) T.n_len PySem.boot_len (pa_cons (pe_lc (own := [("bound", 2)]) (g := gName 2) (by rfl) sc_Steps_class_of.nd (pi_tup (pe_fld (pv 0) rfl)) (blkOk_by (own := [("bound", 2)]) (N := ["self", "room", "bound"]) (sc := defScope s_Steps_class_of) (by decide +kernel)) (fun _ _ _ _ _ => pg_name (i := 2) sc_Steps_class_of.nd rfl (Or.inl rfl)) (fun _ _ _ _ _ => pts_one (pt_cmpR op_le (pv 2) (pv 1) (nomark _))) (fun _ _ _ _ _ => (pv 2))) pa_nil))))), ?_⟩
    refine ⟨_, rfl, _, rfl, p, a.C_Steps, dx, _, _, rfl, hp, T.cl_Steps, T.nf_Steps_most, sf_most _ _, .int r, 0, m, rfl, .int r, _, rfl, ?_⟩
    have e : inW (.int r) 0 m = true := inI_T ⟨r0, r1⟩
    rw [e]
    refine iteF ?_
    refine ⟨_, rfl, p, a.C_Steps, dx, _, _, rfl, hp, T.cl_Steps, T.nf_Steps_bounds, sf_bounds _ _, t, rfl, ⟨_, SqT.of ht⟩, fun D hD => ?_⟩
    refine lc_tup (K := K) (a := t) (xs := ns.map V.int) (fun i H' => Same H H' ∧ H' D = some (.lst (((ns.take i).filter fun b => decide (b ≤ r)).map V.int)))
      ⟨same_new hD, by rw [upd_same]; rfl⟩ (fun i H' _ h => SqT.of (h.1 _ _ ht)) ?_ ?_
    · rintro i y H' hk ⟨s1, hd⟩
      obtain ⟨z, hz, rfl⟩ := map_at hk
      refine ⟨rfl, _, rfl, _, rfl, _, _, rfl, rfl, _, rfl, ?_⟩
      by_cases c : z ≤ r
      · rw [decide_eq_true c]
        refine iteT ⟨_, rfl, _, hd, ?_, ?_, ?_⟩
        · rw [List.length_map]
          refine Nat.lt_of_le_of_lt (Nat.le_trans (List.length_filter_le _ _) (Nat.le_trans (List.length_take_le _ _) (Nat.le_trans (Nat.le_of_lt_succ (Nat.lt_succ_of_le ?_)) h8))) (by decide)
          have := (List.getElem?_eq_some_iff.mp hz).1
          omega
        · intro b o e
          rw [upd_ne (ne_of_none e hD)]
          exact s1 _ _ e
        · rw [upd_same, ft_T hz (decide_eq_true c), List.map_append]
          rfl
      · rw [decide_eq_false c]
        refine iteF ⟨s1, ?_⟩
        rw [hd, ft_F hz (decide_eq_false c)]
    · rintro H' ⟨s1, hd⟩
      rw [List.length_map, List.take_length] at hd
      refine ⟨D, _, rfl, .inl (SqL.of hd), ?_⟩
      rw [List.length_map]
      exact k _ s1
end
end Rt
set_option maxHeartbeats 4000000
namespace Rt
open PySem L2
theorem flat_rep {α : Type} (k : Nat) (x : α) : (List.replicate k [x]).flatten = List.replicate k x := by
  induction k with
  | zero => rfl
  | succ k ih => rw [List.replicate_succ, List.flatten_cons, ih, List.replicate_succ]; rfl
def PageNum (n : Nat) : Prop := n = 2 ∨ n = 4 ∨ n = 8 ∨ n = 16 ∨ n = 32
theorem PageNum.le {n : Nat} (h : PageNum n) : 2 ≤ n ∧ n ≤ 32 := by rcases h with h | h | h | h | h <;> omega
theorem PageNum.inV {n : Nat} (h : PageNum n) : inV (V.int ((n : Nat) : Int)) (([2, 4, 8, 16, 32] : List Int).map V.int) = true := by
  rcases h with h | h | h | h | h <;> (rw [h]; decide)
/-- true rooms of a tree with n pages -/
structure Rooms (m : Int) (rs : List Int) (n : Nat) : Prop where
  num : PageNum n
  len : rs.length = n
  lo : ∀ z ∈ rs, 0 ≤ z
  hi : ∀ z ∈ rs, z ≤ m
theorem cls_le_len (ns : List Int) (r : Int) : 0 ≤ clsI ns r ∧ clsI ns r ≤ (ns.length : Int) := by
  unfold clsI
  have := List.length_filter_le (fun b => decide (b ≤ r)) ns
  omega
/-- the told classes that are mended to an exact tree -/
def rawT (ns rs : List Int) (n : Nat) : List Int := List.replicate (n - 1) 0 ++ rs.map (clsI ns)
def exactT (ns rs : List Int) (n : Nat) : List Int := mend (rawT ns rs n) n
theorem rawT_told {ns rs : List Int} {m : Int} {n : Nat} (g : Good ns m) (r : Rooms m rs n) : Told (ns.length : Nat) (rawT ns rs n) n := by
  have g1 := g.one
  have g8 := g.eight
  have n2 := r.num.le
  have hl := r.len
  refine ⟨by omega, by omega, fun z hz => ?_, fun z hz => ?_, r.num, ?_⟩
  · unfold rawT at hz
    rcases List.mem_append.mp hz with h | h
    · rw [(List.mem_replicate.mp h).2]; exact Int.le_refl 0
    · obtain ⟨y, _, rfl⟩ := List.mem_map.mp h
      exact (cls_le_len ns y).1
  · unfold rawT at hz
    rcases List.mem_append.mp hz with h | h
    · rw [(List.mem_replicate.mp h).2]; omega
    · obtain ⟨y, _, rfl⟩ := List.mem_map.mp h
      exact (cls_le_len ns y).2
  · unfold rawT
    rw [List.length_append, List.length_replicate, List.length_map]
    omega
theorem allW_rooms {rs : List Int} {m : Int} {n : Nat} (r : Rooms m rs n) : allW (some (rs.map V.int)) 0 m = true := by
  show (rs.map V.int).all (fun v => inW v 0 m) = true
  rw [List.all_eq_true]
  intro x hx
  obtain ⟨z, hz, rfl⟩ := List.mem_map.mp hx
  exact inI_T ⟨r.lo z hz, r.hi z hz⟩
section
variable {P : Program} {w : World} {K : PySem.W.Frag} {mg : Str → Option Value} {base : Heap} {a : Ad}
def sp_is_page_count : Sp := fun vs H Q _ => ∃ (n : Nat), vs = [.int ((n : Nat) : Int)] ∧ PageNum n ∧ Q (.bl true) H
theorem ok_is_page_count (T : Txt K mg a) : FnOk P w K mg base CX0 2 a.a_is_page_count a.fd_is_page_count ["value"] sp_is_page_count := by
  refine T.F_is_page_count.ok sc_is_page_count (fun vs H Q E h => ?_) (fun cdv A outer s H vs Q E hr h => ?_)
  · obtain ⟨n, rfl, _⟩ := h
    rfl
  · obtain ⟨n, rfl, hn, k⟩ := h
    have n2 := hn.le
    refine ⟨_, (pss_one (ps_ret (pe_and (pe_call (ok_is_integer T) (hr.mono (by decide)) rfl T.g_is_integer T.F_is_integer.kp T.b_is_integer .nil pass0 (pa_cons (pv 0) (pa_cons (pe_ix ix_tup (pe_glob (v := .ref a.t_PAGES) rfl T.g_PAGES rfl) pe_int (fun _ _ => rfl)) (pa_cons (pe_ix ix_tup (pe_glob (v := .ref a.t_PAGES) rfl T.g_PAGES rfl) (pe_un un_neg pe_int) (fun _ _ => rfl)) pa_nil)))) (pe_one (pe_cmpR op_in_seq (pv 0) (pe_glob (v := .ref a.t_PAGES) rfl T.g_PAGES rfl) (by rfl)))))), ?_⟩
    refine ⟨_, rfl, a.t_PAGES, _, 0, .int 2, rfl, rfl, T.q_PAGES _, rfl, 1, rfl, a.t_PAGES, _, -1, .int 32, rfl, rfl, T.q_PAGES _, rfl, .int ((n : Nat) : Int), 2, 32, rfl, .int _, ?_⟩
    have e : inW (.int ((n : Nat) : Int)) 2 32 = true := inI_T ⟨by omega, by omega⟩
    rw [e]
    refine ⟨_, rfl, iteT ?_⟩
    refine ⟨_, rfl, a.t_PAGES, _, rfl, .inr (T.q_PAGES _), rfl, (by decide), ?_⟩
    rw [hn.inV]
    exact k
def sp_are_rooms : Sp := fun vs H Q _ => ∃ (l : Addr) (m : Int) (rs : List Int) (n : Nat) (tp : Bool), vs = [.ref l, .int m] ∧ H l = some (if tp = true then .tup (rs.map V.int) else .lst (rs.map V.int)) ∧ Rooms m rs n ∧ ∀ H', Same H H' → Q (.bl true) H'
theorem cont_of {H : Hp} {l : Addr} {ns : List Int} {tp : Bool} (h : H l = some (if tp = true then .tup (ns.map V.int) else .lst (ns.map V.int))) : Cont H (.ref l) (some (ns.map V.int)) := by
  cases tp with
  | false => exact .lst h (pl_ints H ns)
  | true => exact .tup h (pl_ints H ns)
theorem seq_or {H : Hp} {l : Addr} {xs : List V} {tp : Bool} (h : H l = some (if tp = true then .tup xs else .lst xs)) : SqL K H l xs ∨ SqT K H l xs := by
  cases tp with
  | false => exact .inl (SqL.of h)
  | true => exact .inr (SqT.of h)
theorem ok_are_rooms (T : Txt K mg a) : FnOk P w K mg base CX0 3 a.a_are_rooms a.fd_are_rooms ["value", "most"] sp_are_rooms := by
  refine T.F_are_rooms.ok sc_are_rooms (fun vs H Q E h => ?_) (fun cdv A outer s H vs Q E hr h => ?_)
  · obtain ⟨l, m, rs, n, tp, rfl, _⟩ := h
    rfl
  · obtain ⟨l, m, rs, n, tp, rfl, hl, g, k⟩ := h
    refine ⟨_, (pss_one (ps_ret (pe_and (pe_call (ok_are_integers T) (hr.mono (by decide)) rfl T.g_are_integers T.F_are_integers.kp T.b_are_integers .nil pass0 (pa_cons (pv 0) (pa_cons pe_int (pa_cons (pv 1) pa_nil)))) (pe_one (pe_cmpR op_in_seq (pe_callB call_len_seq (by rfl) T.n_len PySem.boot_len (pa_cons (pv 0) pa_nil)) (pe_glob (v := .ref a.t_PAGES) rfl T.g_PAGES rfl) (by rfl)))))), ?_⟩
    refine ⟨_, rfl, _, rfl, .ref l, some (rs.map V.int), 0, m, rfl, cont_of hl, fun H1 s1 => ⟨_, rfl, ?_⟩⟩
    rw [allW_rooms g]
    refine iteT ?_
    refine ⟨_, rfl, l, _, rfl, seq_or (s1 _ _ hl), a.t_PAGES, _, rfl, .inr (T.q_PAGES _), rfl, (by decide), ?_⟩
    have e : inV (V.int ((rs.map V.int).length : Nat)) (([2, 4, 8, 16, 32] : List Int).map V.int) = true := by
      rw [List.length_map, g.len]
      exact g.num.inV
    rw [e]
    exact k _ s1
theorem rep_told {c t : Int} {n : Nat} (c1 : 1 ≤ c) (c8 : c ≤ 8) (t0 : 0 ≤ t) (tc : t ≤ c) (hn : PageNum n) : Told c (List.replicate (2 * n - 1) t) n := by
  have := hn.le
  refine ⟨c1, c8, fun z hz => ?_, fun z hz => ?_, hn, by rw [List.length_replicate]; omega⟩
  · rw [(List.mem_replicate.mp hz).2]; exact t0
  · rw [(List.mem_replicate.mp hz).2]; exact tc
def sp_Tree_flat (C : Addr) : Sp := fun vs H Q _ => ∃ (c t : Int) (n : Nat), vs = [.int c, .int ((n : Nat) : Int), .int t] ∧ 1 ≤ c ∧ c ≤ 8 ∧ 0 ≤ t ∧ t ≤ c ∧ PageNum n ∧
  ∀ H' q, Same H H' → H q = none → TreeAt C H' q c (List.replicate (2 * n - 1) t) → Q (.ref q) H'
theorem ok_Tree_flat (T : Txt K mg a) : FnOk P w K mg base CX0 6 a.a_Tree_flat a.fd_Tree_flat ["classes", "pages", "told"] (sp_Tree_flat a.C_Tree) := by
  refine T.F_Tree_flat.ok sc_Tree_flat (fun vs H Q E h => ?_) (fun cdv A outer s H vs Q E hr h => ?_)
  · obtain ⟨c, t, n, rfl, _⟩ := h
    rfl
  · obtain ⟨c, t, n, rfl, c1, c8, t0, tc, hn, k⟩ := h
    have n2 := hn.le
    refine ⟨_, (pss_cons (ps_if (pt_not (pt_val (pe_call (ok_is_integer T) (hr.mono (by decide)) rfl T.g_is_integer T.F_is_integer.kp T.b_is_integer .nil pass0 (pa_cons (pv 0) (pa_cons pe_int (pa_cons (pe_glob (v := .int 8) rfl T.c_MOST_CLASSES ⟨_, rfl⟩) pa_nil))))))
      (pss_one ps_never)
      pss_nil)
      (pss_cons (ps_if (pt_not (pt_val (pe_call (ok_is_page_count T) (hr.mono (by decide)) rfl T.g_is_page_count T.F_is_page_count.kp T.b_is_page_count .nil pass0 (pa_cons (pv 1) pa_nil))))
      (pss_one ps_never)
      pss_nil)
      (pss_cons (ps_if (pt_not (pt_val (pe_call (ok_is_integer T) (hr.mono (by decide)) rfl T.g_is_integer T.F_is_integer.kp T.b_is_integer .nil pass0 (pa_cons (pv 2) (pa_cons pe_int (pa_cons (pv 0) pa_nil))))))
      (pss_one ps_never)
      pss_nil)
      (pss_one (ps_ret (pe_make T.mk_Tree (ok_Tree_init T) (hr.mono (by decide)) rfl T.g_Tree T.b_Tree_init .nil pass0 (pa_cons (pv 0) (pa_cons (pe_op op_rep (pe_lst (pa_cons (pv 2) pa_nil)) (pe_op op_sub (pe_op op_mul pe_int (pv 1)) pe_int)) pa_nil)))))))), ?_⟩
    refine ⟨_, rfl, .int c, 1, 8, rfl, .int c, _, rfl, ?_⟩
    have e : inW (.int c) 1 8 = true := inI_T ⟨c1, c8⟩
    rw [e]
    refine iteF ?_
    refine ⟨_, rfl, n, rfl, hn, _, rfl, iteF ?_⟩
    refine ⟨_, rfl, _, rfl, .int t, 0, c, rfl, .int t, _, rfl, ?_⟩
    have e2 : inW (.int t) 0 c = true := inI_T ⟨t0, tc⟩
    rw [e2]
    refine iteF ?_
    refine ⟨_, rfl, _, rfl, (by show 1 ≤ sizeLine; decide), fun l hl => ?_⟩
    refine ⟨_, rfl, _, _, rfl, rfl, .inl ⟨by decide, by decide⟩, _, _, rfl, rfl, l, _, _, rfl, rfl, upd_same, by omega, by omega, ?_, fun v hv => ?_⟩
    · exact Nat.le_trans (show 1 * (2 * (n : Int) - 1).toNat ≤ 100 by omega) (by decide)
    have s0 := same_new (o := .lst [.int t]) hl
    have s1 := same_new (o := .lst (List.replicate (2 * (n : Int) - 1).toNat [V.int t]).flatten) hv
    have hv1 : upd (upd H l (.lst [.int t])) v (.lst (List.replicate (2 * (n : Int) - 1).toNat [V.int t]).flatten) v = some (.lst ((List.replicate (2 * n - 1) t).map V.int)) := by
      rw [upd_same, flat_rep, List.map_replicate, show (2 * (n : Int) - 1).toNat = 2 * n - 1 by omega]
    have s01 := s0.trans s1
    generalize upd (upd H l (.lst [.int t])) v (.lst (List.replicate (2 * (n : Int) - 1).toNat [V.int t]).flatten) = H1 at s01 hv1
    intro x dx nx ndx nex
    have s2 : Same H1 (upd (upd H1 dx (.own x)) x (.ins a.C_Tree dx [])) := fun b o e => by
      rw [upd_ne (ne_of_none e nx), upd_ne (ne_of_none e ndx)]; exact e
    refine ⟨x, dx, v, c, List.replicate (2 * n - 1) t, n, rfl, upd_same, s2 _ _ hv1, rep_told c1 c8 t0 tc hn, fun H4 b4 t4 => ⟨rfl, ?_⟩⟩
    have nx0 : H x = none := Same.free s01 nx
    exact k _ x (fun b o e => b4 b o (ne_of_none e nx0) (s2 _ _ (s01 _ _ e))) nx0 t4
def sp_Tree_exact (CS CT : Addr) : Sp := fun vs H Q _ => ∃ (s l : Addr) (m : Int) (ns rs : List Int) (n : Nat) (tp : Bool), vs = [.ref s, .ref l] ∧ StepsAt CS H s m ns ∧ Good ns m ∧ H l = some (if tp = true then .tup (rs.map V.int) else .lst (rs.map V.int)) ∧ Rooms m rs n ∧
  ∀ H' q, Same H H' → H q = none → TreeAt CT H' q (ns.length : Nat) (exactT ns rs n) → Q (.ref q) H'
theorem ok_Tree_exact (T : Txt K mg a) : FnOk P w K mg base CX0 7 a.a_Tree_exact a.fd_Tree_exact ["steps", "rooms"] (sp_Tree_exact a.C_Steps a.C_Tree) := by
  refine T.F_Tree_exact.ok sc_Tree_exact (fun vs H Q E h => ?_) (fun cdv A outer s H vs Q E hr h => ?_)
  · obtain ⟨s, l, m, ns, rs, n, tp, rfl, _⟩ := h
    rfl
  · obtain ⟨p, l, m, ns, rs, n, tp, rfl, st, g, hl, rm, k⟩ := h
    obtain ⟨dx, t, hp, ht⟩ := id st
    have n2 := rm.num.le
    have rlen := rm.len
    have g8 := g.eight
    have g1 := g.one
    refine ⟨_, (pss_cons (ps_if (pt_not (pt_val (pe_callB call_isi (by rfl) T.n_isinstance (by decide +kernel) (pa_cons (pv 0) (pa_cons (pe_glob (v := .ref a.C_Steps) rfl T.g_Steps rfl) pa_nil)))))
      (pss_one ps_never)
      pss_nil)
      (pss_cons (ps_if (pt_not (pt_val (pe_call (ok_are_rooms T) (hr.mono (by decide)) rfl T.g_are_rooms T.F_are_rooms.kp T.b_are_rooms .nil pass0 (pa_cons (pv 1) (pa_cons (pe_fld (pv 0) rfl) pa_nil)))))
      (pss_one ps_never)
      pss_nil)
      (pss_cons (ps_setLc (i := 2) (own := [("room", 4)]) (g := gName 4) (tt := tYes) (by rfl) sc_Tree_exact.nd rfl rfl (sw_true rfl rfl rfl (by decide +kernel)) (pi_seq (pv 1)) (blkOk_by (own := [("room", 4)]) (N := ["steps", "rooms", "leaves", "inner", "room"]) (sc := defScope s_Tree_exact) (by decide +kernel)) (fun _ _ _ _ _ => pg_name (i := 4) sc_Tree_exact.nd rfl (Or.inl rfl)) (fun _ _ _ _ _ => pts_nil) (fun _ _ _ _ _ => (pe_meth (pv 0) T.cl_Steps T.m_Steps_class_of (ok_Steps_class_of T) (hr.mono (by decide)) T.b_Steps_class_of .nil pass0 (pa_cons (pv 4) pa_nil))))
      (pss_cons (ps_set (i := 3) sc_Tree_exact.nd rfl (Or.inl rfl) (pe_op op_rep (pe_lst (pa_cons pe_int pa_nil)) (pe_op op_sub (pe_callB call_len_seq (by rfl) T.n_len PySem.boot_len (pa_cons (pv 2) pa_nil)) pe_int)))
      (pss_one (ps_ret (pe_meth0 (pe_make T.mk_Tree (ok_Tree_init T) (hr.mono (by decide)) rfl T.g_Tree T.b_Tree_init .nil pass0 (pa_cons (pe_callB (call_lenOwn (ok_Steps_len T) (hr.mono (by decide)) T.m_Steps_len.at_ T.m_Steps_len.fn T.b_Steps_len pass0) (by rfl) T.n_len PySem.boot_len (pa_cons (pv 0) pa_nil)) (pa_cons (pe_op op_cat (pv 3) (pv 2)) pa_nil))) T.cl_Tree T.m_Tree_mended (ok_Tree_mended T) (hr.mono (by decide)) T.b_Tree_mended .nil pass0))))))), ?_⟩
    refine ⟨_, rfl, _, _, _, _, true, rfl, .own _, .base (.ins hp T.cl_Steps T.ha_Steps T.hn_Steps T.ht_Steps T.hm_Steps), kit_self, _, rfl, ?_⟩
    refine iteF ?_
    refine ⟨_, rfl, _, rfl, p, a.C_Steps, dx, _, _, rfl, hp, T.cl_Steps, T.nf_Steps_most, sf_most _ _, l, m, rs, n, tp, rfl, hl, rm, fun H1 s1 => ⟨_, rfl, iteF ?_⟩⟩
    have st1 := st.mono s1
    have hl1 := s1 _ _ hl
    cases tp
    case false =>
      refine ⟨_, rfl, l, rfl, .inl ⟨⟨_, SqL.of hl1⟩, fun D hD => ?_⟩⟩
      have hD0 : H D = none := Same.free s1 hD
      refine lc_list (K := K) (a := l) (xs := rs.map V.int) (fun i H' => But D H1 H' ∧ H' D = some (.lst (((rs.take i).map (clsI ns)).map V.int)))
        ⟨but_new, by rw [upd_same]; rfl⟩ (fun i H' _ h => SqL.of (but_same h.1 hD _ _ hl1)) ?_ ?_
      · rintro i y H' hk ⟨bD, hd⟩
        obtain ⟨r, hr0, rfl⟩ := map_at hk
        have hrm := List.mem_of_getElem? hr0
        have st2 := st1.mono (but_same bD hD)
        obtain ⟨dx2, t2, hp2, _⟩ := id st2
        refine ⟨rfl, _, rfl, p, dx2, _, rfl, hp2, sf_no _ _ (by decide +kernel) (by decide +kernel), _, rfl, p, m, r, ns, rfl, st2, g8, rm.lo r hrm, rm.hi r hrm, fun H3 s3 => ?_⟩
        refine ⟨_, s3 _ _ hd, ?_, but_put (but_then bD s3), ?_⟩
        · rw [List.length_map, List.length_map, List.length_take]
          exact Nat.lt_of_le_of_lt (show min i rs.length ≤ 100 by omega) (by decide)
        · rw [upd_same, List.take_add_one, hr0, List.map_append, List.map_append]; rfl
      rintro H2 ⟨bD, hd⟩
      rw [List.length_map, List.take_length] at hd
      have s2 : Same H H2 := s1.trans (but_same bD hD)
      have st2 := st.mono s2
      refine ⟨(by show 1 ≤ sizeLine; decide), fun z hz => ?_⟩
      have s3 := same_new (o := .lst [.int 0]) hz
      refine ⟨_, rfl, D, _, rfl, .inl (SqL.of (s3 _ _ hd)), _, _, rfl, rfl, z, _, _, rfl, rfl, upd_same, by omega, ?_, ?_, fun v hv => ?_⟩
      · rw [List.length_map, List.length_map]; omega
      · rw [List.length_map, List.length_map]
        exact Nat.le_trans (show 1 * ((rs.length : Int) - 1).toNat ≤ 100 by omega) (by decide)
      have hd3 := s3 _ _ hd
      generalize (upd H2 z (.lst [.int 0])) = H3 at s3 hv hd3
      have s4 := same_new (o := .lst (List.replicate ((((rs.map (clsI ns)).map V.int).length : Int) - 1).toNat [V.int 0]).flatten) hv
      have hv4 : upd H3 v (.lst (List.replicate ((((rs.map (clsI ns)).map V.int).length : Int) - 1).toNat [V.int 0]).flatten) v = some (.lst ((List.replicate (n - 1) (0 : Int)).map V.int)) := by
        rw [upd_same, flat_rep, List.map_replicate, List.length_map, List.length_map, show ((rs.length : Int) - 1).toNat = n - 1 by omega]
      have hd4 := s4 _ _ hd3
      generalize (upd H3 v (.lst (List.replicate ((((rs.map (clsI ns)).map V.int).length : Int) - 1).toNat [V.int 0]).flatten)) = H4 at s4 hv4 hd4
      have st4 := st2.mono (s3.trans s4)
      obtain ⟨dx4, t4, hp4, _⟩ := id st4
      refine ⟨_, rfl, p, dx4, _, rfl, hp4, p, m, ns, rfl, st4, _, rfl, by omega, by omega, ?_⟩
      refine ⟨_, rfl, _, rfl, v, D, _, _, rfl, rfl, hv4, hd4, ?_, fun u hu => ?_⟩
      · rw [List.length_map, List.length_map, List.length_map, List.length_replicate]
        exact Nat.le_trans (show n - 1 + rs.length ≤ 100 by omega) (by decide)
      have s5 := same_new (o := .lst ((List.replicate (n - 1) (0 : Int)).map V.int ++ (rs.map (clsI ns)).map V.int)) hu
      have hu5 : upd H4 u (.lst ((List.replicate (n - 1) (0 : Int)).map V.int ++ (rs.map (clsI ns)).map V.int)) u = some (.lst ((rawT ns rs n).map V.int)) := by
        rw [upd_same]; unfold rawT; rw [List.map_append]
      generalize (upd H4 u (.lst ((List.replicate (n - 1) (0 : Int)).map V.int ++ (rs.map (clsI ns)).map V.int))) = H5 at s5 hu5
      have s05 : Same H H5 := s2.trans (s3.trans (s4.trans s5))
      intro x dx6 nx ndx nex
      have s6 : Same H5 (upd (upd H5 dx6 (.own x)) x (.ins a.C_Tree dx6 [])) := fun b o e => by
        rw [upd_ne (ne_of_none e nx), upd_ne (ne_of_none e ndx)]; exact e
      have gt := rawT_told g rm
      refine ⟨x, dx6, u, _, rawT ns rs n, n, rfl, upd_same, s6 _ _ hu5, gt, fun H7 b7 t7 => ⟨rfl, ?_⟩⟩
      have s57 : Same H5 H7 := fun b o e => b7 b o (ne_of_none e nx) (s6 _ _ e)
      obtain ⟨dx7, tt7, hx7, _⟩ := id t7
      refine ⟨x, dx7, _, rfl, hx7, tf_no _ _ (by decide +kernel) (by decide +kernel), x, _, rawT ns rs n, n, rfl, t7, gt, fun H8 q s8 hq tq => ?_⟩
      exact k _ q ((s05.trans s57).trans s8) (Same.free (s05.trans s57) hq) tq
    case true =>
      refine ⟨_, rfl, l, rfl, .inr ⟨⟨_, SqT.of hl1⟩, fun D hD => ?_⟩⟩
      have hD0 : H D = none := Same.free s1 hD
      refine lc_tup (K := K) (a := l) (xs := rs.map V.int) (fun i H' => But D H1 H' ∧ H' D = some (.lst (((rs.take i).map (clsI ns)).map V.int)))
        ⟨but_new, by rw [upd_same]; rfl⟩ (fun i H' _ h => SqT.of (but_same h.1 hD _ _ hl1)) ?_ ?_
      · rintro i y H' hk ⟨bD, hd⟩
        obtain ⟨r, hr0, rfl⟩ := map_at hk
        have hrm := List.mem_of_getElem? hr0
        have st2 := st1.mono (but_same bD hD)
        obtain ⟨dx2, t2, hp2, _⟩ := id st2
        refine ⟨rfl, _, rfl, p, dx2, _, rfl, hp2, sf_no _ _ (by decide +kernel) (by decide +kernel), _, rfl, p, m, r, ns, rfl, st2, g8, rm.lo r hrm, rm.hi r hrm, fun H3 s3 => ?_⟩
        refine ⟨_, s3 _ _ hd, ?_, but_put (but_then bD s3), ?_⟩
        · rw [List.length_map, List.length_map, List.length_take]
          exact Nat.lt_of_le_of_lt (show min i rs.length ≤ 100 by omega) (by decide)
        · rw [upd_same, List.take_add_one, hr0, List.map_append, List.map_append]; rfl
      rintro H2 ⟨bD, hd⟩
      rw [List.length_map, List.take_length] at hd
      have s2 : Same H H2 := s1.trans (but_same bD hD)
      have st2 := st.mono s2
      refine ⟨(by show 1 ≤ sizeLine; decide), fun z hz => ?_⟩
      have s3 := same_new (o := .lst [.int 0]) hz
      refine ⟨_, rfl, D, _, rfl, .inl (SqL.of (s3 _ _ hd)), _, _, rfl, rfl, z, _, _, rfl, rfl, upd_same, by omega, ?_, ?_, fun v hv => ?_⟩
      · rw [List.length_map, List.length_map]; omega
      · rw [List.length_map, List.length_map]
        exact Nat.le_trans (show 1 * ((rs.length : Int) - 1).toNat ≤ 100 by omega) (by decide)
      have hd3 := s3 _ _ hd
      generalize (upd H2 z (.lst [.int 0])) = H3 at s3 hv hd3
      have s4 := same_new (o := .lst (List.replicate ((((rs.map (clsI ns)).map V.int).length : Int) - 1).toNat [V.int 0]).flatten) hv
      have hv4 : upd H3 v (.lst (List.replicate ((((rs.map (clsI ns)).map V.int).length : Int) - 1).toNat [V.int 0]).flatten) v = some (.lst ((List.replicate (n - 1) (0 : Int)).map V.int)) := by
        rw [upd_same, flat_rep, List.map_replicate, List.length_map, List.length_map, show ((rs.length : Int) - 1).toNat = n - 1 by omega]
      have hd4 := s4 _ _ hd3
      generalize (upd H3 v (.lst (List.replicate ((((rs.map (clsI ns)).map V.int).length : Int) - 1).toNat [V.int 0]).flatten)) = H4 at s4 hv4 hd4
      have st4 := st2.mono (s3.trans s4)
      obtain ⟨dx4, t4, hp4, _⟩ := id st4
      refine ⟨_, rfl, p, dx4, _, rfl, hp4, p, m, ns, rfl, st4, _, rfl, by omega, by omega, ?_⟩
      refine ⟨_, rfl, _, rfl, v, D, _, _, rfl, rfl, hv4, hd4, ?_, fun u hu => ?_⟩
      · rw [List.length_map, List.length_map, List.length_map, List.length_replicate]
        exact Nat.le_trans (show n - 1 + rs.length ≤ 100 by omega) (by decide)
      have s5 := same_new (o := .lst ((List.replicate (n - 1) (0 : Int)).map V.int ++ (rs.map (clsI ns)).map V.int)) hu
      have hu5 : upd H4 u (.lst ((List.replicate (n - 1) (0 : Int)).map V.int ++ (rs.map (clsI ns)).map V.int)) u = some (.lst ((rawT ns rs n).map V.int)) := by
        rw [upd_same]; unfold rawT; rw [List.map_append]
      generalize (upd H4 u (.lst ((List.replicate (n - 1) (0 : Int)).map V.int ++ (rs.map (clsI ns)).map V.int))) = H5 at s5 hu5
      have s05 : Same H H5 := s2.trans (s3.trans (s4.trans s5))
      intro x dx6 nx ndx nex
      have s6 : Same H5 (upd (upd H5 dx6 (.own x)) x (.ins a.C_Tree dx6 [])) := fun b o e => by
        rw [upd_ne (ne_of_none e nx), upd_ne (ne_of_none e ndx)]; exact e
      have gt := rawT_told g rm
      refine ⟨x, dx6, u, _, rawT ns rs n, n, rfl, upd_same, s6 _ _ hu5, gt, fun H7 b7 t7 => ⟨rfl, ?_⟩⟩
      have s57 : Same H5 H7 := fun b o e => b7 b o (ne_of_none e nx) (s6 _ _ e)
      obtain ⟨dx7, tt7, hx7, _⟩ := id t7
      refine ⟨x, dx7, _, rfl, hx7, tf_no _ _ (by decide +kernel) (by decide +kernel), x, _, rawT ns rs n, n, rfl, t7, gt, fun H8 q s8 hq tq => ?_⟩
      exact k _ q ((s05.trans s57).trans s8) (Same.free (s05.trans s57) hq) tq
end
end Rt
set_option maxHeartbeats 4000000
namespace Rt
open PySem L2
theorem eqv_ints (ns ms : List Int) : PyData.eqv (.list (ns.map PyData.int)) (.list (ms.map PyData.int)) = decide (ns = ms) := by
  simp only [PyData.eqv, eqvAll_ints]
theorem rne_ints {K : PySem.W.Frag} {H : Hp} {p q : Addr} {ns ms : List Int} {Q : VK} (h1 : SqL K H p (ns.map V.int)) (h2 : SqL K H q (ms.map V.int)) (h : Q (.bl (!decide (ns = ms))) H) : rNeD K (.ref p) (.ref q) H Q := by
  refine ⟨_, _, .lst h1 (dp_ints ns), .lst h2 (dp_ints ms), PySem.W.ke_shaped_ints ns, PySem.W.ke_shaped_ints ms, ?_⟩
  rw [eqv_ints]
  exact h
theorem req_ints {K : PySem.W.Frag} {H : Hp} {p q : Addr} {ns ms : List Int} {Q : VK} (h1 : SqL K H p (ns.map V.int)) (h2 : SqL K H q (ms.map V.int)) (h : Q (.bl (decide (ns = ms))) H) : rEqD K (.ref p) (.ref q) H Q := by
  refine ⟨_, _, .lst h1 (dp_ints ns), .lst h2 (dp_ints ms), PySem.W.ke_shaped_ints ns, PySem.W.ke_shaped_ints ms, ?_⟩
  rw [eqv_ints]
  exact h
def toI (ks : List Nat) : List Int := ks.map fun k => ((k : Nat) : Int)
theorem iN_toI (ks : List Nat) : iN ks = (toI ks).map V.int := by unfold iN toI; rw [List.map_map]; rfl
theorem toI_nil (ks : List Nat) : toI ks = [] ↔ ks = [] := by unfold toI; exact List.map_eq_nil_iff
theorem iN_at {ks : List Nat} {i : Nat} {y : V} (hk : (iN ks)[i]? = some y) : ∃ f, ks[i]? = some f ∧ y = V.int ((f : Nat) : Int) := by
  unfold iN at hk
  rw [List.getElem?_map] at hk
  cases e : ks[i]? with
  | none => rw [e] at hk; cases hk
  | some z => rw [e] at hk; exact ⟨z, rfl, (Option.some.inj hk).symm⟩
/-! ### the mathematics of mending -/
theorem val_mstep {ts : List Int} {k j : Nat} (k1 : 1 ≤ k) (k2 : k ≤ ts.length) (j1 : 1 ≤ j) : val (mstep ts k) j = if j = k then mx (val ts (2 * k)) (val ts (2 * k + 1)) else val ts j := by
  unfold mstep
  show (ts.set (k - 1) _).getD (j - 1) 0 = _
  rw [List.getD_eq_getElem?_getD, List.getElem?_set]
  by_cases h : j = k
  · subst h
    rw [if_pos rfl, if_pos rfl, if_pos (by omega)]
    rfl
  · rw [if_neg h, if_neg (by omega)]
    unfold val
    rw [List.getD_eq_getElem?_getD]
theorem mendI_facts {ts : List Int} {n : Nat} (hl : ts.length + 1 = 2 * n) : ∀ i, i ≤ n - 1 →
    (∀ k, n ≤ k → val (mendI ts n i) k = val ts k) ∧ (∀ k, 1 ≤ k → n - i ≤ k → k < n → val (mendI ts n i) k = mx (val (mendI ts n i) (2 * k)) (val (mendI ts n i) (2 * k + 1)))
  | 0, _ => ⟨fun _ _ => rfl, fun k _ h1 h2 => by omega⟩
  | i + 1, hi => by
    obtain ⟨a1, a2⟩ := mendI_facts hl i (by omega)
    have hlen := mendI_len ts n i
    have vm : ∀ j, 1 ≤ j → val (mendI ts n (i + 1)) j = if j = n - 1 - i then mx (val (mendI ts n i) (2 * (n - 1 - i))) (val (mendI ts n i) (2 * (n - 1 - i) + 1)) else val (mendI ts n i) j :=
      fun j j1 => val_mstep (ts := mendI ts n i) (k := n - 1 - i) (by omega) (by omega) j1
    refine ⟨fun k hk => ?_, fun k k1 h1 h2 => ?_⟩
    · rw [vm k (by omega), if_neg (by omega)]
      exact a1 k hk
    · rw [vm (2 * k) (by omega), vm (2 * k + 1) (by omega), if_neg (show ¬ 2 * k = n - 1 - i by omega), if_neg (show ¬ 2 * k + 1 = n - 1 - i by omega), vm k k1]
      by_cases h : k = n - 1 - i
      · rw [if_pos h, h]
      · rw [if_neg h]
        exact a2 k k1 (by omega) h2
theorem mend_leaf {ts : List Int} {n : Nat} (hl : ts.length + 1 = 2 * n) {k : Nat} (h : n ≤ k) : val (mend ts n) k = val ts k := (mendI_facts hl (n - 1) (Nat.le_refl _)).1 k h
theorem mend_inner {ts : List Int} {n : Nat} (hl : ts.length + 1 = 2 * n) {k : Nat} (h1 : 1 ≤ k) (h2 : k < n) : val (mend ts n) k = mx (val (mend ts n) (2 * k)) (val (mend ts n) (2 * k + 1)) :=
  (mendI_facts hl (n - 1) (Nat.le_refl _)).2 k h1 (by omega) h2
theorem mend_len (ts : List Int) (n : Nat) : (mend ts n).length = ts.length := mendI_len ts n _
theorem mend_upright {ts : List Int} {n : Nat} (hl : ts.length + 1 = 2 * n) : uprB (mend ts n) = true := by
  unfold uprB
  rw [List.all_eq_true]
  intro i hi
  have hi2 := List.mem_range.mp hi
  rw [mend_len] at hi2
  refine decide_eq_true ?_
  rw [mend_inner hl (k := (i + 2) / 2) (by omega) (by omega)]
  have := mx_le (val (mend ts n) (2 * ((i + 2) / 2))) (val (mend ts n) (2 * ((i + 2) / 2) + 1))
  rcases (show i + 2 = 2 * ((i + 2) / 2) ∨ i + 2 = 2 * ((i + 2) / 2) + 1 by omega) with e | e
  · rw [← e] at this ⊢; exact this.1
  · rw [← e] at this ⊢; exact this.2
theorem upright_le {ts : List Int} (h : uprB ts = true) : ∀ f, 1 ≤ f → f ≤ ts.length → ∀ k ∈ anc f, val ts f ≤ val ts k := fun f => by
  induction f using Nat.strongRecOn with
  | ind f ih =>
    intro f1 f2 k hk
    by_cases c : f ≤ 1
    · rw [anc_1 c] at hk
      rw [List.mem_singleton.mp hk]
      exact Int.le_refl _
    · rw [anc_2 c] at hk
      rcases List.mem_cons.mp hk with rfl | hk
      · exact Int.le_refl _
      · have h1 := ih (f / 2) (by omega) (by omega) (by omega) k hk
        unfold uprB at h
        rw [List.all_eq_true] at h
        have h2 := of_decide_eq_true (h (f - 2) (List.mem_range.mpr (by omega)))
        rw [show f - 2 + 2 = f by omega] at h2
        omega
theorem upright_none {ts : List Int} {n : Nat} (hl : ts.length + 1 = 2 * n) (h : uprB ts = true) : missL ts n = [] := by
  unfold missL
  rw [List.filter_eq_nil_iff]
  intro p hp
  have hp2 := List.mem_range.mp hp
  have : missB ts (p + n) = false := by
    unfold missB
    rw [List.any_eq_false]
    intro k hk z
    have h1 := upright_le h (p + n) (by omega) (by omega) k hk
    have h2 := of_decide_eq_true z
    omega
  rw [this]
  exact Bool.false_ne_true
theorem mstep_same {ts : List Int} {k : Nat} (k1 : 1 ≤ k) (k2 : k ≤ ts.length) (h : val ts k = mx (val ts (2 * k)) (val ts (2 * k + 1))) : mstep ts k = ts := by
  unfold mstep
  rw [← h]
  refine List.ext_getElem? fun i => ?_
  rw [List.getElem?_set]
  by_cases e : k - 1 = i
  · subst e
    rw [if_pos rfl, if_pos (by omega)]
    exact (val_at k1 k2).symm
  · rw [if_neg e]
theorem mend_again {ts : List Int} {n : Nat} (hl : ts.length + 1 = 2 * n) : mend (mend ts n) n = mend ts n := by
  have hm := mend_len ts n
  have : ∀ i, i ≤ n - 1 → mendI (mend ts n) n i = mend ts n := fun i => by
    induction i with
    | zero => intro _; rfl
    | succ i ih =>
      intro hi
      show mstep (mendI (mend ts n) n i) (n - 1 - i) = _
      rw [ih (by omega)]
      exact mstep_same (by omega) (by omega) (mend_inner hl (by omega) (by omega))
  exact this (n - 1) (Nat.le_refl _)
theorem mend_drop {ts : List Int} {n : Nat} (hl : ts.length + 1 = 2 * n) : (mend ts n).drop (n - 1) = ts.drop (n - 1) := by
  have hm := mend_len ts n
  refine List.ext_getElem? fun i => ?_
  rw [List.getElem?_drop, List.getElem?_drop]
  by_cases h : n - 1 + i < ts.length
  · have h1 := val_at (ts := mend ts n) (k := n - 1 + i + 1) (by omega) (by omega)
    have h2 := val_at (ts := ts) (k := n - 1 + i + 1) (by omega) (by omega)
    rw [show n - 1 + i + 1 - 1 = n - 1 + i by omega] at h1 h2
    rw [h1, h2, mend_leaf hl (by omega)]
  · rw [List.getElem?_eq_none (by omega), List.getElem?_eq_none (by omega)]
/-! ### texts of lists of small ints -/
theorem small_text : ∀ k : Nat, k < 64 → (Str.ofString (toString ((k : Nat) : Int))).length ≤ 10 := by decide +kernel
theorem small_log : ∀ k : Nat, k < 64 → k.log2 < 1920 := fun k h => Nat.lt_of_le_of_lt (Nat.log2_le_self k) (by omega)
theorem showAll : ∀ ns : List Int, (∀ z ∈ ns, 0 ≤ z ∧ z < 64) → PyData.showableAll (ns.map PyData.int) = true
  | [], _ => by simp [PyData.showableAll]
  | z :: r, h => by
    have h1 := h z (by simp)
    have h2 := showAll r fun y hy => h y (by simp [hy])
    simp only [List.map_cons, PyData.showableAll, PyData.showable, h2, Bool.and_true]
    exact decide_eq_true (small_log _ (by omega))
theorem noDictAll : ∀ ns : List Int, PyData.hasDictAll (ns.map PyData.int) = false
  | [] => by simp [PyData.hasDictAll]
  | z :: r => by simp [PyData.hasDictAll, PyData.hasDict, noDictAll r]
theorem shownSum : ∀ ns : List Int, (∀ z ∈ ns, 0 ≤ z ∧ z < 64) → ((PyData.shownAll (ns.map PyData.int)).map (·.length)).sum ≤ 10 * ns.length ∧ (PyData.shownAll (ns.map PyData.int)).length = ns.length
  | [], _ => by simp [PyData.shownAll]
  | z :: r, h => by
    have h1 := h z (by simp)
    obtain ⟨h2, h3⟩ := shownSum r fun y hy => h y (by simp [hy])
    have h4 := small_text z.toNat (by omega)
    rw [show ((z.toNat : Nat) : Int) = z by omega] at h4
    simp only [List.map_cons, PyData.shownAll, PyData.shown, List.sum_cons, List.length_cons]
    have h5 : (Str.ofString (toString z)).length ≤ 10 := h4
    refine ⟨?_, by omega⟩
    have : ((toString z : String) : Str).length ≤ 10 := h5
    omega
theorem rep_of {k : Nat} {A : Around} (hr : Room k A) : A.units + 100 < cLine := by have := hr.un; omega
/-- what repr of a list of small ints asks -/
theorem rep_ints {K : PySem.W.Frag} {H : Hp} {p : Addr} {ns : List Int} {Q : VK} (hq : SqL K H p (ns.map V.int)) (hs : ∀ z ∈ ns, 0 ≤ z ∧ z < 64) (hl : ns.length ≤ 100) (h : Q (.str (PyData.shown (.list (ns.map PyData.int)))) H) :
    rShow K [.ref p] H Q := by
  refine ⟨⟨_, .list (ns.map PyData.int), rfl, .lst hq (dp_ints ns), ?_, ?_, ?_, ?_, h⟩⟩
  · simp only [PyData.showable]; exact showAll ns hs
  · simp only [PyData.hasDict]; exact noDictAll ns
  · simp [PyData.depth, PySem.W.ke_depthAll]
  · obtain ⟨h1, h2⟩ := shownSum ns hs
    simp only [PyData.shown]
    refine Nat.le_trans (listText_len_le _) ?_
    rw [h2]
    exact Nat.le_trans (show _ ≤ 10000 by omega) (by decide)
theorem rep_bool {K : PySem.W.Frag} {H : Hp} {b : Bool} {Q : VK} (h : Q (.str (PyData.shown (.bool b))) H) :
    rShow K [.bl b] H Q := by
  refine ⟨⟨_, .bool b, rfl, .bl b, ?_, ?_, ?_, ?_, h⟩⟩
  · simp only [PyData.showable]
  · simp only [PyData.hasDict]
  · simp [PyData.depth]
  · cases b <;> (simp only [PyData.shown]; decide +kernel)
theorem cut_from (xs : List V) (k : Nat) (h : k ≤ xs.length) : cutV xs (some (k : Int)) none = xs.drop k := by
  unfold cutV
  rw [HT.sIx_nat, HT.sIx_none, Nat.min_eq_left h, ← List.length_drop, List.take_length]
theorem missL_small {ts : List Int} {n : Nat} (h : n ≤ 32) : (∀ z ∈ toI (missL ts n), 0 ≤ z ∧ z < 64) ∧ (toI (missL ts n)).length ≤ 100 := by
  unfold toI missL
  refine ⟨fun z hz => ?_, ?_⟩
  · obtain ⟨k, hk, rfl⟩ := List.mem_map.mp hz
    have := List.mem_range.mp (List.mem_filter.mp hk).1
    omega
  · rw [List.length_map]
    have := List.length_filter_le (fun p => missB ts (p + n)) (List.range n)
    rw [List.length_range] at this
    omega
/-! ### the plan: a dict of the greatest room and the bounds -/
def kMost : Key := Sum.inr ("most" : Str)
def kBounds : Key := Sum.inr ("bounds" : Str)
def planKv (m : Int) (l : Addr) : List (Key × V) := mergeK [] [(kMost, .int m), (kBounds, .ref l)]
theorem kmb : ¬ kBounds = kMost := by
  intro h
  have h2 : ("bounds" : Str) = ("most" : Str) := Sum.inr.inj h
  exact absurd h2 (by decide +kernel)
theorem plan_most (m : Int) (l : Addr) : valV (planKv m l) kMost = some (.int m) := by
  show valV (putK (putK [] kMost (.int m)) kBounds (.ref l)) kMost = _
  rw [valV_put, if_neg (fun z => kmb z.symm), valV_put, if_pos rfl]
theorem plan_bounds (m : Int) (l : Addr) : valV (planKv m l) kBounds = some (.ref l) := by
  show valV (putK (putK [] kMost (.int m)) kBounds (.ref l)) kBounds = _
  rw [valV_put, if_pos rfl]
/-- the plan, apart from the pool at p -/
def PlanP (H : Hp) (p d : Addr) (m : Int) (ns : List Int) : Prop := ∃ l, l ≠ p ∧ d ≠ p ∧ H d = some (.dK (planKv m l)) ∧ H l = some (.lst (ns.map V.int))
theorem PlanP.mono {H H' : Hp} {p d : Addr} {m : Int} {ns : List Int} (h : PlanP H p d m ns) (s : Same H H') : PlanP H' p d m ns := by
  obtain ⟨l, h1, h2, h3, h4⟩ := h
  exact ⟨l, h1, h2, s _ _ h3, s _ _ h4⟩
theorem PlanP.but {H H' : Hp} {p d : Addr} {m : Int} {ns : List Int} (h : PlanP H p d m ns) (s : But p H H') : PlanP H' p d m ns := by
  obtain ⟨l, h1, h2, h3, h4⟩ := h
  exact ⟨l, h1, h2, s _ _ h2 h3, s _ _ h1 h4⟩
theorem But.free {p : Addr} {H H' : Hp} (e : But p H H') {l : Addr} (n : l ≠ p) (h : H' l = none) : H l = none := by
  cases q : H l with
  | none => rfl
  | some o => rw [e l o n q] at h; cases h
/-- the numbers 1 to m -/
def upTo (m : Int) : List Int := (List.range (m + 1 - 1).toNat).map fun i => 1 + ((i : Nat) : Int)
theorem upTo_len (m : Int) : (upTo m).length = m.toNat := by
  unfold upTo
  rw [List.length_map, List.length_range]
  omega
theorem upTo_mem {m z : Int} (h : z ∈ upTo m) : 1 ≤ z ∧ z ≤ m := by
  unfold upTo at h
  obtain ⟨i, hi, e⟩ := List.mem_map.mp h
  have := List.mem_range.mp hi
  omega
theorem upTo_nodup (m : Int) : (upTo m).Nodup := by
  unfold upTo
  unfold List.Nodup
  rw [List.pairwise_map]
  refine List.Pairwise.imp ?_ List.nodup_range
  intro x y h z
  omega
theorem rgV_upTo (m : Int) : rgV 1 (m + 1) = (upTo m).map V.int := by
  unfold rgV upTo
  rw [List.map_map]
  rfl
theorem erase_map {α β : Type} (f : α → β) : ∀ (l : List α) (k : Nat), (l.map f).eraseIdx k = (l.eraseIdx k).map f
  | [], k => by simp
  | a :: r, 0 => rfl
  | a :: r, k + 1 => by
    show f a :: (r.map f).eraseIdx k = f a :: (r.eraseIdx k).map f
    rw [erase_map f r k]
theorem perm_pop {xs ys : List Int} {k : Nat} {y : Int} (h : ys[k]? = some y) : ((xs ++ [y]) ++ ys.eraseIdx k).Perm (xs ++ ys) := by
  obtain ⟨hk, e⟩ := List.getElem?_eq_some_iff.mp h
  rw [List.append_assoc]
  refine List.Perm.append_left xs ?_
  show (y :: ys.eraseIdx k).Perm ys
  have e2 : ys = ys.take k ++ y :: ys.drop (k + 1) := by
    rw [← e, ← List.drop_eq_getElem_cons hk, List.take_append_drop]
  rw [List.eraseIdx_eq_take_drop_succ]
  conv => rhs; rw [e2]
  exact List.perm_middle.symm
theorem good_of {xs ys ns : List Int} {m : Int} (h : (xs ++ ys).Perm (upTo m)) (m1 : 1 ≤ m) (m2 : m ≤ 1000) (l1 : 1 ≤ xs.length) (l8 : xs.length ≤ 8) (hp : ns.Perm xs) (hs : ns.Pairwise (· ≤ ·)) : Good ns m := by
  have nd : (xs ++ ys).Nodup := (h.nodup_iff).mpr (upTo_nodup m)
  have ndx : xs.Nodup := (List.nodup_append.mp nd).1
  have ndn : ns.Nodup := (hp.nodup_iff).mpr ndx
  have mem : ∀ z ∈ ns, 1 ≤ z ∧ z ≤ m := fun z hz => upTo_mem (h.mem_iff.mp (List.mem_append_left _ (hp.mem_iff.mp hz)))
  refine ⟨m1, m2, by rw [hp.length_eq]; exact l1, by rw [hp.length_eq]; exact l8, fun z hz => (mem z hz).1, fun z hz => (mem z hz).2, ?_⟩
  have ndn' : ns.Pairwise (· ≠ ·) := ndn
  refine List.Pairwise.imp ?_ (List.Pairwise.and hs ndn')
  intro x y h
  have h1 := h.1
  have h2 := h.2
  omega
section
variable {P : Program} {w : World} {K : PySem.W.Frag} {mg : Str → Option Value} {base : Heap} {a : Ad}
def sp_law_bounds : Sp := fun vs H Q _ => ∃ (p : Addr) (top : Int), vs = [.ref p, .int top] ∧ PoolAt H p ∧ 1 ≤ top ∧ top ≤ 1000 ∧
  ∀ H' d m ns, But p H H' → PoolAt H' p → PlanP H' p d m ns → m ≤ top → Good ns m → Q (.ref d) H'
theorem ok_law_bounds (T : Txt K mg a) : FnOk P w K mg base CX0 2 a.a_law_bounds a.fd_law_bounds ["_law_pool", "_law_top"] sp_law_bounds := by
  refine T.F_law_bounds.ok sc_law_bounds (fun vs H Q E h => ?_) (fun cdv A outer s H vs Q E hr h => ?_)
  · obtain ⟨p, m, rfl, _⟩ := h
    rfl
  · obtain ⟨p, top, rfl, hp, t1, t2, k⟩ := h
    refine ⟨_, (pss_cons (ps_set (i := 2) sc_law_bounds.nd rfl (Or.inl rfl) (pe_op op_add pe_int (pe_call (ok_law_draw T) (hr.mono (by decide)) rfl T.g__law_draw T.F_law_draw.kp T.b_law_draw .nil pass0 (pa_cons (pv 0) (pa_cons (pv 1) pa_nil)))))
      (pss_cons (ps_par (i := 3) (j := 4) (by rfl) sc_law_bounds.nd rfl rfl (by decide) rfl rfl (pa_cons (pe_listRg rfl (by rfl) T.n_list (prg_2 (by rfl) T.n_range pe_int (pe_op op_add (pv 2) pe_int))) (pa_cons (pe_lst pa_nil) pa_nil)) (by rfl))
      (pss_cons (ps_for PassesOwn.never rfl (pi_range1 (by rfl) T.n_range (pa_cons (pe_op op_add pe_int (pe_call (ok_law_draw T) (hr.mono (by decide)) rfl T.g__law_draw T.F_law_draw.kp T.b_law_draw .nil pass0 (pa_cons (pv 0) (pa_cons (pe_callB (call_min2 rfl) (by rfl) T.n_min (by decide +kernel) (pa_cons pe_int (pa_cons (pv 2) pa_nil))) pa_nil)))) pa_nil)) (pg_name (i := 5) sc_law_bounds.nd rfl (Or.inl rfl))
      (pss_one (ps_expr (pe_bm PySem.F.plainAttrs_list PySem.F.slot_list_append PySem.F.type_list_append mt_append (pv 4) (pa_cons (pe_bm PySem.F.plainAttrs_list PySem.F.slot_list_pop PySem.F.type_list_pop mt_popAt (pv 3) (pa_cons (pe_call (ok_law_draw T) (hr.mono (by decide)) rfl T.g__law_draw T.F_law_draw.kp T.b_law_draw .nil pass0 (pa_cons (pv 0) (pa_cons (pe_callB call_len_seq (by rfl) T.n_len PySem.boot_len (pa_cons (pv 3) pa_nil)) pa_nil))) pa_nil)) pa_nil)))))
      (pss_one (ps_ret (pe_disp (pps_cons pe_str (pv 2) (pps_cons pe_str (pe_callB cr_sorted (by rfl) T.n_sorted (by decide +kernel) (pa_cons (pe_lc (own := [("_law_one", 6)]) (g := gName 6) (tt := tYes) (by rfl) sc_law_bounds.nd (pi_list (pv 4)) (blkOk_by (own := [("_law_one", 6)]) (N := ["_law_pool", "_law_top", "_law_most", "_law_menu", "_law_bounds_here", "_law_step", "_law_one"]) (sc := defScope s_law_bounds) (by decide +kernel)) (fun _ _ _ _ _ => pg_name (i := 6) sc_law_bounds.nd rfl (Or.inl rfl)) (fun _ _ _ _ _ => pts_nil) (fun _ _ _ _ _ => (pe_callTy call_int1 (by rfl) T.n_int (by decide +kernel) (pa_cons (pv 6) pa_nil)))) pa_nil)) pps_nil)) (by rfl) (by rfl) (fun z => by cases z) (by decide))))))), ?_⟩
    refine ⟨_, rfl, _, rfl, p, top, rfl, hp, t1, by omega, fun H1 d d0 d1 b1 p1 => ⟨_, _, rfl, rfl, ?_⟩⟩
    obtain ⟨m, hm⟩ : ∃ m, m = 1 + d := ⟨_, rfl⟩
    show gName 2 (V.int (1 + d)) _ _ _
    rw [← hm]
    have m1 : 1 ≤ m := by omega
    have m2 : m ≤ top := by omega
    refine ⟨_, rfl, _, _, rfl, rfl, _, _, rfl, rfl, RgOk.of_le (by omega) (by omega) (by omega) (by omega), fun l hl => ?_⟩
    refine ⟨Nat.zero_le _, fun e he => ⟨_, _, rfl, ?_⟩⟩
    have nel : e ≠ l := fun q => by rw [q, upd_same] at he; cases he
    have he1 : H1 e = none := by rw [upd_ne nel] at he; exact he
    have s2 : Same H1 (upd (upd H1 l (.lst (rgV 1 (m + 1)))) e (.lst [])) := fun b o q => same_new he _ _ (same_new hl _ _ q)
    obtain ⟨x0, y0, q0, _⟩ := id p1
    have nlp : l ≠ p := fun q => by rw [q, q0] at hl; cases hl
    have nep : e ≠ p := fun q => by rw [q, q0] at he1; cases he1
    refine ⟨_, rfl, _, rfl, _, _, rfl, p, _, rfl, p1.mono s2, ?_, ?_, fun H3 d' d0' d1' b3 p3 => ?_⟩
    · split <;> omega
    · split <;> omega
    have hd8 : d' < 8 := by
      have : (if m < 8 then m else 8) ≤ 8 := by split <;> omega
      omega
    have hdm : d' < m := by
      have : (if m < 8 then m else 8) ≤ m := by split <;> omega
      omega
    have f3 : But p H H3 := But.trans b1 (But.trans (Same.but s2) b3)
    refine ⟨_, _, rfl, rfl, _, rfl, by omega, by omega, for_range (lo := 0) (n := (1 + d').toNat) (fun i σ H' => (∃ v : Option V, σ = [some (.ref p), some (.int top), some (.int m), some (.ref l), some (.ref e), v, none]) ∧ But p H H' ∧ PoolAt H' p ∧
      ∃ xs ys : List Int, H' e = some (.lst (xs.map V.int)) ∧ H' l = some (.lst (ys.map V.int)) ∧ xs.length = i ∧ (xs ++ ys).Perm (upTo m))
      ⟨⟨none, rfl⟩, f3, p3, [], upTo m, b3 _ _ nep upd_same, b3 _ _ nlp (by rw [upd_ne nel.symm, upd_same, rgV_upTo]), rfl, List.Perm.refl _⟩ ?_ ?_⟩
    · rintro i σ H' hi ⟨⟨v, rfl⟩, b4, p4, xs, ys, hx, hy, hxl, hpm⟩
      have hlen := hpm.length_eq
      rw [List.length_append, upTo_len] at hlen
      refine ⟨_, rfl, .inl ⟨rfl, _, SqL.of hx⟩, _, rfl, .inl ⟨rfl, _, SqL.of hy⟩, _, rfl, _, rfl, l, _, rfl, .inl (SqL.of hy), p, _, rfl, p4, ?_, ?_, fun H5 j j0 j1 b5 p5 => ?_⟩
      · rw [List.length_map]; omega
      · rw [List.length_map]; omega
      rw [List.length_map] at j1
      obtain ⟨y, hyk⟩ : ∃ y, ys[j.toNat]? = some y := ⟨ys[j.toNat]'(by omega), by simp⟩
      have hx5 := b5 _ _ nep hx
      have hy5 := b5 _ _ nlp hy
      refine ⟨l, _, j, j.toNat, _, rfl, rfl, hy5, by omega, by omega, ?_, at_map hyk, ?_⟩
      · exact PyProof.Rows.seqIndex_at j0 (by rw [List.length_map]; exact j1)
      refine ⟨e, _, _, rfl, rfl, (by rw [upd_ne nel]; exact hx5), (by rw [List.length_map]; exact Nat.lt_of_le_of_lt (show xs.length ≤ 8 by omega) (by decide)), ?_⟩
      obtain ⟨x5, y5, q5, _⟩ := id p5
      refine ⟨⟨_, rfl⟩, fun b o nb q => ?_, ?_, xs ++ [y], ys.eraseIdx j.toNat, ?_, ?_, ?_, (perm_pop hyk).trans hpm⟩
      · have q1 := b5 _ _ nb (b4 _ _ nb q)
        have nbe : b ≠ e := fun z => by rw [z] at q; rw [z] at nb; exact absurd (b1 _ _ nb q) (by rw [he1]; intro h; cases h)
        have nbl : b ≠ l := fun z => by rw [z] at q; rw [z] at nb; exact absurd (b1 _ _ nb q) (by rw [hl]; intro h; cases h)
        rw [upd_ne nbe, upd_ne nbl]
        exact q1
      · refine ⟨x5, y5, ?_, by assumption⟩
        rw [upd_ne nep.symm, upd_ne nlp.symm]
        exact q5
      · rw [upd_same, List.map_append]; rfl
      · rw [upd_ne nel.symm, upd_same]
        rw [erase_map]
      · rw [List.length_append, hxl]; rfl
    · rintro σ H' ⟨⟨v, rfl⟩, b4, p4, xs, ys, hx, hy, hxl, hpm⟩
      intro q hq
      have nqp : q ≠ p := fun z => by obtain ⟨_, _, h, _⟩ := p4; rw [z, h] at hq; cases hq
      have hq0 : H q = none := But.free b4 nqp hq
      have sq := same_new (o := .dK []) hq
      have xl : xs.length ≤ 8 := by omega
      refine ⟨_, rfl, _, rfl, e, rfl, ⟨_, SqL.of (sq _ _ hx)⟩, fun D hD => ?_⟩
      have nDq : D ≠ q := fun z => by rw [z, upd_same] at hD; cases hD
      have sD := same_new (o := .lst []) hD
      refine lc_list (K := K) (a := e) (xs := xs.map V.int) (fun i H2 => (∀ b o, b ≠ D → upd H' q (.dK []) b = some o → H2 b = some o) ∧ H2 D = some (.lst ((xs.take i).map V.int)))
        ⟨fun b o nb h => by rw [upd_ne nb]; exact h, by rw [upd_same]; rfl⟩ (fun i H2 _ h => SqL.of (h.1 _ _ (ne_of_none (sq _ _ hx) hD) (sq _ _ hx))) ?_ ?_
      · rintro i y H2 hk ⟨s2, hd2⟩
        obtain ⟨z, hz, rfl⟩ := map_at hk
        refine ⟨rfl, _, rfl, .inl ⟨_, rfl, _, hd2, ?_, fun b o nb h => ?_, ?_⟩⟩
        · rw [List.length_map, List.length_take]; exact Nat.lt_of_le_of_lt (show min i xs.length ≤ 8 by omega) (by decide)
        · rw [upd_ne nb]; exact s2 b o nb h
        · rw [upd_same, List.take_add_one, hz, List.map_append]; rfl
      · rintro H2 ⟨s2, hd2⟩
        rw [List.length_map, List.take_length] at hd2
        refine ⟨D, xs, rfl, SqL.of hd2, by omega, fun ns r hperm hsort hr' => ?_⟩
        have q2 := s2 _ _ nDq.symm upd_same
        have nrq : q ≠ r := ne_of_none q2 hr'
        have nrD : D ≠ r := ne_of_none hd2 hr'
        refine ⟨by rw [upd_ne nrq]; exact q2, [(kMost, .int m), (kBounds, .ref r)], rfl, (by show 2 ≤ 15; decide), ?_⟩
        have all : ∀ b o, H' b = some o → upd (upd H2 r (.lst (ns.map V.int))) q (.dK (mergeK [] [(kMost, .int m), (kBounds, .ref r)])) b = some o := fun b o h => by
          have h1 := sq _ _ h
          have nbq : b ≠ q := ne_of_none h hq
          have h2 := s2 _ _ (ne_of_none h1 hD) h1
          rw [upd_ne nbq, upd_ne (ne_of_none h2 hr')]
          exact h2
        have nrp : r ≠ p := by
          obtain ⟨xp, yp, ep, _⟩ := id p4
          have h1 := sq _ _ ep
          have h2 := s2 _ _ (ne_of_none h1 hD) h1
          exact (ne_of_none h2 hr').symm
        refine k _ q m ns (But.trans b4 (Same.but all)) (p4.mono all) ⟨r, nrp, nqp, upd_same, by rw [upd_ne nrq.symm, upd_same]⟩ m2 (good_of hpm m1 (by omega) (by omega) xl hperm hsort)
/-! ### made_steps -/
def sp_law_made_steps (C : Addr) : Sp := fun vs H Q _ => ∃ (d : Addr) (m : Int) (ns : List Int), vs = [.ref d] ∧ (∃ p, PlanP H p d m ns) ∧ Good ns m ∧ ∀ H' p, Same H H' → H p = none → StepsAt C H' p m ns → Q (.ref p) H'
theorem ok_law_made_steps (T : Txt K mg a) : FnOk P w K mg base CX0 6 a.a_law_made_steps a.fd_law_made_steps ["_law_plan"] (sp_law_made_steps a.C_Steps) := by
  refine T.F_law_made_steps.ok sc_law_made_steps (fun vs H Q E h => ?_) (fun cdv A outer s H vs Q E hr h => ?_)
  · obtain ⟨d, m, ns, rfl, _⟩ := h
    rfl
  · obtain ⟨d, m, ns, rfl, ⟨_, l, _, _, hd, hl⟩, g, k⟩ := h
    have e1 := plan_most m l
    have e2 := plan_bounds m l
    have g1 : DGet H d (.str "most") (some (.int m)) := by rw [← e1]; exact DGet.k (k := kMost) hd
    have g2 : DGet H d (.str "bounds") (some (.ref l)) := by rw [← e2]; exact DGet.k (k := kBounds) hd
    refine ⟨_, (pss_one (ps_ret (pe_make T.mk_Steps (ok_Steps_init T) (hr.mono (by decide)) rfl T.g_Steps T.b_Steps_init .nil pass0 (pa_cons (pe_dget (hu_of hr) (pv 0) pe_str (fun _ _ => rfl)) (pa_cons (pe_callTy call_list_of (by rfl) T.n_list (by decide +kernel) (pa_cons (pe_dget (hu_of hr) (pv 0) pe_str (fun _ _ => rfl)) pa_nil)) pa_nil))))), ?_⟩
    refine ⟨_, rfl, d, _, rfl, g1, _, rfl, d, _, rfl, g2, l, _, rfl, .inl (SqL.of hl), fun q hq => ?_⟩
    intro x dx nx ndx nex
    have sq := same_new (o := .lst (ns.map V.int)) hq
    have s0 : Same H (upd (upd (upd H q (.lst (ns.map V.int))) dx (.own x)) x (.ins a.C_Steps dx [])) := fun b o e => by
      have e1 := sq _ _ e
      rw [upd_ne (ne_of_none e1 nx), upd_ne (ne_of_none e1 ndx)]
      exact e1
    have hq2 : upd H q (.lst (ns.map V.int)) q = some (.lst (ns.map V.int)) := upd_same
    refine ⟨x, dx, q, m, ns, rfl, upd_same, ?_, g, fun H' b1 st => ⟨rfl, ?_⟩⟩
    · rw [upd_ne (ne_of_none hq2 nx), upd_ne (ne_of_none hq2 ndx)]
      exact hq2
    · have nx0 : H x = none := Same.free sq nx
      exact k _ x (fun b o e => b1 b o (ne_of_none e nx0) (s0 _ _ e)) nx0 st
def sp_law_greater (K : PySem.W.Frag) : Sp := fun vs H Q _ => ∃ (l : Addr) (ts : List Int) (kk : Nat), vs = [.ref l, .int ((kk : Nat) : Int)] ∧ SqL K H l (ts.map V.int) ∧ 1 ≤ kk ∧ 2 * kk + 1 ≤ ts.length ∧ ts.length ≤ 100 ∧ Q (.int (mx (val ts (2 * kk)) (val ts (2 * kk + 1)))) H
theorem ok_law_greater (T : Txt K mg a) : FnOk P w K mg base CX0 1 a.a_law_greater a.fd_law_greater ["_law_row", "_law_node"] (sp_law_greater K) := by
  refine T.F_law_greater.ok sc_law_greater (fun vs H Q E h => ?_) (fun cdv A outer s H vs Q E hr h => ?_)
  · obtain ⟨l, ts, kk, rfl, _⟩ := h
    rfl
  · obtain ⟨l, ts, kk, rfl, hl, k1, k2, k3, k⟩ := h
    refine ⟨_, (pss_one (ps_ret (pe_callB (call_max2 rfl) (by rfl) T.n_max (by decide +kernel) (pa_cons (pe_callTy call_int1 (by rfl) T.n_int (by decide +kernel) (pa_cons (pe_ix (r := rIxL K) ix_list (pv 0) (pe_op op_sub (pe_op op_mul pe_int (pv 1)) pe_int) (fun _ _ => rfl)) pa_nil)) (pa_cons (pe_callTy call_int1 (by rfl) T.n_int (by decide +kernel) (pa_cons (pe_ix (r := rIxL K) ix_list (pv 0) (pe_op op_mul pe_int (pv 1)) (fun _ _ => rfl)) pa_nil)) pa_nil))))), ?_⟩
    refine ⟨_, rfl, _, rfl, _, _, rfl, rfl, .inl ⟨by decide, by decide⟩, _, _, rfl, rfl, l, _, _, _, rfl, rfl, hl, at_of (j := 2 * kk - 1) (by omega) (at_map (val_at (k := 2 * kk) (by omega) (by omega))), .inl ⟨_, rfl, ?_⟩⟩
    refine ⟨_, rfl, _, rfl, _, _, rfl, rfl, .inl ⟨by decide, by decide⟩, l, _, _, _, rfl, rfl, hl, at_of (j := 2 * kk + 1 - 1) (by omega) (at_map (val_at (k := 2 * kk + 1) (by omega) (by omega))), .inl ⟨_, rfl, ?_⟩⟩
    exact ⟨_, _, rfl, k⟩
def sp_law_mended (K : PySem.W.Frag) : Sp := fun vs H Q _ => ∃ (l : Addr) (c : Int) (ts : List Int) (n : Nat), vs = [.ref l] ∧ SqL K H l (ts.map V.int) ∧ Told c ts n ∧ ∀ H' q, Same H H' → H q = none → H' q = some (.lst ((mend ts n).map V.int)) → Q (.ref q) H'
theorem ok_law_mended (T : Txt K mg a) : FnOk P w K mg base CX0 2 a.a_law_mended a.fd_law_mended ["_law_row"] (sp_law_mended K) := by
  refine T.F_law_mended.ok sc_law_mended (fun vs H Q E h => ?_) (fun cdv A outer s H vs Q E hr h => ?_)
  · obtain ⟨l, c, ts, n, rfl, _⟩ := h
    rfl
  · obtain ⟨l, c, ts, n, rfl, hl, g, k⟩ := h
    have n2 := g.n2
    have hlen := g.len
    have hml : (ts.map V.int).length = ts.length := List.length_map _
    refine ⟨_, (pss_cons (ps_set (i := 1) sc_law_mended.nd rfl (Or.inl rfl) (pe_callTy call_list_of (by rfl) T.n_list (by decide +kernel) (pa_cons (pv 0) pa_nil)))
      (pss_cons (ps_for PassesOwn.never rfl (pi_list (pe_listRg3 rfl (by rfl) T.n_list (by rfl) T.n_range (pe_op op_sub (pe_op op_fdiv (pe_op op_add (pe_callB call_len_seq (by rfl) T.n_len PySem.boot_len (pa_cons (pv 0) pa_nil)) pe_int) pe_int) pe_int) pe_int (pe_un un_neg pe_int))) (pg_name (i := 2) sc_law_mended.nd rfl (Or.inl rfl))
      (pss_one (ps_asg (pe_call (ok_law_greater T) (hr.mono (by decide)) rfl T.g__law_greater T.F_law_greater.kp T.b_law_greater .nil pass0 (pa_cons (pv 1) (pa_cons (pv 2) pa_nil))) (pg_sub (pv 1) (pe_op op_sub (pv 2) pe_int) set_list))))
      (pss_one (ps_ret (pv 1))))), ?_⟩
    refine ⟨_, rfl, l, _, rfl, .inl hl, fun q hq => ?_⟩
    have s0 := same_new (o := .lst (ts.map V.int)) hq
    have hl2 := s0.seq hl
    refine ⟨_, rfl, l, _, rfl, .inl hl2, _, _, rfl, rfl, _, _, rfl, rfl, ⟨by decide, by decide⟩, _, _, rfl, rfl, _, rfl, _, _, rfl, rfl, rfl, ⟨by rw [hml]; omega, by rw [hml]; omega, by decide, by decide⟩, fun r hr' => ?_⟩
    have en : ((((ts.map V.int).length : Nat) : Int) + 1) / 2 - 1 = ((n - 1 : Nat) : Int) := by rw [hml]; omega
    have s1 := same_new (o := .lst (dnV (((((ts.map V.int).length : Nat) : Int) + 1) / 2 - 1) 0)) hr'
    have nrq : r ≠ q := fun z => by rw [z, upd_same] at hr'; cases hr'
    refine ⟨r, rfl, ⟨_, SqL.of upd_same⟩, for_list (K := K) (a := r) (xs := dnV (((((ts.map V.int).length : Nat) : Int) + 1) / 2 - 1) 0) (fun i σ H' => (∃ v : Option V, σ = [some (.ref l), some (.ref q), v]) ∧ (∀ b o, b ≠ q → upd (upd H q (.lst (ts.map V.int))) r (.lst (dnV (((((ts.map V.int).length : Nat) : Int) + 1) / 2 - 1) 0)) b = some o → H' b = some o) ∧ H' q = some (.lst ((mendI ts n i).map V.int)))
      ⟨⟨none, rfl⟩, fun b o _ e => e, s1 _ _ upd_same⟩ (fun i σ H' _ h => SqL.of (h.2.1 _ _ nrq upd_same)) ?_ ?_⟩
    · rintro i y σ H' hk ⟨⟨v, rfl⟩, b', hq'⟩
      have hi : i < n - 1 ∧ y = V.int (((n - 1 - i : Nat)) : Int) := by
        unfold dnV at hk
        rw [List.getElem?_map] at hk
        cases e : (List.range ((((((ts.map V.int).length : Nat) : Int) + 1) / 2 - 1 - 0).toNat))[i]? with
        | none => rw [e] at hk; cases hk
        | some z =>
          rw [e] at hk
          have h1 := (List.getElem?_eq_some_iff.mp e).1
          have h2 := (List.getElem?_eq_some_iff.mp e).2
          rw [List.length_range, en] at h1
          rw [List.getElem_range] at h2
          have h3 := Option.some.inj hk
          refine ⟨by omega, ?_⟩
          have h4 : y = V.int (((n - 1 : Nat) : Int) - ((i : Nat) : Int)) := by rw [← h3, ← en, ← h2]
          rw [h4]
          congr 1
          omega
      obtain ⟨hi2, rfl⟩ := hi
      have gI := g.mendI i (by omega)
      have hlI := gI.len
      have hmI : ((mendI ts n i).map V.int).length = (mendI ts n i).length := List.length_map _
      refine ⟨_, rfl, _, rfl, q, mendI ts n i, n - 1 - i, rfl, SqL.of hq', by omega, by omega, by omega, ?_⟩
      refine ⟨_, rfl, _, rfl, _, _, rfl, rfl, q, _, _, n - 1 - i - 1, rfl, rfl, hq', ?_, ⟨_, rfl⟩, fun b o nb e => by rw [upd_ne nb]; exact b' b o nb e, ?_⟩
      · unfold ixN
        rw [hmI, if_pos (by omega), if_pos (by omega)]
        congr 1
        omega
      · rw [upd_same]
        show some (HO.lst _) = some (HO.lst ((mstep (mendI ts n i) (n - 1 - i)).map V.int))
        unfold mstep
        rw [List.map_set]
    · rintro σ H' ⟨⟨v, rfl⟩, b', hq'⟩
      have el : (dnV (((((ts.map V.int).length : Nat) : Int) + 1) / 2 - 1) 0).length = n - 1 := by
        unfold dnV
        rw [List.length_map, List.length_range, en]
        omega
      rw [el] at hq'
      exact ⟨_, rfl, k H' q (fun b o e => b' b o (ne_of_none e hq) (s1 _ _ (s0 _ _ e))) hq hq'⟩
end
end Rt
set_option maxHeartbeats 4000000
namespace Rt
open PySem L2
section
variable {P : Program} {w : World} {K : PySem.W.Frag} {mg : Str → Option Value} {base : Heap} {a : Ad}
def sp_law_class : Sp := fun vs H Q _ => ∃ (p d : Addr) (m r : Int) (ns : List Int), vs = [.ref d, .int r] ∧ PlanP H p d m ns ∧ ns.length ≤ 8 ∧ ∀ H', Same H H' → Q (.int (clsI ns r)) H'
theorem ok_law_class (T : Txt K mg a) : FnOk P w K mg base CX0 1 a.a_law_class a.fd_law_class ["_law_plan", "_law_room"] sp_law_class := by
  refine T.F_law_class.ok sc_law_class (fun vs H Q E h => ?_) (fun cdv A outer s H vs Q E hr h => ?_)
  · obtain ⟨p, d, m, r, ns, rfl, _⟩ := h
    rfl
  · obtain ⟨p, d, m, r, ns, rfl, ⟨l, _, _, hd0, hl⟩, h8, k⟩ := h
    have e2 := plan_bounds m l
    have g2 : DGet H d (.str "bounds") (some (.ref l)) := by rw [← e2]; exact DGet.k (k := kBounds) hd0
    refine ⟨_, (pss_one (ps_ret (pe_callB call_len_seq (by rfl) T.n_len PySem.boot_len (pa_cons (pe_lc (own := [("_law_one", 2)]) (g := gName 2) (by rfl) sc_law_class.nd (pi_list (pe_dget (hu_of hr) (pv 0) pe_str (fun _ _ => rfl))) (blkOk_by (own := [("_law_one", 2)]) (N := ["_law_plan", "_law_room", "_law_one"]) (sc := defScope s_law_class) (by decide +kernel)) (fun _ _ _ _ _ => pg_name (i := 2) sc_law_class.nd rfl (Or.inl rfl)) (fun _ _ _ _ _ => pts_one (pt_cmpR op_le (pv 2) (pv 1) (nomark _))) (fun _ _ _ _ _ => (pv 2))) pa_nil)))), ?_⟩
    refine ⟨_, rfl, d, _, rfl, g2, l, rfl, ⟨_, SqL.of hl⟩, fun D hD => ?_⟩
    refine lc_list (K := K) (a := l) (xs := ns.map V.int) (fun i H' => Same H H' ∧ H' D = some (.lst (((ns.take i).filter fun b => decide (b ≤ r)).map V.int)))
      ⟨same_new hD, by rw [upd_same]; rfl⟩ (fun i H' _ h => SqL.of (h.1 _ _ hl)) ?_ ?_
    · rintro i y H' hk ⟨s1, hd⟩
      obtain ⟨z, hz, rfl⟩ := map_at hk
      refine ⟨rfl, _, rfl, _, rfl, _, _, rfl, rfl, _, rfl, ?_⟩
      by_cases c : z ≤ r
      · rw [decide_eq_true c]
        refine iteT ⟨_, rfl, _, hd, ?_, ?_, ?_⟩
        · rw [List.length_map]
          refine Nat.lt_of_le_of_lt (Nat.le_trans (List.length_filter_le _ _) (Nat.le_trans (List.length_take_le _ _) (Nat.le_trans (Nat.le_of_lt_succ (Nat.lt_succ_of_le ?_)) h8))) (by decide)
          have := (List.getElem?_eq_some_iff.mp hz).1
          omega
        · intro b o e
          rw [upd_ne (ne_of_none e hD)]
          exact s1 _ _ e
        · rw [upd_same, ft_T hz (decide_eq_true c), List.map_append]
          rfl
      · rw [decide_eq_false c]
        refine iteF ⟨s1, ?_⟩
        rw [hd, ft_F hz (decide_eq_false c)]
    · rintro H' ⟨s1, hd⟩
      rw [List.length_map, List.take_length] at hd
      refine ⟨D, _, rfl, .inl (SqL.of hd), ?_⟩
      rw [List.length_map]
      exact k _ s1
def sp_law_rooms : Sp := fun vs H Q _ => ∃ (p d : Addr) (m : Int) (ns : List Int) (n : Nat), vs = [.ref p, .ref d, .int ((n : Nat) : Int)] ∧ PoolAt H p ∧ PlanP H p d m ns ∧ Good ns m ∧ PageNum n ∧
  ∀ H' l rs, But p H H' → PoolAt H' p → H l = none → l ≠ p → H' l = some (.lst (rs.map V.int)) → Rooms m rs n → Q (.ref l) H'
theorem ok_law_rooms (T : Txt K mg a) : FnOk P w K mg base CX0 2 a.a_law_rooms a.fd_law_rooms ["_law_pool", "_law_plan", "_law_pages_here"] sp_law_rooms := by
  refine T.F_law_rooms.ok sc_law_rooms (fun vs H Q E h => ?_) (fun cdv A outer s H vs Q E hr h => ?_)
  · obtain ⟨p, d, m, ns, n, rfl, _⟩ := h
    rfl
  · obtain ⟨p, d, m, ns, n, rfl, hp, ⟨l, nlp, ndp, hd0, hl⟩, g, hn, k⟩ := h
    have n2 := hn.le
    have m1 := g.most
    have m2 := g.top
    refine ⟨_, (pss_one (ps_ret (pe_lc (own := [("_law_page", 3)]) (g := gName 3) (tt := tYes) (by rfl) sc_law_rooms.nd (pi_range1 (by rfl) T.n_range (pa_cons (pv 2) pa_nil)) (blkOk_by (own := [("_law_page", 3)]) (N := ["_law_pool", "_law_plan", "_law_pages_here", "_law_page"]) (sc := defScope s_law_rooms) (by decide +kernel)) (fun _ _ _ _ _ => pg_name (i := 3) sc_law_rooms.nd rfl (Or.inl rfl)) (fun _ _ _ _ _ => pts_nil) (fun _ _ _ _ _ => (pe_call (ok_law_draw T) (hr.mono (by decide)) rfl T.g__law_draw T.F_law_draw.kp T.b_law_draw .nil pass0 (pa_cons (pv 0) (pa_cons (pe_op op_add (pe_dget (hu_of hr) (pv 1) pe_str (fun _ _ => rfl)) pe_int) pa_nil))))))), ?_⟩
    refine ⟨_, rfl, _, rfl, by omega, by omega, fun D hD => ?_⟩
    have nDp : D ≠ p := hp.ne hD
    refine lc_range (lo := 0) (n := ((n : Nat) : Int).toNat) (fun i H' => (∀ b o, b ≠ p → b ≠ D → H b = some o → H' b = some o) ∧ PoolAt H' p ∧ ∃ rs : List Int, H' D = some (.lst (rs.map V.int)) ∧ rs.length = i ∧ ∀ z ∈ rs, 0 ≤ z ∧ z ≤ m)
      ⟨fun b o _ nb e => by rw [upd_ne nb]; exact e, hp.mono (same_new hD), [], upd_same, rfl, fun z hz => by cases hz⟩ ?_ ?_
    · rintro i H' hi ⟨b', p', rs, hd, hrl, hrs⟩
      have hd1 := b' _ _ ndp (ne_of_none hd0 hD) hd0
      have e1 := plan_most m l
      have g1 : DGet H' d (.str "most") (some (.int m)) := by rw [← e1]; exact DGet.k (k := kMost) hd1
      refine ⟨rfl, _, rfl, _, rfl, d, _, rfl, g1, _, _, rfl, rfl, p, m + 1, rfl, p', by omega, by omega, fun H5 z z0 z1 b5 p5 => ?_⟩
      refine ⟨_, b5 _ _ nDp hd, ?_, fun b o nb nbD e => ?_, ?_, rs ++ [z], ?_, ?_, fun y hy => ?_⟩
      · rw [List.length_map]; exact Nat.lt_of_le_of_lt (show rs.length ≤ 100 by omega) (by decide)
      · rw [upd_ne nbD]; exact b5 b o nb (b' b o nb nbD e)
      · obtain ⟨x, y, e, r⟩ := p5
        exact ⟨x, y, by rw [upd_ne nDp.symm]; exact e, r⟩
      · rw [upd_same, List.map_append]; rfl
      · rw [List.length_append, hrl]; rfl
      · rcases List.mem_append.mp hy with h | h
        · exact hrs y h
        · rw [List.mem_singleton.mp h]; exact ⟨z0, by omega⟩
    · rintro H' ⟨b', p', rs, hd, hrl, hrs⟩
      exact k H' D rs (fun b o nb e => b' b o nb (ne_of_none e hD) e) p' hD nDp hd ⟨hn, by omega, fun z hz => (hrs z hz).1, fun z hz => (hrs z hz).2⟩
def sp_law_exact : Sp := fun vs H Q _ => ∃ (p d l : Addr) (m : Int) (ns rs : List Int) (n : Nat), vs = [.ref d, .ref l] ∧ PlanP H p d m ns ∧ Good ns m ∧ H l = some (.lst (rs.map V.int)) ∧ Rooms m rs n ∧
  ∀ H' q, Same H H' → H q = none → H' q = some (.lst ((exactT ns rs n).map V.int)) → Q (.ref q) H'
theorem ok_law_exact (T : Txt K mg a) : FnOk P w K mg base CX0 3 a.a_law_exact a.fd_law_exact ["_law_plan", "_law_rooms_here"] sp_law_exact := by
  refine T.F_law_exact.ok sc_law_exact (fun vs H Q E h => ?_) (fun cdv A outer s H vs Q E hr h => ?_)
  · obtain ⟨p, d, l, m, ns, rs, n, rfl, _⟩ := h
    rfl
  · obtain ⟨p, d, l, m, ns, rs, n, rfl, pl, g, hl, rm, k⟩ := h
    have n2 := rm.num.le
    have rlen := rm.len
    have g8 := g.eight
    refine ⟨_, (pss_cons (ps_set (i := 2) sc_law_exact.nd rfl (Or.inl rfl) (pe_op op_cat (pe_op op_rep (pe_lst (pa_cons pe_int pa_nil)) (pe_op op_sub (pe_callB call_len_seq (by rfl) T.n_len PySem.boot_len (pa_cons (pv 1) pa_nil)) pe_int)) (pe_lc (own := [("_law_room", 3)]) (g := gName 3) (tt := tYes) (by rfl) sc_law_exact.nd (pi_list (pv 1)) (blkOk_by (own := [("_law_room", 3)]) (N := ["_law_plan", "_law_rooms_here", "_law_out", "_law_room"]) (sc := defScope s_law_exact) (by decide +kernel)) (fun _ _ _ _ _ => pg_name (i := 3) sc_law_exact.nd rfl (Or.inl rfl)) (fun _ _ _ _ _ => pts_nil) (fun _ _ _ _ _ => (pe_call (ok_law_class T) (hr.mono (by decide)) rfl T.g__law_class T.F_law_class.kp T.b_law_class .nil pass0 (pa_cons (pv 0) (pa_cons (pv 3) pa_nil)))))))
      (pss_one (ps_ret (pe_call (ok_law_mended T) (hr.mono (by decide)) rfl T.g__law_mended T.F_law_mended.kp T.b_law_mended .nil pass0 (pa_cons (pv 2) pa_nil))))), ?_⟩
    refine ⟨(by show 1 ≤ sizeLine; decide), fun z hz => ?_⟩
    have s1 := same_new (o := .lst [.int 0]) hz
    refine ⟨_, rfl, l, _, rfl, .inl (SqL.of (s1 _ _ hl)), _, _, rfl, rfl, z, _, _, rfl, rfl, upd_same, by omega, ?_, ?_, fun v hv => ?_⟩
    · rw [List.length_map]; omega
    · rw [List.length_map]
      exact Nat.le_trans (show 1 * ((rs.length : Int) - 1).toNat ≤ 100 by omega) (by decide)
    generalize (upd H z (.lst [.int 0])) = H1 at s1 hv
    have s2 := same_new (o := .lst (List.replicate (((rs.map V.int).length : Int) - 1).toNat [V.int 0]).flatten) hv
    have hv2 : upd H1 v (.lst (List.replicate (((rs.map V.int).length : Int) - 1).toNat [V.int 0]).flatten) v = some (.lst ((List.replicate (n - 1) (0 : Int)).map V.int)) := by
      rw [upd_same, flat_rep, List.map_replicate, List.length_map, show ((rs.length : Int) - 1).toNat = n - 1 by omega]
    generalize (upd H1 v (.lst (List.replicate (((rs.map V.int).length : Int) - 1).toNat [V.int 0]).flatten)) = H2 at s2 hv2
    have s02 := s1.trans s2
    refine ⟨_, rfl, l, rfl, ⟨_, SqL.of (s02 _ _ hl)⟩, fun D hD => ?_⟩
    refine lc_list (K := K) (a := l) (xs := rs.map V.int) (fun i H' => But D H2 H' ∧ H' D = some (.lst (((rs.take i).map (clsI ns)).map V.int)))
      ⟨but_new, by rw [upd_same]; rfl⟩ (fun i H' _ h => SqL.of (but_same h.1 hD _ _ (s02 _ _ hl))) ?_ ?_
    · rintro i y H' hk ⟨bD, hd⟩
      obtain ⟨r, hr0, rfl⟩ := map_at hk
      refine ⟨rfl, _, rfl, _, rfl, p, d, m, r, ns, rfl, pl.mono (s02.trans (but_same bD hD)), g8, fun H3 s3 => ?_⟩
      refine ⟨_, s3 _ _ hd, ?_, but_put (but_then bD s3), ?_⟩
      · rw [List.length_map, List.length_map, List.length_take]
        exact Nat.lt_of_le_of_lt (show min i rs.length ≤ 100 by omega) (by decide)
      · rw [upd_same, List.take_add_one, hr0, List.map_append, List.map_append]; rfl
    rintro H3 ⟨bD, hd⟩
    rw [List.length_map, List.take_length] at hd
    have s3 := but_same bD hD
    refine ⟨v, D, _, _, rfl, rfl, s3 _ _ hv2, hd, ?_, fun u hu => ?_⟩
    · rw [List.length_map, List.length_map, List.length_map, List.length_replicate]
      exact Nat.le_trans (show n - 1 + rs.length ≤ 100 by omega) (by decide)
    have s5 := same_new (o := .lst ((List.replicate (n - 1) (0 : Int)).map V.int ++ (rs.map (clsI ns)).map V.int)) hu
    have hu5 : upd H3 u (.lst ((List.replicate (n - 1) (0 : Int)).map V.int ++ (rs.map (clsI ns)).map V.int)) u = some (.lst ((rawT ns rs n).map V.int)) := by
      rw [upd_same]; unfold rawT; rw [List.map_append]
    generalize (upd H3 u (.lst ((List.replicate (n - 1) (0 : Int)).map V.int ++ (rs.map (clsI ns)).map V.int))) = H5 at s5 hu5
    have s05 : Same H H5 := s02.trans (s3.trans s5)
    refine ⟨_, rfl, u, _, rawT ns rs n, n, rfl, SqL.of hu5, rawT_told g rm, fun H6 q s6 hq hq6 => ?_⟩
    exact k _ q (s05.trans s6) (Same.free s05 hq) hq6
def sp_law_tree (K : PySem.W.Frag) (C : Addr) : Sp := fun vs H Q _ => ∃ (p d r : Addr) (m : Int) (ns ts : List Int) (n : Nat), vs = [.ref d, .ref r] ∧ PlanP H p d m ns ∧ SqL K H r (ts.map V.int) ∧ Told (ns.length : Nat) ts n ∧
  ∀ H' q, Same H H' → H q = none → TreeAt C H' q (ns.length : Nat) ts → Q (.ref q) H'
theorem ok_law_tree (T : Txt K mg a) : FnOk P w K mg base CX0 6 a.a_law_tree a.fd_law_tree ["_law_plan", "_law_row"] (sp_law_tree K a.C_Tree) := by
  refine T.F_law_tree.ok sc_law_tree (fun vs H Q E h => ?_) (fun cdv A outer s H vs Q E hr h => ?_)
  · obtain ⟨p, d, r, m, ns, ts, n, rfl, _⟩ := h
    rfl
  · obtain ⟨p, d, r, m, ns, ts, n, rfl, ⟨l, _, _, hd0, hl⟩, hrr, g, k⟩ := h
    have e2 := plan_bounds m l
    have g2 : DGet H d (.str "bounds") (some (.ref l)) := by rw [← e2]; exact DGet.k (k := kBounds) hd0
    refine ⟨_, (pss_one (ps_ret (pe_make T.mk_Tree (ok_Tree_init T) (hr.mono (by decide)) rfl T.g_Tree T.b_Tree_init .nil pass0 (pa_cons (pe_callB call_len_seq (by rfl) T.n_len PySem.boot_len (pa_cons (pe_dget (hu_of hr) (pv 0) pe_str (fun _ _ => rfl)) pa_nil)) (pa_cons (pe_callTy call_list_of (by rfl) T.n_list (by decide +kernel) (pa_cons (pv 1) pa_nil)) pa_nil))))), ?_⟩
    refine ⟨_, rfl, d, _, rfl, g2, l, _, rfl, .inl (SqL.of hl), _, rfl, r, _, rfl, .inl hrr, fun q hq => ?_⟩
    intro x dx nx ndx nex
    have s1 := same_new (o := .lst (ts.map V.int)) hq
    have hq1 : upd H q (.lst (ts.map V.int)) q = some (.lst (ts.map V.int)) := upd_same
    generalize upd H q (.lst (ts.map V.int)) = H1 at s1 hq1 nx ndx
    have s2 : Same H1 (upd (upd H1 dx (.own x)) x (.ins a.C_Tree dx [])) := fun b o e => by
      rw [upd_ne (ne_of_none e nx), upd_ne (ne_of_none e ndx)]; exact e
    have en : (ns.map V.int).length = ns.length := List.length_map _
    rw [en]
    refine ⟨x, dx, q, _, ts, n, rfl, upd_same, s2 _ _ hq1, g, fun H4 b4 t4 => ⟨rfl, ?_⟩⟩
    have nx0 : H x = none := Same.free s1 nx
    exact k _ x (fun b o e => b4 b o (ne_of_none e nx0) (s2 _ _ (s1 _ _ e))) nx0 t4
end
end Rt
set_option maxHeartbeats 8000000
namespace Rt
open PySem L2
theorem val_rep {k j : Nat} {t : Int} (h1 : 1 ≤ j) (h2 : j ≤ k) : val (List.replicate k t) j = t := by
  have := val_at (ts := List.replicate k t) (k := j) h1 (by rw [List.length_replicate]; exact h2)
  rw [List.getElem?_replicate, if_pos (by omega)] at this
  exact (Option.some.inj this).symm
theorem upr_rep (k : Nat) (t : Int) : uprB (List.replicate k t) = true := by
  unfold uprB
  rw [List.all_eq_true]
  intro i hi
  have hi2 := List.mem_range.mp hi
  rw [List.length_replicate] at hi2
  rw [val_rep (by omega) (by omega), val_rep (by omega) (by omega)]
  exact decide_eq_true (Int.le_refl t)
/-- mending hangs on the leaves alone -/
theorem mend_same {ts us : List Int} {n : Nat} (hl : ts.length + 1 = 2 * n) (hu : us.length + 1 = 2 * n) (h : ∀ k, n ≤ k → k ≤ ts.length → val ts k = val us k) : mend ts n = mend us n := by
  have hv : ∀ j k, 2 * n - k = j → 1 ≤ k → k ≤ ts.length → val (mend ts n) k = val (mend us n) k := fun j => by
    induction j using Nat.strongRecOn with
    | ind j ih =>
      intro k hk k1 k2
      by_cases c : n ≤ k
      · rw [mend_leaf hl c, mend_leaf hu c]
        exact h k c k2
      · rw [mend_inner hl k1 (by omega), mend_inner hu k1 (by omega)]
        rw [ih (2 * n - 2 * k) (by omega) (2 * k) rfl (by omega) (by omega), ih (2 * n - (2 * k + 1)) (by omega) (2 * k + 1) rfl (by omega) (by omega)]
  have h1 := mend_len ts n
  have h2 := mend_len us n
  refine List.ext_getElem? fun i => ?_
  by_cases c : i < ts.length
  · have e1 := val_at (ts := mend ts n) (k := i + 1) (by omega) (by omega)
    have e2 := val_at (ts := mend us n) (k := i + 1) (by omega) (by omega)
    rw [show i + 1 - 1 = i by omega] at e1 e2
    rw [e1, e2, hv _ (i + 1) rfl (by omega) (by omega)]
  · rw [List.getElem?_eq_none (by omega), List.getElem?_eq_none (by omega)]
def staleT (ts us : List Int) (n : Nat) : List Int := ts.take (n - 1) ++ us.drop (n - 1)
theorem stale_told {c : Int} {ts us : List Int} {n : Nat} (g : Told c ts n) (g' : Told c us n) : Told c (staleT ts us n) n := by
  have n2 := g.n2
  have l1 := g.len
  have l2 := g'.len
  refine ⟨g.c1, g.c8, fun z hz => ?_, fun z hz => ?_, g.num, ?_⟩
  · rcases List.mem_append.mp hz with h | h
    · exact g.lo z (List.mem_of_mem_take h)
    · exact g'.lo z (List.mem_of_mem_drop h)
  · rcases List.mem_append.mp hz with h | h
    · exact g.hi z (List.mem_of_mem_take h)
    · exact g'.hi z (List.mem_of_mem_drop h)
  · unfold staleT
    rw [List.length_append, List.length_take, List.length_drop]
    omega
theorem stale_leaf {c : Int} {ts us : List Int} {n k : Nat} (g : Told c ts n) (g' : Told c us n) (h : n ≤ k) : val (staleT ts us n) k = val us k := by
  have n2 := g.n2
  have l1 := g.len
  have l2 := g'.len
  unfold val staleT
  rw [List.getD_eq_getElem?_getD, List.getD_eq_getElem?_getD, List.getElem?_append_right (by rw [List.length_take]; omega), List.getElem?_drop, List.length_take]
  rw [show n - 1 + (k - 1 - min (n - 1) ts.length) = k - 1 by omega]
theorem stale_mend {c : Int} {ts us : List Int} {n : Nat} (g : Told c ts n) (g' : Told c us n) : mend (staleT ts (mend us n) n) n = mend us n := by
  have gm := g'.mend
  have gs := stale_told g gm
  rw [mend_same gs.len gm.len fun k hk _ => stale_leaf g gm hk, mend_again g'.len]
theorem cut_to (xs : List V) (k : Nat) (h : k ≤ xs.length) : cutV xs none (some (k : Int)) = xs.take k := by
  unfold cutV
  rw [HT.sIx_nat, HT.sIx_none, Nat.min_eq_left h, List.drop_zero]
  rfl
theorem PoolAt.ins {H : Hp} {p q C dx : Addr} {fs : List (Str × V)} (h : PoolAt H p) (hq : H q = some (.ins C dx fs)) : q ≠ p := fun z => by
  obtain ⟨x, y, e, _⟩ := h
  rw [z, e] at hq
  cases hq
theorem PoolAt.tup {H : Hp} {p q : Addr} {xs : List V} (h : PoolAt H p) (hq : H q = some (.tup xs)) : q ≠ p := fun z => by
  obtain ⟨x, y, e, _⟩ := h
  rw [z, e] at hq
  cases hq
theorem TreeAt.but {C : Addr} {H H' : Hp} {p q : Addr} {c : Int} {ts : List Int} (h : TreeAt C H q c ts) (hp : PoolAt H p) (b : But p H H') : TreeAt C H' q c ts := by
  obtain ⟨dx, t, h1, h2⟩ := h
  exact ⟨dx, t, b _ _ (hp.ins h1) h1, b _ _ (hp.tup h2) h2⟩
theorem StepsAt.but {C : Addr} {H H' : Hp} {p q : Addr} {m : Int} {ns : List Int} (h : StepsAt C H q m ns) (hp : PoolAt H p) (b : But p H H') : StepsAt C H' q m ns := by
  obtain ⟨dx, t, h1, h2⟩ := h
  exact ⟨dx, t, b _ _ (hp.ins h1) h1, b _ _ (hp.tup h2) h2⟩
section
variable {P : Program} {w : World} {K : PySem.W.Frag} {mg : Str → Option Value} {base : Heap} {a : Ad}
def sp_law (K : PySem.W.Frag) : Sp := fun vs H Q _ => ∃ (s : Addr) (ns : List Int), vs = [.ref s] ∧ SqL K H s (ns.map V.int) ∧ ns.length ≤ 63 ∧ ∀ H', Q (.bl true) H'
theorem ok_law (T : Txt K mg a) : FnOkG P w K mg base CX0 12 a.a_law a.fd_law ["_law_script"] (sp_law K) := by
  refine T.F_law.okG sc_law (fun vs H Q E h => ?_) (fun cdv A outer s H vs Q E hgd hr h => ?_)
  · obtain ⟨p, ns, rfl, _⟩ := h
    rfl
  · obtain ⟨sc, scr, rfl, hs, h63, k⟩ := h
    refine ⟨_, (pss_cons (ps_for PassesOwn.never rfl (pi_range1 (by rfl) T.n_range (pa_cons (pe_callB (call_max2 rfl) (by rfl) T.n_max (by decide +kernel) (pa_cons pe_int (pa_cons (pe_callB (call_min2 rfl) (by rfl) T.n_min (by decide +kernel) (pa_cons (pe_callB call_len_seq (by rfl) T.n_len PySem.boot_len (pa_cons (pv 0) pa_nil)) (pa_cons pe_int pa_nil))) pa_nil))) pa_nil)) (pg_name (i := 1) sc_law.nd rfl (Or.inl rfl))
      (pss_cons (ps_set (i := 2) sc_law.nd rfl (Or.inl rfl) (pe_call (ok_law_opened T) (hr.mono (by decide)) rfl T.g__law_opened T.F_law_opened.kp T.b_law_opened .nil pass0 (pa_cons (pv 0) (pa_cons (pv 1) pa_nil))))
        (pss_cons (ps_par (i := 3) (j := 4) (by rfl) sc_law.nd rfl rfl (by decide) rfl rfl (pa_cons (pe_call (ok_law_bounds T) (hr.mono (by decide)) rfl T.g__law_bounds T.F_law_bounds.kp T.b_law_bounds .nil pass0 (pa_cons (pv 2) (pa_cons (pe_ix (r := rIxL K) ix_list (pe_lst (pa_cons pe_int (pa_cons pe_int (pa_cons pe_int pa_nil)))) (pe_call (ok_law_draw T) (hr.mono (by decide)) rfl T.g__law_draw T.F_law_draw.kp T.b_law_draw .nil pass0 (pa_cons (pv 2) (pa_cons pe_int pa_nil))) (fun _ _ => rfl)) pa_nil))) (pa_cons (pe_call (ok_law_pages T) (hr.mono (by decide)) rfl T.g__law_pages T.F_law_pages.kp T.b_law_pages .nil pass0 (pa_cons (pv 2) (pa_cons pe_int pa_nil))) pa_nil)) (by rfl))
        (pss_cons (ps_par3 (i := 5) (j := 6) (l := 7) (by rfl) sc_law.nd rfl rfl rfl (by decide) (by decide) (by decide) rfl rfl rfl (pa_cons (pe_call (ok_law_made_steps T) (hr.mono (by decide)) rfl T.g__law_made_steps T.F_law_made_steps.kp T.b_law_made_steps .nil pass0 (pa_cons (pv 3) pa_nil)) (pa_cons (pe_call (ok_law_rooms T) (hr.mono (by decide)) rfl T.g__law_rooms T.F_law_rooms.kp T.b_law_rooms .nil pass0 (pa_cons (pv 2) (pa_cons (pv 3) (pa_cons (pv 4) pa_nil)))) (pa_cons (pe_callB call_len_seq (by rfl) T.n_len PySem.boot_len (pa_cons (pe_dget (hu_of hr) (pv 3) pe_str (fun _ _ => rfl)) pa_nil)) pa_nil))) (by rfl))
        (pss_cons (ps_set (i := 8) sc_law.nd rfl (Or.inl rfl) (pe_call (ok_law_draw T) (hr.mono (by decide)) rfl T.g__law_draw T.F_law_draw.kp T.b_law_draw .nil pass0 (pa_cons (pv 2) (pa_cons (pe_op op_add (pv 7) pe_int) pa_nil))))
        (pss_cons (ps_set (i := 9) sc_law.nd rfl (Or.inl rfl) (pe_static (pe_glob (v := .ref a.C_Tree) rfl T.g_Tree rfl) T.st_Tree_flat (ok_Tree_flat T) (hr.mono (by decide)) T.b_Tree_flat .nil pass0 (pa_cons (pv 7) (pa_cons (pv 4) (pa_cons (pv 8) pa_nil)))))
        (pss_cons (ps_if (PW.pt (pw_or (pt_cmpR op_ne (pe_callB (call_reprD hgd (rep_of hr)) (by rfl) T.n_repr (by decide +kernel) (pa_cons (pe_prop (pv 9) T.cl_Tree T.p_Tree_told (ok_Tree_told T) (hr.mono (by decide)) T.b_Tree_told .nil pass0 rfl) pa_nil)) (pe_callB (call_reprD hgd (rep_of hr)) (by rfl) T.n_repr (by decide +kernel) (pa_cons (pe_op op_rep (pe_lst (pa_cons (pv 8) pa_nil)) (pe_op op_sub (pe_op op_mul pe_int (pv 4)) pe_int)) pa_nil)) (nomark _)) (pw_or (pt_cmpR op_ne (pe_fld (pv 9) rfl) (pv 7) (nomark _)) (pw_or1 (pt_not (pt_val (pe_prop (pv 9) T.cl_Tree T.p_Tree_is_upright (ok_Tree_is_upright T) (hr.mono (by decide)) T.b_Tree_is_upright .nil pass0 rfl)))))))
        (pss_one (ps_ret pe_bl))
        pss_nil)
        (pss_cons (ps_set (i := 10) sc_law.nd rfl (Or.inl rfl) (pe_callTy call_list_of (by rfl) T.n_list (by decide +kernel) (pa_cons (pv 6) pa_nil)))
        (pss_cons (ps_set (i := 11) sc_law.nd rfl (Or.inl rfl) (pe_static (pe_glob (v := .ref a.C_Tree) rfl T.g_Tree rfl) T.st_Tree_exact (ok_Tree_exact T) (hr.mono (by decide)) T.b_Tree_exact .nil pass0 (pa_cons (pv 5) (pa_cons (pv 10) pa_nil))))
        (pss_cons (ps_expr (pe_bm PySem.F.plainAttrs_list PySem.F.slot_list_append PySem.F.type_list_append mt_append (pv 10) (pa_cons pe_non pa_nil)))
        (pss_cons (ps_set (i := 12) sc_law.nd rfl (Or.inl rfl) (pe_call (ok_law_exact T) (hr.mono (by decide)) rfl T.g__law_exact T.F_law_exact.kp T.b_law_exact .nil pass0 (pa_cons (pv 3) (pa_cons (pv 6) pa_nil))))
        (pss_cons (ps_if (PW.pt (pw_or (pt_cmpR op_ne (pe_callB (call_reprD hgd (rep_of hr)) (by rfl) T.n_repr (by decide +kernel) (pa_cons (pe_prop (pv 11) T.cl_Tree T.p_Tree_told (ok_Tree_told T) (hr.mono (by decide)) T.b_Tree_told .nil pass0 rfl) pa_nil)) (pe_callB (call_reprD hgd (rep_of hr)) (by rfl) T.n_repr (by decide +kernel) (pa_cons (pv 12) pa_nil)) (nomark _)) (pw_or (pt_cmpR (op_neOwn (ok_Tree_eq T) (hr.mono (by decide)) T.m_Tree_eq.at_ T.m_Tree_eq.fn T.ne_Tree T.hm_Tree T.b_Tree_eq pass0) (pv 11) (pe_static (pe_glob (v := .ref a.C_Tree) rfl T.g_Tree rfl) T.st_Tree_exact (ok_Tree_exact T) (hr.mono (by decide)) T.b_Tree_exact .nil pass0 (pa_cons (pv 5) (pa_cons (pe_callTy call_tuple_of (by rfl) T.n_tuple (by decide +kernel) (pa_cons (pv 6) pa_nil)) pa_nil))) (nomark _)) (pw_or1 (pt_cmpR op_ne (pe_fld (pv 11) rfl) (pv 7) (nomark _))))))
        (pss_one (ps_ret pe_bl))
        pss_nil)
        (pss_cons (ps_if (PW.pt (pw_or (pt_cmpR op_notBl (pe_prop (pv 11) T.cl_Tree T.p_Tree_is_upright (ok_Tree_is_upright T) (hr.mono (by decide)) T.b_Tree_is_upright .nil pass0 rfl) pe_bl (nomark _)) (pw_or (pt_cmpR (op_neD hr.units) (pe_meth0 (pv 11) T.cl_Tree T.m_Tree_missed (ok_Tree_missed T) (hr.mono (by decide)) T.b_Tree_missed .nil pass0) (pe_lst pa_nil) (nomark _)) (pw_or (pt_cmpR (op_neOwn (ok_Tree_eq T) (hr.mono (by decide)) T.m_Tree_eq.at_ T.m_Tree_eq.fn T.ne_Tree T.hm_Tree T.b_Tree_eq pass0) (pe_meth0 (pv 11) T.cl_Tree T.m_Tree_mended (ok_Tree_mended T) (hr.mono (by decide)) T.b_Tree_mended .nil pass0) (pv 11) (nomark _)) (pw_or1 (pt_cmpR op_ne (pe_callB (call_lenOwn (ok_Tree_len T) (hr.mono (by decide)) T.m_Tree_len.at_ T.m_Tree_len.fn T.b_Tree_len pass0) (by rfl) T.n_len PySem.boot_len (pa_cons (pv 11) pa_nil)) (pv 4) (nomark _)))))))
        (pss_one (ps_ret pe_bl))
        pss_nil)
        (pss_cons (ps_set (i := 13) sc_law.nd rfl (Or.inl rfl) (pe_op op_cat (pe_slice sl_list (pe_call (ok_law_told T) (hr.mono (by decide)) rfl T.g__law_told T.F_law_told.kp T.b_law_told .nil pass0 (pa_cons (pv 2) (pa_cons (pv 7) (pa_cons (pv 4) pa_nil)))) po_none (po_some (pe_op op_sub (pv 4) pe_int))) (pe_slice sl_list (pv 12) (po_some (pe_op op_sub (pv 4) pe_int)) po_none)))
        (pss_one (ps_if (pt_cmpR (op_neOwn (ok_Tree_eq T) (hr.mono (by decide)) T.m_Tree_eq.at_ T.m_Tree_eq.fn T.ne_Tree T.hm_Tree T.b_Tree_eq pass0) (pe_meth0 (pe_call (ok_law_tree T) (hr.mono (by decide)) rfl T.g__law_tree T.F_law_tree.kp T.b_law_tree .nil pass0 (pa_cons (pv 3) (pa_cons (pv 13) pa_nil))) T.cl_Tree T.m_Tree_mended (ok_Tree_mended T) (hr.mono (by decide)) T.b_Tree_mended .nil pass0) (pv 11) (nomark _))
        (pss_one (ps_ret pe_bl))
        pss_nil))))))))))))))))
      (pss_one (ps_ret pe_bl))), ?_⟩
    refine ⟨_, rfl, sc, _, rfl, .inl hs, _, _, rfl, _, _, rfl, _, rfl, ?_, ?_, for_range (lo := 0) (n := _) (fun i σ H' => (∃ v1 v2 v3 v4 v5 v6 v7 v8 v9 v10 v11 v12 v13 : Option V, σ = [some (.ref sc), v1, v2, v3, v4, v5, v6, v7, v8, v9, v10, v11, v12, v13]) ∧ Same H H')
      ⟨⟨none, none, none, none, none, none, none, none, none, none, none, none, none, rfl⟩, Same.refl _⟩ ?_ ?_⟩
    · split <;> split <;> omega
    · rw [List.length_map]; split <;> split <;> omega
    · rintro i σ H0 hi ⟨⟨v1, v2, v3, v4, v5, v6, v7, v8, v9, v10, v11, v12, v13, rfl⟩, s0⟩
      have hi5 : i < 6 := by
        rw [List.length_map] at hi
        split at hi <;> split at hi <;> omega
      refine ⟨_, rfl, _, rfl, sc, _, scr, rfl, s0.seq hs, by omega, by omega, fun H1 p hp s1 p1 => ?_⟩
      have hp0 : H p = none := Same.free s0 hp
      -- the plan and the number of pages
      refine ⟨_, rfl, (by show 3 ≤ sizeLine; decide), fun l0 hl0 => ?_⟩
      have sL := same_new (o := .lst [.int 6, .int 40, .int 1000]) hl0
      have nl0 : l0 ≠ p := p1.ne hl0
      refine ⟨_, rfl, p, 3, rfl, p1.mono sL, by decide, by decide, fun H2 d0 d00 d01 b2 p2 => ?_⟩
      obtain ⟨top, hat, t1, t2⟩ : ∃ top : Int, atI [V.int 6, V.int 40, V.int 1000] d0 = some (.int top) ∧ 1 ≤ top ∧ top ≤ 1000 := by
        rcases (show d0 = 0 ∨ d0 = 1 ∨ d0 = 2 by omega) with rfl | rfl | rfl
        · exact ⟨6, at_of (j := 0) rfl rfl, by decide, by decide⟩
        · exact ⟨40, at_of (j := 1) rfl rfl, by decide, by decide⟩
        · exact ⟨1000, at_of (j := 2) rfl rfl, by decide, by decide⟩
      refine ⟨l0, _, d0, _, rfl, rfl, SqL.of (b2 _ _ nl0 upd_same), hat, p, top, rfl, p2, t1, t2, fun H3 d m ns b3 p3 pl3 hm g => ?_⟩
      refine ⟨_, rfl, p, rfl, p3, fun H4 n b4 p4 hn => ⟨_, _, rfl, ?_⟩⟩
      have pl4 := pl3.but b4
      have m1 := g.most
      have g8 := g.eight
      have g1 := g.one
      have hnP : PageNum n := hn
      have n2 := hnP.le
      -- the steps, the rooms, the number of the bounds
      refine ⟨_, rfl, d, m, ns, rfl, ⟨p, pl4⟩, g, fun H5 sp s5 hsp st5 => ?_⟩
      have pl5 := pl4.mono s5
      have p5 := p4.mono s5
      refine ⟨_, rfl, _, rfl, _, rfl, p, d, m, ns, n, rfl, p5, pl5, g, hn, fun H6 rl rs b6 p6 hrl nrp hr6 rm => ?_⟩
      have st6 := st5.but p5 b6
      have pl6 := pl5.but b6
      obtain ⟨bl, nbp, ndp, hd6, hb6⟩ := id pl6
      have g2 : DGet H6 d (.str "bounds") (some (.ref bl)) := by rw [← plan_bounds m bl]; exact DGet.k (k := kBounds) hd6
      refine ⟨_, rfl, d, _, rfl, g2, bl, _, rfl, .inl (SqL.of hb6), _, _, _, rfl, ?_⟩
      have en : (ns.map V.int).length = ns.length := List.length_map _
      rw [en]
      obtain ⟨H7, e7, s7⟩ : ∃ H7, H7 = H6 ∧ Same H6 H7 := ⟨H6, rfl, Same.refl _⟩
      rw [← e7]
      have p7 := p6.mono s7
      refine ⟨_, rfl, _, rfl, _, _, rfl, rfl, p, _, rfl, p7, by omega, by omega, fun H8 td td0 td1 b8 p8 => ?_⟩
      have st8 := (st6.mono s7).but p7 b8
      have pl8 := (pl6.mono s7).but b8
      have hr8 := b8 _ _ nrp (s7 _ _ hr6)
      -- the flat tree
      refine ⟨rfl, _, rfl, _, rfl, _, rfl, ((ns.length : Nat) : Int), td, n, rfl, by omega, by omega, td0, by omega, hn, fun H9 f s9 hf9 tf9 => ?_⟩
      have gf : Told ((ns.length : Nat) : Int) (List.replicate (2 * n - 1) td) n := rep_told (by omega) (by omega) td0 (by omega) hn
      obtain ⟨dx9, tt9, hx9, _⟩ := id tf9
      have fsm : ∀ z ∈ List.replicate (2 * n - 1) td, 0 ≤ z ∧ z < 64 := fun z hz => by rw [(List.mem_replicate.mp hz).2]; omega
      have flen : (List.replicate (2 * n - 1) td).length ≤ 100 := by rw [List.length_replicate]; omega
      refine ⟨_, rfl, f, dx9, _, rfl, hx9, f, _, _, rfl, tf9, fun H10 fl s10 hfl hfl' => ?_⟩
      refine rep_ints (SqL.of hfl') fsm flen ?_
      refine ⟨_, rfl, (by show 1 ≤ sizeLine; decide), fun z0 hz0 => ?_⟩
      refine ⟨_, rfl, _, _, rfl, rfl, .inl ⟨by decide, by decide⟩, _, _, rfl, rfl, z0, _, _, rfl, rfl, upd_same, by omega, by omega, ?_, fun v0 hv0 => ?_⟩
      · exact Nat.le_trans (show 1 * (2 * (n : Int) - 1).toNat ≤ 100 by omega) (by decide)
      have sA := same_new (o := .lst [.int td]) hz0
      have sB := same_new (o := .lst (List.replicate (2 * (n : Int) - 1).toNat [V.int td]).flatten) hv0
      have hv1 : upd (upd H10 z0 (.lst [.int td])) v0 (.lst (List.replicate (2 * (n : Int) - 1).toNat [V.int td]).flatten) v0 = some (.lst ((List.replicate (2 * n - 1) td).map V.int)) := by
        rw [upd_same, flat_rep, List.map_replicate, show (2 * (n : Int) - 1).toNat = 2 * n - 1 by omega]
      have s11 := sA.trans sB
      generalize upd (upd H10 z0 (.lst [.int td])) v0 (.lst (List.replicate (2 * (n : Int) - 1).toNat [V.int td]).flatten) = H11 at s11 hv1
      refine rep_ints (SqL.of hv1) fsm flen ⟨rfl, _, rfl, iteNS rfl ?_⟩
      have s9_11 := s10.trans s11
      have tf11 := tf9.mono s9_11
      obtain ⟨dx11, tt11, hx11, _⟩ := id tf11
      refine ⟨_, rfl, f, a.C_Tree, dx11, _, _, rfl, hx11, T.cl_Tree, T.nf_Tree_classes, tf_classes _ _, _, rfl, rfl, _, rfl, iteNS rfl ?_⟩
      refine ⟨_, rfl, f, dx11, _, rfl, hx11, f, _, _, n, rfl, tf11, gf, _, rfl, ?_⟩
      rw [upr_rep]
      refine iteF ?_
      -- the exact tree
      have s8_11 := s9.trans s9_11
      have st11 := st8.mono s8_11
      have pl11 := pl8.mono s8_11
      have hr11 := s8_11 _ _ hr8
      have p11 := p8.mono s8_11
      refine ⟨_, rfl, rl, _, rfl, .inl (SqL.of hr11), fun gv hgv => ?_⟩
      have s12 := same_new (o := .lst (rs.map V.int)) hgv
      have ngp : gv ≠ p := p11.ne hgv
      have hgv12 : upd H11 gv (.lst (rs.map V.int)) gv = some (.lst (rs.map V.int)) := upd_same
      have hgv0 := hgv
      generalize upd H11 gv (.lst (rs.map V.int)) = H12 at s12 hgv12
      have gE : Told ((ns.length : Nat) : Int) (rawT ns rs n) n := rawT_told g rm
      have gm : Told ((ns.length : Nat) : Int) (exactT ns rs n) n := gE.mend
      have hlE := gE.len
      have hlm := gm.len
      have hum : uprB (exactT ns rs n) = true := mend_upright hlE
      have esm : ∀ z ∈ exactT ns rs n, 0 ≤ z ∧ z < 64 := fun z hz => ⟨gm.lo z hz, by have := gm.hi z hz; omega⟩
      have elen : (exactT ns rs n).length ≤ 100 := by omega
      refine ⟨rfl, _, rfl, _, rfl, sp, gv, m, ns, rs, n, false, rfl, st11.mono s12, g, hgv12, rm, fun H13 x s13 hx13 tx13 => ?_⟩
      have hgv13 := s13 _ _ hgv12
      refine ⟨_, rfl, .inl ⟨rfl, _, SqL.of hgv13⟩, gv, _, _, rfl, rfl, hgv13, ?_, ?_⟩
      · rw [List.length_map]; exact Nat.lt_of_le_of_lt (show rs.length ≤ 100 by have := rm.len; omega) (by decide)
      have bg : But gv H13 (upd H13 gv (.lst (rs.map V.int ++ [.non]))) := but_new
      have s14 : Same H11 (upd H13 gv (.lst (rs.map V.int ++ [.non]))) := fun b o e => by
        rw [upd_ne (ne_of_none e hgv0)]
        exact s13 _ _ (s12 _ _ e)
      obtain ⟨dx13, tt13, hx13', htt13⟩ := id tx13
      have nxg : x ≠ gv := fun z => by rw [z, hgv13] at hx13'; cases hx13'
      have ntg : tt13 ≠ gv := fun z => by rw [z, hgv13] at htt13; cases htt13
      have tx14 : TreeAt a.C_Tree (upd H13 gv (.lst (rs.map V.int ++ [.non]))) x ((ns.length : Nat) : Int) (exactT ns rs n) := ⟨dx13, tt13, by rw [upd_ne nxg]; exact hx13', by rw [upd_ne ntg]; exact htt13⟩
      generalize upd H13 gv (.lst (rs.map V.int ++ [.non])) = H14 at s14 tx14
      have st14 := st11.mono s14
      have pl14 := pl11.mono s14
      have hr14 := s14 _ _ hr11
      have p14 := p11.mono s14
      refine ⟨_, rfl, _, rfl, p, d, rl, m, ns, rs, n, rfl, pl14, g, hr14, rm, fun H15 du s15 hdu14 hdu15 => ?_⟩
      have ndu : du ≠ p := p14.ne hdu14
      have tx15 := tx14.mono s15
      obtain ⟨dx15, tt15, hx15, _⟩ := id tx15
      -- repr(tree.told) != repr(due)
      refine ⟨_, rfl, x, dx15, _, rfl, hx15, x, _, _, rfl, tx15, fun H16 r16 s16 hr16 hr16' => ?_⟩
      refine rep_ints (SqL.of hr16') esm elen ?_
      have hdu16 := s16 _ _ hdu15
      refine ⟨_, rfl, rep_ints (SqL.of hdu16) esm elen ⟨rfl, _, rfl, iteNS rfl ?_⟩⟩
      have tx16 := tx15.mono s16
      have s14_16 := s15.trans s16
      have st16 := st14.mono s14_16
      have hr16b := s14_16 _ _ hr14
      -- tree != Tree.exact(steps, tuple(rooms))
      refine ⟨_, rfl, rfl, _, rfl, _, rfl, rl, _, rfl, .inl ⟨SqL.of hr16b, fun tp htp => ?_⟩⟩
      have s17 := same_new (o := .tup (rs.map V.int)) htp
      have htp17 : upd H16 tp (.tup (rs.map V.int)) tp = some (.tup (rs.map V.int)) := upd_same
      generalize upd H16 tp (.tup (rs.map V.int)) = H17 at s17 htp17
      refine ⟨sp, tp, m, ns, rs, n, true, rfl, st16.mono s17, g, htp17, rm, fun H18 y s18 hy18 ty18 => ?_⟩
      have s16_18 := s17.trans s18
      have tx18 := tx16.mono s16_18
      obtain ⟨dxA, ttA, hxA, _⟩ := id tx18
      obtain ⟨dyA, tyA, hyA, _⟩ := id ty18
      refine ⟨x, y, dxA, dyA, _, _, rfl, rfl, hxA, hyA, x, y, _, _, exactT ns rs n, exactT ns rs n, rfl, tx18, ty18, _, rfl, _, rfl, ?_⟩
      rw [decide_eq_true (show ((ns.length : Nat) : Int) = ((ns.length : Nat) : Int) ∧ exactT ns rs n = exactT ns rs n from ⟨rfl, rfl⟩)]
      refine iteF ?_
      refine ⟨_, rfl, x, a.C_Tree, dxA, _, _, rfl, hxA, T.cl_Tree, T.nf_Tree_classes, tf_classes _ _, _, rfl, rfl, _, rfl, iteNS rfl ?_⟩
      -- is_upright, missed, mended, len
      refine ⟨_, rfl, x, dxA, _, rfl, hxA, x, _, exactT ns rs n, n, rfl, tx18, gm, _, _, rfl, rfl, _, rfl, ?_⟩
      rw [hum, decide_eq_true rfl]
      refine iteF ?_
      refine ⟨_, rfl, x, dxA, _, rfl, hxA, tf_no _ _ (by decide +kernel) (by decide +kernel), x, _, exactT ns rs n, n, rfl, tx18, gm, fun H19 r19 s19 hr19 hr19' => ?_⟩
      have em : missL (exactT ns rs n) n = [] := upright_none hlm hum
      rw [iN_toI, (toI_nil _).mpr em] at hr19'
      refine ⟨Nat.zero_le _, fun e2 he2 => rne_ints (ns := []) (ms := []) (SqL.of (same_new he2 _ _ hr19')) (SqL.of upd_same) ⟨_, rfl, ?_⟩⟩
      rw [decide_eq_true rfl]
      refine iteF ?_
      have s20 : Same H19 (upd H19 e2 (.lst [])) := same_new he2
      generalize (upd H19 e2 (.lst [])) = H20 at s20
      have s18_20 := s19.trans s20
      have tx20 := tx18.mono s18_20
      obtain ⟨dx20, tt20, hx20, _⟩ := id tx20
      refine ⟨_, rfl, x, dx20, _, rfl, hx20, tf_no _ _ (by decide +kernel) (by decide +kernel), x, _, exactT ns rs n, n, rfl, tx20, gm, fun H21 q s21 hq21 tq21 => ?_⟩
      have tx21 := tx20.mono s21
      obtain ⟨dq21, tq21', hq21', _⟩ := id tq21
      obtain ⟨dx21, tt21, hx21, _⟩ := id tx21
      refine ⟨_, rfl, q, x, dq21, dx21, _, _, rfl, rfl, hq21', hx21, q, x, _, _, mend (exactT ns rs n) n, exactT ns rs n, rfl, tq21, tx21, _, rfl, _, rfl, ?_⟩
      rw [decide_eq_true (show ((ns.length : Nat) : Int) = ((ns.length : Nat) : Int) ∧ mend (exactT ns rs n) n = exactT ns rs n from ⟨rfl, mend_again hlE⟩)]
      refine iteF ?_
      refine ⟨_, rfl, x, dx21, _, rfl, hx21, x, _, exactT ns rs n, n, rfl, tx21, gm, fun H22 s22 => ⟨_, rfl, by omega, by omega, ?_⟩⟩
      refine ⟨_, rfl, rfl, _, rfl, iteNS rfl ?_⟩
      -- the stale tree
      have s16_22 := s16_18.trans (s18_20.trans (s21.trans s22))
      have s14_22 := s14_16.trans s16_22
      have tx22 := tx21.mono s22
      have p22 := p14.mono s14_22
      have pl22 := pl14.mono s14_22
      have hdu22 := s16_22 _ _ hdu16
      refine ⟨_, rfl, _, rfl, _, rfl, p, ((ns.length : Nat) : Int), n, rfl, p22, by omega, by omega, hn, fun H23 tl ts b23 p23 htl22 ntl htl23 gt => ?_⟩
      have hdu23 := b23 _ _ ndu hdu22
      have tx23 := tx22.but p22 b23
      have pl23 := pl22.but b23
      have enn : ((n : Nat) : Int) - 1 = ((n - 1 : Nat) : Int) := by omega
      have ltt := gt.len
      refine ⟨_, rfl, _, _, rfl, rfl, _, rfl, tl, _, rfl, SqL.of htl23, fun c1 hc1 => ?_⟩
      have sC := same_new (o := .lst (cutV (ts.map V.int) none (some (((n : Nat) : Int) - 1)))) hc1
      refine ⟨_, rfl, _, rfl, _, _, rfl, rfl, _, rfl, du, _, rfl, SqL.of (sC _ _ hdu23), fun c2 hc2 => ?_⟩
      have sD := same_new (o := .lst (cutV ((exactT ns rs n).map V.int) (some (((n : Nat) : Int) - 1)) none)) hc2
      have n12 : c1 ≠ c2 := fun z => by rw [z, ← z, upd_same] at hc2; cases hc2
      have cA : cutV (ts.map V.int) none (some (((n : Nat) : Int) - 1)) = (ts.take (n - 1)).map V.int := by
        rw [enn, cut_to _ _ (by rw [List.length_map]; omega), List.map_take]
      have cB : cutV ((exactT ns rs n).map V.int) (some (((n : Nat) : Int) - 1)) none = ((exactT ns rs n).drop (n - 1)).map V.int := by
        rw [enn, cut_from _ _ (by rw [List.length_map]; omega), List.map_drop]
      rw [cA] at sC sD hc2
      rw [cA]
      rw [cB] at sD
      rw [cB]
      refine ⟨c1, c2, _, _, rfl, rfl, by rw [upd_ne n12]; exact upd_same, upd_same, ?_, fun u hu => ?_⟩
      · rw [List.length_map, List.length_map, List.length_take, List.length_drop]
        exact Nat.le_trans (show min (n - 1) ts.length + ((exactT ns rs n).length - (n - 1)) ≤ 200 by omega) (by decide)
      have sE := same_new (o := .lst ((ts.take (n - 1)).map V.int ++ ((exactT ns rs n).drop (n - 1)).map V.int)) hu
      have hu24 : upd (upd (upd H23 c1 (.lst ((ts.take (n - 1)).map V.int))) c2 (.lst (((exactT ns rs n).drop (n - 1)).map V.int))) u (.lst ((ts.take (n - 1)).map V.int ++ ((exactT ns rs n).drop (n - 1)).map V.int)) u = some (.lst ((staleT ts (exactT ns rs n) n).map V.int)) := by
        rw [upd_same]; unfold staleT; rw [List.map_append]
      have s24 := sC.trans (sD.trans sE)
      generalize upd (upd (upd H23 c1 (.lst ((ts.take (n - 1)).map V.int))) c2 (.lst (((exactT ns rs n).drop (n - 1)).map V.int))) u (.lst ((ts.take (n - 1)).map V.int ++ ((exactT ns rs n).drop (n - 1)).map V.int)) = H24 at s24 hu24
      have gs : Told ((ns.length : Nat) : Int) (staleT ts (exactT ns rs n) n) n := stale_told gt gm
      have tx24 := tx23.mono s24
      refine ⟨_, rfl, _, rfl, p, d, u, m, ns, staleT ts (exactT ns rs n) n, n, rfl, pl23.mono s24, SqL.of hu24, gs, fun H25 y2 s25 hy25 ty25 => ?_⟩
      obtain ⟨dy25, tt25, hyy25, _⟩ := id ty25
      refine ⟨y2, dy25, _, rfl, hyy25, tf_no _ _ (by decide +kernel) (by decide +kernel), y2, _, staleT ts (exactT ns rs n) n, n, rfl, ty25, gs, fun H26 z2 s26 hz26 tz26 => ?_⟩
      have tx26 := tx24.mono (s25.trans s26)
      obtain ⟨dz26, tzz, hz26', _⟩ := id tz26
      obtain ⟨dx26, txx, hx26', _⟩ := id tx26
      refine ⟨_, rfl, z2, x, dz26, dx26, _, _, rfl, rfl, hz26', hx26', z2, x, _, _, mend (staleT ts (exactT ns rs n) n) n, exactT ns rs n, rfl, tz26, tx26, _, rfl, _, rfl, ?_⟩
      rw [decide_eq_true (show ((ns.length : Nat) : Int) = ((ns.length : Nat) : Int) ∧ mend (staleT ts (exactT ns rs n) n) n = exactT ns rs n from ⟨rfl, stale_mend gt gE⟩)]
      refine iteF ?_
      refine ⟨⟨_, _, _, _, _, _, _, _, _, _, _, _, _, rfl⟩, fun b o e => ?_⟩
      have nb : b ≠ p := ne_of_none e hp0
      have e1 := b2 b o nb (sL _ _ (s1 _ _ (s0 _ _ e)))
      have e6 := b6 b o nb (s5 _ _ (b4 b o nb (b3 b o nb e1)))
      have e22 := s14_22 _ _ (s14 _ _ (s8_11 _ _ (b8 b o nb (s7 _ _ e6))))
      exact s26 _ _ (s25 _ _ (s24 _ _ (b23 b o nb e22)))
    · rintro σ H' ⟨_, s'⟩
      exact k _
end
end Rt
set_option maxHeartbeats 8000000
namespace Rt
open PySem L2

theorem all_mk {l : PySem.W.OpenLaw} {w : World} {K : PySem.W.Frag} {h : Heap} {mg : Str → Option Value} {fa C_Steps C_Tree f_is_integer f_are_integers f_are_bounds f_Steps_init f_Steps_len f_Steps_class_of f_is_page_count f_are_told f_are_rooms f_Tree_init f_Tree_flat f_Tree_exact f_Tree_told f_Tree_is_upright f_Tree_len f_Tree_getitem f_Tree_leaf f_Tree_way f_Treemisses f_Tree_missed f_Tree_mended f_Tree_eq f_law_opened f_law_draw f_law_bounds f_law_class f_law_made_steps f_law_told f_law_pages f_law_rooms f_law_greater f_law_mended f_law_exact f_law_tree f_law pp_Tree_told pp_Tree_is_upright sm_Tree_flat sm_Tree_exact t_PAGES t_NODES : Addr} (X : K.In h) (G : h.Ns mainGlobals mg) (hfa : mg "law" = some (.ref fa))
    {od_is_integer an_is_integer od_are_integers an_are_integers od_are_bounds an_are_bounds od_Steps_init an_Steps_init od_Steps_len an_Steps_len od_Steps_class_of an_Steps_class_of od_is_page_count an_is_page_count od_are_told an_are_told od_are_rooms an_are_rooms od_Tree_init an_Tree_init od_Tree_flat an_Tree_flat od_Tree_exact an_Tree_exact od_Tree_told an_Tree_told od_Tree_is_upright an_Tree_is_upright od_Tree_len an_Tree_len od_Tree_getitem an_Tree_getitem od_Tree_leaf an_Tree_leaf od_Tree_way an_Tree_way od_Treemisses an_Treemisses od_Tree_missed an_Tree_missed od_Tree_mended an_Tree_mended od_Tree_eq an_Tree_eq od_law_opened an_law_opened od_law_draw an_law_draw od_law_bounds an_law_bounds od_law_class an_law_class od_law_made_steps an_law_made_steps od_law_told an_law_told od_law_pages an_law_pages od_law_rooms an_law_rooms od_law_greater an_law_greater od_law_mended an_law_mended od_law_exact an_law_exact od_law_tree an_law_tree od_law an_law : Option Addr} {sl_is_integer sl_are_integers sl_are_bounds sl_Steps_init sl_Steps_len sl_Steps_class_of sl_is_page_count sl_are_told sl_are_rooms sl_Tree_init sl_Tree_flat sl_Tree_exact sl_Tree_told sl_Tree_is_upright sl_Tree_len sl_Tree_getitem sl_Tree_leaf sl_Tree_way sl_Treemisses sl_Tree_missed sl_Tree_mended sl_Tree_eq sl_law_opened sl_law_draw sl_law_bounds sl_law_class sl_law_made_steps sl_law_told sl_law_pages sl_law_rooms sl_law_greater sl_law_mended sl_law_exact sl_law_tree sl_law : Array (Option Value)} {oc_is_integer kV_is_integer dc_is_integer pm_is_integer cd_is_integer ct_is_integer oc_are_integers kV_are_integers dc_are_integers pm_are_integers cd_are_integers ct_are_integers oc_are_bounds kV_are_bounds dc_are_bounds pm_are_bounds cd_are_bounds ct_are_bounds oc_Steps_init kV_Steps_init dc_Steps_init pm_Steps_init cd_Steps_init ct_Steps_init oc_Steps_len kV_Steps_len dc_Steps_len pm_Steps_len cd_Steps_len ct_Steps_len oc_Steps_class_of kV_Steps_class_of dc_Steps_class_of pm_Steps_class_of cd_Steps_class_of ct_Steps_class_of oc_is_page_count kV_is_page_count dc_is_page_count pm_is_page_count cd_is_page_count ct_is_page_count oc_are_told kV_are_told dc_are_told pm_are_told cd_are_told ct_are_told oc_are_rooms kV_are_rooms dc_are_rooms pm_are_rooms cd_are_rooms ct_are_rooms oc_Tree_init kV_Tree_init dc_Tree_init pm_Tree_init cd_Tree_init ct_Tree_init oc_Tree_flat kV_Tree_flat dc_Tree_flat pm_Tree_flat cd_Tree_flat ct_Tree_flat oc_Tree_exact kV_Tree_exact dc_Tree_exact pm_Tree_exact cd_Tree_exact ct_Tree_exact oc_Tree_told kV_Tree_told dc_Tree_told pm_Tree_told cd_Tree_told ct_Tree_told oc_Tree_is_upright kV_Tree_is_upright dc_Tree_is_upright pm_Tree_is_upright cd_Tree_is_upright ct_Tree_is_upright oc_Tree_len kV_Tree_len dc_Tree_len pm_Tree_len cd_Tree_len ct_Tree_len oc_Tree_getitem kV_Tree_getitem dc_Tree_getitem pm_Tree_getitem cd_Tree_getitem ct_Tree_getitem oc_Tree_leaf kV_Tree_leaf dc_Tree_leaf pm_Tree_leaf cd_Tree_leaf ct_Tree_leaf oc_Tree_way kV_Tree_way dc_Tree_way pm_Tree_way cd_Tree_way ct_Tree_way oc_Treemisses kV_Treemisses dc_Treemisses pm_Treemisses cd_Treemisses ct_Treemisses oc_Tree_missed kV_Tree_missed dc_Tree_missed pm_Tree_missed cd_Tree_missed ct_Tree_missed oc_Tree_mended kV_Tree_mended dc_Tree_mended pm_Tree_mended cd_Tree_mended ct_Tree_mended oc_Tree_eq kV_Tree_eq dc_Tree_eq pm_Tree_eq cd_Tree_eq ct_Tree_eq oc_law_opened kV_law_opened dc_law_opened pm_law_opened cd_law_opened ct_law_opened oc_law_draw kV_law_draw dc_law_draw pm_law_draw cd_law_draw ct_law_draw oc_law_bounds kV_law_bounds dc_law_bounds pm_law_bounds cd_law_bounds ct_law_bounds oc_law_class kV_law_class dc_law_class pm_law_class cd_law_class ct_law_class oc_law_made_steps kV_law_made_steps dc_law_made_steps pm_law_made_steps cd_law_made_steps ct_law_made_steps oc_law_told kV_law_told dc_law_told pm_law_told cd_law_told ct_law_told oc_law_pages kV_law_pages dc_law_pages pm_law_pages cd_law_pages ct_law_pages oc_law_rooms kV_law_rooms dc_law_rooms pm_law_rooms cd_law_rooms ct_law_rooms oc_law_greater kV_law_greater dc_law_greater pm_law_greater cd_law_greater ct_law_greater oc_law_mended kV_law_mended dc_law_mended pm_law_mended cd_law_mended ct_law_mended oc_law_exact kV_law_exact dc_law_exact pm_law_exact cd_law_exact ct_law_exact oc_law_tree kV_law_tree dc_law_tree pm_law_tree cd_law_tree ct_law_tree oc_law kV_law dc_law pm_law cd_law ct_law : Value} {tk_GREATEST_ROOM tk_MOST_BOUNDS tk_MOST_CLASSES : Tok}
    {u0_PAGES u1_PAGES u2_PAGES u3_PAGES u4_PAGES : Tok} {dt_PAGES : Option Addr} {nt_PAGES : Nat} {st_PAGES : Array (Option Value)}
    {u0_NODES u1_NODES u2_NODES u3_NODES u4_NODES : Tok} {dt_NODES : Option Addr} {nt_NODES : Nat} {st_NODES : Array (Option Value)}
    {rest_Tree_told rest_Tree_is_upright rest_Tree_flat rest_Tree_exact : List Value}
    (aC_Steps : PySem.W.nsIn K mainGlobals "Steps" = some (some (.ref C_Steps)))
    (aC_Tree : PySem.W.nsIn K mainGlobals "Tree" = some (some (.ref C_Tree)))
    (a_is_integer : PySem.W.nsIn K mainGlobals "is_integer" = some (some (.ref f_is_integer)))
    (l_is_integer : K.lookup f_is_integer = some ⟨oc_is_integer, od_is_integer, .func (PySem.W.fnOf "is_integer" "is_integer" (defArgs s_is_integer) (defBody s_is_integer) (defScope s_is_integer) .none kV_is_integer dc_is_integer pm_is_integer an_is_integer cd_is_integer ct_is_integer), sl_is_integer⟩)
    (c_is_integer : PySem.W.codeIn K cd_is_integer "is_integer" = true)
    (k_is_integer : PySem.W.keepIn K (.ref f_is_integer) = true)
    (a_are_integers : PySem.W.nsIn K mainGlobals "are_integers" = some (some (.ref f_are_integers)))
    (l_are_integers : K.lookup f_are_integers = some ⟨oc_are_integers, od_are_integers, .func (PySem.W.fnOf "are_integers" "are_integers" (defArgs s_are_integers) (defBody s_are_integers) (defScope s_are_integers) .none kV_are_integers dc_are_integers pm_are_integers an_are_integers cd_are_integers ct_are_integers), sl_are_integers⟩)
    (c_are_integers : PySem.W.codeIn K cd_are_integers "are_integers" = true)
    (k_are_integers : PySem.W.keepIn K (.ref f_are_integers) = true)
    (a_are_bounds : PySem.W.nsIn K mainGlobals "are_bounds" = some (some (.ref f_are_bounds)))
    (l_are_bounds : K.lookup f_are_bounds = some ⟨oc_are_bounds, od_are_bounds, .func (PySem.W.fnOf "are_bounds" "are_bounds" (defArgs s_are_bounds) (defBody s_are_bounds) (defScope s_are_bounds) .none kV_are_bounds dc_are_bounds pm_are_bounds an_are_bounds cd_are_bounds ct_are_bounds), sl_are_bounds⟩)
    (c_are_bounds : PySem.W.codeIn K cd_are_bounds "are_bounds" = true)
    (k_are_bounds : PySem.W.keepIn K (.ref f_are_bounds) = true)
    (a_Steps_init : PySem.W.findIn K (.ref C_Steps) "__init__" = some (some (.ref f_Steps_init)))
    (i_Steps_init : PySem.W.isFn K (.ref f_Steps_init) = true)
    (l_Steps_init : K.lookup f_Steps_init = some ⟨oc_Steps_init, od_Steps_init, .func (PySem.W.fnOf "__init__" "Steps.__init__" (defArgs s_Steps_init) (defBody s_Steps_init) (defScope s_Steps_init) .none kV_Steps_init dc_Steps_init pm_Steps_init an_Steps_init cd_Steps_init ct_Steps_init), sl_Steps_init⟩)
    (c_Steps_init : PySem.W.codeIn K cd_Steps_init "Steps.__init__" = true)
    (k_Steps_init : PySem.W.keepIn K (.ref f_Steps_init) = true)
    (a_Steps_len : PySem.W.findIn K (.ref C_Steps) "__len__" = some (some (.ref f_Steps_len)))
    (i_Steps_len : PySem.W.isFn K (.ref f_Steps_len) = true)
    (l_Steps_len : K.lookup f_Steps_len = some ⟨oc_Steps_len, od_Steps_len, .func (PySem.W.fnOf "__len__" "Steps.__len__" (defArgs s_Steps_len) (defBody s_Steps_len) (defScope s_Steps_len) .none kV_Steps_len dc_Steps_len pm_Steps_len an_Steps_len cd_Steps_len ct_Steps_len), sl_Steps_len⟩)
    (c_Steps_len : PySem.W.codeIn K cd_Steps_len "Steps.__len__" = true)
    (k_Steps_len : PySem.W.keepIn K (.ref f_Steps_len) = true)
    (a_Steps_class_of : PySem.W.findIn K (.ref C_Steps) "class_of" = some (some (.ref f_Steps_class_of)))
    (i_Steps_class_of : PySem.W.isFn K (.ref f_Steps_class_of) = true)
    (l_Steps_class_of : K.lookup f_Steps_class_of = some ⟨oc_Steps_class_of, od_Steps_class_of, .func (PySem.W.fnOf "class_of" "Steps.class_of" (defArgs s_Steps_class_of) (defBody s_Steps_class_of) (defScope s_Steps_class_of) .none kV_Steps_class_of dc_Steps_class_of pm_Steps_class_of an_Steps_class_of cd_Steps_class_of ct_Steps_class_of), sl_Steps_class_of⟩)
    (c_Steps_class_of : PySem.W.codeIn K cd_Steps_class_of "Steps.class_of" = true)
    (k_Steps_class_of : PySem.W.keepIn K (.ref f_Steps_class_of) = true)
    (a_is_page_count : PySem.W.nsIn K mainGlobals "is_page_count" = some (some (.ref f_is_page_count)))
    (l_is_page_count : K.lookup f_is_page_count = some ⟨oc_is_page_count, od_is_page_count, .func (PySem.W.fnOf "is_page_count" "is_page_count" (defArgs s_is_page_count) (defBody s_is_page_count) (defScope s_is_page_count) .none kV_is_page_count dc_is_page_count pm_is_page_count an_is_page_count cd_is_page_count ct_is_page_count), sl_is_page_count⟩)
    (c_is_page_count : PySem.W.codeIn K cd_is_page_count "is_page_count" = true)
    (k_is_page_count : PySem.W.keepIn K (.ref f_is_page_count) = true)
    (a_are_told : PySem.W.nsIn K mainGlobals "are_told" = some (some (.ref f_are_told)))
    (l_are_told : K.lookup f_are_told = some ⟨oc_are_told, od_are_told, .func (PySem.W.fnOf "are_told" "are_told" (defArgs s_are_told) (defBody s_are_told) (defScope s_are_told) .none kV_are_told dc_are_told pm_are_told an_are_told cd_are_told ct_are_told), sl_are_told⟩)
    (c_are_told : PySem.W.codeIn K cd_are_told "are_told" = true)
    (k_are_told : PySem.W.keepIn K (.ref f_are_told) = true)
    (a_are_rooms : PySem.W.nsIn K mainGlobals "are_rooms" = some (some (.ref f_are_rooms)))
    (l_are_rooms : K.lookup f_are_rooms = some ⟨oc_are_rooms, od_are_rooms, .func (PySem.W.fnOf "are_rooms" "are_rooms" (defArgs s_are_rooms) (defBody s_are_rooms) (defScope s_are_rooms) .none kV_are_rooms dc_are_rooms pm_are_rooms an_are_rooms cd_are_rooms ct_are_rooms), sl_are_rooms⟩)
    (c_are_rooms : PySem.W.codeIn K cd_are_rooms "are_rooms" = true)
    (k_are_rooms : PySem.W.keepIn K (.ref f_are_rooms) = true)
    (a_Tree_init : PySem.W.findIn K (.ref C_Tree) "__init__" = some (some (.ref f_Tree_init)))
    (i_Tree_init : PySem.W.isFn K (.ref f_Tree_init) = true)
    (l_Tree_init : K.lookup f_Tree_init = some ⟨oc_Tree_init, od_Tree_init, .func (PySem.W.fnOf "__init__" "Tree.__init__" (defArgs s_Tree_init) (defBody s_Tree_init) (defScope s_Tree_init) .none kV_Tree_init dc_Tree_init pm_Tree_init an_Tree_init cd_Tree_init ct_Tree_init), sl_Tree_init⟩)
    (c_Tree_init : PySem.W.codeIn K cd_Tree_init "Tree.__init__" = true)
    (k_Tree_init : PySem.W.keepIn K (.ref f_Tree_init) = true)
    (pa_Tree_flat : PySem.W.findCls K (.ref C_Tree) (.type "type") "flat" = some (.get (.builtin "staticmethod.__get__") (.ref sm_Tree_flat) .none (.ref C_Tree)))
    (pr_Tree_flat : PySem.W.recIn K sm_Tree_flat "staticmethod" = some (.ref f_Tree_flat :: rest_Tree_flat))
    (l_Tree_flat : K.lookup f_Tree_flat = some ⟨oc_Tree_flat, od_Tree_flat, .func (PySem.W.fnOf "flat" "Tree.flat" (defArgs s_Tree_flat) (defBody s_Tree_flat) (defScope s_Tree_flat) .none kV_Tree_flat dc_Tree_flat pm_Tree_flat an_Tree_flat cd_Tree_flat ct_Tree_flat), sl_Tree_flat⟩)
    (c_Tree_flat : PySem.W.codeIn K cd_Tree_flat "Tree.flat" = true)
    (k_Tree_flat : PySem.W.keepIn K (.ref f_Tree_flat) = true)
    (pa_Tree_exact : PySem.W.findCls K (.ref C_Tree) (.type "type") "exact" = some (.get (.builtin "staticmethod.__get__") (.ref sm_Tree_exact) .none (.ref C_Tree)))
    (pr_Tree_exact : PySem.W.recIn K sm_Tree_exact "staticmethod" = some (.ref f_Tree_exact :: rest_Tree_exact))
    (l_Tree_exact : K.lookup f_Tree_exact = some ⟨oc_Tree_exact, od_Tree_exact, .func (PySem.W.fnOf "exact" "Tree.exact" (defArgs s_Tree_exact) (defBody s_Tree_exact) (defScope s_Tree_exact) .none kV_Tree_exact dc_Tree_exact pm_Tree_exact an_Tree_exact cd_Tree_exact ct_Tree_exact), sl_Tree_exact⟩)
    (c_Tree_exact : PySem.W.codeIn K cd_Tree_exact "Tree.exact" = true)
    (k_Tree_exact : PySem.W.keepIn K (.ref f_Tree_exact) = true)
    (pa_Tree_told : PySem.W.findIn K (.ref C_Tree) "told" = some (some (.ref pp_Tree_told)))
    (pt_Tree_told : PySem.W.specialIn K (.ref pp_Tree_told) "__get__" = some (some (.builtin "property.__get__")))
    (pk_Tree_told : PySem.W.takesIn K (.ref pp_Tree_told) = some true)
    (pr_Tree_told : PySem.W.recIn K pp_Tree_told "property" = some (.ref f_Tree_told :: rest_Tree_told))
    (l_Tree_told : K.lookup f_Tree_told = some ⟨oc_Tree_told, od_Tree_told, .func (PySem.W.fnOf "told" "Tree.told" (defArgs s_Tree_told) (defBody s_Tree_told) (defScope s_Tree_told) .none kV_Tree_told dc_Tree_told pm_Tree_told an_Tree_told cd_Tree_told ct_Tree_told), sl_Tree_told⟩)
    (c_Tree_told : PySem.W.codeIn K cd_Tree_told "Tree.told" = true)
    (k_Tree_told : PySem.W.keepIn K (.ref f_Tree_told) = true)
    (pa_Tree_is_upright : PySem.W.findIn K (.ref C_Tree) "is_upright" = some (some (.ref pp_Tree_is_upright)))
    (pt_Tree_is_upright : PySem.W.specialIn K (.ref pp_Tree_is_upright) "__get__" = some (some (.builtin "property.__get__")))
    (pk_Tree_is_upright : PySem.W.takesIn K (.ref pp_Tree_is_upright) = some true)
    (pr_Tree_is_upright : PySem.W.recIn K pp_Tree_is_upright "property" = some (.ref f_Tree_is_upright :: rest_Tree_is_upright))
    (l_Tree_is_upright : K.lookup f_Tree_is_upright = some ⟨oc_Tree_is_upright, od_Tree_is_upright, .func (PySem.W.fnOf "is_upright" "Tree.is_upright" (defArgs s_Tree_is_upright) (defBody s_Tree_is_upright) (defScope s_Tree_is_upright) .none kV_Tree_is_upright dc_Tree_is_upright pm_Tree_is_upright an_Tree_is_upright cd_Tree_is_upright ct_Tree_is_upright), sl_Tree_is_upright⟩)
    (c_Tree_is_upright : PySem.W.codeIn K cd_Tree_is_upright "Tree.is_upright" = true)
    (k_Tree_is_upright : PySem.W.keepIn K (.ref f_Tree_is_upright) = true)
    (a_Tree_len : PySem.W.findIn K (.ref C_Tree) "__len__" = some (some (.ref f_Tree_len)))
    (i_Tree_len : PySem.W.isFn K (.ref f_Tree_len) = true)
    (l_Tree_len : K.lookup f_Tree_len = some ⟨oc_Tree_len, od_Tree_len, .func (PySem.W.fnOf "__len__" "Tree.__len__" (defArgs s_Tree_len) (defBody s_Tree_len) (defScope s_Tree_len) .none kV_Tree_len dc_Tree_len pm_Tree_len an_Tree_len cd_Tree_len ct_Tree_len), sl_Tree_len⟩)
    (c_Tree_len : PySem.W.codeIn K cd_Tree_len "Tree.__len__" = true)
    (k_Tree_len : PySem.W.keepIn K (.ref f_Tree_len) = true)
    (a_Tree_getitem : PySem.W.findIn K (.ref C_Tree) "__getitem__" = some (some (.ref f_Tree_getitem)))
    (i_Tree_getitem : PySem.W.isFn K (.ref f_Tree_getitem) = true)
    (l_Tree_getitem : K.lookup f_Tree_getitem = some ⟨oc_Tree_getitem, od_Tree_getitem, .func (PySem.W.fnOf "__getitem__" "Tree.__getitem__" (defArgs s_Tree_getitem) (defBody s_Tree_getitem) (defScope s_Tree_getitem) .none kV_Tree_getitem dc_Tree_getitem pm_Tree_getitem an_Tree_getitem cd_Tree_getitem ct_Tree_getitem), sl_Tree_getitem⟩)
    (c_Tree_getitem : PySem.W.codeIn K cd_Tree_getitem "Tree.__getitem__" = true)
    (k_Tree_getitem : PySem.W.keepIn K (.ref f_Tree_getitem) = true)
    (a_Tree_leaf : PySem.W.findIn K (.ref C_Tree) "leaf" = some (some (.ref f_Tree_leaf)))
    (i_Tree_leaf : PySem.W.isFn K (.ref f_Tree_leaf) = true)
    (l_Tree_leaf : K.lookup f_Tree_leaf = some ⟨oc_Tree_leaf, od_Tree_leaf, .func (PySem.W.fnOf "leaf" "Tree.leaf" (defArgs s_Tree_leaf) (defBody s_Tree_leaf) (defScope s_Tree_leaf) .none kV_Tree_leaf dc_Tree_leaf pm_Tree_leaf an_Tree_leaf cd_Tree_leaf ct_Tree_leaf), sl_Tree_leaf⟩)
    (c_Tree_leaf : PySem.W.codeIn K cd_Tree_leaf "Tree.leaf" = true)
    (k_Tree_leaf : PySem.W.keepIn K (.ref f_Tree_leaf) = true)
    (a_Tree_way : PySem.W.findIn K (.ref C_Tree) "way" = some (some (.ref f_Tree_way)))
    (i_Tree_way : PySem.W.isFn K (.ref f_Tree_way) = true)
    (l_Tree_way : K.lookup f_Tree_way = some ⟨oc_Tree_way, od_Tree_way, .func (PySem.W.fnOf "way" "Tree.way" (defArgs s_Tree_way) (defBody s_Tree_way) (defScope s_Tree_way) .none kV_Tree_way dc_Tree_way pm_Tree_way an_Tree_way cd_Tree_way ct_Tree_way), sl_Tree_way⟩)
    (c_Tree_way : PySem.W.codeIn K cd_Tree_way "Tree.way" = true)
    (k_Tree_way : PySem.W.keepIn K (.ref f_Tree_way) = true)
    (a_Treemisses : PySem.W.findIn K (.ref C_Tree) "_misses" = some (some (.ref f_Treemisses)))
    (i_Treemisses : PySem.W.isFn K (.ref f_Treemisses) = true)
    (l_Treemisses : K.lookup f_Treemisses = some ⟨oc_Treemisses, od_Treemisses, .func (PySem.W.fnOf "_misses" "Tree._misses" (defArgs s_Treemisses) (defBody s_Treemisses) (defScope s_Treemisses) .none kV_Treemisses dc_Treemisses pm_Treemisses an_Treemisses cd_Treemisses ct_Treemisses), sl_Treemisses⟩)
    (c_Treemisses : PySem.W.codeIn K cd_Treemisses "Tree._misses" = true)
    (k_Treemisses : PySem.W.keepIn K (.ref f_Treemisses) = true)
    (a_Tree_missed : PySem.W.findIn K (.ref C_Tree) "missed" = some (some (.ref f_Tree_missed)))
    (i_Tree_missed : PySem.W.isFn K (.ref f_Tree_missed) = true)
    (l_Tree_missed : K.lookup f_Tree_missed = some ⟨oc_Tree_missed, od_Tree_missed, .func (PySem.W.fnOf "missed" "Tree.missed" (defArgs s_Tree_missed) (defBody s_Tree_missed) (defScope s_Tree_missed) .none kV_Tree_missed dc_Tree_missed pm_Tree_missed an_Tree_missed cd_Tree_missed ct_Tree_missed), sl_Tree_missed⟩)
    (c_Tree_missed : PySem.W.codeIn K cd_Tree_missed "Tree.missed" = true)
    (k_Tree_missed : PySem.W.keepIn K (.ref f_Tree_missed) = true)
    (a_Tree_mended : PySem.W.findIn K (.ref C_Tree) "mended" = some (some (.ref f_Tree_mended)))
    (i_Tree_mended : PySem.W.isFn K (.ref f_Tree_mended) = true)
    (l_Tree_mended : K.lookup f_Tree_mended = some ⟨oc_Tree_mended, od_Tree_mended, .func (PySem.W.fnOf "mended" "Tree.mended" (defArgs s_Tree_mended) (defBody s_Tree_mended) (defScope s_Tree_mended) .none kV_Tree_mended dc_Tree_mended pm_Tree_mended an_Tree_mended cd_Tree_mended ct_Tree_mended), sl_Tree_mended⟩)
    (c_Tree_mended : PySem.W.codeIn K cd_Tree_mended "Tree.mended" = true)
    (k_Tree_mended : PySem.W.keepIn K (.ref f_Tree_mended) = true)
    (a_Tree_eq : PySem.W.findIn K (.ref C_Tree) "__eq__" = some (some (.ref f_Tree_eq)))
    (i_Tree_eq : PySem.W.isFn K (.ref f_Tree_eq) = true)
    (l_Tree_eq : K.lookup f_Tree_eq = some ⟨oc_Tree_eq, od_Tree_eq, .func (PySem.W.fnOf "__eq__" "Tree.__eq__" (defArgs s_Tree_eq) (defBody s_Tree_eq) (defScope s_Tree_eq) .none kV_Tree_eq dc_Tree_eq pm_Tree_eq an_Tree_eq cd_Tree_eq ct_Tree_eq), sl_Tree_eq⟩)
    (c_Tree_eq : PySem.W.codeIn K cd_Tree_eq "Tree.__eq__" = true)
    (k_Tree_eq : PySem.W.keepIn K (.ref f_Tree_eq) = true)
    (a_law_opened : PySem.W.nsIn K mainGlobals "_law_opened" = some (some (.ref f_law_opened)))
    (l_law_opened : K.lookup f_law_opened = some ⟨oc_law_opened, od_law_opened, .func (PySem.W.fnOf "_law_opened" "_law_opened" (defArgs s_law_opened) (defBody s_law_opened) (defScope s_law_opened) .none kV_law_opened dc_law_opened pm_law_opened an_law_opened cd_law_opened ct_law_opened), sl_law_opened⟩)
    (c_law_opened : PySem.W.codeIn K cd_law_opened "_law_opened" = true)
    (k_law_opened : PySem.W.keepIn K (.ref f_law_opened) = true)
    (a_law_draw : PySem.W.nsIn K mainGlobals "_law_draw" = some (some (.ref f_law_draw)))
    (l_law_draw : K.lookup f_law_draw = some ⟨oc_law_draw, od_law_draw, .func (PySem.W.fnOf "_law_draw" "_law_draw" (defArgs s_law_draw) (defBody s_law_draw) (defScope s_law_draw) .none kV_law_draw dc_law_draw pm_law_draw an_law_draw cd_law_draw ct_law_draw), sl_law_draw⟩)
    (c_law_draw : PySem.W.codeIn K cd_law_draw "_law_draw" = true)
    (k_law_draw : PySem.W.keepIn K (.ref f_law_draw) = true)
    (a_law_bounds : PySem.W.nsIn K mainGlobals "_law_bounds" = some (some (.ref f_law_bounds)))
    (l_law_bounds : K.lookup f_law_bounds = some ⟨oc_law_bounds, od_law_bounds, .func (PySem.W.fnOf "_law_bounds" "_law_bounds" (defArgs s_law_bounds) (defBody s_law_bounds) (defScope s_law_bounds) .none kV_law_bounds dc_law_bounds pm_law_bounds an_law_bounds cd_law_bounds ct_law_bounds), sl_law_bounds⟩)
    (c_law_bounds : PySem.W.codeIn K cd_law_bounds "_law_bounds" = true)
    (k_law_bounds : PySem.W.keepIn K (.ref f_law_bounds) = true)
    (a_law_class : PySem.W.nsIn K mainGlobals "_law_class" = some (some (.ref f_law_class)))
    (l_law_class : K.lookup f_law_class = some ⟨oc_law_class, od_law_class, .func (PySem.W.fnOf "_law_class" "_law_class" (defArgs s_law_class) (defBody s_law_class) (defScope s_law_class) .none kV_law_class dc_law_class pm_law_class an_law_class cd_law_class ct_law_class), sl_law_class⟩)
    (c_law_class : PySem.W.codeIn K cd_law_class "_law_class" = true)
    (k_law_class : PySem.W.keepIn K (.ref f_law_class) = true)
    (a_law_made_steps : PySem.W.nsIn K mainGlobals "_law_made_steps" = some (some (.ref f_law_made_steps)))
    (l_law_made_steps : K.lookup f_law_made_steps = some ⟨oc_law_made_steps, od_law_made_steps, .func (PySem.W.fnOf "_law_made_steps" "_law_made_steps" (defArgs s_law_made_steps) (defBody s_law_made_steps) (defScope s_law_made_steps) .none kV_law_made_steps dc_law_made_steps pm_law_made_steps an_law_made_steps cd_law_made_steps ct_law_made_steps), sl_law_made_steps⟩)
    (c_law_made_steps : PySem.W.codeIn K cd_law_made_steps "_law_made_steps" = true)
    (k_law_made_steps : PySem.W.keepIn K (.ref f_law_made_steps) = true)
    (a_law_told : PySem.W.nsIn K mainGlobals "_law_told" = some (some (.ref f_law_told)))
    (l_law_told : K.lookup f_law_told = some ⟨oc_law_told, od_law_told, .func (PySem.W.fnOf "_law_told" "_law_told" (defArgs s_law_told) (defBody s_law_told) (defScope s_law_told) .none kV_law_told dc_law_told pm_law_told an_law_told cd_law_told ct_law_told), sl_law_told⟩)
    (c_law_told : PySem.W.codeIn K cd_law_told "_law_told" = true)
    (k_law_told : PySem.W.keepIn K (.ref f_law_told) = true)
    (a_law_pages : PySem.W.nsIn K mainGlobals "_law_pages" = some (some (.ref f_law_pages)))
    (l_law_pages : K.lookup f_law_pages = some ⟨oc_law_pages, od_law_pages, .func (PySem.W.fnOf "_law_pages" "_law_pages" (defArgs s_law_pages) (defBody s_law_pages) (defScope s_law_pages) .none kV_law_pages dc_law_pages pm_law_pages an_law_pages cd_law_pages ct_law_pages), sl_law_pages⟩)
    (c_law_pages : PySem.W.codeIn K cd_law_pages "_law_pages" = true)
    (k_law_pages : PySem.W.keepIn K (.ref f_law_pages) = true)
    (a_law_rooms : PySem.W.nsIn K mainGlobals "_law_rooms" = some (some (.ref f_law_rooms)))
    (l_law_rooms : K.lookup f_law_rooms = some ⟨oc_law_rooms, od_law_rooms, .func (PySem.W.fnOf "_law_rooms" "_law_rooms" (defArgs s_law_rooms) (defBody s_law_rooms) (defScope s_law_rooms) .none kV_law_rooms dc_law_rooms pm_law_rooms an_law_rooms cd_law_rooms ct_law_rooms), sl_law_rooms⟩)
    (c_law_rooms : PySem.W.codeIn K cd_law_rooms "_law_rooms" = true)
    (k_law_rooms : PySem.W.keepIn K (.ref f_law_rooms) = true)
    (a_law_greater : PySem.W.nsIn K mainGlobals "_law_greater" = some (some (.ref f_law_greater)))
    (l_law_greater : K.lookup f_law_greater = some ⟨oc_law_greater, od_law_greater, .func (PySem.W.fnOf "_law_greater" "_law_greater" (defArgs s_law_greater) (defBody s_law_greater) (defScope s_law_greater) .none kV_law_greater dc_law_greater pm_law_greater an_law_greater cd_law_greater ct_law_greater), sl_law_greater⟩)
    (c_law_greater : PySem.W.codeIn K cd_law_greater "_law_greater" = true)
    (k_law_greater : PySem.W.keepIn K (.ref f_law_greater) = true)
    (a_law_mended : PySem.W.nsIn K mainGlobals "_law_mended" = some (some (.ref f_law_mended)))
    (l_law_mended : K.lookup f_law_mended = some ⟨oc_law_mended, od_law_mended, .func (PySem.W.fnOf "_law_mended" "_law_mended" (defArgs s_law_mended) (defBody s_law_mended) (defScope s_law_mended) .none kV_law_mended dc_law_mended pm_law_mended an_law_mended cd_law_mended ct_law_mended), sl_law_mended⟩)
    (c_law_mended : PySem.W.codeIn K cd_law_mended "_law_mended" = true)
    (k_law_mended : PySem.W.keepIn K (.ref f_law_mended) = true)
    (a_law_exact : PySem.W.nsIn K mainGlobals "_law_exact" = some (some (.ref f_law_exact)))
    (l_law_exact : K.lookup f_law_exact = some ⟨oc_law_exact, od_law_exact, .func (PySem.W.fnOf "_law_exact" "_law_exact" (defArgs s_law_exact) (defBody s_law_exact) (defScope s_law_exact) .none kV_law_exact dc_law_exact pm_law_exact an_law_exact cd_law_exact ct_law_exact), sl_law_exact⟩)
    (c_law_exact : PySem.W.codeIn K cd_law_exact "_law_exact" = true)
    (k_law_exact : PySem.W.keepIn K (.ref f_law_exact) = true)
    (a_law_tree : PySem.W.nsIn K mainGlobals "_law_tree" = some (some (.ref f_law_tree)))
    (l_law_tree : K.lookup f_law_tree = some ⟨oc_law_tree, od_law_tree, .func (PySem.W.fnOf "_law_tree" "_law_tree" (defArgs s_law_tree) (defBody s_law_tree) (defScope s_law_tree) .none kV_law_tree dc_law_tree pm_law_tree an_law_tree cd_law_tree ct_law_tree), sl_law_tree⟩)
    (c_law_tree : PySem.W.codeIn K cd_law_tree "_law_tree" = true)
    (k_law_tree : PySem.W.keepIn K (.ref f_law_tree) = true)
    (a_law : PySem.W.nsIn K mainGlobals "law" = some (some (.ref f_law)))
    (l_law : K.lookup f_law = some ⟨oc_law, od_law, .func (PySem.W.fnOf "law" "law" (defArgs s_law) (defBody s_law) (defScope s_law) .none kV_law dc_law pm_law an_law cd_law ct_law), sl_law⟩)
    (c_law : PySem.W.codeIn K cd_law "law" = true)
    (k_law : PySem.W.keepIn K (.ref f_law) = true)
    (pg_Steps : PySem.W.plainGet K C_Steps Str.empty = true)
    (hd_Steps : PySem.W.hasDictIn K C_Steps = true)
    (po_Steps : PySem.W.plainOver K C_Steps = true)
    (sa_Steps : PySem.W.findIn K (.ref C_Steps) "__setattr__" = some (some (.builtin "object.__setattr__")))
    (mk_Steps : PySem.W.makesIn K C_Steps = true)
    (kc_Steps : PySem.W.keepIn K (.ref C_Steps) = true)
    (nf_Steps_most : PySem.W.findIn K (.ref C_Steps) "most" = some none)
    (nf_Steps_bounds : PySem.W.findIn K (.ref C_Steps) "_bounds" = some none)
    (hm_Steps : PySem.W.mroIn K C_Steps (.type "object") = some true)
    (ha_Steps : PySem.W.findIn K (.ref C_Steps) "__class__" = some (some (.builtin "object.__class__")))
    (hn_Steps : PySem.W.specialIn K (.builtin "object.__class__") "__get__" = some (some (.builtin "getset_descriptor.__get__")))
    (ht_Steps : PySem.W.takesIn K (.builtin "object.__class__") = some true)
    (pg_Tree : PySem.W.plainGet K C_Tree Str.empty = true)
    (hd_Tree : PySem.W.hasDictIn K C_Tree = true)
    (po_Tree : PySem.W.plainOver K C_Tree = true)
    (sa_Tree : PySem.W.findIn K (.ref C_Tree) "__setattr__" = some (some (.builtin "object.__setattr__")))
    (mk_Tree : PySem.W.makesIn K C_Tree = true)
    (kc_Tree : PySem.W.keepIn K (.ref C_Tree) = true)
    (nf_Tree_classes : PySem.W.findIn K (.ref C_Tree) "classes" = some none)
    (nf_Tree_told : PySem.W.findIn K (.ref C_Tree) "_told" = some none)
    (sty_Tree : PySem.W.typeIn K (.ref C_Tree) = some (.type "type"))
    (srd_Tree : PySem.W.readsIn K C_Tree (.type "type") = true)
    (sga_Tree : PySem.W.specialIn K (.ref C_Tree) "__getattribute__" = some (some (.builtin "type.__getattribute__")))
    (fn_Tree_getitem : PySem.W.fnIn K f_Tree_getitem = true)
    (ne_Tree : PySem.W.findIn K (.ref C_Tree) "__ne__" = some (some (.builtin "object.__ne__")))
    (hm_Tree : PySem.W.mroIn K C_Tree (.type "object") = some true)
    (ha_Tree : PySem.W.findIn K (.ref C_Tree) "__class__" = some (some (.builtin "object.__class__")))
    (hn_Tree : PySem.W.specialIn K (.builtin "object.__class__") "__get__" = some (some (.builtin "getset_descriptor.__get__")))
    (ht_Tree : PySem.W.takesIn K (.builtin "object.__class__") = some true)
    (cc_GREATEST_ROOM : PySem.W.nsIn K mainGlobals "GREATEST_ROOM" = some (some (.int 1000 tk_GREATEST_ROOM)))
    (cc_MOST_BOUNDS : PySem.W.nsIn K mainGlobals "MOST_BOUNDS" = some (some (.int 8 tk_MOST_BOUNDS)))
    (cc_MOST_CLASSES : PySem.W.nsIn K mainGlobals "MOST_CLASSES" = some (some (.int 8 tk_MOST_CLASSES)))
    (gt_PAGES : PySem.W.nsIn K mainGlobals "PAGES" = some (some (.ref t_PAGES)))
    (lt_PAGES : K.lookup t_PAGES = some ⟨.type "tuple", dt_PAGES, .seq #[.int 2 u0_PAGES, .int 4 u1_PAGES, .int 8 u2_PAGES, .int 16 u3_PAGES, .int 32 u4_PAGES] nt_PAGES, st_PAGES⟩)
    (gt_NODES : PySem.W.nsIn K mainGlobals "NODES" = some (some (.ref t_NODES)))
    (lt_NODES : K.lookup t_NODES = some ⟨.type "tuple", dt_NODES, .seq #[.int 3 u0_NODES, .int 7 u1_NODES, .int 15 u2_NODES, .int 31 u3_NODES, .int 63 u4_NODES] nt_NODES, st_NODES⟩)
    (z_isinstance : PySem.W.nsIn K mainGlobals "isinstance" = some none)
    (z_int : PySem.W.nsIn K mainGlobals "int" = some none)
    (z_bool : PySem.W.nsIn K mainGlobals "bool" = some none)
    (z_list : PySem.W.nsIn K mainGlobals "list" = some none)
    (z_tuple : PySem.W.nsIn K mainGlobals "tuple" = some none)
    (z_len : PySem.W.nsIn K mainGlobals "len" = some none)
    (z_range : PySem.W.nsIn K mainGlobals "range" = some none)
    (z_max : PySem.W.nsIn K mainGlobals "max" = some none)
    (z_min : PySem.W.nsIn K mainGlobals "min" = some none)
    (z_sorted : PySem.W.nsIn K mainGlobals "sorted" = some none)
    (z_repr : PySem.W.nsIn K mainGlobals "repr" = some none)
    : ∃ fd : FuncData, (∀ (s : Shared) (v : Value), BindsTo s fd ⟨[v], []⟩ [("_law_script", v)]) ∧ ∀ base : Heap, K.In base → base.Ns mainGlobals mg → FnOkG l.prog w K mg base CX0 12 fa fd ["_law_script"] (sp_law K) := by
  have e := hfa.symm.trans (PySem.W.mg_of X G a_law)
  cases e
  have F_is_integer := fun_mk (st := s_is_integer) l_is_integer c_is_integer k_is_integer
  have b_is_integer := F_is_integer.binds (ps := ["value", "least", "greatest"]) fun _ _ _ _ _ _ us hl => match us, hl with | [_, _, _], _ => rfl
  have F_are_integers := fun_mk (st := s_are_integers) l_are_integers c_are_integers k_are_integers
  have b_are_integers := F_are_integers.binds (ps := ["value", "least", "greatest"]) fun _ _ _ _ _ _ us hl => match us, hl with | [_, _, _], _ => rfl
  have F_are_bounds := fun_mk (st := s_are_bounds) l_are_bounds c_are_bounds k_are_bounds
  have b_are_bounds := F_are_bounds.binds (ps := ["value", "most"]) fun _ _ _ _ _ _ us hl => match us, hl with | [_, _], _ => rfl
  have F_Steps_init := fun_mk (st := s_Steps_init) l_Steps_init c_Steps_init k_Steps_init
  have b_Steps_init := F_Steps_init.binds (ps := ["self", "most", "bounds"]) fun _ _ _ _ _ _ us hl => match us, hl with | [_, _, _], _ => rfl
  have F_Steps_len := fun_mk (st := s_Steps_len) l_Steps_len c_Steps_len k_Steps_len
  have b_Steps_len := F_Steps_len.binds (ps := ["self"]) fun _ _ _ _ _ _ us hl => match us, hl with | [_], _ => rfl
  have F_Steps_class_of := fun_mk (st := s_Steps_class_of) l_Steps_class_of c_Steps_class_of k_Steps_class_of
  have b_Steps_class_of := F_Steps_class_of.binds (ps := ["self", "room"]) fun _ _ _ _ _ _ us hl => match us, hl with | [_, _], _ => rfl
  have F_is_page_count := fun_mk (st := s_is_page_count) l_is_page_count c_is_page_count k_is_page_count
  have b_is_page_count := F_is_page_count.binds (ps := ["value"]) fun _ _ _ _ _ _ us hl => match us, hl with | [_], _ => rfl
  have F_are_told := fun_mk (st := s_are_told) l_are_told c_are_told k_are_told
  have b_are_told := F_are_told.binds (ps := ["value", "classes"]) fun _ _ _ _ _ _ us hl => match us, hl with | [_, _], _ => rfl
  have F_are_rooms := fun_mk (st := s_are_rooms) l_are_rooms c_are_rooms k_are_rooms
  have b_are_rooms := F_are_rooms.binds (ps := ["value", "most"]) fun _ _ _ _ _ _ us hl => match us, hl with | [_, _], _ => rfl
  have F_Tree_init := fun_mk (st := s_Tree_init) l_Tree_init c_Tree_init k_Tree_init
  have b_Tree_init := F_Tree_init.binds (ps := ["self", "classes", "told"]) fun _ _ _ _ _ _ us hl => match us, hl with | [_, _, _], _ => rfl
  have F_Tree_flat := fun_mk (st := s_Tree_flat) l_Tree_flat c_Tree_flat k_Tree_flat
  have b_Tree_flat := F_Tree_flat.binds (ps := ["classes", "pages", "told"]) fun _ _ _ _ _ _ us hl => match us, hl with | [_, _, _], _ => rfl
  have F_Tree_exact := fun_mk (st := s_Tree_exact) l_Tree_exact c_Tree_exact k_Tree_exact
  have b_Tree_exact := F_Tree_exact.binds (ps := ["steps", "rooms"]) fun _ _ _ _ _ _ us hl => match us, hl with | [_, _], _ => rfl
  have F_Tree_told := fun_mk (st := s_Tree_told) l_Tree_told c_Tree_told k_Tree_told
  have b_Tree_told := F_Tree_told.binds (ps := ["self"]) fun _ _ _ _ _ _ us hl => match us, hl with | [_], _ => rfl
  have F_Tree_is_upright := fun_mk (st := s_Tree_is_upright) l_Tree_is_upright c_Tree_is_upright k_Tree_is_upright
  have b_Tree_is_upright := F_Tree_is_upright.binds (ps := ["self"]) fun _ _ _ _ _ _ us hl => match us, hl with | [_], _ => rfl
  have F_Tree_len := fun_mk (st := s_Tree_len) l_Tree_len c_Tree_len k_Tree_len
  have b_Tree_len := F_Tree_len.binds (ps := ["self"]) fun _ _ _ _ _ _ us hl => match us, hl with | [_], _ => rfl
  have F_Tree_getitem := fun_mk (st := s_Tree_getitem) l_Tree_getitem c_Tree_getitem k_Tree_getitem
  have b_Tree_getitem := F_Tree_getitem.binds (ps := ["self", "node"]) fun _ _ _ _ _ _ us hl => match us, hl with | [_, _], _ => rfl
  have F_Tree_leaf := fun_mk (st := s_Tree_leaf) l_Tree_leaf c_Tree_leaf k_Tree_leaf
  have b_Tree_leaf := F_Tree_leaf.binds (ps := ["self", "page"]) fun _ _ _ _ _ _ us hl => match us, hl with | [_, _], _ => rfl
  have F_Tree_way := fun_mk (st := s_Tree_way) l_Tree_way c_Tree_way k_Tree_way
  have b_Tree_way := F_Tree_way.binds (ps := ["self", "page"]) fun _ _ _ _ _ _ us hl => match us, hl with | [_, _], _ => rfl
  have F_Treemisses := fun_mk (st := s_Treemisses) l_Treemisses c_Treemisses k_Treemisses
  have b_Treemisses := F_Treemisses.binds (ps := ["self", "page"]) fun _ _ _ _ _ _ us hl => match us, hl with | [_, _], _ => rfl
  have F_Tree_missed := fun_mk (st := s_Tree_missed) l_Tree_missed c_Tree_missed k_Tree_missed
  have b_Tree_missed := F_Tree_missed.binds (ps := ["self"]) fun _ _ _ _ _ _ us hl => match us, hl with | [_], _ => rfl
  have F_Tree_mended := fun_mk (st := s_Tree_mended) l_Tree_mended c_Tree_mended k_Tree_mended
  have b_Tree_mended := F_Tree_mended.binds (ps := ["self"]) fun _ _ _ _ _ _ us hl => match us, hl with | [_], _ => rfl
  have F_Tree_eq := fun_mk (st := s_Tree_eq) l_Tree_eq c_Tree_eq k_Tree_eq
  have b_Tree_eq := F_Tree_eq.binds (ps := ["self", "other"]) fun _ _ _ _ _ _ us hl => match us, hl with | [_, _], _ => rfl
  have F_law_opened := fun_mk (st := s_law_opened) l_law_opened c_law_opened k_law_opened
  have b_law_opened := F_law_opened.binds (ps := ["_law_script", "_law_k"]) fun _ _ _ _ _ _ us hl => match us, hl with | [_, _], _ => rfl
  have F_law_draw := fun_mk (st := s_law_draw) l_law_draw c_law_draw k_law_draw
  have b_law_draw := F_law_draw.binds (ps := ["_law_pool", "_law_many"]) fun _ _ _ _ _ _ us hl => match us, hl with | [_, _], _ => rfl
  have F_law_bounds := fun_mk (st := s_law_bounds) l_law_bounds c_law_bounds k_law_bounds
  have b_law_bounds := F_law_bounds.binds (ps := ["_law_pool", "_law_top"]) fun _ _ _ _ _ _ us hl => match us, hl with | [_, _], _ => rfl
  have F_law_class := fun_mk (st := s_law_class) l_law_class c_law_class k_law_class
  have b_law_class := F_law_class.binds (ps := ["_law_plan", "_law_room"]) fun _ _ _ _ _ _ us hl => match us, hl with | [_, _], _ => rfl
  have F_law_made_steps := fun_mk (st := s_law_made_steps) l_law_made_steps c_law_made_steps k_law_made_steps
  have b_law_made_steps := F_law_made_steps.binds (ps := ["_law_plan"]) fun _ _ _ _ _ _ us hl => match us, hl with | [_], _ => rfl
  have F_law_told := fun_mk (st := s_law_told) l_law_told c_law_told k_law_told
  have b_law_told := F_law_told.binds (ps := ["_law_pool", "_law_classes", "_law_pages_here"]) fun _ _ _ _ _ _ us hl => match us, hl with | [_, _, _], _ => rfl
  have F_law_pages := fun_mk (st := s_law_pages) l_law_pages c_law_pages k_law_pages
  have b_law_pages := F_law_pages.binds (ps := ["_law_pool", "_law_many"]) fun _ _ _ _ _ _ us hl => match us, hl with | [_, _], _ => rfl
  have F_law_rooms := fun_mk (st := s_law_rooms) l_law_rooms c_law_rooms k_law_rooms
  have b_law_rooms := F_law_rooms.binds (ps := ["_law_pool", "_law_plan", "_law_pages_here"]) fun _ _ _ _ _ _ us hl => match us, hl with | [_, _, _], _ => rfl
  have F_law_greater := fun_mk (st := s_law_greater) l_law_greater c_law_greater k_law_greater
  have b_law_greater := F_law_greater.binds (ps := ["_law_row", "_law_node"]) fun _ _ _ _ _ _ us hl => match us, hl with | [_, _], _ => rfl
  have F_law_mended := fun_mk (st := s_law_mended) l_law_mended c_law_mended k_law_mended
  have b_law_mended := F_law_mended.binds (ps := ["_law_row"]) fun _ _ _ _ _ _ us hl => match us, hl with | [_], _ => rfl
  have F_law_exact := fun_mk (st := s_law_exact) l_law_exact c_law_exact k_law_exact
  have b_law_exact := F_law_exact.binds (ps := ["_law_plan", "_law_rooms_here"]) fun _ _ _ _ _ _ us hl => match us, hl with | [_, _], _ => rfl
  have F_law_tree := fun_mk (st := s_law_tree) l_law_tree c_law_tree k_law_tree
  have b_law_tree := F_law_tree.binds (ps := ["_law_plan", "_law_row"]) fun _ _ _ _ _ _ us hl => match us, hl with | [_, _], _ => rfl
  have F_law := fun_mk (st := s_law) l_law c_law k_law
  have b_law := F_law.binds (ps := ["_law_script"]) fun _ _ _ _ _ _ us hl => match us, hl with | [_], _ => rfl
  have T : Txt K mg { C_Steps := C_Steps, C_Tree := C_Tree, a_is_integer := f_is_integer, fd_is_integer := _, a_are_integers := f_are_integers, fd_are_integers := _, a_are_bounds := f_are_bounds, fd_are_bounds := _, a_Steps_init := f_Steps_init, fd_Steps_init := _, a_Steps_len := f_Steps_len, fd_Steps_len := _, a_Steps_class_of := f_Steps_class_of, fd_Steps_class_of := _, a_is_page_count := f_is_page_count, fd_is_page_count := _, a_are_told := f_are_told, fd_are_told := _, a_are_rooms := f_are_rooms, fd_are_rooms := _, a_Tree_init := f_Tree_init, fd_Tree_init := _, a_Tree_flat := f_Tree_flat, fd_Tree_flat := _, a_Tree_exact := f_Tree_exact, fd_Tree_exact := _, a_Tree_told := f_Tree_told, fd_Tree_told := _, a_Tree_is_upright := f_Tree_is_upright, fd_Tree_is_upright := _, a_Tree_len := f_Tree_len, fd_Tree_len := _, a_Tree_getitem := f_Tree_getitem, fd_Tree_getitem := _, a_Tree_leaf := f_Tree_leaf, fd_Tree_leaf := _, a_Tree_way := f_Tree_way, fd_Tree_way := _, a_Treemisses := f_Treemisses, fd_Treemisses := _, a_Tree_missed := f_Tree_missed, fd_Tree_missed := _, a_Tree_mended := f_Tree_mended, fd_Tree_mended := _, a_Tree_eq := f_Tree_eq, fd_Tree_eq := _, a_law_opened := f_law_opened, fd_law_opened := _, a_law_draw := f_law_draw, fd_law_draw := _, a_law_bounds := f_law_bounds, fd_law_bounds := _, a_law_class := f_law_class, fd_law_class := _, a_law_made_steps := f_law_made_steps, fd_law_made_steps := _, a_law_told := f_law_told, fd_law_told := _, a_law_pages := f_law_pages, fd_law_pages := _, a_law_rooms := f_law_rooms, fd_law_rooms := _, a_law_greater := f_law_greater, fd_law_greater := _, a_law_mended := f_law_mended, fd_law_mended := _, a_law_exact := f_law_exact, fd_law_exact := _, a_law_tree := f_law_tree, fd_law_tree := _, a_law := fa, fd_law := _, tk_GREATEST_ROOM := tk_GREATEST_ROOM, tk_MOST_BOUNDS := tk_MOST_BOUNDS, tk_MOST_CLASSES := tk_MOST_CLASSES, pp_Tree_told := pp_Tree_told, pp_Tree_is_upright := pp_Tree_is_upright, sm_Tree_flat := sm_Tree_flat, sm_Tree_exact := sm_Tree_exact, t_PAGES := t_PAGES, t_NODES := t_NODES } := { cl_Steps := ⟨pg_Steps, hd_Steps, po_Steps, sa_Steps⟩, g_Steps := PySem.W.mg_of X G aC_Steps, nf_Steps_most := nf_Steps_most, nf_Steps_bounds := nf_Steps_bounds, mk_Steps := ⟨mk_Steps, a_Steps_init, i_Steps_init, kc_Steps⟩, m_Steps_len := ⟨a_Steps_len, i_Steps_len, k_Steps_len⟩, m_Steps_class_of := ⟨a_Steps_class_of, i_Steps_class_of, k_Steps_class_of⟩, hm_Steps := hm_Steps, ha_Steps := ha_Steps, hn_Steps := hn_Steps, ht_Steps := ht_Steps, cl_Tree := ⟨pg_Tree, hd_Tree, po_Tree, sa_Tree⟩, g_Tree := PySem.W.mg_of X G aC_Tree, nf_Tree_classes := nf_Tree_classes, nf_Tree_told := nf_Tree_told, mk_Tree := ⟨mk_Tree, a_Tree_init, i_Tree_init, kc_Tree⟩, m_Tree_len := ⟨a_Tree_len, i_Tree_len, k_Tree_len⟩, m_Tree_getitem := ⟨a_Tree_getitem, i_Tree_getitem, k_Tree_getitem⟩, m_Tree_leaf := ⟨a_Tree_leaf, i_Tree_leaf, k_Tree_leaf⟩, m_Tree_way := ⟨a_Tree_way, i_Tree_way, k_Tree_way⟩, m_Treemisses := ⟨a_Treemisses, i_Treemisses, k_Treemisses⟩, m_Tree_missed := ⟨a_Tree_missed, i_Tree_missed, k_Tree_missed⟩, m_Tree_mended := ⟨a_Tree_mended, i_Tree_mended, k_Tree_mended⟩, m_Tree_eq := ⟨a_Tree_eq, i_Tree_eq, k_Tree_eq⟩, p_Tree_told := ⟨pa_Tree_told, pt_Tree_told, pk_Tree_told, ⟨_, pr_Tree_told⟩⟩, p_Tree_is_upright := ⟨pa_Tree_is_upright, pt_Tree_is_upright, pk_Tree_is_upright, ⟨_, pr_Tree_is_upright⟩⟩, st_Tree_flat := ⟨sty_Tree, srd_Tree, sga_Tree, pa_Tree_flat, ⟨_, pr_Tree_flat⟩, k_Tree_flat⟩, st_Tree_exact := ⟨sty_Tree, srd_Tree, sga_Tree, pa_Tree_exact, ⟨_, pr_Tree_exact⟩, k_Tree_exact⟩, fn_Tree_getitem := fn_Tree_getitem, ne_Tree := ne_Tree, hm_Tree := hm_Tree, ha_Tree := ha_Tree, hn_Tree := hn_Tree, ht_Tree := ht_Tree, F_is_integer := F_is_integer, b_is_integer := b_is_integer, g_is_integer := PySem.W.mg_of X G a_is_integer, F_are_integers := F_are_integers, b_are_integers := b_are_integers, g_are_integers := PySem.W.mg_of X G a_are_integers, F_are_bounds := F_are_bounds, b_are_bounds := b_are_bounds, g_are_bounds := PySem.W.mg_of X G a_are_bounds, F_Steps_init := F_Steps_init, b_Steps_init := b_Steps_init, F_Steps_len := F_Steps_len, b_Steps_len := b_Steps_len, F_Steps_class_of := F_Steps_class_of, b_Steps_class_of := b_Steps_class_of, F_is_page_count := F_is_page_count, b_is_page_count := b_is_page_count, g_is_page_count := PySem.W.mg_of X G a_is_page_count, F_are_told := F_are_told, b_are_told := b_are_told, g_are_told := PySem.W.mg_of X G a_are_told, F_are_rooms := F_are_rooms, b_are_rooms := b_are_rooms, g_are_rooms := PySem.W.mg_of X G a_are_rooms, F_Tree_init := F_Tree_init, b_Tree_init := b_Tree_init, F_Tree_flat := F_Tree_flat, b_Tree_flat := b_Tree_flat, F_Tree_exact := F_Tree_exact, b_Tree_exact := b_Tree_exact, F_Tree_told := F_Tree_told, b_Tree_told := b_Tree_told, F_Tree_is_upright := F_Tree_is_upright, b_Tree_is_upright := b_Tree_is_upright, F_Tree_len := F_Tree_len, b_Tree_len := b_Tree_len, F_Tree_getitem := F_Tree_getitem, b_Tree_getitem := b_Tree_getitem, F_Tree_leaf := F_Tree_leaf, b_Tree_leaf := b_Tree_leaf, F_Tree_way := F_Tree_way, b_Tree_way := b_Tree_way, F_Treemisses := F_Treemisses, b_Treemisses := b_Treemisses, F_Tree_missed := F_Tree_missed, b_Tree_missed := b_Tree_missed, F_Tree_mended := F_Tree_mended, b_Tree_mended := b_Tree_mended, F_Tree_eq := F_Tree_eq, b_Tree_eq := b_Tree_eq, F_law_opened := F_law_opened, b_law_opened := b_law_opened, g__law_opened := PySem.W.mg_of X G a_law_opened, F_law_draw := F_law_draw, b_law_draw := b_law_draw, g__law_draw := PySem.W.mg_of X G a_law_draw, F_law_bounds := F_law_bounds, b_law_bounds := b_law_bounds, g__law_bounds := PySem.W.mg_of X G a_law_bounds, F_law_class := F_law_class, b_law_class := b_law_class, g__law_class := PySem.W.mg_of X G a_law_class, F_law_made_steps := F_law_made_steps, b_law_made_steps := b_law_made_steps, g__law_made_steps := PySem.W.mg_of X G a_law_made_steps, F_law_told := F_law_told, b_law_told := b_law_told, g__law_told := PySem.W.mg_of X G a_law_told, F_law_pages := F_law_pages, b_law_pages := b_law_pages, g__law_pages := PySem.W.mg_of X G a_law_pages, F_law_rooms := F_law_rooms, b_law_rooms := b_law_rooms, g__law_rooms := PySem.W.mg_of X G a_law_rooms, F_law_greater := F_law_greater, b_law_greater := b_law_greater, g__law_greater := PySem.W.mg_of X G a_law_greater, F_law_mended := F_law_mended, b_law_mended := b_law_mended, g__law_mended := PySem.W.mg_of X G a_law_mended, F_law_exact := F_law_exact, b_law_exact := b_law_exact, g__law_exact := PySem.W.mg_of X G a_law_exact, F_law_tree := F_law_tree, b_law_tree := b_law_tree, g__law_tree := PySem.W.mg_of X G a_law_tree, F_law := F_law, b_law := b_law, g_law := PySem.W.mg_of X G a_law, c_GREATEST_ROOM := PySem.W.mg_of X G cc_GREATEST_ROOM, c_MOST_BOUNDS := PySem.W.mg_of X G cc_MOST_BOUNDS, c_MOST_CLASSES := PySem.W.mg_of X G cc_MOST_CLASSES, g_PAGES := PySem.W.mg_of X G gt_PAGES, q_PAGES := fun H => .inr ⟨_, #[.int 2 u0_PAGES, .int 4 u1_PAGES, .int 8 u2_PAGES, .int 16 u3_PAGES, .int 32 u4_PAGES], nt_PAGES, lt_PAGES, rfl, rfl, (by show 5 ≤ sizeLine; decide), (.cons ⟨_, rfl⟩ (.cons ⟨_, rfl⟩ (.cons ⟨_, rfl⟩ (.cons ⟨_, rfl⟩ (.cons ⟨_, rfl⟩ .nil)))))⟩, g_NODES := PySem.W.mg_of X G gt_NODES, q_NODES := fun H => .inr ⟨_, #[.int 3 u0_NODES, .int 7 u1_NODES, .int 15 u2_NODES, .int 31 u3_NODES, .int 63 u4_NODES], nt_NODES, lt_NODES, rfl, rfl, (by show 5 ≤ sizeLine; decide), (.cons ⟨_, rfl⟩ (.cons ⟨_, rfl⟩ (.cons ⟨_, rfl⟩ (.cons ⟨_, rfl⟩ (.cons ⟨_, rfl⟩ .nil)))))⟩, n_isinstance := PySem.W.mg_none_of X G z_isinstance, n_int := PySem.W.mg_none_of X G z_int, n_bool := PySem.W.mg_none_of X G z_bool, n_list := PySem.W.mg_none_of X G z_list, n_tuple := PySem.W.mg_none_of X G z_tuple, n_len := PySem.W.mg_none_of X G z_len, n_range := PySem.W.mg_none_of X G z_range, n_max := PySem.W.mg_none_of X G z_max, n_min := PySem.W.mg_none_of X G z_min, n_sorted := PySem.W.mg_none_of X G z_sorted, n_repr := PySem.W.mg_none_of X G z_repr }
  exact ⟨PySem.W.fnOf "law" "law" (defArgs s_law) (defBody s_law) (defScope s_law) .none kV_law dc_law pm_law an_law cd_law ct_law, fun s v => .of_eq rfl, fun base _ _ => ok_law T⟩
end Rt
open PySem PySem.W PyProof.Rows in
set_option maxRecDepth 100000 in
set_option maxHeartbeats 0 in
theorem PySem.Challenge.cw_roomtold_k08_flat_and_exact_trees_holds : PySem.Challenge.rw_roomtold_k08_flat_and_exact_trees.Holds := by
  w_on; o_law; k_head; (case hw => w_witness2)
  k_fill
  refine L2.walk_ofG (l := PySem.Challenge.rw_roomtold_k08_flat_and_exact_trees) (n := 63) (k := 12) (x := "_law_script") (sp := Rt.sp_law) rfl (by decide) rfl ⟨rfl, by decide, by decide⟩ (fun w h Y => PySem.W.kIn_of Y) ?F (fun _ _ a ns hl _ hS => ⟨a, ns, rfl, hS, hl, fun _ => rfl⟩)
  case F =>
    intro w mg fa h KX G hmg
    refine' Rt.all_mk KX G hmg ?aC_Steps ?aC_Tree ?a_is_integer ?l_is_integer ?c_is_integer ?k_is_integer ?a_are_integers ?l_are_integers ?c_are_integers ?k_are_integers ?a_are_bounds ?l_are_bounds ?c_are_bounds ?k_are_bounds ?a_Steps_init ?i_Steps_init ?l_Steps_init ?c_Steps_init ?k_Steps_init ?a_Steps_len ?i_Steps_len ?l_Steps_len ?c_Steps_len ?k_Steps_len ?a_Steps_class_of ?i_Steps_class_of ?l_Steps_class_of ?c_Steps_class_of ?k_Steps_class_of ?a_is_page_count ?l_is_page_count ?c_is_page_count ?k_is_page_count ?a_are_told ?l_are_told ?c_are_told ?k_are_told ?a_are_rooms ?l_are_rooms ?c_are_rooms ?k_are_rooms ?a_Tree_init ?i_Tree_init ?l_Tree_init ?c_Tree_init ?k_Tree_init ?pa_Tree_flat ?pr_Tree_flat ?l_Tree_flat ?c_Tree_flat ?k_Tree_flat ?pa_Tree_exact ?pr_Tree_exact ?l_Tree_exact ?c_Tree_exact ?k_Tree_exact ?pa_Tree_told ?pt_Tree_told ?pk_Tree_told ?pr_Tree_told ?l_Tree_told ?c_Tree_told ?k_Tree_told ?pa_Tree_is_upright ?pt_Tree_is_upright ?pk_Tree_is_upright ?pr_Tree_is_upright ?l_Tree_is_upright ?c_Tree_is_upright ?k_Tree_is_upright ?a_Tree_len ?i_Tree_len ?l_Tree_len ?c_Tree_len ?k_Tree_len ?a_Tree_getitem ?i_Tree_getitem ?l_Tree_getitem ?c_Tree_getitem ?k_Tree_getitem ?a_Tree_leaf ?i_Tree_leaf ?l_Tree_leaf ?c_Tree_leaf ?k_Tree_leaf ?a_Tree_way ?i_Tree_way ?l_Tree_way ?c_Tree_way ?k_Tree_way ?a_Treemisses ?i_Treemisses ?l_Treemisses ?c_Treemisses ?k_Treemisses ?a_Tree_missed ?i_Tree_missed ?l_Tree_missed ?c_Tree_missed ?k_Tree_missed ?a_Tree_mended ?i_Tree_mended ?l_Tree_mended ?c_Tree_mended ?k_Tree_mended ?a_Tree_eq ?i_Tree_eq ?l_Tree_eq ?c_Tree_eq ?k_Tree_eq ?a_law_opened ?l_law_opened ?c_law_opened ?k_law_opened ?a_law_draw ?l_law_draw ?c_law_draw ?k_law_draw ?a_law_bounds ?l_law_bounds ?c_law_bounds ?k_law_bounds ?a_law_class ?l_law_class ?c_law_class ?k_law_class ?a_law_made_steps ?l_law_made_steps ?c_law_made_steps ?k_law_made_steps ?a_law_told ?l_law_told ?c_law_told ?k_law_told ?a_law_pages ?l_law_pages ?c_law_pages ?k_law_pages ?a_law_rooms ?l_law_rooms ?c_law_rooms ?k_law_rooms ?a_law_greater ?l_law_greater ?c_law_greater ?k_law_greater ?a_law_mended ?l_law_mended ?c_law_mended ?k_law_mended ?a_law_exact ?l_law_exact ?c_law_exact ?k_law_exact ?a_law_tree ?l_law_tree ?c_law_tree ?k_law_tree ?a_law ?l_law ?c_law ?k_law ?pg_Steps ?hd_Steps ?po_Steps ?sa_Steps ?mk_Steps ?kc_Steps ?nf_Steps_most ?nf_Steps_bounds ?hm_Steps ?ha_Steps ?hn_Steps ?ht_Steps ?pg_Tree ?hd_Tree ?po_Tree ?sa_Tree ?mk_Tree ?kc_Tree ?nf_Tree_classes ?nf_Tree_told ?sty_Tree ?srd_Tree ?sga_Tree ?fn_Tree_getitem ?ne_Tree ?hm_Tree ?ha_Tree ?hn_Tree ?ht_Tree ?cc_GREATEST_ROOM ?cc_MOST_BOUNDS ?cc_MOST_CLASSES ?gt_PAGES ?lt_PAGES ?gt_NODES ?lt_NODES ?z_isinstance ?z_int ?z_bool ?z_list ?z_tuple ?z_len ?z_range ?z_max ?z_min ?z_sorted ?z_repr
    (case aC_Steps => k_is)
    (case aC_Tree => k_is)
    (case a_is_integer => k_is)
    (case l_is_integer => k_is)
    (case c_is_integer => k_is)
    (case k_is_integer => k_is)
    (case a_are_integers => k_is)
    (case l_are_integers => k_is)
    (case c_are_integers => k_is)
    (case k_are_integers => k_is)
    (case a_are_bounds => k_is)
    (case l_are_bounds => k_is)
    (case c_are_bounds => k_is)
    (case k_are_bounds => k_is)
    (case a_Steps_init => k_is)
    (case i_Steps_init => k_is)
    (case l_Steps_init => k_is)
    (case c_Steps_init => k_is)
    (case k_Steps_init => k_is)
    (case a_Steps_len => k_is)
    (case i_Steps_len => k_is)
    (case l_Steps_len => k_is)
    (case c_Steps_len => k_is)
    (case k_Steps_len => k_is)
    (case a_Steps_class_of => k_is)
    (case i_Steps_class_of => k_is)
    (case l_Steps_class_of => k_is)
    (case c_Steps_class_of => k_is)
    (case k_Steps_class_of => k_is)
    (case a_is_page_count => k_is)
    (case l_is_page_count => k_is)
    (case c_is_page_count => k_is)
    (case k_is_page_count => k_is)
    (case a_are_told => k_is)
    (case l_are_told => k_is)
    (case c_are_told => k_is)
    (case k_are_told => k_is)
    (case a_are_rooms => k_is)
    (case l_are_rooms => k_is)
    (case c_are_rooms => k_is)
    (case k_are_rooms => k_is)
    (case a_Tree_init => k_is)
    (case i_Tree_init => k_is)
    (case l_Tree_init => k_is)
    (case c_Tree_init => k_is)
    (case k_Tree_init => k_is)
    (case pa_Tree_flat => k_is)
    (case pr_Tree_flat => k_is)
    (case l_Tree_flat => k_is)
    (case c_Tree_flat => k_is)
    (case k_Tree_flat => k_is)
    (case pa_Tree_exact => k_is)
    (case pr_Tree_exact => k_is)
    (case l_Tree_exact => k_is)
    (case c_Tree_exact => k_is)
    (case k_Tree_exact => k_is)
    (case pa_Tree_told => k_is)
    (case pt_Tree_told => k_is)
    (case pk_Tree_told => k_is)
    (case pr_Tree_told => k_is)
    (case l_Tree_told => k_is)
    (case c_Tree_told => k_is)
    (case k_Tree_told => k_is)
    (case pa_Tree_is_upright => k_is)
    (case pt_Tree_is_upright => k_is)
    (case pk_Tree_is_upright => k_is)
    (case pr_Tree_is_upright => k_is)
    (case l_Tree_is_upright => k_is)
    (case c_Tree_is_upright => k_is)
    (case k_Tree_is_upright => k_is)
    (case a_Tree_len => k_is)
    (case i_Tree_len => k_is)
    (case l_Tree_len => k_is)
    (case c_Tree_len => k_is)
    (case k_Tree_len => k_is)
    (case a_Tree_getitem => k_is)
    (case i_Tree_getitem => k_is)
    (case l_Tree_getitem => k_is)
    (case c_Tree_getitem => k_is)
    (case k_Tree_getitem => k_is)
    (case a_Tree_leaf => k_is)
    (case i_Tree_leaf => k_is)
    (case l_Tree_leaf => k_is)
    (case c_Tree_leaf => k_is)
    (case k_Tree_leaf => k_is)
    (case a_Tree_way => k_is)
    (case i_Tree_way => k_is)
    (case l_Tree_way => k_is)
    (case c_Tree_way => k_is)
    (case k_Tree_way => k_is)
    (case a_Treemisses => k_is)
    (case i_Treemisses => k_is)
    (case l_Treemisses => k_is)
    (case c_Treemisses => k_is)
    (case k_Treemisses => k_is)
    (case a_Tree_missed => k_is)
    (case i_Tree_missed => k_is)
    (case l_Tree_missed => k_is)
    (case c_Tree_missed => k_is)
    (case k_Tree_missed => k_is)
    (case a_Tree_mended => k_is)
    (case i_Tree_mended => k_is)
    (case l_Tree_mended => k_is)
    (case c_Tree_mended => k_is)
    (case k_Tree_mended => k_is)
    (case a_Tree_eq => k_is)
    (case i_Tree_eq => k_is)
    (case l_Tree_eq => k_is)
    (case c_Tree_eq => k_is)
    (case k_Tree_eq => k_is)
    (case a_law_opened => k_is)
    (case l_law_opened => k_is)
    (case c_law_opened => k_is)
    (case k_law_opened => k_is)
    (case a_law_draw => k_is)
    (case l_law_draw => k_is)
    (case c_law_draw => k_is)
    (case k_law_draw => k_is)
    (case a_law_bounds => k_is)
    (case l_law_bounds => k_is)
    (case c_law_bounds => k_is)
    (case k_law_bounds => k_is)
    (case a_law_class => k_is)
    (case l_law_class => k_is)
    (case c_law_class => k_is)
    (case k_law_class => k_is)
    (case a_law_made_steps => k_is)
    (case l_law_made_steps => k_is)
    (case c_law_made_steps => k_is)
    (case k_law_made_steps => k_is)
    (case a_law_told => k_is)
    (case l_law_told => k_is)
    (case c_law_told => k_is)
    (case k_law_told => k_is)
    (case a_law_pages => k_is)
    (case l_law_pages => k_is)
    (case c_law_pages => k_is)
    (case k_law_pages => k_is)
    (case a_law_rooms => k_is)
    (case l_law_rooms => k_is)
    (case c_law_rooms => k_is)
    (case k_law_rooms => k_is)
    (case a_law_greater => k_is)
    (case l_law_greater => k_is)
    (case c_law_greater => k_is)
    (case k_law_greater => k_is)
    (case a_law_mended => k_is)
    (case l_law_mended => k_is)
    (case c_law_mended => k_is)
    (case k_law_mended => k_is)
    (case a_law_exact => k_is)
    (case l_law_exact => k_is)
    (case c_law_exact => k_is)
    (case k_law_exact => k_is)
    (case a_law_tree => k_is)
    (case l_law_tree => k_is)
    (case c_law_tree => k_is)
    (case k_law_tree => k_is)
    (case a_law => k_is)
    (case l_law => k_is)
    (case c_law => k_is)
    (case k_law => k_is)
    (case pg_Steps => k_is)
    (case hd_Steps => k_is)
    (case po_Steps => k_is)
    (case sa_Steps => k_is)
    (case mk_Steps => k_is)
    (case kc_Steps => k_is)
    (case nf_Steps_most => k_is)
    (case nf_Steps_bounds => k_is)
    (case hm_Steps => k_is)
    (case ha_Steps => k_is)
    (case hn_Steps => k_is)
    (case ht_Steps => k_is)
    (case pg_Tree => k_is)
    (case hd_Tree => k_is)
    (case po_Tree => k_is)
    (case sa_Tree => k_is)
    (case mk_Tree => k_is)
    (case kc_Tree => k_is)
    (case nf_Tree_classes => k_is)
    (case nf_Tree_told => k_is)
    (case sty_Tree => k_is)
    (case srd_Tree => k_is)
    (case sga_Tree => k_is)
    (case fn_Tree_getitem => k_is)
    (case ne_Tree => k_is)
    (case hm_Tree => k_is)
    (case ha_Tree => k_is)
    (case hn_Tree => k_is)
    (case ht_Tree => k_is)
    (case cc_GREATEST_ROOM => k_is)
    (case cc_MOST_BOUNDS => k_is)
    (case cc_MOST_CLASSES => k_is)
    (case gt_PAGES => k_is)
    (case lt_PAGES => k_is)
    (case gt_NODES => k_is)
    (case lt_NODES => k_is)
    (case z_isinstance => k_is)
    (case z_int => k_is)
    (case z_bool => k_is)
    (case z_list => k_is)
    (case z_tuple => k_is)
    (case z_len => k_is)
    (case z_range => k_is)
    (case z_max => k_is)
    (case z_min => k_is)
    (case z_sorted => k_is)
    (case z_repr => k_is)
