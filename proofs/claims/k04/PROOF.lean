import PyProof.Rows.All
import Wide.All
import OpenK.AllK
import Wide.FinOn
import HandS.ForMost
import HandS.IsInst
import HandS.Conv
import HandS.Style
import KE.GoesEnumKw
import HandS.SortKw
import KE.KEqSeq
import KE.KSortedM
import PySem.Challenge.RW_roomtold_k04_whole_rooms_and_sizes
set_option Elab.async false
set_option linter.all false
set_option maxRecDepth 100000
namespace Rt
open PySem L2
def topS (i : Nat) : Stmt := PySem.Challenge.pw_roomtold_k04_whole_rooms_and_sizes.main.body.getD i (.Pass ⟨0, 0, 0, 0⟩)
abbrev s_is_integer : Stmt := (topS 8)
theorem sc_is_integer : FnScope ["value", "least", "greatest"] ["value", "least", "greatest"] (defScope s_is_integer) := ⟨rfl, rfl, rfl, by decide +kernel, rfl, by decide +kernel, by decide +kernel⟩
abbrev s_are_integers : Stmt := (topS 9)
theorem sc_are_integers : FnScope ["value", "least", "greatest", "number"] ["value", "least", "greatest"] (defScope s_are_integers) := ⟨rfl, rfl, rfl, by decide +kernel, rfl, by decide +kernel, by decide +kernel⟩
abbrev s_are_bounds : Stmt := (topS 10)
theorem sc_are_bounds : FnScope ["value", "most", "at"] ["value", "most"] (defScope s_are_bounds) := ⟨rfl, rfl, rfl, by decide +kernel, rfl, by decide +kernel, by decide +kernel⟩
abbrev s_Steps_init : Stmt := (inClass (topS 11) 0)
theorem sc_Steps_init : FnScope ["self", "most", "bounds"] ["self", "most", "bounds"] (defScope s_Steps_init) := ⟨rfl, rfl, rfl, by decide +kernel, rfl, by decide +kernel, by decide +kernel⟩
abbrev s_Steps_class_of : Stmt := (inClass (topS 11) 5)
theorem sc_Steps_class_of : FnScope ["self", "room", "bound"] ["self", "room"] (defScope s_Steps_class_of) := ⟨rfl, rfl, rfl, by decide +kernel, rfl, by decide +kernel, by decide +kernel⟩
abbrev s_Steps_need : Stmt := (inClass (topS 11) 7)
theorem sc_Steps_need : FnScope ["self", "size", "place", "bound"] ["self", "size"] (defScope s_Steps_need) := ⟨rfl, rfl, rfl, by decide +kernel, rfl, by decide +kernel, by decide +kernel⟩
abbrev s_law_opened : Stmt := (topS 13)
theorem sc_law_opened : FnScope ["_law_script", "_law_k", "_law_cell", "_law_great"] ["_law_script", "_law_k"] (defScope s_law_opened) := ⟨rfl, rfl, rfl, by decide +kernel, rfl, by decide +kernel, by decide +kernel⟩
abbrev s_law_draw : Stmt := (topS 14)
theorem sc_law_draw : FnScope ["_law_pool", "_law_many", "_law_digit"] ["_law_pool", "_law_many"] (defScope s_law_draw) := ⟨rfl, rfl, rfl, by decide +kernel, rfl, by decide +kernel, by decide +kernel⟩
abbrev s_law_bounds : Stmt := (topS 15)
theorem sc_law_bounds : FnScope ["_law_pool", "_law_top", "_law_most", "_law_menu", "_law_bounds_here", "_law_step", "_law_one"] ["_law_pool", "_law_top"] (defScope s_law_bounds) := ⟨rfl, rfl, rfl, by decide +kernel, rfl, by decide +kernel, by decide +kernel⟩
abbrev s_law_made_steps : Stmt := (topS 16)
theorem sc_law_made_steps : FnScope ["_law_plan"] ["_law_plan"] (defScope s_law_made_steps) := ⟨rfl, rfl, rfl, by decide +kernel, rfl, by decide +kernel, by decide +kernel⟩
abbrev s_law : Stmt := (topS 17)
theorem sc_law : FnScope ["_law_script", "_law_k", "_law_pool", "_law_plan", "_law_steps", "_law_most", "_law_many", "_law_classes", "_law_ahead", "_law_size", "_law_need", "_law_room", "_law_one"] ["_law_script"] (defScope s_law) := ⟨rfl, rfl, rfl, by decide +kernel, rfl, by decide +kernel, by decide +kernel⟩

structure Ad where
  C_Steps : Addr
  a_is_integer : Addr
  fd_is_integer : FuncData
  a_are_integers : Addr
  fd_are_integers : FuncData
  a_are_bounds : Addr
  fd_are_bounds : FuncData
  a_Steps_init : Addr
  fd_Steps_init : FuncData
  a_Steps_class_of : Addr
  fd_Steps_class_of : FuncData
  a_Steps_need : Addr
  fd_Steps_need : FuncData
  a_law_opened : Addr
  fd_law_opened : FuncData
  a_law_draw : Addr
  fd_law_draw : FuncData
  a_law_bounds : Addr
  fd_law_bounds : FuncData
  a_law_made_steps : Addr
  fd_law_made_steps : FuncData
  a_law : Addr
  fd_law : FuncData
  tk_GREATEST_ROOM : Tok
  tk_MOST_BOUNDS : Tok
structure Txt (K : PySem.W.Frag) (mg : Str → Option Value) (a : Ad) : Prop where
  cl_Steps : Cls K a.C_Steps
  g_Steps : mg "Steps" = some (.ref a.C_Steps)
  nf_Steps_most : NoAttr K a.C_Steps "most"
  nf_Steps_bounds : NoAttr K a.C_Steps "_bounds"
  mk_Steps : Mk K a.C_Steps a.a_Steps_init
  m_Steps_class_of : Meth K a.C_Steps "class_of" a.a_Steps_class_of
  m_Steps_need : Meth K a.C_Steps "need" a.a_Steps_need
  F_is_integer : Fun K "is_integer" "is_integer" s_is_integer a.a_is_integer a.fd_is_integer
  b_is_integer : Binds K a.fd_is_integer ["value", "least", "greatest"] []
  g_is_integer : mg "is_integer" = some (.ref a.a_is_integer)
  F_are_integers : Fun K "are_integers" "are_integers" s_are_integers a.a_are_integers a.fd_are_integers
  b_are_integers : Binds K a.fd_are_integers ["value", "least", "greatest"] []
  g_are_integers : mg "are_integers" = some (.ref a.a_are_integers)
  F_are_bounds : Fun K "are_bounds" "are_bounds" s_are_bounds a.a_are_bounds a.fd_are_bounds
  b_are_bounds : Binds K a.fd_are_bounds ["value", "most"] []
  g_are_bounds : mg "are_bounds" = some (.ref a.a_are_bounds)
  F_Steps_init : Fun K "__init__" "Steps.__init__" s_Steps_init a.a_Steps_init a.fd_Steps_init
  b_Steps_init : Binds K a.fd_Steps_init ["self", "most", "bounds"] []
  F_Steps_class_of : Fun K "class_of" "Steps.class_of" s_Steps_class_of a.a_Steps_class_of a.fd_Steps_class_of
  b_Steps_class_of : Binds K a.fd_Steps_class_of ["self", "room"] []
  F_Steps_need : Fun K "need" "Steps.need" s_Steps_need a.a_Steps_need a.fd_Steps_need
  b_Steps_need : Binds K a.fd_Steps_need ["self", "size"] []
  F_law_opened : Fun K "_law_opened" "_law_opened" s_law_opened a.a_law_opened a.fd_law_opened
  b_law_opened : Binds K a.fd_law_opened ["_law_script", "_law_k"] []
  g__law_opened : mg "_law_opened" = some (.ref a.a_law_opened)
  F_law_draw : Fun K "_law_draw" "_law_draw" s_law_draw a.a_law_draw a.fd_law_draw
  b_law_draw : Binds K a.fd_law_draw ["_law_pool", "_law_many"] []
  g__law_draw : mg "_law_draw" = some (.ref a.a_law_draw)
  F_law_bounds : Fun K "_law_bounds" "_law_bounds" s_law_bounds a.a_law_bounds a.fd_law_bounds
  b_law_bounds : Binds K a.fd_law_bounds ["_law_pool", "_law_top"] []
  g__law_bounds : mg "_law_bounds" = some (.ref a.a_law_bounds)
  F_law_made_steps : Fun K "_law_made_steps" "_law_made_steps" s_law_made_steps a.a_law_made_steps a.fd_law_made_steps
  b_law_made_steps : Binds K a.fd_law_made_steps ["_law_plan"] []
  g__law_made_steps : mg "_law_made_steps" = some (.ref a.a_law_made_steps)
  F_law : Fun K "law" "law" s_law a.a_law a.fd_law
  b_law : Binds K a.fd_law ["_law_script"] []
  g_law : mg "law" = some (.ref a.a_law)
  c_GREATEST_ROOM : mg "GREATEST_ROOM" = some (.int 1000 a.tk_GREATEST_ROOM)
  c_MOST_BOUNDS : mg "MOST_BOUNDS" = some (.int 8 a.tk_MOST_BOUNDS)
  n_isinstance : mg "isinstance" = none
  n_int : mg "int" = none
  n_bool : mg "bool" = none
  n_list : mg "list" = none
  n_tuple : mg "tuple" = none
  n_len : mg "len" = none
  n_range : mg "range" = none
  n_max : mg "max" = none
  n_min : mg "min" = none
  n_sorted : mg "sorted" = none
  n_enumerate : mg "enumerate" = none
end Rt
set_option maxHeartbeats 4000000
namespace Rt
open PySem L2
section
variable {P : Program} {w : World} {K : PySem.W.Frag} {mg : Str → Option Value} {base : Heap} {a : Ad}
/-! ### is_integer of three ints -/
def inI (x lo hi : Int) : Bool := decide (lo ≤ x) && decide (x ≤ hi)
theorem inI_T {x lo hi : Int} (h : lo ≤ x ∧ x ≤ hi) : inI x lo hi = true := by
  unfold inI; rw [decide_eq_true h.1, decide_eq_true h.2]; rfl
def sp_is_integer : Sp := fun vs H Q _ => ∃ (x lo hi : Int), vs = [.int x, .int lo, .int hi] ∧ Q (.bl (inI x lo hi)) H
theorem ok_is_integer (T : Txt K mg a) : FnOk P w K mg base CX0 1 a.a_is_integer a.fd_is_integer ["value", "least", "greatest"] sp_is_integer := by
  refine T.F_is_integer.ok sc_is_integer (fun vs H Q E h => ?_) (fun cdv A outer s H vs Q E hr h => ?_)
  · obtain ⟨x, lo, hi, rfl, _⟩ := h
    rfl
  · obtain ⟨x, lo, hi, rfl, k⟩ := h
    refine ⟨_, (pss_cons (ps_if (PW.pt (pw_or (pt_not (pt_val (pe_callB call_isi (by rfl) T.n_isinstance (by decide +kernel) (pa_cons (pv 0) (pa_cons (pe_bltn (v := .ty "int") (by rfl) T.n_int (by decide +kernel) rfl) pa_nil))))) (pw_or1 (pt_val (pe_callB call_isi (by rfl) T.n_isinstance (by decide +kernel) (pa_cons (pv 0) (pa_cons (pe_bltn (v := .ty "bool") (by rfl) T.n_bool (by decide +kernel) rfl) pa_nil)))))))
      (pss_one (ps_ret pe_bl))
      pss_nil)
      (pss_one (ps_ret (pe_chain op_le op_le (pv 1) (pv 0) (pv 2))))), ?_⟩
    refine ⟨_, rfl, _, _, _, _, true, rfl, .ty "int", .base (.int x), kit_ty (by decide +kernel), _, rfl, ?_⟩
    refine iteF ?_
    refine ⟨_, rfl, _, _, _, _, false, rfl, .ty "bool", .base (.int x), kit_ty (by decide +kernel), _, rfl, ?_⟩
    refine iteF ?_
    refine ⟨_, rfl, _, rfl, _, _, rfl, rfl, _, rfl, ?_⟩
    unfold inI at k
    by_cases c : lo ≤ x
    · rw [decide_eq_true c] at k ⊢
      refine iteT ⟨_, rfl, _, _, rfl, rfl, k⟩
    · rw [decide_eq_false c] at k ⊢
      exact iteF k
end
end Rt
set_option maxHeartbeats 4000000
namespace Rt
open PySem L2
section
variable {P : Program} {w : World} {K : PySem.W.Frag} {mg : Str → Option Value} {base : Heap} {a : Ad}
theorem map_at {ns : List Int} {i : Nat} {y : V} (h : (ns.map V.int)[i]? = some y) : ∃ z, ns[i]? = some z ∧ y = V.int z := by
  rw [List.getElem?_map] at h
  cases e : ns[i]? with
  | none => rw [e] at h; cases h
  | some z => rw [e] at h; exact ⟨z, rfl, (Option.some.inj h).symm⟩
theorem at_map {ns : List Int} {i : Nat} {z : Int} (h : ns[i]? = some z) : (ns.map V.int)[i]? = some (V.int z) := by
  rw [List.getElem?_map, h]; rfl
theorem tyx_sql {H : Hp} {p : Addr} {xs : List V} (h : H p = some (.lst xs)) : TyX K H (.ref p) (.type "list") := .base (.lst h)
/-! ### are_integers of a tracked list of ints -/
def allI (ns : List Int) (lo hi : Int) : Bool := ns.all fun z => inI z lo hi
def sp_are_integers : Sp := fun vs H Q _ => ∃ (p : Addr) (ns : List Int) (lo hi : Int), vs = [.ref p, .int lo, .int hi] ∧ H p = some (.lst (ns.map V.int)) ∧ ∀ H', Same H H' → Q (.bl (allI ns lo hi)) H'
theorem ok_are_integers (T : Txt K mg a) : FnOk P w K mg base CX0 2 a.a_are_integers a.fd_are_integers ["value", "least", "greatest"] sp_are_integers := by
  refine T.F_are_integers.ok sc_are_integers (fun vs H Q E h => ?_) (fun cdv A outer s H vs Q E hr h => ?_)
  · obtain ⟨p, ns, lo, hi, rfl, _⟩ := h
    rfl
  · obtain ⟨p, ns, lo, hi, rfl, hp, k⟩ := h
    refine ⟨_, (pss_cons (ps_if (pt_not (pt_val (pe_callB call_isiT (by rfl) T.n_isinstance (by decide +kernel) (pa_cons (pv 0) (pa_cons (pe_tup (pa_cons (pe_bltn (v := .ty "list") (by rfl) T.n_list (by decide +kernel) rfl) (pa_cons (pe_bltn (v := .ty "tuple") (by rfl) T.n_tuple (by decide +kernel) rfl) pa_nil))) pa_nil)))))
      (pss_one (ps_ret pe_bl))
      pss_nil)
      (pss_cons (ps_for PassesOwn.never rfl (pi_list (pv 0)) (pg_name (i := 3) sc_are_integers.nd rfl (Or.inl rfl))
      (pss_one (ps_if (pt_not (pt_val (pe_call (ok_is_integer T) (hr.mono (by decide)) rfl T.g_is_integer T.F_is_integer.kp T.b_is_integer .nil pass0 (pa_cons (pv 3) (pa_cons (pv 1) (pa_cons (pv 2) pa_nil))))))
        (pss_one (ps_ret pe_bl))
        pss_nil)))
      (pss_one (ps_ret pe_bl)))), ?_⟩
    refine ⟨_, rfl, (by show 2 ≤ sizeLine; decide), fun t ht => ?_⟩
    have s0 : Same H (upd H t (.tup [.ty "list", .ty "tuple"])) := fun b o e => by rw [upd_ne (ne_of_none e ht)]; exact e
    have hp2 := s0 _ _ hp
    refine ⟨_, t, _, .type "list", [.type "list", .type "tuple"], true, rfl, upd_same, .cons (.ty _) (.cons (.ty _) .nil), .base (.lst hp2), kitAny_cons (b := true) (kit_ty (by decide +kernel)) (fun z => by cases z) (fun _ => rfl), _, rfl, ?_⟩
    refine iteF ?_
    refine ⟨_, rfl, p, rfl, ⟨_, SqL.of hp2⟩, for_list (K := K) (a := p) (xs := ns.map V.int) (fun i σ H' => (∃ v : Option V, σ = [some (.ref p), some (.int lo), some (.int hi), v]) ∧ allI (ns.take i) lo hi = true ∧ Same H H')
      ⟨⟨none, rfl⟩, rfl, s0⟩ (fun i σ H' _ h => SqL.of (h.2.2 _ _ hp)) ?_ ?_⟩
    · rintro i y σ H' hk ⟨⟨v, rfl⟩, ha, s1⟩
      obtain ⟨z, hz, rfl⟩ := map_at hk
      refine ⟨_, rfl, _, rfl, _, rfl, z, lo, _, rfl, _, rfl, ?_⟩
      have e1 : ns.take (i + 1) = ns.take i ++ [z] := by rw [List.take_add_one, hz]; rfl
      cases c : inI z lo _ with
      | true =>
        refine iteF ⟨⟨_, rfl⟩, ?_, s1⟩
        unfold allI at ha ⊢
        rw [e1, List.all_append, ha]
        show (inI z lo _ && true) = true
        rw [c]; rfl
      | false =>
        refine iteT ?_
        have e2 : allI ns lo hi = false := by
          cases c2 : allI ns lo hi with
          | false => rfl
          | true =>
            have := List.all_eq_true.mp c2 z (List.mem_of_getElem? hz)
            rw [c] at this; cases this
        rw [e2] at k
        exact k _ s1
    · rintro σ H' ⟨⟨v, rfl⟩, ha, s1⟩
      rw [List.length_map, List.take_length] at ha
      rw [ha] at k
      exact k _ s1
/-! ### are_bounds -/
/-- the bounds of steps, as this file holds them -/
structure Good (ns : List Int) (m : Int) : Prop where
  most : 1 ≤ m
  top : m ≤ 1000
  one : 1 ≤ ns.length
  eight : ns.length ≤ 8
  lo : ∀ z ∈ ns, 1 ≤ z
  hi : ∀ z ∈ ns, z ≤ m
  asc : ns.Pairwise (· < ·)
theorem Good.all {ns : List Int} {m : Int} (g : Good ns m) : allI ns 1 m = true := by
  unfold allI
  rw [List.all_eq_true]
  exact fun z hz => inI_T ⟨g.lo z hz, g.hi z hz⟩
theorem Good.lt {ns : List Int} {m : Int} (g : Good ns m) {i j : Nat} {x y : Int} (h1 : ns[i]? = some x) (h2 : ns[j]? = some y) (h : i < j) : x < y := by
  obtain ⟨q1, e1⟩ := List.getElem?_eq_some_iff.mp h1
  obtain ⟨q2, e2⟩ := List.getElem?_eq_some_iff.mp h2
  have := List.pairwise_iff_getElem.mp g.asc i j q1 q2 h
  rw [e1, e2] at this
  exact this
def sp_are_bounds : Sp := fun vs H Q _ => ∃ (p : Addr) (ns : List Int) (m : Int), vs = [.ref p, .int m] ∧ H p = some (.lst (ns.map V.int)) ∧ Good ns m ∧ ∀ H', Same H H' → Q (.bl true) H'
theorem ok_are_bounds (T : Txt K mg a) : FnOk P w K mg base CX0 3 a.a_are_bounds a.fd_are_bounds ["value", "most"] sp_are_bounds := by
  refine T.F_are_bounds.ok sc_are_bounds (fun vs H Q E h => ?_) (fun cdv A outer s H vs Q E hr h => ?_)
  · obtain ⟨p, ns, m, rfl, _⟩ := h
    rfl
  · obtain ⟨p, ns, m, rfl, hp, g, k⟩ := h
    have g1 := g.one
    have g8 := g.eight
    refine ⟨_, (pss_cons (ps_if (PW.pt (pw_or (pt_not (pt_val (pe_call (ok_are_integers T) (hr.mono (by decide)) rfl T.g_are_integers T.F_are_integers.kp T.b_are_integers .nil pass0 (pa_cons (pv 0) (pa_cons pe_int (pa_cons (pv 1) pa_nil)))))) (pw_or1 (pt_not (pt_chain op_le op_le pe_int (pe_callB call_len_seq (by rfl) T.n_len PySem.boot_len (pa_cons (pv 0) pa_nil)) (pe_glob (v := .int 8) rfl T.c_MOST_BOUNDS ⟨_, rfl⟩))))))
      (pss_one (ps_ret pe_bl))
      pss_nil)
      (pss_cons (ps_for PassesOwn.never rfl (pi_range2 (by rfl) T.n_range (pa_cons pe_int (pa_cons (pe_callB call_len_seq (by rfl) T.n_len PySem.boot_len (pa_cons (pv 0) pa_nil)) pa_nil))) (pg_name (i := 2) sc_are_bounds.nd rfl (Or.inl rfl))
      (pss_one (ps_if (pt_cmpR op_ge (pe_ix ix_list (pv 0) (pe_op op_sub (pv 2) pe_int) (fun _ _ => rfl)) (pe_ix ix_list (pv 0) (pv 2) (fun _ _ => rfl)) (nomark _))
        (pss_one (ps_ret pe_bl))
        pss_nil)))
      (pss_one (ps_ret pe_bl)))), ?_⟩
    refine ⟨_, rfl, _, rfl, p, ns, 1, m, rfl, hp, fun H1 s1 => ?_⟩
    rw [g.all]
    refine ⟨_, rfl, iteF ?_⟩
    refine ⟨_, rfl, p, _, rfl, .inl (SqL.of (s1 _ _ hp)), _, _, rfl, rfl, _, rfl, ?_⟩
    rw [List.length_map]
    rw [decide_eq_true (show (1 : Int) ≤ (ns.length : Int) by omega)]
    refine iteT ?_
    refine ⟨_, _, rfl, rfl, _, rfl, ?_⟩
    rw [decide_eq_true (show (ns.length : Int) ≤ 8 by omega)]
    refine iteF ?_
    refine ⟨_, rfl, p, _, rfl, .inl (SqL.of (s1 _ _ hp)), 1, _, rfl, ?_, for_range (lo := 1) (n := (((ns.map V.int).length : Int) - 1).toNat) (fun i σ H' => (∃ v : Option V, σ = [some (.ref p), some (.int m), v]) ∧ Same H H') ⟨⟨none, rfl⟩, s1⟩ ?_ ?_⟩
    · rw [List.length_map]; omega
    · rintro i σ H' hi ⟨⟨v, rfl⟩, s2⟩
      have hp2 := s2 _ _ hp
      have hi2 : i + 1 < ns.length := by rw [List.length_map] at hi; omega
      obtain ⟨x, hx⟩ : ∃ x, ns[i]? = some x := ⟨ns[i], by simp⟩
      obtain ⟨y, hy⟩ : ∃ y, ns[i + 1]? = some y := ⟨ns[i + 1], by simp⟩
      refine ⟨_, rfl, _, rfl, _, _, rfl, rfl, p, _, _, _, rfl, rfl, SqL.of hp2, at_of (show (1 : Int) + (i : Int) - 1 = (i : Int) by omega) (at_map hx), ?_⟩
      refine ⟨_, rfl, _, rfl, p, _, _, _, rfl, rfl, SqL.of hp2, at_of (show (1 : Int) + (i : Int) = ((i + 1 : Nat) : Int) by omega) (at_map hy), ?_⟩
      have := g.lt hx hy (Nat.lt_succ_self i)
      refine ⟨_, _, rfl, rfl, _, rfl, ?_⟩
      rw [decide_eq_false (show ¬ (y ≤ x) by omega)]
      exact iteF ⟨⟨_, rfl⟩, s2⟩
    · rintro σ H' ⟨⟨v, rfl⟩, s2⟩
      exact k _ s2
end
end Rt
set_option maxHeartbeats 4000000
namespace Rt
open PySem L2
/-! ### the fields of Steps -/
theorem mb_ : ¬ (("most" : Str) = "_bounds") := by decide +kernel
theorem bm_ : ¬ (("_bounds" : Str) = "most") := by decide +kernel
def sf (m : Int) (t : Addr) : List (Str × V) := putF "_bounds" (.ref t) (putF "most" (.int m) [])
theorem sf_eq (m : Int) (t : Addr) : sf m t = ([("most", V.int m), ("_bounds", V.ref t)] : List (Str × V)) := by
  show (if ("most" : Str) = "_bounds" then [(("most" : Str), V.ref t)] else (("most" : Str), V.int m) :: putF "_bounds" (V.ref t) []) = ([("most", V.int m), ("_bounds", V.ref t)] : List (Str × V))
  rw [if_neg mb_]
  all_goals rfl
theorem sf_most (m : Int) (t : Addr) : (sf m t).lookup ("most" : Str) = some (.int m) := by
  unfold sf
  rw [lookup_putF, if_neg mb_, lookup_putF, if_pos rfl]
theorem sf_bounds (m : Int) (t : Addr) : (sf m t).lookup ("_bounds" : Str) = some (.ref t) := by
  unfold sf
  rw [lookup_putF, if_pos rfl]
theorem sf_no (m : Int) (t : Addr) {x : Str} (h1 : ¬ x = "_bounds") (h2 : ¬ x = "most") : (sf m t).lookup x = none := by
  unfold sf
  rw [lookup_putF, if_neg h1, lookup_putF, if_neg h2]
  all_goals rfl
/-- steps stand at p -/
def StepsAt (C : Addr) (H : Hp) (p : Addr) (m : Int) (ns : List Int) : Prop := ∃ (dx t : Addr), H p = some (.ins C dx (sf m t)) ∧ H t = some (.tup (ns.map V.int))
theorem StepsAt.mono {C : Addr} {H H' : Hp} {p : Addr} {m : Int} {ns : List Int} (h : StepsAt C H p m ns) (s : Same H H') : StepsAt C H' p m ns := by
  obtain ⟨dx, t, h1, h2⟩ := h
  exact ⟨dx, t, s _ _ h1, s _ _ h2⟩
section
variable {P : Program} {w : World} {K : PySem.W.Frag} {mg : Str → Option Value} {base : Heap} {a : Ad}
theorem same_new {H : Hp} {p : Addr} {o : HO} (h : H p = none) : Same H (upd H p o) := fun b u e => by rw [upd_ne (ne_of_none e h)]; exact e
/-- all as it was but what stands at p -/
def But (p : Addr) (H H' : Hp) : Prop := ∀ b o, b ≠ p → H b = some o → H' b = some o
def sp_Steps_init (C : Addr) : Sp := fun vs H Q _ => ∃ (p dx l : Addr) (m : Int) (ns : List Int), vs = [.ref p, .int m, .ref l] ∧ H p = some (.ins C dx []) ∧ H l = some (.lst (ns.map V.int)) ∧ Good ns m ∧
  ∀ H', But p H H' → StepsAt C H' p m ns → Q .non H'
theorem ok_Steps_init (T : Txt K mg a) : FnOk P w K mg base CX0 4 a.a_Steps_init a.fd_Steps_init ["self", "most", "bounds"] (sp_Steps_init a.C_Steps) := by
  refine T.F_Steps_init.ok sc_Steps_init (fun vs H Q E h => ?_) (fun cdv A outer s H vs Q E hr h => ?_)
  · obtain ⟨p, dx, l, m, ns, rfl, _⟩ := h
    rfl
  · obtain ⟨p, dx, l, m, ns, rfl, hp, hl, g, k⟩ := h
    have m1 := g.most
    have m2 := g.top
    refine ⟨_, (pss_cons (ps_if (pt_not (pt_val (pe_call (ok_is_integer T) (hr.mono (by decide)) rfl T.g_is_integer T.F_is_integer.kp T.b_is_integer .nil pass0 (pa_cons (pv 1) (pa_cons pe_int (pa_cons (pe_glob (v := .int 1000) rfl T.c_GREATEST_ROOM ⟨_, rfl⟩) pa_nil))))))
      (pss_one ps_never)
      pss_nil)
      (pss_cons (ps_if (pt_not (pt_val (pe_call (ok_are_bounds T) (hr.mono (by decide)) rfl T.g_are_bounds T.F_are_bounds.kp T.b_are_bounds .nil pass0 (pa_cons (pv 2) (pa_cons (pv 1) pa_nil)))))
      (pss_one ps_never)
      pss_nil)
      (pss_cons (ps_fld (pv 0) (pv 1) rfl)
      (pss_one (ps_fld (pv 0) (pe_callTy call_tuple_of (by rfl) T.n_tuple (by decide +kernel) (pa_cons (pv 2) pa_nil)) rfl))))), ?_⟩
    refine ⟨_, rfl, _, _, _, rfl, _, rfl, ?_⟩
    rw [inI_T ⟨m1, m2⟩]
    refine iteF ?_
    refine ⟨_, rfl, _, rfl, l, ns, m, rfl, hl, g, fun H1 s1 => ⟨_, rfl, ?_⟩⟩
    refine iteF ?_
    refine ⟨_, rfl, _, rfl, p, a.C_Steps, dx, [], rfl, s1 _ _ hp, T.cl_Steps, T.nf_Steps_most, (by show 0 < 1000; decide), ?_⟩
    have hl1 := s1 _ _ hl
    have hp1 := s1 _ _ hp
    have nlp : l ≠ p := ne_of hl1 hp1 (by intro q; cases q)
    refine ⟨_, rfl, l, _, rfl, .inl ⟨SqL.of (by rw [upd_ne nlp]; exact hl1), fun t ht => ?_⟩⟩
    have ntp : t ≠ p := fun q => by rw [q, upd_same] at ht; cases ht
    have ht1 : H1 t = none := by rw [upd_ne ntp] at ht; exact ht
    refine ⟨_, rfl, p, a.C_Steps, dx, _, rfl, (by rw [upd_ne ntp.symm]; exact upd_same), T.cl_Steps, T.nf_Steps_bounds, (by show 1 < 1000; decide), ?_⟩
    refine k _ (fun b o nb e => ?_) ⟨dx, t, upd_same, ?_⟩
    · rw [upd_ne nb, upd_ne (ne_of_none (s1 _ _ e) ht1), upd_ne nb]
      exact s1 _ _ e
    · rw [upd_ne ntp, upd_same]
theorem ft_T {α : Type} {f : α → Bool} {l : List α} {i : Nat} {z : α} (h : l[i]? = some z) (c : f z = true) : (l.take (i + 1)).filter f = (l.take i).filter f ++ [z] := by
  rw [List.take_add_one, h, List.filter_append]
  simp [c]
theorem ft_F {α : Type} {f : α → Bool} {l : List α} {i : Nat} {z : α} (h : l[i]? = some z) (c : f z = false) : (l.take (i + 1)).filter f = (l.take i).filter f := by
  rw [List.take_add_one, h, List.filter_append]
  simp [c]
/-! ### class_of -/
def clsI (ns : List Int) (r : Int) : Int := ((ns.filter fun b => decide (b ≤ r)).length : Nat)
def sp_Steps_class_of (C : Addr) : Sp := fun vs H Q _ => ∃ (p : Addr) (m r : Int) (ns : List Int), vs = [.ref p, .int r] ∧ StepsAt C H p m ns ∧ ns.length ≤ 8 ∧ 0 ≤ r ∧ r ≤ m ∧ ∀ H', Same H H' → Q (.int (clsI ns r)) H'
theorem ok_Steps_class_of (T : Txt K mg a) : FnOk P w K mg base CX0 2 a.a_Steps_class_of a.fd_Steps_class_of ["self", "room"] (sp_Steps_class_of a.C_Steps) := by
  refine T.F_Steps_class_of.ok sc_Steps_class_of (fun vs H Q E h => ?_) (fun cdv A outer s H vs Q E hr h => ?_)
  · obtain ⟨p, m, r, ns, rfl, _⟩ := h
    rfl
  · obtain ⟨p, m, r, ns, rfl, ⟨dx, t, hp, ht⟩, h8, r0, r1, k⟩ := h
    refine ⟨_, (pss_cons (ps_if (pt_not (pt_val (pe_call (ok_is_integer T) (hr.mono (by decide)) rfl T.g_is_integer T.F_is_integer.kp T.b_is_integer .nil pass0 (pa_cons (pv 1) (pa_cons pe_int (pa_cons (pe_fld (pv 0) rfl) pa_nil))))))
      (pss_one ps_never)
      pss_nil)
      (pss_one (ps_ret (pe_callB call_len_seq (by rfl) T.n_len PySem.boot_len (pa_cons (pe_lc (own := [("bound", 2)]) (g := gName 2) (by rfl) sc_Steps_class_of.nd (pi_tup (pe_fld (pv 0) rfl)) (blkOk_by (own := [("bound", 2)]) (N := ["self", "room", "bound"]) (sc := defScope s_Steps_class_of) (by decide +kernel)) (fun _ _ _ _ _ => pg_name (i := 2) sc_Steps_class_of.nd rfl (Or.inl rfl)) (fun _ _ _ _ _ => pts_one (pt_cmpR op_le (pv 2) (pv 1) (nomark _))) (fun _ _ _ _ _ => (pv 2))) pa_nil))))), ?_⟩
    refine ⟨_, rfl, _, rfl, p, a.C_Steps, dx, _, _, rfl, hp, T.cl_Steps, T.nf_Steps_most, sf_most _ _, _, _, _, rfl, _, rfl, ?_⟩
    rw [inI_T ⟨r0, r1⟩]
    refine iteF ?_
    refine ⟨_, rfl, p, a.C_Steps, dx, _, _, rfl, hp, T.cl_Steps, T.nf_Steps_bounds, sf_bounds _ _, t, rfl, ⟨_, SqT.of ht⟩, fun D hD => ?_⟩
    refine lc_tup (K := K) (a := t) (xs := ns.map V.int) (fun i H' => Same H H' ∧ H' D = some (.lst (((ns.take i).filter fun b => decide (b ≤ r)).map V.int)))
      ⟨same_new hD, by rw [upd_same]; rfl⟩ (fun i H' _ h => SqT.of (h.1 _ _ ht)) ?_ ?_
    · rintro i y H' hk ⟨s1, hd⟩
      obtain ⟨z, hz, rfl⟩ := map_at hk
      refine ⟨rfl, _, rfl, _, rfl, _, _, rfl, rfl, _, rfl, ?_⟩
      by_cases c : z ≤ r
      · rw [decide_eq_true c]
        refine iteT ⟨_, rfl, _, hd, ?_, ?_, ?_⟩
        · rw [List.length_map]
          refine Nat.lt_of_le_of_lt (Nat.le_trans (List.length_filter_le _ _) (Nat.le_trans (List.length_take_le _ _) (Nat.le_trans (Nat.le_of_lt_succ (Nat.lt_succ_of_le ?_)) h8))) (by decide)
          have := (List.getElem?_eq_some_iff.mp hz).1
          omega
        · intro b o e
          rw [upd_ne (ne_of_none e hD)]
          exact s1 _ _ e
        · rw [upd_same, ft_T hz (decide_eq_true c), List.map_append]
          rfl
      · rw [decide_eq_false c]
        refine iteF ⟨s1, ?_⟩
        rw [hd, ft_F hz (decide_eq_false c)]
    · rintro H' ⟨s1, hd⟩
      rw [List.length_map, List.take_length] at hd
      refine ⟨D, _, rfl, .inl (SqL.of hd), ?_⟩
      rw [List.length_map]
      exact k _ s1
end
end Rt
set_option maxHeartbeats 4000000
namespace Rt
open PySem L2
section
variable {P : Program} {w : World} {K : PySem.W.Frag} {mg : Str → Option Value} {base : Heap} {a : Ad}
/-! ### the pool -/
def PoolAt (H : Hp) (p : Addr) : Prop := ∃ (x y : Int), H p = some (.lst [.int x, .int y]) ∧ 0 ≤ x ∧ 0 ≤ y ∧ y < 2147483647
def sp_law_opened (K : PySem.W.Frag) : Sp := fun vs H Q _ => ∃ (s : Addr) (k : Int) (ns : List Int), vs = [.ref s, .int k] ∧ SqL K H s (ns.map V.int) ∧ 0 ≤ k ∧ k ≤ 63 ∧
  ∀ H' p, H p = none → Same H H' → PoolAt H' p → Q (.ref p) H'
theorem max_nonneg (c : Int) : 0 ≤ (if -1 - c > c then -1 - c else c) := by split <;> omega
theorem ok_law_opened (T : Txt K mg a) : FnOk P w K mg base CX0 1 a.a_law_opened a.fd_law_opened ["_law_script", "_law_k"] (sp_law_opened K) := by
  refine T.F_law_opened.ok sc_law_opened (fun vs H Q E h => ?_) (fun cdv A outer s H vs Q E hr h => ?_)
  · obtain ⟨p, k, ns, rfl, _⟩ := h
    rfl
  · obtain ⟨p, k, ns, rfl, hs, k0, k63, kk⟩ := h
    refine ⟨_, (pss_cons (ps_set (i := 2) sc_law_opened.nd rfl (Or.inl rfl) (pe_ifExp (pt_cmpR op_lt (pv 1) (pe_callB call_len_seq (by rfl) T.n_len PySem.boot_len (pa_cons (pv 0) pa_nil)) (nomark _)) (pe_ix ix_list (pv 0) (pv 1) (fun _ _ => rfl)) pe_int))
      (pss_cons (ps_set (i := 3) sc_law_opened.nd rfl (Or.inl rfl) (pe_callB (call_max2 rfl) (by rfl) T.n_max (by decide +kernel) (pa_cons (pe_callTy call_int1 (by rfl) T.n_int (by decide +kernel) (pa_cons (pv 2) pa_nil)) (pa_cons (pe_callTy call_int1 (by rfl) T.n_int (by decide +kernel) (pa_cons (pe_op op_sub (pe_un un_neg pe_int) (pv 2)) pa_nil)) pa_nil))))
      (pss_one (ps_ret (pe_lst (pa_cons (pe_op op_mul (pv 3) (pe_callTy call_int1 (by rfl) T.n_int (by decide +kernel) (pa_cons (pe_cmpR op_ge (pv 3) (pe_op op_pow pe_int pe_int) (nomark _)) pa_nil))) (pa_cons (pe_op op_mod (pe_callTy call_int1 (by rfl) T.n_int (by decide +kernel) (pa_cons (pe_op op_mul (pe_op op_add (pe_op op_add (pe_op op_mod (pv 3) pe_int) (pe_op op_mul pe_int (pv 1))) pe_int) pe_int) pa_nil)) pe_int) pa_nil))))))), ?_⟩
    refine ⟨_, rfl, _, rfl, p, _, rfl, .inl hs, _, _, rfl, rfl, _, rfl, ?_⟩
    refine ite2 (fun c => ?_) (fun c => ?_)
    have c2 : k < (ns.length : Int) := by
      have := of_decide_eq_true c
      rw [List.length_map] at this
      exact this
    obtain ⟨z, hz⟩ : ∃ z, ns[k.toNat]? = some z := ⟨ns[k.toNat], by simp⟩
    refine ⟨_, rfl, _, rfl, p, _, _, _, rfl, rfl, hs, at_of (show k = ((k.toNat : Nat) : Int) by omega) (at_map hz), ?_⟩
    clear c2 hz
    rotate_left
    generalize hz : (5 : Int) = z
    clear hz
    all_goals clear c
    all_goals
      refine ⟨_, rfl, .inl ⟨_, rfl, _, rfl, _, rfl, _, _, rfl, rfl, .inl ⟨_, rfl, _, _, rfl, ?_⟩⟩⟩
      have g0 := max_nonneg z
      generalize (if -1 - z > z then -1 - z else z) = g at g0
      refine ⟨_, rfl, _, rfl, _, _, rfl, rfl, ⟨by decide, by decide, by decide⟩, _, _, rfl, rfl, .inr ⟨_, rfl, _, _, rfl, rfl, .inr ?_, ?_⟩⟩
      · split <;> decide
      have m0 := Int.emod_nonneg g (show (2147483629 : Int) ≠ 0 by decide)
      have m1 := Int.emod_lt_of_pos g (show (0 : Int) < 2147483629 by decide)
      refine ⟨_, rfl, _, _, rfl, rfl, (by show (0 : Int) < _; decide), _, rfl, _, _, rfl, rfl, .inl ⟨by decide, by decide⟩, _, _, rfl, rfl, _, _, rfl, rfl, _, _, rfl, rfl, .inl ⟨?_, ?_⟩, .inl ⟨_, rfl, _, _, rfl, rfl, (by show (0 : Int) < _; decide), ?_⟩⟩
      · omega
      · omega
      refine ⟨by show 2 ≤ sizeLine; decide, fun l hl => ?_⟩
      refine kk _ l hl (same_new hl) ⟨_, _, upd_same, ?_, ?_, ?_⟩
      · split
        · rw [Int.mul_one]; exact g0
        · rw [Int.mul_zero]; exact Int.le_refl 0
      · exact Int.emod_nonneg _ (by decide)
      · exact Int.emod_lt_of_pos _ (by decide)
/-! ### draw -/
def sp_law_draw : Sp := fun vs H Q _ => ∃ (p : Addr) (m : Int), vs = [.ref p, .int m] ∧ PoolAt H p ∧ 1 ≤ m ∧ m < 1073741824 ∧
  ∀ H' d, 0 ≤ d → d < m → But p H H' → PoolAt H' p → Q (.int d) H'
theorem ok_law_draw (T : Txt K mg a) : FnOk P w K mg base CX0 1 a.a_law_draw a.fd_law_draw ["_law_pool", "_law_many"] sp_law_draw := by
  refine T.F_law_draw.ok sc_law_draw (fun vs H Q E h => ?_) (fun cdv A outer s H vs Q E hr h => ?_)
  · obtain ⟨p, m, rfl, _⟩ := h
    rfl
  · obtain ⟨p, m, rfl, ⟨x, y, hp, x0, y0, y1⟩, m1, m2, k⟩ := h
    have hq := SqL.of (K := K) hp
    refine ⟨_, (pss_cons (ps_if (pt_cmpR op_gt (pe_ix ix_list (pv 0) pe_int (fun _ _ => rfl)) pe_int (nomark _))
      (pss_cons (ps_set (i := 2) sc_law_draw.nd rfl (Or.inl rfl) (pe_op op_modN (pe_callTy call_int1 (by rfl) T.n_int (by decide +kernel) (pa_cons (pe_ix ix_list (pv 0) pe_int (fun _ _ => rfl)) pa_nil)) (pv 1)))
        (pss_cons (ps_asg (pe_op op_fdivN (pe_ix ix_list (pv 0) pe_int (fun _ _ => rfl)) (pv 1)) (pg_sub (pv 0) pe_int set_list))
        (pss_one (ps_ret (pv 2)))))
      pss_nil)
      (pss_cons (ps_asg (pe_op op_mod (pe_callTy call_int1 (by rfl) T.n_int (by decide +kernel) (pa_cons (pe_op op_add (pe_op op_mul (pe_ix ix_list (pv 0) pe_int (fun _ _ => rfl)) pe_int) pe_int) pa_nil)) pe_int) (pg_sub (pv 0) pe_int set_list))
      (pss_one (ps_ret (pe_op op_modN (pe_op op_fdiv (pe_op op_mod (pe_callTy call_int1 (by rfl) T.n_int (by decide +kernel) (pa_cons (pe_op op_mul (pe_ix ix_list (pv 0) pe_int (fun _ _ => rfl)) (pe_ix ix_list (pv 0) pe_int (fun _ _ => rfl))) pa_nil)) pe_int) pe_int) (pv 1)))))), ?_⟩
    have a0 : ∀ x y : Int, atI [V.int x, V.int y] 0 = some (V.int x) := fun x y => at_of (j := 0) rfl rfl
    have a1 : ∀ x y : Int, atI [V.int x, V.int y] 1 = some (V.int y) := fun x y => at_of (j := 1) rfl rfl
    have but : ∀ o, But p H (upd H p o) := fun o b u nb e => by rw [upd_ne nb]; exact e
    have m3 : m ≠ 0 := by omega
    refine ⟨_, rfl, p, _, _, _, rfl, rfl, hq, a0 x y, _, _, rfl, rfl, _, rfl, ?_⟩
    refine ite2 (fun c => ?_) (fun c => ?_)
    · refine ⟨_, rfl, p, _, _, _, rfl, rfl, hq, a0 x y, .inl ⟨_, rfl, _, rfl, _, _, rfl, rfl, m3, ?_⟩⟩
      refine ⟨_, rfl, p, _, _, _, rfl, rfl, hq, a0 x y, _, rfl, _, _, rfl, rfl, ⟨m3, by omega⟩, _, rfl, p, _, _, 0, rfl, rfl, hp, rfl, ?_⟩
      refine ⟨_, rfl, ?_⟩
      refine k _ _ (Int.fmod_nonneg_of_pos _ (by omega)) (Int.fmod_lt_of_pos _ (by omega)) (but _) ⟨_, y, upd_same, ?_, y0, y1⟩
      exact Int.fdiv_nonneg x0 (by omega)
    · refine ⟨_, rfl, p, _, _, _, rfl, rfl, hq, a1 x y, _, _, rfl, rfl, .inl ⟨by omega, by omega⟩, _, _, rfl, rfl, .inl ⟨_, rfl, _, _, rfl, rfl, (by show (0 : Int) < _; decide), ?_⟩⟩
      have z0 := Int.emod_nonneg (y * 39373 + 7) (show (2147483647 : Int) ≠ 0 by decide)
      have z1 := Int.emod_lt_of_pos (y * 39373 + 7) (show (0 : Int) < 2147483647 by decide)
      obtain ⟨z, hz⟩ : ∃ z, z = (y * 39373 + 7) % 2147483647 := ⟨_, rfl⟩
      rw [← hz] at z0 z1
      refine ⟨_, rfl, p, _, _, 1, rfl, rfl, hp, rfl, ?_⟩
      have hq2 : SqL K (upd H p (.lst ([V.int x, V.int y].set 1 (V.int ((y * 39373 + 7) % 2147483647))))) p [.int x, .int z] := by rw [hz]; exact SqL.of upd_same
      refine ⟨_, rfl, p, _, _, _, rfl, rfl, hq2, a1 x z, _, rfl, p, _, _, _, rfl, rfl, hq2, a1 x z, _, _, rfl, rfl, .inl ⟨by omega, by omega⟩, .inl ⟨_, rfl, _, _, rfl, rfl, (by show (0 : Int) < _; decide), _, _, rfl, rfl, ⟨by decide, by decide⟩, _, rfl, _, _, rfl, rfl, m3, ?_⟩⟩
      exact k _ _ (Int.fmod_nonneg_of_pos _ (by omega)) (Int.fmod_lt_of_pos _ (by omega)) (but _) ⟨x, z, (by rw [hz]; exact upd_same), x0, z0, z1⟩
end
end Rt
set_option maxHeartbeats 4000000
namespace Rt
open PySem L2
/-! ### the plan: a dict of the greatest room and the bounds -/
def kMost : Key := Sum.inr ("most" : Str)
def kBounds : Key := Sum.inr ("bounds" : Str)
def planKv (m : Int) (l : Addr) : List (Key × V) := mergeK [] [(kMost, .int m), (kBounds, .ref l)]
theorem kmb : ¬ kBounds = kMost := by
  intro h
  have h2 : ("bounds" : Str) = ("most" : Str) := Sum.inr.inj h
  exact absurd h2 (by decide +kernel)
theorem plan_most (m : Int) (l : Addr) : valV (planKv m l) kMost = some (.int m) := by
  show valV (putK (putK [] kMost (.int m)) kBounds (.ref l)) kMost = _
  rw [valV_put, if_neg (fun z => kmb z.symm), valV_put, if_pos rfl]
theorem plan_bounds (m : Int) (l : Addr) : valV (planKv m l) kBounds = some (.ref l) := by
  show valV (putK (putK [] kMost (.int m)) kBounds (.ref l)) kBounds = _
  rw [valV_put, if_pos rfl]
def PlanAt (H : Hp) (d : Addr) (m : Int) (ns : List Int) : Prop := ∃ l, H d = some (.dK (planKv m l)) ∧ H l = some (.lst (ns.map V.int))
theorem PlanAt.mono {H H' : Hp} {d : Addr} {m : Int} {ns : List Int} (h : PlanAt H d m ns) (s : Same H H') : PlanAt H' d m ns := by
  obtain ⟨l, h1, h2⟩ := h
  exact ⟨l, s _ _ h1, s _ _ h2⟩
theorem But.trans {p : Addr} {H H1 H2 : Hp} (h1 : But p H H1) (h2 : But p H1 H2) : But p H H2 := fun b o nb e => h2 b o nb (h1 b o nb e)
theorem Same.but {p : Addr} {H H1 : Hp} (h1 : Same H H1) : But p H H1 := fun b o _ e => h1 b o e
theorem PoolAt.mono {H H' : Hp} {p : Addr} (h : PoolAt H p) (s : Same H H') : PoolAt H' p := by
  obtain ⟨x, y, h1, h2⟩ := h
  exact ⟨x, y, s _ _ h1, h2⟩
theorem But.free {p : Addr} {H H' : Hp} (e : But p H H') {l : Addr} (n : l ≠ p) (h : H' l = none) : H l = none := by
  cases q : H l with
  | none => rfl
  | some o => rw [e l o n q] at h; cases h
/-- the numbers 1 to m -/
def upTo (m : Int) : List Int := (List.range (m + 1 - 1).toNat).map fun i => 1 + ((i : Nat) : Int)
theorem upTo_len (m : Int) : (upTo m).length = m.toNat := by
  unfold upTo
  rw [List.length_map, List.length_range]
  omega
theorem upTo_mem {m z : Int} (h : z ∈ upTo m) : 1 ≤ z ∧ z ≤ m := by
  unfold upTo at h
  obtain ⟨i, hi, e⟩ := List.mem_map.mp h
  have := List.mem_range.mp hi
  omega
theorem upTo_nodup (m : Int) : (upTo m).Nodup := by
  unfold upTo
  unfold List.Nodup
  rw [List.pairwise_map]
  refine List.Pairwise.imp ?_ List.nodup_range
  intro x y h z
  omega
theorem rgV_upTo (m : Int) : rgV 1 (m + 1) = (upTo m).map V.int := by
  unfold rgV upTo
  rw [List.map_map]
  rfl
theorem erase_map {α β : Type} (f : α → β) : ∀ (l : List α) (k : Nat), (l.map f).eraseIdx k = (l.eraseIdx k).map f
  | [], k => by simp
  | a :: r, 0 => rfl
  | a :: r, k + 1 => by
    show f a :: (r.map f).eraseIdx k = f a :: (r.eraseIdx k).map f
    rw [erase_map f r k]
theorem perm_pop {xs ys : List Int} {k : Nat} {y : Int} (h : ys[k]? = some y) : ((xs ++ [y]) ++ ys.eraseIdx k).Perm (xs ++ ys) := by
  obtain ⟨hk, e⟩ := List.getElem?_eq_some_iff.mp h
  rw [List.append_assoc]
  refine List.Perm.append_left xs ?_
  show (y :: ys.eraseIdx k).Perm ys
  have e2 : ys = ys.take k ++ y :: ys.drop (k + 1) := by
    rw [← e, ← List.drop_eq_getElem_cons hk, List.take_append_drop]
  rw [List.eraseIdx_eq_take_drop_succ]
  conv => rhs; rw [e2]
  exact List.perm_middle.symm
theorem good_of {xs ys ns : List Int} {m : Int} (h : (xs ++ ys).Perm (upTo m)) (m1 : 1 ≤ m) (m2 : m ≤ 1000) (l1 : 1 ≤ xs.length) (l8 : xs.length ≤ 8) (hp : ns.Perm xs) (hs : ns.Pairwise (· ≤ ·)) : Good ns m := by
  have nd : (xs ++ ys).Nodup := (h.nodup_iff).mpr (upTo_nodup m)
  have ndx : xs.Nodup := (List.nodup_append.mp nd).1
  have ndn : ns.Nodup := (hp.nodup_iff).mpr ndx
  have mem : ∀ z ∈ ns, 1 ≤ z ∧ z ≤ m := fun z hz => upTo_mem (h.mem_iff.mp (List.mem_append_left _ (hp.mem_iff.mp hz)))
  refine ⟨m1, m2, by rw [hp.length_eq]; exact l1, by rw [hp.length_eq]; exact l8, fun z hz => (mem z hz).1, fun z hz => (mem z hz).2, ?_⟩
  have ndn' : ns.Pairwise (· ≠ ·) := ndn
  refine List.Pairwise.imp ?_ (List.Pairwise.and hs ndn')
  intro x y h
  have h1 := h.1
  have h2 := h.2
  omega
section
variable {P : Program} {w : World} {K : PySem.W.Frag} {mg : Str → Option Value} {base : Heap} {a : Ad}
def sp_law_bounds : Sp := fun vs H Q _ => ∃ (p : Addr) (top : Int), vs = [.ref p, .int top] ∧ PoolAt H p ∧ 1 ≤ top ∧ top ≤ 1000 ∧
  ∀ H' d m ns, But p H H' → PoolAt H' p → PlanAt H' d m ns → H d = none → m ≤ top → Good ns m → Q (.ref d) H'
theorem ok_law_bounds (T : Txt K mg a) : FnOk P w K mg base CX0 2 a.a_law_bounds a.fd_law_bounds ["_law_pool", "_law_top"] sp_law_bounds := by
  refine T.F_law_bounds.ok sc_law_bounds (fun vs H Q E h => ?_) (fun cdv A outer s H vs Q E hr h => ?_)
  · obtain ⟨p, m, rfl, _⟩ := h
    rfl
  · obtain ⟨p, top, rfl, hp, t1, t2, k⟩ := h
    refine ⟨_, (pss_cons (ps_set (i := 2) sc_law_bounds.nd rfl (Or.inl rfl) (pe_op op_add pe_int (pe_call (ok_law_draw T) (hr.mono (by decide)) rfl T.g__law_draw T.F_law_draw.kp T.b_law_draw .nil pass0 (pa_cons (pv 0) (pa_cons (pv 1) pa_nil)))))
      (pss_cons (ps_par (i := 3) (j := 4) (by rfl) sc_law_bounds.nd rfl rfl (by decide) rfl rfl (pa_cons (pe_listRg rfl (by rfl) T.n_list (prg_2 (by rfl) T.n_range pe_int (pe_op op_add (pv 2) pe_int))) (pa_cons (pe_lst pa_nil) pa_nil)) (by rfl))
      (pss_cons (ps_for PassesOwn.never rfl (pi_range1 (by rfl) T.n_range (pa_cons (pe_op op_add pe_int (pe_call (ok_law_draw T) (hr.mono (by decide)) rfl T.g__law_draw T.F_law_draw.kp T.b_law_draw .nil pass0 (pa_cons (pv 0) (pa_cons (pe_callB (call_min2 rfl) (by rfl) T.n_min (by decide +kernel) (pa_cons pe_int (pa_cons (pv 2) pa_nil))) pa_nil)))) pa_nil)) (pg_name (i := 5) sc_law_bounds.nd rfl (Or.inl rfl))
      (pss_one (ps_expr (pe_bm PySem.F.plainAttrs_list PySem.F.slot_list_append PySem.F.type_list_append mt_append (pv 4) (pa_cons (pe_bm PySem.F.plainAttrs_list PySem.F.slot_list_pop PySem.F.type_list_pop mt_popAt (pv 3) (pa_cons (pe_call (ok_law_draw T) (hr.mono (by decide)) rfl T.g__law_draw T.F_law_draw.kp T.b_law_draw .nil pass0 (pa_cons (pv 0) (pa_cons (pe_callB call_len_seq (by rfl) T.n_len PySem.boot_len (pa_cons (pv 3) pa_nil)) pa_nil))) pa_nil)) pa_nil)))))
      (pss_one (ps_ret (pe_disp (pps_cons pe_str (pv 2) (pps_cons pe_str (pe_callB cr_sorted (by rfl) T.n_sorted (by decide +kernel) (pa_cons (pe_lc (own := [("_law_one", 6)]) (g := gName 6) (tt := tYes) (by rfl) sc_law_bounds.nd (pi_list (pv 4)) (blkOk_by (own := [("_law_one", 6)]) (N := ["_law_pool", "_law_top", "_law_most", "_law_menu", "_law_bounds_here", "_law_step", "_law_one"]) (sc := defScope s_law_bounds) (by decide +kernel)) (fun _ _ _ _ _ => pg_name (i := 6) sc_law_bounds.nd rfl (Or.inl rfl)) (fun _ _ _ _ _ => pts_nil) (fun _ _ _ _ _ => (pe_callTy call_int1 (by rfl) T.n_int (by decide +kernel) (pa_cons (pv 6) pa_nil)))) pa_nil)) pps_nil)) (by rfl) (by rfl) (fun z => by cases z) (by decide))))))), ?_⟩
    refine ⟨_, rfl, _, rfl, p, top, rfl, hp, t1, by omega, fun H1 d d0 d1 b1 p1 => ⟨_, _, rfl, rfl, ?_⟩⟩
    obtain ⟨m, hm⟩ : ∃ m, m = 1 + d := ⟨_, rfl⟩
    show gName 2 (V.int (1 + d)) _ _ _
    rw [← hm]
    have m1 : 1 ≤ m := by omega
    have m2 : m ≤ top := by omega
    refine ⟨_, rfl, _, _, rfl, rfl, _, _, rfl, rfl, RgOk.of_le (by omega) (by omega) (by omega) (by omega), fun l hl => ?_⟩
    refine ⟨Nat.zero_le _, fun e he => ⟨_, _, rfl, ?_⟩⟩
    have nel : e ≠ l := fun q => by rw [q, upd_same] at he; cases he
    have he1 : H1 e = none := by rw [upd_ne nel] at he; exact he
    have s2 : Same H1 (upd (upd H1 l (.lst (rgV 1 (m + 1)))) e (.lst [])) := fun b o q => same_new he _ _ (same_new hl _ _ q)
    obtain ⟨x0, y0, q0, _⟩ := id p1
    have nlp : l ≠ p := fun q => by rw [q, q0] at hl; cases hl
    have nep : e ≠ p := fun q => by rw [q, q0] at he1; cases he1
    refine ⟨_, rfl, _, rfl, _, _, rfl, p, _, rfl, p1.mono s2, ?_, ?_, fun H3 d' d0' d1' b3 p3 => ?_⟩
    · split <;> omega
    · split <;> omega
    have hd8 : d' < 8 := by
      have : (if m < 8 then m else 8) ≤ 8 := by split <;> omega
      omega
    have hdm : d' < m := by
      have : (if m < 8 then m else 8) ≤ m := by split <;> omega
      omega
    have f3 : But p H H3 := But.trans b1 (But.trans (Same.but s2) b3)
    refine ⟨_, _, rfl, rfl, _, rfl, by omega, by omega, for_range (lo := 0) (n := (1 + d').toNat) (fun i σ H' => (∃ v : Option V, σ = [some (.ref p), some (.int top), some (.int m), some (.ref l), some (.ref e), v, none]) ∧ But p H H' ∧ PoolAt H' p ∧
      ∃ xs ys : List Int, H' e = some (.lst (xs.map V.int)) ∧ H' l = some (.lst (ys.map V.int)) ∧ xs.length = i ∧ (xs ++ ys).Perm (upTo m))
      ⟨⟨none, rfl⟩, f3, p3, [], upTo m, b3 _ _ nep upd_same, b3 _ _ nlp (by rw [upd_ne nel.symm, upd_same, rgV_upTo]), rfl, List.Perm.refl _⟩ ?_ ?_⟩
    · rintro i σ H' hi ⟨⟨v, rfl⟩, b4, p4, xs, ys, hx, hy, hxl, hpm⟩
      have hlen := hpm.length_eq
      rw [List.length_append, upTo_len] at hlen
      refine ⟨_, rfl, .inl ⟨rfl, _, SqL.of hx⟩, _, rfl, .inl ⟨rfl, _, SqL.of hy⟩, _, rfl, _, rfl, l, _, rfl, .inl (SqL.of hy), p, _, rfl, p4, ?_, ?_, fun H5 j j0 j1 b5 p5 => ?_⟩
      · rw [List.length_map]; omega
      · rw [List.length_map]; omega
      rw [List.length_map] at j1
      obtain ⟨y, hyk⟩ : ∃ y, ys[j.toNat]? = some y := ⟨ys[j.toNat]'(by omega), by simp⟩
      have hx5 := b5 _ _ nep hx
      have hy5 := b5 _ _ nlp hy
      refine ⟨l, _, j, j.toNat, _, rfl, rfl, hy5, by omega, by omega, ?_, at_map hyk, ?_⟩
      · exact PyProof.Rows.seqIndex_at j0 (by rw [List.length_map]; exact j1)
      refine ⟨e, _, _, rfl, rfl, (by rw [upd_ne nel]; exact hx5), (by rw [List.length_map]; exact Nat.lt_of_le_of_lt (show xs.length ≤ 8 by omega) (by decide)), ?_⟩
      obtain ⟨x5, y5, q5, _⟩ := id p5
      refine ⟨⟨_, rfl⟩, fun b o nb q => ?_, ?_, xs ++ [y], ys.eraseIdx j.toNat, ?_, ?_, ?_, (perm_pop hyk).trans hpm⟩
      · have q1 := b5 _ _ nb (b4 _ _ nb q)
        have nbe : b ≠ e := fun z => by rw [z] at q; rw [z] at nb; exact absurd (b1 _ _ nb q) (by rw [he1]; intro h; cases h)
        have nbl : b ≠ l := fun z => by rw [z] at q; rw [z] at nb; exact absurd (b1 _ _ nb q) (by rw [hl]; intro h; cases h)
        rw [upd_ne nbe, upd_ne nbl]
        exact q1
      · refine ⟨x5, y5, ?_, by assumption⟩
        rw [upd_ne nep.symm, upd_ne nlp.symm]
        exact q5
      · rw [upd_same, List.map_append]; rfl
      · rw [upd_ne nel.symm, upd_same]
        rw [erase_map]
      · rw [List.length_append, hxl]; rfl
    · rintro σ H' ⟨⟨v, rfl⟩, b4, p4, xs, ys, hx, hy, hxl, hpm⟩
      intro q hq
      have nqp : q ≠ p := fun z => by obtain ⟨_, _, h, _⟩ := p4; rw [z, h] at hq; cases hq
      have hq0 : H q = none := But.free b4 nqp hq
      have sq := same_new (o := .dK []) hq
      have xl : xs.length ≤ 8 := by omega
      refine ⟨_, rfl, _, rfl, e, rfl, ⟨_, SqL.of (sq _ _ hx)⟩, fun D hD => ?_⟩
      have nDq : D ≠ q := fun z => by rw [z, upd_same] at hD; cases hD
      have sD := same_new (o := .lst []) hD
      refine lc_list (K := K) (a := e) (xs := xs.map V.int) (fun i H2 => (∀ b o, b ≠ D → upd H' q (.dK []) b = some o → H2 b = some o) ∧ H2 D = some (.lst ((xs.take i).map V.int)))
        ⟨fun b o nb h => by rw [upd_ne nb]; exact h, by rw [upd_same]; rfl⟩ (fun i H2 _ h => SqL.of (h.1 _ _ (ne_of_none (sq _ _ hx) hD) (sq _ _ hx))) ?_ ?_
      · rintro i y H2 hk ⟨s2, hd2⟩
        obtain ⟨z, hz, rfl⟩ := map_at hk
        refine ⟨rfl, _, rfl, .inl ⟨_, rfl, _, hd2, ?_, fun b o nb h => ?_, ?_⟩⟩
        · rw [List.length_map, List.length_take]; exact Nat.lt_of_le_of_lt (show min i xs.length ≤ 8 by omega) (by decide)
        · rw [upd_ne nb]; exact s2 b o nb h
        · rw [upd_same, List.take_add_one, hz, List.map_append]; rfl
      · rintro H2 ⟨s2, hd2⟩
        rw [List.length_map, List.take_length] at hd2
        refine ⟨D, xs, rfl, SqL.of hd2, by omega, fun ns r hperm hsort hr' => ?_⟩
        have q2 := s2 _ _ nDq.symm upd_same
        have nrq : q ≠ r := ne_of_none q2 hr'
        have nrD : D ≠ r := ne_of_none hd2 hr'
        refine ⟨by rw [upd_ne nrq]; exact q2, [(kMost, .int m), (kBounds, .ref r)], rfl, (by show 2 ≤ 15; decide), ?_⟩
        have all : ∀ b o, H' b = some o → upd (upd H2 r (.lst (ns.map V.int))) q (.dK (mergeK [] [(kMost, .int m), (kBounds, .ref r)])) b = some o := fun b o h => by
          have h1 := sq _ _ h
          have nbq : b ≠ q := ne_of_none h hq
          have h2 := s2 _ _ (ne_of_none h1 hD) h1
          rw [upd_ne nbq, upd_ne (ne_of_none h2 hr')]
          exact h2
        refine k _ q m ns (But.trans b4 (Same.but all)) (p4.mono all) ⟨r, upd_same, by rw [upd_ne nrq.symm, upd_same]⟩ hq0 m2 (good_of hpm m1 (by omega) (by omega) xl hperm hsort)
end
end Rt
set_option maxHeartbeats 4000000
namespace Rt
open PySem PySem.Spec PyProof.Rows L2
/-! ### for i, x in enumerate(t, start=k) over a tuple: a rule of this file's own -/
theorem callWith_type_kwE {M : Model} {A : Around} {E : Value → Shared → Prop} {s : Shared} {env : Env} {pos : Pos} {T : String} {e : Expr} {rest : List Expr} {kws : List Keyword} {Q : Value → Shared → Prop}
    (h : wpAny M A (spliced (backTo pos (starEach (e :: rest) env))) (fun vs s₁ => wpAny M A (evalAll ((backToKw pos (keywordEach kws env)).map (·.2)))
      (fun kvs s₂ => wpAny M A (call (.type T) vs (((backToKw pos (keywordEach kws env)).filterMap (·.1)).zip kvs)) Q E s₂) E s₁) E s)
    (he : backTo pos (starEach (e :: rest) env) = (false, eval e env) :: backTo pos (starEach rest env))
    (hplain : (backTo pos (starEach (e :: rest) env)).any (·.1) = false)
    (hall : (backToKw pos (keywordEach kws env)).all (·.1.isSome) = true)
    (hkw : (backToKw pos (keywordEach kws env)).any (·.1.isNone) = false) :
    wpAny M A (callWith pos (.type T) [] (backTo pos (starEach (e :: rest) env)) (backToKw pos (keywordEach kws env))) Q E s := by
  have h2 : wpAny M A (evalArgs (.type T) true (backTo pos (starEach (e :: rest) env)) (backToKw pos (keywordEach kws env))) (fun a s₁ => wpAny M A (call (.type T) ([] ++ a.pos) a.kw) Q E s₁) E s := by
    rw [he] at h ⊢
    exact evalArgs_kwB hall h
  unfold callWith
  refine wpAny_bind (wpAny_holding (wpAny_mono h2 (fun a s₁ h₁ => wpAny_bind (wpAny_standAt ?_)) fun _ _ x => x))
  simp only [hplain, hkw, Bool.or_false]
  refine wpAny_bind (wpAny_pure ?_)
  exact wpAny_bind (wpAny_mono h₁ (fun r s₂ hr => wpAny_bind (wpAny_holding (wpAny_point (wpAny_pure hr)))) fun _ _ x => x)
/-- the tuple at a as it stands at each turn, each item in a new pair, counted from k0 on -/
def IteT (K : PySem.W.Frag) (a : Addr) (k0 : Int) : It :=
  ⟨fun i H => ∃ (xs : List V) (x : V), SqT K H a xs ∧ xs[i]? = some x, fun i H v H' => ∃ T x, v = .ref T ∧ H T = none ∧ H' = upd H T (.tup [.int (k0 + (i : Nat)), x]) ∧ ∀ xs, SqT K H a xs → xs[i]? = some x, fun i H => ∃ xs : List V, SqT K H a xs ∧ xs.length = i⟩
theorem turn_enumT {P : Program} {w : World} {K : PySem.W.Frag} {elts : List Expr} {kk : Nat} {tpos : Pos} (a e it : Addr) (k0 : Int) :
    Turn P w K (.Tuple elts kk tpos) (IteT K a k0) [e, it] e (fun i h => (∃ old, IsEnum h e it (k0 + (i : Nat)) old) ∧ h.IsTupleIter it a i ∧ e ≠ it ∧ a ≠ it ∧ e ≠ a) where
  mem := by simp
  obj := fun i h st b hb => by
    obtain ⟨⟨old, he⟩, ⟨o, ho, hc, hd⟩, _⟩ := st
    have e' : b = e ∨ b = it := by simpa using hb
    rcases e' with z | z
    · rw [z]; exact ⟨_, he, fun v q => nomatch q⟩
    · rw [z]; exact ⟨o, ho, fun v q => by rw [hd] at q; cases q⟩
  keep := fun i h h' st k => let ⟨⟨old, he⟩, hi, hne⟩ := st; ⟨⟨old, k e (by simp) _ he⟩, hi.at fun o q => k it (by simp) o q, hne⟩
  item := by
    intro X hP hw hK hc i pins s σ H E I hf st hg
    subst hP hw hK
    obtain ⟨⟨old, he⟩, hit, hne, hai, hea⟩ := st
    obtain ⟨xs, x, hq, hx⟩ := hg
    obtain ⟨its, rv, p, hz⟩ := I.tuple hq
    obtain ⟨u, hu, ru⟩ := rv.get hx
    have hel : e < s.heap.objs.size := Heap.lt_size he
    have hil : it < s.heap.objs.size := by obtain ⟨_, q, _⟩ := hit; exact Heap.lt_size q
    have hh : X.A.in1.handled = none := I.ok.hd hc
    have hiu : i < its.toArray.size := by
      have := (List.getElem?_eq_some_iff.mp hu).1
      simpa using this
    refine wpAny_pyNext_enum_itemC (Draws.tuple (prog := X.prog) (w := X.w) hh it a hai its.toArray) he ⟨hit, p⟩ hiu hne (by simp [hne, hea]) fun y h' tk hy ho hst hT hsz hk => ?_
    obtain ⟨hit', _⟩ := hst
    have ey : y = u := by
      have : its.toArray[i]? = some u := by simpa using hu
      rw [this] at hy
      exact (Option.some.inj hy).symm
    subst ey
    refine ⟨_, rfl, wpAny_letOwnedTupleGo_enum (s := { s with heap := h', toks := tk + 1 }) ho fun h'' he' sb => ?_⟩
    have hT2 : h''.get? s.heap.objs.size = some { cls := .type "tuple", data := .seq #[.int (k0 + (i : Nat)) tk, y] } := (sb.2 _ (Nat.ne_of_gt hel)).trans hT
    have new : ObjOk X.prog X.w (upd H s.heap.objs.size (.tup [.int (k0 + (i : Nat)), x])) h'' s.heap.objs.size (.tup [.int (k0 + (i : Nat)), x]) :=
      ⟨by show 2 ≤ sizeLine; decide, [.int (k0 + (i : Nat)) tk, y], .cons ⟨_, rfl⟩ (.cons ru .nil), ⟨_, hT2, rfl, _, rfl⟩⟩
    have I1 : Inv X pins σ (upd H s.heap.objs.size (.tup [.int (k0 + (i : Nat)), x])) { s with heap := h'', toks := tk + 1 } :=
      I.turnedNew (ch := [e, it]) (fun b ob hb q => (sb.2 b (fun z => hb (by simp [z]))).trans (hk b ob (fun z => hb (by simp [z])) (fun z => hb (by simp [z])) q)) hf (Nat.le_refl _) new
    refine ⟨.ref s.heap.objs.size, _, I1, rfl, ⟨_, x, rfl, I.hok.fresh (Nat.le_refl _), rfl, fun ys hy => by rw [I.tuple_inj hy hq]; exact hx⟩, ⟨⟨y, ?_⟩, hit'.at fun o q => (sb.2 it (Ne.symm hne)).trans q, hne, hai, hea⟩, fun b hb => ?_⟩
    · have e1 : k0 + ((i + 1 : Nat) : Int) = k0 + (i : Int) + 1 := by omega
      rw [e1]; exact he'
    · have hb' : b < s.heap.objs.size := by
        have e' : b = e ∨ b = it := by simpa using hb
        rcases e' with z | z
        · rw [z]; exact hel
        · rw [z]; exact hil
      rw [upd_ne (Nat.ne_of_lt hb')]
      exact (hf b hb).1
  done := by
    intro X hP hw hK hc i pins s σ H E I hf st hg
    subst hP hw hK
    obtain ⟨⟨old, he⟩, hit, hne, hai, hea⟩ := st
    obtain ⟨xs, hq, hx⟩ := hg
    obtain ⟨its, rv, p, hz⟩ := I.tuple hq
    obtain ⟨f0, f1, f2, f3, f4, f5⟩ := hf it (by simp)
    have hl := rv.length
    have hh : X.A.in1.handled = none := I.ok.hd hc
    have ei : i = its.toArray.size := by simp; omega
    rw [ei] at hit
    exact wpAny_pyNext_enum_endD (Draws.tuple (prog := X.prog) (w := X.w) hh it a hai its.toArray) he ⟨hit, p⟩ fun h' eb => ⟨rfl, I.turned (t' := s.toks) (fun b o hb q => eb b o hb q) f0 f1 f3 f4 f5⟩
  self := fun A i s Q E st h => let ⟨⟨_, he⟩, _⟩ := st; wpAny_pyIter_enum he h
def iEnumT (K : PySem.W.Frag) (ta : TA) (tk : TA) : TI := fun σ H R => ta σ H fun vs H1 => tk σ H1 fun zs H2 => ∃ a xs k0, vs = [.ref a] ∧ zs = [.int k0] ∧ -(2 ^ 62) ≤ k0 ∧ k0 < 2 ^ 62 ∧ SqT K H2 a xs ∧ R (IteT K a k0) H2
theorem pi_enumT {X : Cx} {e ke : Expr} {ta tk : TA} {p pos tpos kp : Pos} {elts : List Expr} {kk : Nat} (hg : Gl X "enumerate") (hm : X.mg "enumerate" = none) (ha : PA X [e] ta) (hk : PK X [⟨some (Str.ofString "start"), ke, kp⟩] tk)
    (he : backTo pos (starEach [e] X.env) = (false, eval e X.env) :: backTo pos (starEach [] X.env) := by rfl) (hpl : (backTo pos (starEach [e] X.env)).any (·.1) = false := by rfl) :
    PI X (.Tuple elts kk tpos) (.Call (.Name "enumerate" p) [e] [⟨some (Str.ofString "start"), ke, kp⟩] pos) (iEnumT X.K ta tk) := by
  refine ⟨fun pins s σ H R I h => ?_⟩
  refine wpAny_Call_Name_kw (ld_blt I hg hm boot_enumerate ?_)
  refine callWith_type_kwE (thn (ha.run pos pins s σ H _ I h) fun us s0 ⟨vs, H0, I0, r1, q0⟩ => thn (hk.run pos pins s0 σ H0 _ I0 q0) fun ws s1 ⟨zs, H1, I1, r2, q1⟩ => ?_) he hpl rfl rfl
  obtain ⟨a, xs, k0, ex, ez, b1, b2, hq, q⟩ := q1
  subst ex ez
  cases r1 with
  | cons r rr =>
    cases rr
    cases r
    cases r2 with
    | cons r' rr' =>
      cases rr'
      obtain ⟨t, rfl⟩ := r'
      obtain ⟨its, rv, p', hz⟩ := I1.tuple hq
      have hal : a < s1.heap.objs.size := by obtain ⟨_, q, _⟩ := p'; exact Heap.lt_size q
      refine enum_begins_start (begins_tuple a its.toArray) p' (by omega) (by omega) fun h' he' hit hsz hkp => wpAny_pyIter_enum he' ?_
      have I2 : Inv X pins σ H1 { s1 with heap := h' } := I1.kept (t' := s1.toks) hkp
      refine ⟨s1.heap.objs.size + 1, [s1.heap.objs.size + 1, s1.heap.objs.size], _, _, H1, rfl, I2, turn_enumT a (s1.heap.objs.size + 1) s1.heap.objs.size k0, ⟨⟨.none, ?_⟩, ⟨_, hit, rfl, rfl⟩, Nat.succ_ne_self _, Nat.ne_of_lt hal, Nat.ne_of_gt (Nat.lt_succ_of_lt hal)⟩, fun b hb => ?_, q⟩
      · have e0 : k0 + ((0 : Nat) : Int) = k0 := by omega
        rw [e0]; exact he'
      · have e' : b = s1.heap.objs.size + 1 ∨ b = s1.heap.objs.size := by simpa using hb
        have hle : s1.heap.objs.size ≤ b := by
          rcases e' with z | z
          · rw [z]; exact Nat.le_add_right _ _
          · rw [z]; exact Nat.le_refl _
        exact I1.fpOk hle (I1.hok.fresh hle)
/-- a for over it: its invariant -/
theorem for_enumT {K : PySem.W.Frag} {a : Addr} {k0 : Int} {xs : List V} {g : TG} {tb : TS} {D : Ends} {σ : L2.St} {H : Hp} (Pv : Nat → L2.St → Hp → Prop) (h0 : Pv 0 σ H) (hl : ∀ i σ H, i ≤ xs.length → Pv i σ H → SqT K H a xs)
    (hs : ∀ i x T σ H, xs[i]? = some x → Pv i σ H → H T = none → g (.ref T) σ (upd H T (.tup [.int (k0 + (i : Nat)), x])) fun σ2 H2 => tb { D with nx := Pv (i + 1), ct := Pv (i + 1), bk := D.nx } σ2 H2) (hd : ∀ σ H, Pv xs.length σ H → D.nx σ H) :
    ∃ W : Nat → Nat → L2.St → Hp → Prop, (∃ m, W 0 m σ H) ∧ ∀ i m σ H, W i m σ H →
      ((IteT K a k0).stop i H ∧ D.nx σ H) ∨ ((IteT K a k0).go i H ∧ ∃ N : L2.St → Hp → Prop, (∀ σ' H', N σ' H' → ∃ m', m' < m ∧ W (i + 1) m' σ' H') ∧ ∀ x H', (IteT K a k0).yld i H x H' → g x σ H' fun σ2 H2 => tb { D with nx := N, ct := N, bk := D.nx } σ2 H2) := by
  refine ⟨fun i m σ H => m = xs.length - i ∧ i ≤ xs.length ∧ Pv i σ H, ⟨xs.length, by simp, Nat.zero_le _, h0⟩, ?_⟩
  rintro i m σ H ⟨rfl, hi, p⟩
  have q := hl i σ H hi p
  by_cases hlt : i < xs.length
  · refine .inr ⟨⟨xs, xs[i], q, by simp [hlt]⟩, Pv (i + 1), fun σ' H' p' => ⟨xs.length - (i + 1), by omega, rfl, hlt, p'⟩, fun x H' y => ?_⟩
    obtain ⟨T, z, e, hT, e2, hz⟩ := y
    subst e e2
    exact hs i z T σ H (hz xs q) p hT
  · have e : i = xs.length := by omega
    subst e
    exact .inl ⟨⟨xs, q, rfl⟩, hd σ H p⟩
end Rt
set_option maxHeartbeats 4000000
namespace Rt
open PySem L2
section
variable {P : Program} {w : World} {K : PySem.W.Frag} {mg : Str → Option Value} {base : Heap} {a : Ad}
/-! ### need -/
def needN (ns : List Int) (s : Int) : Option Nat := ns.findIdx? fun b => decide (s ≤ b)
def needV (ns : List Int) (s : Int) : V := match needN ns s with
  | some i => .int (1 + ((i : Nat) : Int))
  | none => .non
theorem needN_some {ns : List Int} {s : Int} {i : Nat} (h : needN ns s = some i) : ∃ z, ns[i]? = some z ∧ s ≤ z ∧ ∀ j y, j < i → ns[j]? = some y → y < s := by
  obtain ⟨hi, h1, h2⟩ := List.findIdx?_eq_some_iff_getElem.mp h
  refine ⟨ns[i], by simp, of_decide_eq_true h1, fun j y hj hy => ?_⟩
  have hjl : j < ns.length := Nat.lt_trans hj hi
  have := h2 j hj
  have e : ns[j] = y := by
    have q := List.getElem?_eq_getElem hjl
    rw [hy] at q
    exact (Option.some.inj q).symm
  rw [e] at this
  by_cases c : s ≤ y
  · exact absurd (decide_eq_true c) this
  · omega
theorem needN_none {ns : List Int} {s : Int} (h : needN ns s = none) : ∀ z ∈ ns, z < s := by
  intro z hz
  have := List.findIdx?_eq_none_iff.mp h z hz
  have := of_decide_eq_false this
  omega
theorem needN_at {ns : List Int} {s : Int} {i : Nat} {z : Int} (hz : ns[i]? = some z) (c : s ≤ z) (h : ∀ j y, j < i → ns[j]? = some y → y < s) : needN ns s = some i := by
  obtain ⟨hi, e⟩ := List.getElem?_eq_some_iff.mp hz
  refine List.findIdx?_eq_some_iff_getElem.mpr ⟨hi, by rw [e]; exact decide_eq_true c, fun j hj => ?_⟩
  have hjl : j < ns.length := Nat.lt_trans hj hi
  have := h j ns[j] hj (by simp)
  intro q
  have := of_decide_eq_true q
  omega
theorem needN_no {ns : List Int} {s : Int} (h : ∀ z ∈ ns, z < s) : needN ns s = none := by
  refine List.findIdx?_eq_none_iff.mpr fun z hz => ?_
  have := h z hz
  exact decide_eq_false (by omega)
def sp_Steps_need (C : Addr) : Sp := fun vs H Q _ => ∃ (p : Addr) (m r : Int) (ns : List Int), vs = [.ref p, .int r] ∧ StepsAt C H p m ns ∧ ns.length ≤ 8 ∧ 1 ≤ r ∧ r ≤ m ∧ ∀ H', Same H H' → Q (needV ns r) H'
theorem ok_Steps_need (T : Txt K mg a) : FnOk P w K mg base CX0 2 a.a_Steps_need a.fd_Steps_need ["self", "size"] (sp_Steps_need a.C_Steps) := by
  refine T.F_Steps_need.ok sc_Steps_need (fun vs H Q E h => ?_) (fun cdv A outer s H vs Q E hr h => ?_)
  · obtain ⟨p, m, r, ns, rfl, _⟩ := h
    rfl
  · obtain ⟨p, m, r, ns, rfl, ⟨dx, t, hp, ht⟩, h8, r0, r1, k⟩ := h
    refine ⟨_, (pss_cons (ps_if (pt_not (pt_val (pe_call (ok_is_integer T) (hr.mono (by decide)) rfl T.g_is_integer T.F_is_integer.kp T.b_is_integer .nil pass0 (pa_cons (pv 1) (pa_cons pe_int (pa_cons (pe_fld (pv 0) rfl) pa_nil))))))
      (pss_one ps_never)
      pss_nil)
      (pss_cons (ps_for PassesOwn.never rfl (pi_enumT (by rfl) T.n_enumerate (pa_cons (pe_fld (pv 0) rfl) pa_nil) (pk_cons pe_int pk_nil)) (pg_tup (by rfl) (pgs_cons (pg_name (i := 2) sc_Steps_need.nd rfl (Or.inl rfl)) (pgs_cons (pg_name (i := 3) sc_Steps_need.nd rfl (Or.inl rfl)) pgs_nil)))
      (pss_one (ps_if (pt_cmpR op_ge (pv 3) (pv 1) (nomark _))
        (pss_one (ps_ret (pv 2)))
        pss_nil)))
      (pss_one (ps_ret pe_non)))), ?_⟩
    refine ⟨_, rfl, _, rfl, p, a.C_Steps, dx, _, _, rfl, hp, T.cl_Steps, T.nf_Steps_most, sf_most _ _, _, _, _, rfl, _, rfl, ?_⟩
    rw [inI_T ⟨r0, r1⟩]
    refine iteF ?_
    refine ⟨_, rfl, p, a.C_Steps, dx, _, _, rfl, hp, T.cl_Steps, T.nf_Steps_bounds, sf_bounds _ _, t, _, 1, rfl, rfl, (by decide), (by decide), SqT.of ht, ?_⟩
    refine for_enumT (K := K) (a := t) (k0 := 1) (xs := ns.map V.int) (fun i σ H' => (∃ v u : Option V, σ = [some (.ref p), some (.int r), v, u]) ∧ Same H H' ∧ ∀ j y, j < i → ns[j]? = some y → y < r)
      ⟨⟨none, none, rfl⟩, Same.refl _, fun j y hj => absurd hj (Nat.not_lt_zero _)⟩ (fun i σ H' _ h => SqT.of (h.2.1 _ _ ht)) ?_ ?_
    · rintro i y X σ H' hk ⟨⟨v, u, rfl⟩, s1, hlt⟩ hX
      obtain ⟨z, hz, rfl⟩ := map_at hk
      have s2 : Same H (upd H' X (.tup [.int (1 + (i : Nat)), .int z])) := Same.trans s1 (same_new hX)
      refine ⟨X, _, rfl, SqT.of upd_same, rfl, _, _, rfl, _, _, rfl, rfl, ?_⟩
      refine ⟨_, rfl, _, rfl, _, _, rfl, rfl, _, rfl, ?_⟩
      by_cases c : r ≤ z
      · rw [decide_eq_true c]
        refine iteT ⟨_, rfl, ?_⟩
        have e : needV ns r = .int (1 + ((i : Nat) : Int)) := by unfold needV; rw [needN_at hz c hlt]
        rw [e] at k
        exact k _ s2
      · rw [decide_eq_false c]
        refine iteF ⟨⟨_, _, rfl⟩, s2, fun j y hj hy => ?_⟩
        by_cases q : j = i
        · subst q; rw [hz] at hy; cases hy; omega
        · exact hlt j y (by omega) hy
    · rintro σ H' ⟨⟨v, u, rfl⟩, s1, hlt⟩
      rw [List.length_map] at hlt
      have e : needV ns r = .non := by
        unfold needV
        rw [needN_no fun z hz => ?_]
        obtain ⟨j, hj⟩ := List.getElem?_of_mem hz
        exact hlt j z (List.getElem?_eq_some_iff.mp hj).1 hj
      rw [e] at k
      exact k _ s1
/-! ### made_steps -/
def sp_law_made_steps (C : Addr) : Sp := fun vs H Q _ => ∃ (d : Addr) (m : Int) (ns : List Int), vs = [.ref d] ∧ PlanAt H d m ns ∧ Good ns m ∧ ∀ H' p, Same H H' → H p = none → StepsAt C H' p m ns → Q (.ref p) H'
theorem ok_law_made_steps (T : Txt K mg a) : FnOk P w K mg base CX0 6 a.a_law_made_steps a.fd_law_made_steps ["_law_plan"] (sp_law_made_steps a.C_Steps) := by
  refine T.F_law_made_steps.ok sc_law_made_steps (fun vs H Q E h => ?_) (fun cdv A outer s H vs Q E hr h => ?_)
  · obtain ⟨d, m, ns, rfl, _⟩ := h
    rfl
  · obtain ⟨d, m, ns, rfl, ⟨l, hd, hl⟩, g, k⟩ := h
    have e1 := plan_most m l
    have e2 := plan_bounds m l
    have g1 : DGet H d (.str "most") (some (.int m)) := by rw [← e1]; exact DGet.k (k := kMost) hd
    have g2 : DGet H d (.str "bounds") (some (.ref l)) := by rw [← e2]; exact DGet.k (k := kBounds) hd
    refine ⟨_, (pss_one (ps_ret (pe_make T.mk_Steps (ok_Steps_init T) (hr.mono (by decide)) rfl T.g_Steps T.b_Steps_init .nil pass0 (pa_cons (pe_dget (hu_of hr) (pv 0) pe_str (fun _ _ => rfl)) (pa_cons (pe_callTy call_list_of (by rfl) T.n_list (by decide +kernel) (pa_cons (pe_dget (hu_of hr) (pv 0) pe_str (fun _ _ => rfl)) pa_nil)) pa_nil))))), ?_⟩
    refine ⟨_, rfl, d, _, rfl, g1, _, rfl, d, _, rfl, g2, l, _, rfl, .inl (SqL.of hl), fun q hq => ?_⟩
    intro x dx nx ndx nex
    have sq := same_new (o := .lst (ns.map V.int)) hq
    have s0 : Same H (upd (upd (upd H q (.lst (ns.map V.int))) dx (.own x)) x (.ins a.C_Steps dx [])) := fun b o e => by
      have e1 := sq _ _ e
      rw [upd_ne (ne_of_none e1 nx), upd_ne (ne_of_none e1 ndx)]
      exact e1
    have hq2 : upd H q (.lst (ns.map V.int)) q = some (.lst (ns.map V.int)) := upd_same
    refine ⟨x, dx, q, m, ns, rfl, upd_same, ?_, g, fun H' b1 st => ⟨rfl, ?_⟩⟩
    · rw [upd_ne (ne_of_none hq2 nx), upd_ne (ne_of_none hq2 ndx)]
      exact hq2
    · have nx0 : H x = none := Same.free sq nx
      exact k _ x (fun b o e => b1 b o (ne_of_none e nx0) (s0 _ _ e)) nx0 st
end
end Rt
set_option maxHeartbeats 4000000
namespace Rt
open PySem L2
/-! ### equality of lists of ints -/
theorem dp_ints {K : PySem.W.Frag} {H : Hp} : ∀ ns : List Int, DpAll K H (ns.map V.int) (ns.map PyData.int)
  | [] => .nil
  | n :: r => .cons (.int n) (dp_ints r)
theorem eqvAll_ints : ∀ ns ms : List Int, PyData.eqvAll (ns.map PyData.int) (ms.map PyData.int) = decide (ns = ms)
  | [], [] => by simp [PyData.eqvAll]
  | [], m :: r => by simp [PyData.eqvAll]
  | n :: r, [] => by simp [PyData.eqvAll]
  | n :: r, m :: t => by
    have ih := eqvAll_ints r t
    simp only [List.map_cons, PyData.eqvAll, PyData.eqv, ih]
    by_cases h : n = m
    · subst h
      by_cases h2 : r = t <;> simp [h2]
    · simp [h]
theorem eqv_ints (ns ms : List Int) : PyData.eqv (.list (ns.map PyData.int)) (.list (ms.map PyData.int)) = decide (ns = ms) := by
  simp only [PyData.eqv, eqvAll_ints]
theorem rne_ints {K : PySem.W.Frag} {H : Hp} {p q : Addr} {ns ms : List Int} {Q : VK} (h1 : SqL K H p (ns.map V.int)) (h2 : SqL K H q (ms.map V.int)) (h : Q (.bl (!decide (ns = ms))) H) : rNeD K (.ref p) (.ref q) H Q := by
  refine ⟨_, _, .lst h1 (dp_ints ns), .lst h2 (dp_ints ms), PySem.W.ke_shaped_ints ns, PySem.W.ke_shaped_ints ms, ?_⟩
  rw [eqv_ints]
  exact h
/-! ### the mathematics of classes and needs -/
theorem cls_len (ns : List Int) (r : Int) : clsI ns r ≤ (ns.length : Int) := by
  unfold clsI
  have := List.length_filter_le (fun b => decide (b ≤ r)) ns
  omega
theorem cls_mono (ns : List Int) {r s : Int} (h : r ≤ s) : clsI ns r ≤ clsI ns s := by
  unfold clsI
  have : (ns.filter fun b => decide (b ≤ r)).length ≤ (ns.filter fun b => decide (b ≤ s)).length := by
    induction ns with
    | nil => exact Nat.le_refl _
    | cons n t ih =>
      by_cases c : n ≤ r
      · have c2 : n ≤ s := by omega
        simp only [List.filter_cons, decide_eq_true c, decide_eq_true c2, if_true, List.length_cons]
        omega
      · by_cases c2 : n ≤ s
        · simp only [List.filter_cons, decide_eq_false c, decide_eq_true c2, if_true, List.length_cons]
          simp only [Bool.false_eq_true, if_false]
          omega
        · simp only [List.filter_cons, decide_eq_false c, decide_eq_false c2]
          simpa using ih
  omega
/-- bounds from place i on lie above r: the class is at most i -/
theorem cls_le {ns : List Int} {r : Int} {i : Nat} (h : ∀ j y, i ≤ j → ns[j]? = some y → r < y) : clsI ns r ≤ (i : Int) := by
  unfold clsI
  have e : ns.filter (fun b => decide (b ≤ r)) = (ns.take i).filter (fun b => decide (b ≤ r)) ++ (ns.drop i).filter (fun b => decide (b ≤ r)) := by
    rw [← List.filter_append, List.take_append_drop]
  have e2 : (ns.drop i).filter (fun b => decide (b ≤ r)) = [] := by
    rw [List.filter_eq_nil_iff]
    intro y hy
    obtain ⟨j, hj⟩ := List.getElem?_of_mem hy
    rw [List.getElem?_drop] at hj
    have := h (i + j) y (Nat.le_add_right _ _) hj
    simp
    omega
  rw [e, e2, List.append_nil]
  have := List.length_filter_le (fun b => decide (b ≤ r)) (ns.take i)
  have := List.length_take_le i ns
  omega
/-- bounds ahead of place i are at most r: the class is at least i -/
theorem le_cls {ns : List Int} {r : Int} {i : Nat} (hi : i ≤ ns.length) (h : ∀ j y, j < i → ns[j]? = some y → y ≤ r) : (i : Int) ≤ clsI ns r := by
  unfold clsI
  have e : ns.filter (fun b => decide (b ≤ r)) = (ns.take i).filter (fun b => decide (b ≤ r)) ++ (ns.drop i).filter (fun b => decide (b ≤ r)) := by
    rw [← List.filter_append, List.take_append_drop]
  have e2 : (ns.take i).filter (fun b => decide (b ≤ r)) = ns.take i := by
    rw [List.filter_eq_self]
    intro y hy
    obtain ⟨j, hj⟩ := List.getElem?_of_mem hy
    rw [List.getElem?_take] at hj
    split at hj
    · rename_i hlt
      exact decide_eq_true (h j y hlt hj)
    · cases hj
  rw [e, e2, List.length_append, List.length_take]
  omega
theorem cls_zero {ns : List Int} {m : Int} (g : Good ns m) : clsI ns 0 = 0 := by
  have h1 : clsI ns 0 ≤ ((0 : Nat) : Int) := cls_le fun j y _ hy => by
    have := g.lo y (List.mem_of_getElem? hy)
    omega
  have h2 : 0 ≤ clsI ns 0 := by unfold clsI; omega
  omega
theorem cls_top {ns : List Int} {m : Int} (g : Good ns m) : clsI ns m = (ns.length : Int) := by
  have h1 := cls_len ns m
  have h2 := le_cls (r := m) (Nat.le_refl ns.length) fun j y _ hy => g.hi y (List.mem_of_getElem? hy)
  omega
/-- a room less than the size has a lesser class than the need -/
theorem cls_lt_need {ns : List Int} {m s r : Int} {i : Nat} (g : Good ns m) (h : needN ns s = some i) (hr : r < s) : clsI ns r < 1 + (i : Int) := by
  obtain ⟨z, hz, hsz, _⟩ := needN_some h
  have := cls_le (ns := ns) (r := r) (i := i) fun j y hj hy => by
    by_cases e : j = i
    · subst e; rw [hz] at hy; cases hy; omega
    · have := g.lt hz hy (by omega)
      omega
  omega
theorem cls_before {ns : List Int} {m : Int} {i : Nat} {y : Int} (g : Good ns m) (h : ns[i]? = some y) : clsI ns y = (i : Int) + 1 := by
  have hi := (List.getElem?_eq_some_iff.mp h).1
  have h1 := cls_le (ns := ns) (r := y) (i := i + 1) fun j x hj hx => g.lt h hx (by omega)
  have h2 := le_cls (ns := ns) (r := y) (i := i + 1) (by omega) fun j x hj hx => by
    by_cases e : j = i
    · subst e; rw [h] at hx; cases hx; omega
    · have := g.lt hx h (by omega)
      omega
  omega
theorem need_mono {ns : List Int} {s t : Int} {i j : Nat} (h1 : needN ns s = some i) (h2 : needN ns t = some j) (h : s ≤ t) : i ≤ j := by
  obtain ⟨z, hz, hsz, hlt⟩ := needN_some h1
  obtain ⟨y, hy, hty, _⟩ := needN_some h2
  by_cases c : j < i
  · have := hlt j y c hy
    omega
  · omega
theorem need_bound {ns : List Int} {m : Int} {i : Nat} {y : Int} (g : Good ns m) (h : ns[i]? = some y) : needN ns y = some i :=
  needN_at h (Int.le_refl y) fun j x hj hx => g.lt hx h hj
/-- the classes of the rooms from 0 to m -/
def classes (ns : List Int) (n : Nat) : List Int := (List.range n).map fun (r : Nat) => clsI ns ((r : Nat) : Int)
theorem classes_len (ns : List Int) (n : Nat) : (classes ns n).length = n := by unfold classes; rw [List.length_map, List.length_range]
theorem classes_at {ns : List Int} {n r : Nat} (h : r < n) : (classes ns n)[r]? = some (clsI ns (r : Int)) := by
  unfold classes
  rw [List.getElem?_map, List.getElem?_range h]; rfl
theorem classes_sorted (ns : List Int) (n : Nat) : (classes ns n).Pairwise (· ≤ ·) := by
  unfold classes
  rw [List.pairwise_map]
  refine List.Pairwise.imp ?_ (List.pairwise_lt_range)
  intro x y h
  exact cls_mono ns (by omega)
theorem classes_succ (ns : List Int) (n : Nat) : classes ns (n + 1) = classes ns n ++ [clsI ns (n : Int)] := by
  unfold classes
  rw [List.range_succ, List.map_append]; rfl
end Rt
set_option maxHeartbeats 8000000
namespace Rt
open PySem L2
section
variable {P : Program} {w : World} {K : PySem.W.Frag} {mg : Str → Option Value} {base : Heap} {a : Ad}
def sp_law (K : PySem.W.Frag) : Sp := fun vs H Q _ => ∃ (s : Addr) (ns : List Int), vs = [.ref s] ∧ SqL K H s (ns.map V.int) ∧ ns.length ≤ 63 ∧ ∀ H', Q (.bl true) H'
theorem list_at {ns : List Int} {i : Nat} (h : i < ns.length) : ∃ z, ns[i]? = some z := ⟨ns[i], by simp⟩
theorem but_put {D : Addr} {H H' : Hp} {o : HO} (h : But D H H') : But D H (upd H' D o) := fun b u nb e => by rw [upd_ne nb]; exact h b u nb e
theorem but_same {D : Addr} {H H' : Hp} (h : But D H H') (hD : H D = none) : Same H H' := fun b u e => h b u (ne_of_none e hD) e
theorem but_then {D : Addr} {H H1 H2 : Hp} (h : But D H H1) (s : Same H1 H2) : But D H H2 := fun b u nb e => s b u (h b u nb e)
theorem upTo_succ (i : Nat) : upTo ((i + 1 : Nat) : Int) = upTo (i : Int) ++ [1 + (i : Int)] := by
  unfold upTo
  have e1 : (((i + 1 : Nat) : Int) + 1 - 1).toNat = i + 1 := by omega
  have e2 : ((i : Int) + 1 - 1).toNat = i := by omega
  rw [e1, e2, List.range_succ, List.map_append]; rfl
theorem req_ints {K : PySem.W.Frag} {H : Hp} {p q : Addr} {ns ms : List Int} {Q : VK} (h1 : SqL K H p (ns.map V.int)) (h2 : SqL K H q (ms.map V.int)) (h : Q (.bl (decide (ns = ms))) H) : rEqD K (.ref p) (.ref q) H Q := by
  refine ⟨_, _, .lst h1 (dp_ints ns), .lst h2 (dp_ints ms), PySem.W.ke_shaped_ints ns, PySem.W.ke_shaped_ints ms, ?_⟩
  rw [eqv_ints]
  exact h
theorem ok_law (T : Txt K mg a) : FnOk P w K mg base CX0 9 a.a_law a.fd_law ["_law_script"] (sp_law K) := by
  refine T.F_law.ok sc_law (fun vs H Q E h => ?_) (fun cdv A outer s H vs Q E hr h => ?_)
  · obtain ⟨p, ns, rfl, _⟩ := h
    rfl
  · obtain ⟨sc, scr, rfl, hs, h63, k⟩ := h
    refine ⟨_, (pss_cons (ps_for PassesOwn.never rfl (pi_range1 (by rfl) T.n_range (pa_cons (pe_callB (call_max2 rfl) (by rfl) T.n_max (by decide +kernel) (pa_cons pe_int (pa_cons (pe_callB (call_min2 rfl) (by rfl) T.n_min (by decide +kernel) (pa_cons (pe_callB call_len_seq (by rfl) T.n_len PySem.boot_len (pa_cons (pv 0) pa_nil)) (pa_cons pe_int pa_nil))) pa_nil))) pa_nil)) (pg_name (i := 1) sc_law.nd rfl (Or.inl rfl))
      (pss_cons (ps_set (i := 2) sc_law.nd rfl (Or.inl rfl) (pe_call (ok_law_opened T) (hr.mono (by decide)) rfl T.g__law_opened T.F_law_opened.kp T.b_law_opened .nil pass0 (pa_cons (pv 0) (pa_cons (pv 1) pa_nil))))
        (pss_cons (ps_set (i := 3) sc_law.nd rfl (Or.inl rfl) (pe_call (ok_law_bounds T) (hr.mono (by decide)) rfl T.g__law_bounds T.F_law_bounds.kp T.b_law_bounds .nil pass0 (pa_cons (pv 2) (pa_cons pe_int pa_nil))))
        (pss_cons (ps_asg (pe_tup (pa_cons (pe_call (ok_law_made_steps T) (hr.mono (by decide)) rfl T.g__law_made_steps T.F_law_made_steps.kp T.b_law_made_steps .nil pass0 (pa_cons (pv 3) pa_nil)) (pa_cons (pe_dget (hu_of hr) (pv 3) pe_str (fun _ _ => rfl)) (pa_cons (pe_callB call_len_seq (by rfl) T.n_len PySem.boot_len (pa_cons (pe_dget (hu_of hr) (pv 3) pe_str (fun _ _ => rfl)) pa_nil)) pa_nil)))) (pg_tup (by rfl) (pgs_cons (pg_name (i := 4) sc_law.nd rfl (Or.inr rfl)) (pgs_cons (pg_name (i := 5) sc_law.nd rfl (Or.inl rfl)) (pgs_cons (pg_name (i := 6) sc_law.nd rfl (Or.inl rfl)) pgs_nil)))))
        (pss_cons (ps_asg (pe_lc (own := [("_law_room", 11)]) (g := gName 11) (tt := tYes) (by rfl) sc_law.nd (pi_range1 (by rfl) T.n_range (pa_cons (pe_op op_add (pv 5) pe_int) pa_nil)) (blkOk_by (own := [("_law_room", 11)]) (N := ["_law_script", "_law_k", "_law_pool", "_law_plan", "_law_steps", "_law_most", "_law_many", "_law_classes", "_law_ahead", "_law_size", "_law_need", "_law_room", "_law_one"]) (sc := defScope s_law) (by decide +kernel)) (fun _ _ _ _ _ => pg_name (i := 11) sc_law.nd rfl (Or.inl rfl)) (fun _ _ _ _ _ => pts_nil) (fun _ _ _ _ _ => (pe_meth (pv 4) T.cl_Steps T.m_Steps_class_of (ok_Steps_class_of T) (hr.mono (by decide)) T.b_Steps_class_of .nil pass0 (pa_cons (pv 11) pa_nil)))) (pg_name (i := 7) sc_law.nd rfl (Or.inr rfl)))
        (pss_cons (ps_if (PW.pt (pw_or (pt_cmpR (op_neD hr.units) (pv 7) (pe_callB cr_sorted (by rfl) T.n_sorted (by decide +kernel) (pa_cons (pe_lc (own := [("_law_one", 12)]) (g := gName 12) (tt := tYes) (by rfl) sc_law.nd (pi_list (pv 7)) (blkOk_by (own := [("_law_one", 12)]) (N := ["_law_script", "_law_k", "_law_pool", "_law_plan", "_law_steps", "_law_most", "_law_many", "_law_classes", "_law_ahead", "_law_size", "_law_need", "_law_room", "_law_one"]) (sc := defScope s_law) (by decide +kernel)) (fun _ _ _ _ _ => pg_name (i := 12) sc_law.nd rfl (Or.inl rfl)) (fun _ _ _ _ _ => pts_nil) (fun _ _ _ _ _ => (pe_callTy call_int1 (by rfl) T.n_int (by decide +kernel) (pa_cons (pv 12) pa_nil)))) pa_nil)) (nomark _)) (pw_or (pt_cmpR op_ne (pe_ix (r := rIxL K) ix_list (pv 7) pe_int (fun _ _ => rfl)) pe_int (nomark _)) (pw_or1 (pt_cmpR op_ne (pe_ix (r := rIxL K) ix_list (pv 7) (pv 5) (fun _ _ => rfl)) (pv 6) (nomark _))))))
        (pss_one (ps_ret pe_bl))
        pss_nil)
        (pss_cons (ps_set (i := 8) sc_law.nd rfl (Or.inl rfl) pe_int)
        (pss_cons (ps_for PassesOwn.never rfl (pi_range2 (by rfl) T.n_range (pa_cons pe_int (pa_cons (pe_op op_add (pv 5) pe_int) pa_nil))) (pg_name (i := 9) sc_law.nd rfl (Or.inr rfl))
        (pss_cons (ps_set (i := 10) sc_law.nd rfl (Or.inr rfl) (pe_meth (pv 4) T.cl_Steps T.m_Steps_need (ok_Steps_need T) (hr.mono (by decide)) T.b_Steps_need .nil pass0 (pa_cons (pv 9) pa_nil)))
          (pss_cons (ps_if (pt_cmpR op_isN (pv 10) pe_non (nomark _))
          (pss_cons (ps_if (pt_cmpR (op_neD hr.units) (pe_lc (own := [("_law_one", 12)]) (g := gName 12) (by rfl) sc_law.nd (pi_list (pe_dget (hu_of hr) (pv 3) pe_str (fun _ _ => rfl))) (blkOk_by (own := [("_law_one", 12)]) (N := ["_law_script", "_law_k", "_law_pool", "_law_plan", "_law_steps", "_law_most", "_law_many", "_law_classes", "_law_ahead", "_law_size", "_law_need", "_law_room", "_law_one"]) (sc := defScope s_law) (by decide +kernel)) (fun _ _ _ _ _ => pg_name (i := 12) sc_law.nd rfl (Or.inl rfl)) (fun _ _ _ _ _ => pts_one (pt_cmpR op_ge (pv 12) (pv 9) (nomark _))) (fun _ _ _ _ _ => (pv 12))) (pe_lst pa_nil) (nomark _))
            (pss_one (ps_ret pe_bl))
            pss_nil)
            (pss_one ps_continue))
          pss_nil)
          (pss_cons (ps_if (PW.pt (pw_or (pt_cmpR op_lt (pv 10) (pv 8) (nomark _)) (pw_or1 (pt_cmpR (op_neD hr.units) (pe_lc (own := [("_law_room", 11)]) (g := gName 11) (by rfl) sc_law.nd (pi_range1 (by rfl) T.n_range (pa_cons (pe_op op_add (pv 5) pe_int) pa_nil)) (blkOk_by (own := [("_law_room", 11)]) (N := ["_law_script", "_law_k", "_law_pool", "_law_plan", "_law_steps", "_law_most", "_law_many", "_law_classes", "_law_ahead", "_law_size", "_law_need", "_law_room", "_law_one"]) (sc := defScope s_law) (by decide +kernel)) (fun _ _ _ _ _ => pg_name (i := 11) sc_law.nd rfl (Or.inl rfl)) (fun _ _ _ _ _ => pts_one (PW.pt (pw_and (pt_cmpR op_ge (pe_ix (r := rIxL K) ix_list (pv 7) (pv 11) (fun _ _ => rfl)) (pv 10) (nomark _)) (pw_and1 (pt_cmpR op_lt (pv 11) (pv 9) (nomark _)))))) (fun _ _ _ _ _ => (pv 11))) (pe_lst pa_nil) (nomark _)))))
          (pss_one (ps_ret pe_bl))
          pss_nil)
          (pss_cons (ps_if (PW.pt (pw_and (pt_cmpR op_gt (pv 10) pe_int (nomark _)) (pw_and1 (pt_cmpR (op_eqD hr.units) (pe_lc (own := [("_law_room", 11)]) (g := gName 11) (by rfl) sc_law.nd (pi_range1 (by rfl) T.n_range (pa_cons (pe_op op_add (pv 5) pe_int) pa_nil)) (blkOk_by (own := [("_law_room", 11)]) (N := ["_law_script", "_law_k", "_law_pool", "_law_plan", "_law_steps", "_law_most", "_law_many", "_law_classes", "_law_ahead", "_law_size", "_law_need", "_law_room", "_law_one"]) (sc := defScope s_law) (by decide +kernel)) (fun _ _ _ _ _ => pg_name (i := 11) sc_law.nd rfl (Or.inl rfl)) (fun _ _ _ _ _ => pts_one (PW.pt (pw_and (pt_cmpR op_eq (pe_ix (r := rIxL K) ix_list (pv 7) (pv 11) (fun _ _ => rfl)) (pe_op op_sub (pv 10) pe_int) (nomark _)) (pw_and1 (pt_cmpR op_lt (pv 11) (pv 9) (nomark _)))))) (fun _ _ _ _ _ => (pv 11))) (pe_lst pa_nil) (nomark _)))))
          (pss_one (ps_ret pe_bl))
          pss_nil)
          (pss_one (ps_set (i := 8) sc_law.nd rfl (Or.inl rfl) (pv 10))))))))
        (pss_one (ps_if (pt_cmpR (op_neD hr.units) (pe_lc (own := [("_law_one", 12)]) (g := gName 12) (tt := tYes) (by rfl) sc_law.nd (pi_list (pe_dget (hu_of hr) (pv 3) pe_str (fun _ _ => rfl))) (blkOk_by (own := [("_law_one", 12)]) (N := ["_law_script", "_law_k", "_law_pool", "_law_plan", "_law_steps", "_law_most", "_law_many", "_law_classes", "_law_ahead", "_law_size", "_law_need", "_law_room", "_law_one"]) (sc := defScope s_law) (by decide +kernel)) (fun _ _ _ _ _ => pg_name (i := 12) sc_law.nd rfl (Or.inl rfl)) (fun _ _ _ _ _ => pts_nil) (fun _ _ _ _ _ => (pe_meth (pv 4) T.cl_Steps T.m_Steps_need (ok_Steps_need T) (hr.mono (by decide)) T.b_Steps_need .nil pass0 (pa_cons (pv 12) pa_nil)))) (pe_listRg rfl (by rfl) T.n_list (prg_2 (by rfl) T.n_range pe_int (pe_op op_add (pv 6) pe_int))) (nomark _))
        (pss_one (ps_ret pe_bl))
        pss_nil))))))))))
      (pss_one (ps_ret pe_bl))), ?_⟩
    refine ⟨_, rfl, sc, _, rfl, .inl hs, _, _, rfl, _, _, rfl, _, rfl, ?_, ?_, for_range (lo := 0) (n := _) (fun i σ H' => (∃ v1 v2 v3 v4 v5 v6 v7 v8 v9 v10 v11 v12 : Option V, σ = [some (.ref sc), v1, v2, v3, v4, v5, v6, v7, v8, v9, v10, v11, v12]) ∧ Same H H')
      ⟨⟨none, none, none, none, none, none, none, none, none, none, none, none, rfl⟩, Same.refl _⟩ ?_ ?_⟩
    · split <;> split <;> omega
    · rw [List.length_map]; split <;> split <;> omega
    · rintro i σ H0 hi ⟨⟨v1, v2, v3, v4, v5, v6, v7, v8, v9, v10, v11, v12, rfl⟩, s0⟩
      have hi5 : i < 6 := by
        rw [List.length_map] at hi
        split at hi <;> split at hi <;> omega
      refine ⟨_, rfl, _, rfl, sc, _, scr, rfl, s0.seq hs, by omega, by omega, fun H1 p hp s1 p1 => ?_⟩
      refine ⟨_, rfl, p, _, rfl, p1, by decide, by decide, fun H2 d m ns b2 p2 pl hd hm g => ?_⟩
      obtain ⟨l, hdl, hl⟩ := pl
      have g1 : ∀ H', Same H2 H' → DGet H' d (.str "most") (some (.int m)) := fun H' s' => by rw [← plan_most m l]; exact DGet.k (k := kMost) (s' _ _ hdl)
      have g2 : ∀ H', Same H2 H' → DGet H' d (.str "bounds") (some (.ref l)) := fun H' s' => by rw [← plan_bounds m l]; exact DGet.k (k := kBounds) (s' _ _ hdl)
      have gl : ∀ H', Same H2 H' → SqL K H' l (ns.map V.int) := fun H' s' => SqL.of (s' _ _ hl)
      have m1 := g.most
      have hp0 : H p = none := Same.free s0 hp
      have s02 : Same H H2 := fun b o e => b2 b o (ne_of_none e hp0) (s1 _ _ (s0 _ _ e))
      refine ⟨_, rfl, d, m, ns, rfl, ⟨l, hdl, hl⟩, g, fun H3 q s3 hq st => ?_⟩
      refine ⟨_, rfl, d, _, rfl, g1 _ s3, _, rfl, d, _, rfl, g2 _ s3, l, _, rfl, .inl (gl _ s3), (by show 3 ≤ sizeLine; decide), fun t ht => ⟨t, _, rfl, SqT.of upd_same, rfl, _, _, rfl, _, _, rfl, _, _, rfl, rfl, ?_⟩⟩
      have s4 : Same H3 _ := same_new (o := .tup [.ref q, .int m, .int ((ns.map V.int).length : Nat)]) ht
      generalize (upd H3 t (.tup [.ref q, .int m, .int ((ns.map V.int).length : Nat)])) = H4 at s4
      have s24 : Same H2 H4 := s3.trans s4
      have st4 : ∀ H', Same H4 H' → StepsAt a.C_Steps H' q m ns := fun H' s' => st.mono (s4.trans s')
      have g8 := g.eight
      -- the classes of all rooms
      refine ⟨_, rfl, _, _, rfl, rfl, _, rfl, by omega, by omega, fun D hD => ?_⟩
      refine lc_range (lo := 0) (n := (m + 1).toNat) (fun i H' => But D H4 H' ∧ H' D = some (.lst ((classes ns i).map V.int))) ⟨fun b o nb e => by rw [upd_ne nb]; exact e, by rw [upd_same]; rfl⟩ ?_ ?_
      · rintro r H' hr' ⟨bD, hd'⟩
        obtain ⟨dx, tb, hq', htb⟩ := st4 _ (but_same bD hD)
        refine ⟨rfl, _, rfl, q, dx, _, rfl, hq', sf_no _ _ (by decide +kernel) (by decide +kernel), _, rfl, q, m, _, ns, rfl, ⟨dx, tb, hq', htb⟩, g8, by omega, by omega, fun H'' s'' => ?_⟩
        refine ⟨_, s'' _ _ hd', ?_, but_put (but_then bD s''), ?_⟩
        · rw [List.length_map, classes_len]; exact Nat.lt_of_lt_of_le (show r < 1001 by omega) (by decide)
        · rw [upd_same, classes_succ, List.map_append]
          have e0 : (0 : Int) + (r : Int) = (r : Int) := by omega
          rw [e0]; rfl
      rintro H5 ⟨b5, hc5⟩
      obtain ⟨N, hN⟩ : ∃ N : Nat, N = (m + 1).toNat := ⟨_, rfl⟩
      rw [← hN] at hc5
      have s45 : Same H4 H5 := but_same b5 hD
      -- they are sorted, from 0 to the number of the bounds
      refine ⟨_, rfl, _, rfl, D, rfl, ⟨_, SqL.of hc5⟩, fun D2 hD2 => ?_⟩
      refine lc_list (K := K) (a := D) (xs := (classes ns N).map V.int) (fun i H' => But D2 H5 H' ∧ H' D2 = some (.lst (((classes ns N).take i).map V.int)))
        ⟨fun b o nb e => by rw [upd_ne nb]; exact e, by rw [upd_same]; rfl⟩ (fun i H' _ h => SqL.of (but_same h.1 hD2 _ _ hc5)) ?_ ?_
      · rintro r y H' hk ⟨bD2, hd2⟩
        obtain ⟨z, hz, rfl⟩ := map_at hk
        refine ⟨rfl, _, rfl, .inl ⟨_, rfl, _, hd2, ?_, but_put bD2, ?_⟩⟩
        · rw [List.length_map]
          have := List.length_take_le r (classes ns N)
          have := (List.getElem?_eq_some_iff.mp hz).1
          rw [classes_len] at this
          have hle : (List.take r (classes ns N)).length ≤ r := List.length_take_le _ _
          exact Nat.lt_of_lt_of_le (show _ < 1001 by omega) (by decide)
        · rw [upd_same, List.take_add_one, hz, List.map_append]; rfl
      rintro H6 ⟨b6, hd6⟩
      rw [List.length_map, List.take_length] at hd6
      have s56 : Same H5 H6 := but_same b6 hD2
      have hN31 : N ≤ 31 := by omega
      refine ⟨D2, _, rfl, SqL.of hd6, by rw [classes_len]; omega, fun ns' q2 hperm hsort hq2 => ?_⟩
      have e6 : classes ns N = ns' := (PySem.W.ksm_same hperm hsort (classes_sorted ns N)).symm
      have s67 : Same H6 _ := same_new (o := .lst (ns'.map V.int)) hq2
      refine rne_ints (SqL.of (s67 _ _ (s56 _ _ hc5))) (SqL.of upd_same) ⟨_, rfl, ?_⟩
      rw [decide_eq_true e6]
      refine iteF ?_
      generalize (upd H6 q2 (.lst (ns'.map V.int))) = H7 at s67
      have hc7 : SqL K H7 D ((classes ns N).map V.int) := SqL.of (s67 _ _ (s56 _ _ hc5))
      have c0 : (classes ns N)[0]? = some (clsI ns ((0 : Nat) : Int)) := classes_at (by omega)
      have cm : (classes ns N)[m.toNat]? = some (clsI ns ((m.toNat : Nat) : Int)) := classes_at (by omega)
      have em : ((m.toNat : Nat) : Int) = m := by omega
      refine ⟨_, rfl, D, _, _, _, rfl, rfl, hc7, at_of (j := 0) rfl (at_map c0), ?_⟩
      refine ⟨rfl, _, rfl, ?_⟩
      refine iteNS (by rw [show ((0 : Nat) : Int) = 0 from rfl, cls_zero g]) ?_
      refine ⟨_, rfl, _, rfl, D, _, _, _, rfl, rfl, hc7, at_of (j := m.toNat) em.symm (at_map cm), ?_⟩
      refine ⟨_, rfl, rfl, _, rfl, ?_⟩
      refine iteNS (by rw [em, cls_top g, List.length_map]) ?_
      -- the sizes, one by one
      have s47 : Same H4 H7 := s45.trans (s56.trans s67)
      have s27 : Same H2 H7 := s24.trans s47
      refine ⟨_, rfl, _, _, rfl, rfl, _, _, rfl, ⟨by decide, by decide, by omega, by omega⟩, for_range (lo := 1) (n := (m + 1 - 1).toNat) (fun r σ H' => (∃ (ah : Int) (u9 u10 u11 u12 : Option V), σ = [some (.ref sc), some (.int (0 + (i : Int))), some (.ref p), some (.ref d), some (.ref q), some (.int m), some (.int ((ns.map V.int).length : Nat)), some (.ref D), some (.int ah), u9, u10, u11, u12] ∧
          (ah = 1 ∨ ∃ s' j, s' < 1 + (r : Int) ∧ needN ns s' = some j ∧ ah = 1 + (j : Int))) ∧ Same H7 H')
        ⟨⟨1, _, _, _, _, rfl, .inl rfl⟩, Same.refl _⟩ ?_ ?_⟩
      · rintro r σ H8 hr8 ⟨⟨ah, u9, u10, u11, u12, rfl, hah⟩, s78⟩
        have s48 : Same H4 H8 := s47.trans s78
        have s28 : Same H2 H8 := s27.trans s78
        obtain ⟨dx, tb, hq8, htb⟩ := st4 _ s48
        refine ⟨_, rfl, q, dx, _, rfl, hq8, sf_no _ _ (by decide +kernel) (by decide +kernel), _, rfl, q, m, _, ns, rfl, ⟨dx, tb, hq8, htb⟩, g8, by omega, by omega, fun H9 s89 => ?_⟩
        obtain ⟨sz, hsz⟩ : ∃ sz : Int, sz = 1 + (r : Int) := ⟨_, rfl⟩
        rw [← hsz] at hah ⊢
        have s29 : Same H2 H9 := s28.trans s89
        have s79 : Same H7 H9 := s78.trans s89
        have hc9 : SqL K H9 D ((classes ns N).map V.int) := s79.seq hc7
        refine ⟨_, rfl, rfl, _, rfl, ?_⟩
        cases hn : needN ns sz with
        | none =>
          have ev : needV ns sz = .non := by unfold needV; rw [hn]
          rw [ev]
          refine iteT ?_
          refine ⟨_, rfl, d, _, rfl, g2 _ s29, l, rfl, ⟨_, gl _ s29⟩, fun D3 hD3 => ?_⟩
          refine lc_list (K := K) (a := l) (xs := ns.map V.int) (fun i H' => But D3 H9 H' ∧ H' D3 = some (.lst (([] : List Int).map V.int)))
            ⟨fun b o nb e => by rw [upd_ne nb]; exact e, by rw [upd_same]; rfl⟩ (fun i H' _ h => gl _ (s29.trans (but_same h.1 hD3))) ?_ ?_
          · rintro j y H' hk ⟨bD3, hd3⟩
            obtain ⟨z, hz, rfl⟩ := map_at hk
            have := needN_none hn z (List.mem_of_getElem? hz)
            refine ⟨rfl, _, rfl, _, rfl, _, _, rfl, rfl, _, rfl, ?_⟩
            rw [decide_eq_false (show ¬ sz ≤ z by omega)]
            exact iteF ⟨bD3, hd3⟩
          rintro H10 ⟨b10, hd10⟩
          refine ⟨Nat.zero_le _, fun e he => rne_ints (ns := []) (ms := []) (SqL.of (same_new he _ _ hd10)) (SqL.of upd_same) ⟨_, rfl, ?_⟩⟩
          rw [decide_eq_true rfl]
          refine iteF ?_
          refine ⟨⟨ah, _, _, _, _, rfl, ?_⟩, s79.trans ((but_same b10 hD3).trans (same_new he))⟩
          rcases hah with h1 | ⟨s', j, h1, h2, h3⟩
          · exact .inl h1
          · exact .inr ⟨s', j, by omega, h2, h3⟩
        | some j =>
          have ev : needV ns sz = .int (1 + (j : Int)) := by unfold needV; rw [hn]
          rw [ev]
          refine iteF ?_
          have hge : ¬ (1 + (j : Int) < ah) := by
            rcases hah with h1 | ⟨s', j', h1, h2, h3⟩
            · omega
            · have := need_mono h2 hn (by omega)
              omega
          refine ⟨_, rfl, _, rfl, _, _, rfl, rfl, _, rfl, ?_⟩
          rw [decide_eq_false hge]
          refine iteF ?_
          refine ⟨_, rfl, _, _, rfl, rfl, _, rfl, by omega, by omega, fun D3 hD3 => ?_⟩
          refine lc_range (lo := 0) (n := (m + 1).toNat) (fun i H' => But D3 H9 H' ∧ H' D3 = some (.lst (([] : List Int).map V.int)))
            ⟨fun b o nb e => by rw [upd_ne nb]; exact e, by rw [upd_same]; rfl⟩ ?_ ?_
          · rintro x H' hx ⟨bD3, hd3⟩
            have hcx := (but_same bD3 hD3).seq hc9
            refine ⟨rfl, _, rfl, _, rfl, D, _, _, _, rfl, rfl, hcx, at_of (j := x) (by omega) (at_map (classes_at (by omega))), _, rfl, _, _, rfl, rfl, _, rfl, ?_⟩
            by_cases c : 1 + (j : Int) ≤ clsI ns (x : Int)
            · rw [decide_eq_true c]
              refine iteT ⟨_, rfl, _, rfl, _, _, rfl, rfl, _, rfl, ?_⟩
              have c2 : ¬ (0 + (x : Int) < sz) := fun z => by
                have := cls_lt_need g hn (show (x : Int) < sz by omega)
                omega
              rw [decide_eq_false c2]
              exact iteF ⟨bD3, hd3⟩
            · rw [decide_eq_false c]
              exact iteF (iteF ⟨bD3, hd3⟩)
          rintro H10 ⟨b10, hd10⟩
          have s910 := but_same b10 hD3
          refine ⟨Nat.zero_le _, fun e he => rne_ints (ns := []) (ms := []) (SqL.of (same_new he _ _ hd10)) (SqL.of upd_same) ⟨_, rfl, ?_⟩⟩
          rw [decide_eq_true rfl]
          refine iteF ?_
          have s911 : Same H9 _ := s910.trans (same_new (o := .lst []) he)
          generalize (upd H10 e (.lst [])) = H11 at s911
          have s711 : Same H7 H11 := s79.trans s911
          have hc11 : SqL K H11 D ((classes ns N).map V.int) := s711.seq hc7
          -- there is a room one class lower, if the need is more than 1
          refine ⟨_, rfl, _, _, rfl, rfl, _, rfl, ?_⟩
          by_cases c1 : (1 : Int) < 1 + (j : Int)
          · rw [decide_eq_true c1]
            refine iteT ?_
            obtain ⟨z, hz, hzs, hlt⟩ := needN_some hn
            have hjl := (List.getElem?_eq_some_iff.mp hz).1
            obtain ⟨y, hy⟩ := list_at (ns := ns) (i := j - 1) (by omega)
            have hys : y < sz := hlt (j - 1) y (by omega) hy
            have hy1 : 1 ≤ y := g.lo y (List.mem_of_getElem? hy)
            have hcy : clsI ns y = (j : Int) := by
              have := cls_before g hy
              omega
            refine ⟨_, rfl, _, _, rfl, rfl, _, rfl, by omega, by omega, fun D4 hD4 => ?_⟩
            refine lc_range (lo := 0) (n := (m + 1).toNat) (fun i H' => But D4 H11 H' ∧ ∃ xs : List Int, H' D4 = some (.lst (xs.map V.int)) ∧ xs.length ≤ i ∧ (y < (i : Int) → xs ≠ []))
              ⟨fun b o nb e => by rw [upd_ne nb]; exact e, [], by rw [upd_same]; rfl, Nat.le_refl _, fun q => by omega⟩ ?_ ?_
            · rintro x H' hx ⟨bD4, xs, hd4, hxl, hne⟩
              have hcx := (but_same bD4 hD4).seq hc11
              refine ⟨rfl, _, rfl, _, rfl, D, _, _, _, rfl, rfl, hcx, at_of (j := x) (by omega) (at_map (classes_at (by omega))), _, rfl, _, _, rfl, rfl, ?_⟩
              refine ⟨rfl, _, rfl, ?_⟩
              by_cases c : V.int (clsI ns (x : Int)) = V.int (1 + (j : Int) - 1)
              · have ce : clsI ns (x : Int) = 1 + (j : Int) - 1 := by injection c
                rw [decide_eq_true c]
                refine iteT ⟨_, rfl, _, rfl, _, _, rfl, rfl, _, rfl, ?_⟩
                by_cases c2 : 0 + (x : Int) < sz
                · rw [decide_eq_true c2]
                  refine iteT ⟨_, rfl, _, hd4, ?_, but_put bD4, xs ++ [0 + (x : Int)], ?_, ?_, fun _ => ?_⟩
                  · rw [List.length_map]; exact Nat.lt_of_lt_of_le (show xs.length < 1001 by omega) (by decide)
                  · rw [upd_same, List.map_append]; rfl
                  · rw [List.length_append]; show xs.length + 1 ≤ x + 1; omega
                  · simp
                · rw [decide_eq_false c2]
                  refine iteF ⟨bD4, xs, hd4, by omega, fun q => ?_⟩
                  by_cases cy : y < (x : Int)
                  · exact hne cy
                  · omega
              · rw [decide_eq_false c]
                refine iteF (iteF ⟨bD4, xs, hd4, by omega, fun q => ?_⟩)
                by_cases cy : y < (x : Int)
                · exact hne cy
                · have ey : y = (x : Int) := by omega
                  rw [← ey, hcy] at c
                  exact absurd (by congr 1; omega) c
            rintro H12 ⟨b12, xs, hd12, hxl, hne⟩
            have hym : y ≤ m := g.hi y (List.mem_of_getElem? hy)
            have hxs : xs ≠ [] := hne (by have e0 : (((m + 1).toNat : Nat) : Int) = m + 1 := Int.toNat_of_nonneg (by omega); rw [e0]; omega)
            refine ⟨Nat.zero_le _, fun e2 he2 => req_ints (ns := xs) (ms := []) (SqL.of (same_new he2 _ _ hd12)) (SqL.of upd_same) ⟨_, rfl, ?_⟩⟩
            rw [decide_eq_false hxs]
            refine iteF ⟨_, rfl, ?_⟩
            exact ⟨⟨_, _, _, _, _, rfl, .inr ⟨sz, j, by omega, hn, rfl⟩⟩, s711.trans ((but_same b12 hD4).trans (same_new he2))⟩
          · rw [decide_eq_false c1]
            refine iteF (iteF ⟨_, rfl, ?_⟩)
            exact ⟨⟨_, _, _, _, _, rfl, .inr ⟨sz, j, by omega, hn, rfl⟩⟩, s711⟩
      · rintro σ H8 ⟨⟨ah, u9, u10, u11, u12, rfl, hah⟩, s78⟩
        have s28 : Same H2 H8 := s27.trans s78
        refine ⟨_, rfl, d, _, rfl, g2 _ s28, l, rfl, ⟨_, gl _ s28⟩, fun D3 hD3 => ?_⟩
        refine lc_list (K := K) (a := l) (xs := ns.map V.int) (fun i H' => But D3 H8 H' ∧ H' D3 = some (.lst ((upTo (i : Int)).map V.int)))
          ⟨fun b o nb e => by rw [upd_ne nb]; exact e, by rw [upd_same]; rfl⟩ (fun i H' _ h => gl _ (s28.trans (but_same h.1 hD3))) ?_ ?_
        · rintro j y H' hk ⟨bD3, hd3⟩
          obtain ⟨z, hz, rfl⟩ := map_at hk
          obtain ⟨dx, tb, hq', htb⟩ := st4 _ (s47.trans (s78.trans (but_same bD3 hD3)))
          have ev : needV ns z = .int (1 + (j : Int)) := by unfold needV; rw [need_bound g hz]
          have hjl := (List.getElem?_eq_some_iff.mp hz).1
          refine ⟨rfl, _, rfl, q, dx, _, rfl, hq', sf_no _ _ (by decide +kernel) (by decide +kernel), _, rfl, q, m, _, ns, rfl, ⟨dx, tb, hq', htb⟩, g8, g.lo z (List.mem_of_getElem? hz), g.hi z (List.mem_of_getElem? hz), fun H'' s'' => ?_⟩
          rw [ev]
          refine ⟨_, s'' _ _ hd3, ?_, but_put (but_then bD3 s''), ?_⟩
          · rw [List.length_map, upTo_len]; exact Nat.lt_of_lt_of_le (show _ < 1001 by omega) (by decide)
          · rw [upd_same, upTo_succ, List.map_append]; rfl
        rintro H9 ⟨b9, hd9⟩
        have s89 := but_same b9 hD3
        have hml : (ns.map V.int).length = ns.length := List.length_map _
        refine ⟨_, rfl, _, _, rfl, rfl, _, _, rfl, rfl, RgOk.of_le (by decide) (by omega) (by decide) (by omega), fun e he => ?_⟩
        refine rne_ints (ms := upTo (((ns.map V.int).length : Nat) : Int)) (SqL.of (same_new he _ _ hd9)) (SqL.of (by rw [upd_same, rgV_upTo])) ⟨_, rfl, ?_⟩
        rw [decide_eq_true rfl]
        refine iteF ⟨⟨_, _, _, _, _, _, _, _, _, _, _, _, rfl⟩, s02.trans (s27.trans (s78.trans (s89.trans (same_new he))))⟩
    · rintro σ H' ⟨_, s'⟩
      exact k _
end
end Rt
set_option maxHeartbeats 8000000
namespace Rt
open PySem L2

theorem all_mk {l : PySem.W.OpenLaw} {w : World} {K : PySem.W.Frag} {h : Heap} {mg : Str → Option Value} {fa C_Steps f_is_integer f_are_integers f_are_bounds f_Steps_init f_Steps_class_of f_Steps_need f_law_opened f_law_draw f_law_bounds f_law_made_steps f_law : Addr} (X : K.In h) (G : h.Ns mainGlobals mg) (hfa : mg "law" = some (.ref fa))
    {od_is_integer an_is_integer od_are_integers an_are_integers od_are_bounds an_are_bounds od_Steps_init an_Steps_init od_Steps_class_of an_Steps_class_of od_Steps_need an_Steps_need od_law_opened an_law_opened od_law_draw an_law_draw od_law_bounds an_law_bounds od_law_made_steps an_law_made_steps od_law an_law : Option Addr} {sl_is_integer sl_are_integers sl_are_bounds sl_Steps_init sl_Steps_class_of sl_Steps_need sl_law_opened sl_law_draw sl_law_bounds sl_law_made_steps sl_law : Array (Option Value)} {oc_is_integer kV_is_integer dc_is_integer pm_is_integer cd_is_integer ct_is_integer oc_are_integers kV_are_integers dc_are_integers pm_are_integers cd_are_integers ct_are_integers oc_are_bounds kV_are_bounds dc_are_bounds pm_are_bounds cd_are_bounds ct_are_bounds oc_Steps_init kV_Steps_init dc_Steps_init pm_Steps_init cd_Steps_init ct_Steps_init oc_Steps_class_of kV_Steps_class_of dc_Steps_class_of pm_Steps_class_of cd_Steps_class_of ct_Steps_class_of oc_Steps_need kV_Steps_need dc_Steps_need pm_Steps_need cd_Steps_need ct_Steps_need oc_law_opened kV_law_opened dc_law_opened pm_law_opened cd_law_opened ct_law_opened oc_law_draw kV_law_draw dc_law_draw pm_law_draw cd_law_draw ct_law_draw oc_law_bounds kV_law_bounds dc_law_bounds pm_law_bounds cd_law_bounds ct_law_bounds oc_law_made_steps kV_law_made_steps dc_law_made_steps pm_law_made_steps cd_law_made_steps ct_law_made_steps oc_law kV_law dc_law pm_law cd_law ct_law : Value} {tk_GREATEST_ROOM tk_MOST_BOUNDS : Tok}
    (aC_Steps : PySem.W.nsIn K mainGlobals "Steps" = some (some (.ref C_Steps)))
    (a_is_integer : PySem.W.nsIn K mainGlobals "is_integer" = some (some (.ref f_is_integer)))
    (l_is_integer : K.lookup f_is_integer = some ⟨oc_is_integer, od_is_integer, .func (PySem.W.fnOf "is_integer" "is_integer" (defArgs s_is_integer) (defBody s_is_integer) (defScope s_is_integer) .none kV_is_integer dc_is_integer pm_is_integer an_is_integer cd_is_integer ct_is_integer), sl_is_integer⟩)
    (c_is_integer : PySem.W.codeIn K cd_is_integer "is_integer" = true)
    (k_is_integer : PySem.W.keepIn K (.ref f_is_integer) = true)
    (a_are_integers : PySem.W.nsIn K mainGlobals "are_integers" = some (some (.ref f_are_integers)))
    (l_are_integers : K.lookup f_are_integers = some ⟨oc_are_integers, od_are_integers, .func (PySem.W.fnOf "are_integers" "are_integers" (defArgs s_are_integers) (defBody s_are_integers) (defScope s_are_integers) .none kV_are_integers dc_are_integers pm_are_integers an_are_integers cd_are_integers ct_are_integers), sl_are_integers⟩)
    (c_are_integers : PySem.W.codeIn K cd_are_integers "are_integers" = true)
    (k_are_integers : PySem.W.keepIn K (.ref f_are_integers) = true)
    (a_are_bounds : PySem.W.nsIn K mainGlobals "are_bounds" = some (some (.ref f_are_bounds)))
    (l_are_bounds : K.lookup f_are_bounds = some ⟨oc_are_bounds, od_are_bounds, .func (PySem.W.fnOf "are_bounds" "are_bounds" (defArgs s_are_bounds) (defBody s_are_bounds) (defScope s_are_bounds) .none kV_are_bounds dc_are_bounds pm_are_bounds an_are_bounds cd_are_bounds ct_are_bounds), sl_are_bounds⟩)
    (c_are_bounds : PySem.W.codeIn K cd_are_bounds "are_bounds" = true)
    (k_are_bounds : PySem.W.keepIn K (.ref f_are_bounds) = true)
    (a_Steps_init : PySem.W.findIn K (.ref C_Steps) "__init__" = some (some (.ref f_Steps_init)))
    (i_Steps_init : PySem.W.isFn K (.ref f_Steps_init) = true)
    (l_Steps_init : K.lookup f_Steps_init = some ⟨oc_Steps_init, od_Steps_init, .func (PySem.W.fnOf "__init__" "Steps.__init__" (defArgs s_Steps_init) (defBody s_Steps_init) (defScope s_Steps_init) .none kV_Steps_init dc_Steps_init pm_Steps_init an_Steps_init cd_Steps_init ct_Steps_init), sl_Steps_init⟩)
    (c_Steps_init : PySem.W.codeIn K cd_Steps_init "Steps.__init__" = true)
    (k_Steps_init : PySem.W.keepIn K (.ref f_Steps_init) = true)
    (a_Steps_class_of : PySem.W.findIn K (.ref C_Steps) "class_of" = some (some (.ref f_Steps_class_of)))
    (i_Steps_class_of : PySem.W.isFn K (.ref f_Steps_class_of) = true)
    (l_Steps_class_of : K.lookup f_Steps_class_of = some ⟨oc_Steps_class_of, od_Steps_class_of, .func (PySem.W.fnOf "class_of" "Steps.class_of" (defArgs s_Steps_class_of) (defBody s_Steps_class_of) (defScope s_Steps_class_of) .none kV_Steps_class_of dc_Steps_class_of pm_Steps_class_of an_Steps_class_of cd_Steps_class_of ct_Steps_class_of), sl_Steps_class_of⟩)
    (c_Steps_class_of : PySem.W.codeIn K cd_Steps_class_of "Steps.class_of" = true)
    (k_Steps_class_of : PySem.W.keepIn K (.ref f_Steps_class_of) = true)
    (a_Steps_need : PySem.W.findIn K (.ref C_Steps) "need" = some (some (.ref f_Steps_need)))
    (i_Steps_need : PySem.W.isFn K (.ref f_Steps_need) = true)
    (l_Steps_need : K.lookup f_Steps_need = some ⟨oc_Steps_need, od_Steps_need, .func (PySem.W.fnOf "need" "Steps.need" (defArgs s_Steps_need) (defBody s_Steps_need) (defScope s_Steps_need) .none kV_Steps_need dc_Steps_need pm_Steps_need an_Steps_need cd_Steps_need ct_Steps_need), sl_Steps_need⟩)
    (c_Steps_need : PySem.W.codeIn K cd_Steps_need "Steps.need" = true)
    (k_Steps_need : PySem.W.keepIn K (.ref f_Steps_need) = true)
    (a_law_opened : PySem.W.nsIn K mainGlobals "_law_opened" = some (some (.ref f_law_opened)))
    (l_law_opened : K.lookup f_law_opened = some ⟨oc_law_opened, od_law_opened, .func (PySem.W.fnOf "_law_opened" "_law_opened" (defArgs s_law_opened) (defBody s_law_opened) (defScope s_law_opened) .none kV_law_opened dc_law_opened pm_law_opened an_law_opened cd_law_opened ct_law_opened), sl_law_opened⟩)
    (c_law_opened : PySem.W.codeIn K cd_law_opened "_law_opened" = true)
    (k_law_opened : PySem.W.keepIn K (.ref f_law_opened) = true)
    (a_law_draw : PySem.W.nsIn K mainGlobals "_law_draw" = some (some (.ref f_law_draw)))
    (l_law_draw : K.lookup f_law_draw = some ⟨oc_law_draw, od_law_draw, .func (PySem.W.fnOf "_law_draw" "_law_draw" (defArgs s_law_draw) (defBody s_law_draw) (defScope s_law_draw) .none kV_law_draw dc_law_draw pm_law_draw an_law_draw cd_law_draw ct_law_draw), sl_law_draw⟩)
    (c_law_draw : PySem.W.codeIn K cd_law_draw "_law_draw" = true)
    (k_law_draw : PySem.W.keepIn K (.ref f_law_draw) = true)
    (a_law_bounds : PySem.W.nsIn K mainGlobals "_law_bounds" = some (some (.ref f_law_bounds)))
    (l_law_bounds : K.lookup f_law_bounds = some ⟨oc_law_bounds, od_law_bounds, .func (PySem.W.fnOf "_law_bounds" "_law_bounds" (defArgs s_law_bounds) (defBody s_law_bounds) (defScope s_law_bounds) .none kV_law_bounds dc_law_bounds pm_law_bounds an_law_bounds cd_law_bounds ct_law_bounds), sl_law_bounds⟩)
    (c_law_bounds : PySem.W.codeIn K cd_law_bounds "_law_bounds" = true)
    (k_law_bounds : PySem.W.keepIn K (.ref f_law_bounds) = true)
    (a_law_made_steps : PySem.W.nsIn K mainGlobals "_law_made_steps" = some (some (.ref f_law_made_steps)))
    (l_law_made_steps : K.lookup f_law_made_steps = some ⟨oc_law_made_steps, od_law_made_steps, .func (PySem.W.fnOf "_law_made_steps" "_law_made_steps" (defArgs s_law_made_steps) (defBody s_law_made_steps) (defScope s_law_made_steps) .none kV_law_made_steps dc_law_made_steps pm_law_made_steps an_law_made_steps cd_law_made_steps ct_law_made_steps), sl_law_made_steps⟩)
    (c_law_made_steps : PySem.W.codeIn K cd_law_made_steps "_law_made_steps" = true)
    (k_law_made_steps : PySem.W.keepIn K (.ref f_law_made_steps) = true)
    (a_law : PySem.W.nsIn K mainGlobals "law" = some (some (.ref f_law)))
    (l_law : K.lookup f_law = some ⟨oc_law, od_law, .func (PySem.W.fnOf "law" "law" (defArgs s_law) (defBody s_law) (defScope s_law) .none kV_law dc_law pm_law an_law cd_law ct_law), sl_law⟩)
    (c_law : PySem.W.codeIn K cd_law "law" = true)
    (k_law : PySem.W.keepIn K (.ref f_law) = true)
    (pg_Steps : PySem.W.plainGet K C_Steps Str.empty = true)
    (hd_Steps : PySem.W.hasDictIn K C_Steps = true)
    (po_Steps : PySem.W.plainOver K C_Steps = true)
    (sa_Steps : PySem.W.findIn K (.ref C_Steps) "__setattr__" = some (some (.builtin "object.__setattr__")))
    (mk_Steps : PySem.W.makesIn K C_Steps = true)
    (kc_Steps : PySem.W.keepIn K (.ref C_Steps) = true)
    (nf_Steps_most : PySem.W.findIn K (.ref C_Steps) "most" = some none)
    (nf_Steps_bounds : PySem.W.findIn K (.ref C_Steps) "_bounds" = some none)
    (cc_GREATEST_ROOM : PySem.W.nsIn K mainGlobals "GREATEST_ROOM" = some (some (.int 1000 tk_GREATEST_ROOM)))
    (cc_MOST_BOUNDS : PySem.W.nsIn K mainGlobals "MOST_BOUNDS" = some (some (.int 8 tk_MOST_BOUNDS)))
    (z_isinstance : PySem.W.nsIn K mainGlobals "isinstance" = some none)
    (z_int : PySem.W.nsIn K mainGlobals "int" = some none)
    (z_bool : PySem.W.nsIn K mainGlobals "bool" = some none)
    (z_list : PySem.W.nsIn K mainGlobals "list" = some none)
    (z_tuple : PySem.W.nsIn K mainGlobals "tuple" = some none)
    (z_len : PySem.W.nsIn K mainGlobals "len" = some none)
    (z_range : PySem.W.nsIn K mainGlobals "range" = some none)
    (z_max : PySem.W.nsIn K mainGlobals "max" = some none)
    (z_min : PySem.W.nsIn K mainGlobals "min" = some none)
    (z_sorted : PySem.W.nsIn K mainGlobals "sorted" = some none)
    (z_enumerate : PySem.W.nsIn K mainGlobals "enumerate" = some none)
    : ∃ fd : FuncData, (∀ (s : Shared) (v : Value), BindsTo s fd ⟨[v], []⟩ [("_law_script", v)]) ∧ ∀ base : Heap, K.In base → base.Ns mainGlobals mg → FnOk l.prog w K mg base CX0 9 fa fd ["_law_script"] (sp_law K) := by
  have e := hfa.symm.trans (PySem.W.mg_of X G a_law)
  cases e
  have F_is_integer := fun_mk (st := s_is_integer) l_is_integer c_is_integer k_is_integer
  have b_is_integer := F_is_integer.binds (ps := ["value", "least", "greatest"]) fun _ _ _ _ _ _ us hl => match us, hl with | [_, _, _], _ => rfl
  have F_are_integers := fun_mk (st := s_are_integers) l_are_integers c_are_integers k_are_integers
  have b_are_integers := F_are_integers.binds (ps := ["value", "least", "greatest"]) fun _ _ _ _ _ _ us hl => match us, hl with | [_, _, _], _ => rfl
  have F_are_bounds := fun_mk (st := s_are_bounds) l_are_bounds c_are_bounds k_are_bounds
  have b_are_bounds := F_are_bounds.binds (ps := ["value", "most"]) fun _ _ _ _ _ _ us hl => match us, hl with | [_, _], _ => rfl
  have F_Steps_init := fun_mk (st := s_Steps_init) l_Steps_init c_Steps_init k_Steps_init
  have b_Steps_init := F_Steps_init.binds (ps := ["self", "most", "bounds"]) fun _ _ _ _ _ _ us hl => match us, hl with | [_, _, _], _ => rfl
  have F_Steps_class_of := fun_mk (st := s_Steps_class_of) l_Steps_class_of c_Steps_class_of k_Steps_class_of
  have b_Steps_class_of := F_Steps_class_of.binds (ps := ["self", "room"]) fun _ _ _ _ _ _ us hl => match us, hl with | [_, _], _ => rfl
  have F_Steps_need := fun_mk (st := s_Steps_need) l_Steps_need c_Steps_need k_Steps_need
  have b_Steps_need := F_Steps_need.binds (ps := ["self", "size"]) fun _ _ _ _ _ _ us hl => match us, hl with | [_, _], _ => rfl
  have F_law_opened := fun_mk (st := s_law_opened) l_law_opened c_law_opened k_law_opened
  have b_law_opened := F_law_opened.binds (ps := ["_law_script", "_law_k"]) fun _ _ _ _ _ _ us hl => match us, hl with | [_, _], _ => rfl
  have F_law_draw := fun_mk (st := s_law_draw) l_law_draw c_law_draw k_law_draw
  have b_law_draw := F_law_draw.binds (ps := ["_law_pool", "_law_many"]) fun _ _ _ _ _ _ us hl => match us, hl with | [_, _], _ => rfl
  have F_law_bounds := fun_mk (st := s_law_bounds) l_law_bounds c_law_bounds k_law_bounds
  have b_law_bounds := F_law_bounds.binds (ps := ["_law_pool", "_law_top"]) fun _ _ _ _ _ _ us hl => match us, hl with | [_, _], _ => rfl
  have F_law_made_steps := fun_mk (st := s_law_made_steps) l_law_made_steps c_law_made_steps k_law_made_steps
  have b_law_made_steps := F_law_made_steps.binds (ps := ["_law_plan"]) fun _ _ _ _ _ _ us hl => match us, hl with | [_], _ => rfl
  have F_law := fun_mk (st := s_law) l_law c_law k_law
  have b_law := F_law.binds (ps := ["_law_script"]) fun _ _ _ _ _ _ us hl => match us, hl with | [_], _ => rfl
  have T : Txt K mg { C_Steps := C_Steps, a_is_integer := f_is_integer, fd_is_integer := _, a_are_integers := f_are_integers, fd_are_integers := _, a_are_bounds := f_are_bounds, fd_are_bounds := _, a_Steps_init := f_Steps_init, fd_Steps_init := _, a_Steps_class_of := f_Steps_class_of, fd_Steps_class_of := _, a_Steps_need := f_Steps_need, fd_Steps_need := _, a_law_opened := f_law_opened, fd_law_opened := _, a_law_draw := f_law_draw, fd_law_draw := _, a_law_bounds := f_law_bounds, fd_law_bounds := _, a_law_made_steps := f_law_made_steps, fd_law_made_steps := _, a_law := fa, fd_law := _, tk_GREATEST_ROOM := tk_GREATEST_ROOM, tk_MOST_BOUNDS := tk_MOST_BOUNDS } := { cl_Steps := ⟨pg_Steps, hd_Steps, po_Steps, sa_Steps⟩, g_Steps := PySem.W.mg_of X G aC_Steps, nf_Steps_most := nf_Steps_most, nf_Steps_bounds := nf_Steps_bounds, mk_Steps := ⟨mk_Steps, a_Steps_init, i_Steps_init, kc_Steps⟩, m_Steps_class_of := ⟨a_Steps_class_of, i_Steps_class_of, k_Steps_class_of⟩, m_Steps_need := ⟨a_Steps_need, i_Steps_need, k_Steps_need⟩, F_is_integer := F_is_integer, b_is_integer := b_is_integer, g_is_integer := PySem.W.mg_of X G a_is_integer, F_are_integers := F_are_integers, b_are_integers := b_are_integers, g_are_integers := PySem.W.mg_of X G a_are_integers, F_are_bounds := F_are_bounds, b_are_bounds := b_are_bounds, g_are_bounds := PySem.W.mg_of X G a_are_bounds, F_Steps_init := F_Steps_init, b_Steps_init := b_Steps_init, F_Steps_class_of := F_Steps_class_of, b_Steps_class_of := b_Steps_class_of, F_Steps_need := F_Steps_need, b_Steps_need := b_Steps_need, F_law_opened := F_law_opened, b_law_opened := b_law_opened, g__law_opened := PySem.W.mg_of X G a_law_opened, F_law_draw := F_law_draw, b_law_draw := b_law_draw, g__law_draw := PySem.W.mg_of X G a_law_draw, F_law_bounds := F_law_bounds, b_law_bounds := b_law_bounds, g__law_bounds := PySem.W.mg_of X G a_law_bounds, F_law_made_steps := F_law_made_steps, b_law_made_steps := b_law_made_steps, g__law_made_steps := PySem.W.mg_of X G a_law_made_steps, F_law := F_law, b_law := b_law, g_law := PySem.W.mg_of X G a_law, c_GREATEST_ROOM := PySem.W.mg_of X G cc_GREATEST_ROOM, c_MOST_BOUNDS := PySem.W.mg_of X G cc_MOST_BOUNDS, n_isinstance := PySem.W.mg_none_of X G z_isinstance, n_int := PySem.W.mg_none_of X G z_int, n_bool := PySem.W.mg_none_of X G z_bool, n_list := PySem.W.mg_none_of X G z_list, n_tuple := PySem.W.mg_none_of X G z_tuple, n_len := PySem.W.mg_none_of X G z_len, n_range := PySem.W.mg_none_of X G z_range, n_max := PySem.W.mg_none_of X G z_max, n_min := PySem.W.mg_none_of X G z_min, n_sorted := PySem.W.mg_none_of X G z_sorted, n_enumerate := PySem.W.mg_none_of X G z_enumerate }
  exact ⟨PySem.W.fnOf "law" "law" (defArgs s_law) (defBody s_law) (defScope s_law) .none kV_law dc_law pm_law an_law cd_law ct_law, fun s v => .of_eq rfl, fun base _ _ => ok_law T⟩
theorem walk {l : PySem.W.OpenLaw} {q : Program} {loose : List Str} {XP : (Str → Option Value) → Heap → Prop} {YP : World → Heap → Prop} {d : DefRec} {K : Params → PySem.W.Frag} (hn : l.most = some 63) (hdf : d.params.defaults = [])
    (hY : ∀ (w : World) (h : Heap), YP w h → (K w.params).In h)
    (F : ∀ (w : World) (mg : Str → Option Value) (fa : Addr) (h : Heap), (K w.params).In h → h.Ns mainGlobals mg → mg d.name = some (.ref fa) →
      ∃ fd : FuncData, (∀ (s : Shared) (u : Value), BindsTo s fd ⟨[u], []⟩ [("_law_script", u)]) ∧ ∀ base : Heap, (K w.params).In base → base.Ns mainGlobals mg → FnOk l.prog w (K w.params) mg base CX0 9 fa fd ["_law_script"] (sp_law (K w.params))) :
    PySem.W.WalkO q loose XP YP l.row.toRowW d [] (fun f vs => PySem.call f vs) :=
  L2.walk_of (n := 63) (k := 9) (x := "_law_script") (CX := fun _ => CX0) (sp := fun w => sp_law (K w.params)) hn (by decide) hdf ⟨rfl, by decide, by decide⟩ hY F (fun _ _ a ns hl _ hS => ⟨a, ns, rfl, hS, hl, fun _ => rfl⟩) fun _ _ _ _ _ z => z
end Rt
open PySem PySem.W PyProof.Rows in
set_option maxRecDepth 100000 in
set_option maxHeartbeats 0 in
theorem PySem.Challenge.cw_roomtold_k04_whole_rooms_and_sizes_holds : PySem.Challenge.rw_roomtold_k04_whole_rooms_and_sizes.Holds := by
  w_on; o_law; k_head; (case hw => w_witness2)
  k_fill
  refine Rt.walk (l := PySem.Challenge.rw_roomtold_k04_whole_rooms_and_sizes) rfl rfl (fun w h Y => PySem.W.kIn_of Y) ?F
  case F =>
    intro w mg fa h KX G hmg
    refine' Rt.all_mk KX G hmg ?aC_Steps ?a_is_integer ?l_is_integer ?c_is_integer ?k_is_integer ?a_are_integers ?l_are_integers ?c_are_integers ?k_are_integers ?a_are_bounds ?l_are_bounds ?c_are_bounds ?k_are_bounds ?a_Steps_init ?i_Steps_init ?l_Steps_init ?c_Steps_init ?k_Steps_init ?a_Steps_class_of ?i_Steps_class_of ?l_Steps_class_of ?c_Steps_class_of ?k_Steps_class_of ?a_Steps_need ?i_Steps_need ?l_Steps_need ?c_Steps_need ?k_Steps_need ?a_law_opened ?l_law_opened ?c_law_opened ?k_law_opened ?a_law_draw ?l_law_draw ?c_law_draw ?k_law_draw ?a_law_bounds ?l_law_bounds ?c_law_bounds ?k_law_bounds ?a_law_made_steps ?l_law_made_steps ?c_law_made_steps ?k_law_made_steps ?a_law ?l_law ?c_law ?k_law ?pg_Steps ?hd_Steps ?po_Steps ?sa_Steps ?mk_Steps ?kc_Steps ?nf_Steps_most ?nf_Steps_bounds ?cc_GREATEST_ROOM ?cc_MOST_BOUNDS ?z_isinstance ?z_int ?z_bool ?z_list ?z_tuple ?z_len ?z_range ?z_max ?z_min ?z_sorted ?z_enumerate
    (case aC_Steps => k_is)
    (case a_is_integer => k_is)
    (case l_is_integer => k_is)
    (case c_is_integer => k_is)
    (case k_is_integer => k_is)
    (case a_are_integers => k_is)
    (case l_are_integers => k_is)
    (case c_are_integers => k_is)
    (case k_are_integers => k_is)
    (case a_are_bounds => k_is)
    (case l_are_bounds => k_is)
    (case c_are_bounds => k_is)
    (case k_are_bounds => k_is)
    (case a_Steps_init => k_is)
    (case i_Steps_init => k_is)
    (case l_Steps_init => k_is)
    (case c_Steps_init => k_is)
    (case k_Steps_init => k_is)
    (case a_Steps_class_of => k_is)
    (case i_Steps_class_of => k_is)
    (case l_Steps_class_of => k_is)
    (case c_Steps_class_of => k_is)
    (case k_Steps_class_of => k_is)
    (case a_Steps_need => k_is)
    (case i_Steps_need => k_is)
    (case l_Steps_need => k_is)
    (case c_Steps_need => k_is)
    (case k_Steps_need => k_is)
    (case a_law_opened => k_is)
    (case l_law_opened => k_is)
    (case c_law_opened => k_is)
    (case k_law_opened => k_is)
    (case a_law_draw => k_is)
    (case l_law_draw => k_is)
    (case c_law_draw => k_is)
    (case k_law_draw => k_is)
    (case a_law_bounds => k_is)
    (case l_law_bounds => k_is)
    (case c_law_bounds => k_is)
    (case k_law_bounds => k_is)
    (case a_law_made_steps => k_is)
    (case l_law_made_steps => k_is)
    (case c_law_made_steps => k_is)
    (case k_law_made_steps => k_is)
    (case a_law => k_is)
    (case l_law => k_is)
    (case c_law => k_is)
    (case k_law => k_is)
    (case pg_Steps => k_is)
    (case hd_Steps => k_is)
    (case po_Steps => k_is)
    (case sa_Steps => k_is)
    (case mk_Steps => k_is)
    (case kc_Steps => k_is)
    (case nf_Steps_most => k_is)
    (case nf_Steps_bounds => k_is)
    (case cc_GREATEST_ROOM => k_is)
    (case cc_MOST_BOUNDS => k_is)
    (case z_isinstance => k_is)
    (case z_int => k_is)
    (case z_bool => k_is)
    (case z_list => k_is)
    (case z_tuple => k_is)
    (case z_len => k_is)
    (case z_range => k_is)
    (case z_max => k_is)
    (case z_min => k_is)
    (case z_sorted => k_is)
    (case z_enumerate => k_is)
