/-
  Contracts of layer 6: query.Match and what it asks.
-/
import Derived.Test.YtfbooapgjhhjmaaQpFn
import Derived.Test.YtfbooapgjhhjmaaQuRefM
import Derived.Test.YtfbooapgjhhjmaaEvApiA
namespace Go.Proofs.Ytfbooapgjhhjmaa.QuWalk
open Go.RowKit Go.Proofs.Ytfbooapgjhhjmaa.MemRow Go.Proofs.Ytfbooapgjhhjmaa.Ev Go.Proofs.Ytfbooapgjhhjmaa.NameMath Go.Proofs.Ytfbooapgjhhjmaa.NameWalk Go.Proofs.Ytfbooapgjhhjmaa.EvWalk Go.Proofs.Ytfbooapgjhhjmaa.Qu

theorem any_nt' (l : List ByteArray) (p : ByteArray → Bool) : (l.any fun x => !p x) = !l.all p := by
  induction l with
  | nil => rfl
  | cons a l ih => rw [List.any_cons, List.all_cons, ih, Bool.not_and]

/-- A box that holds an event. -/
def EvBox (w : World) (g : Nat) (u : Value) (ev : Ev) : Prop := ∃ A n ca B m cb, u = .agg #[.string ev.s, .string ev.t, .slice A n ca, .slice B m cb] ∧ EvAt w g (.string ev.s) (.string ev.t) (.slice A n ca) (.slice B m cb) ∧ IsEv w u ev
theorem EvBox.below {w w' : World} {g : Nat} {u : Value} {ev : Ev} (h : EvBox w g u ev) (hb : Below w.heap.size w w') : EvBox w' g u ev := by
  obtain ⟨A, n, ca, B, m, cb, rfl, he, hi⟩ := h
  exact ⟨A, n, ca, B, m, cb, rfl, he.below hb he.lt, hi.below hb⟩

set_option maxHeartbeats 4000000 in
set_option maxRecDepth 100000 in
theorem hasTags1_any (g : Nat) (u : Value) (ev : Ev) (x : ByteArray) (w : World) (hb : EvBox w g u ev) :
    Calls Try.prog 51 #[.string x, .pointer (some ⟨g, 0, none⟩)] w fun e w' => e = .returned (.bool (!hasB ev.tags x)) ∧ Below w.heap.size w w' := by
  obtain ⟨A, n, ca, B, m, cb, rfl, he, hi⟩ := hb
  have c := Go.Lib.hid (evHas_any _ ev x w hi)
  have k0 := he.c0
  have k1 := he.c1
  have k2 := he.c2
  have k3 := he.c3
  clear he hi
  generalize hasB ev.tags x = R at *
  go_enter Try.func51, Try.ntmps51
  go_wp2_with (refine (c.out).mono ?_; rintro e w2 ⟨rfl, b2⟩)
  go_ret
  exact ⟨rfl, b2⟩

set_option maxHeartbeats 4000000 in
set_option maxRecDepth 100000 in
theorem hasTags_any (u : Value) (ev : Ev) (T : Option Addr) (nT cT : Nat) (ts : List ByteArray) (w : World) (hu : IsEv w u ev) (rT : RdS w T nT cT ts) :
    Calls Try.prog 38 #[u, .slice T nT cT] w fun e w' => e = .returned (.bool (ts.all fun x => hasB ev.tags x)) ∧ Below w.heap.size w w' := by
  obtain ⟨A, n, ca, B, m, cb, rfl, ra, rb⟩ := hu
  have al : Below w.heap.size w (w.alloc (.cells #[.string ev.s, .string ev.t, .slice A n ca, .slice B m cb] 33)) := (Below.refl _ _).alloc (Nat.le_refl _) _
  have e0 := EvAt.new w (.string ev.s) (.string ev.t) (.slice A n ca) (.slice B m cb)
  have bx : EvBox _ w.heap.size _ ev := ⟨A, n, ca, B, m, cb, rfl, e0, ⟨A, n, ca, B, m, cb, rfl, RdC.below ra al, RdC.below rb al⟩⟩
  have c0 := hasFuncSc_any T nT cT ts 51 #[.pointer (some ⟨w.heap.size, 0, none⟩)] (fun x => !hasB ev.tags x) _ (RdC.below rT al) (enters_of Try.func51 (by kernel_rfl) rfl) (fun W b x _ => hasTags1_any w.heap.size _ ev x W (bx.below b))
  have h := Bool.not_not (ts.all fun x => hasB ev.tags x)
  rw [any_nt'] at c0
  rw [← h]
  clear h bx e0 rT ra rb
  generalize (!ts.all fun x => hasB ev.tags x) = R at *
  have c := Go.Lib.hid c0
  clear c0
  go_enter Try.func38, Try.ntmps38
  go_upto_region 1 with (fail)
  generalize w.alloc (.cells #[.string ev.s, .string ev.t, .slice A n ca, .slice B m cb] 33) = w1 at *
  go_wp2_with (refine (c.out).mono ?_; rintro e w2 ⟨rfl, b2⟩)
  go_ret
  exact ⟨rfl, below_chain al b2⟩

set_option maxHeartbeats 4000000 in
set_option maxRecDepth 100000 in
theorem isOneOf_any (u : Value) (ev : Ev) (T : Option Addr) (nT cT : Nat) (ts : List ByteArray) (w : World) (hu : IsEv w u ev) (rT : RdS w T nT cT ts) :
    Calls Try.prog 39 #[u, .slice T nT cT] w fun e w' => e = .returned (.bool (decide (ts = []) || hasB ts ev.t)) ∧ Below w.heap.size w w' := by
  obtain ⟨A, n, ca, B, m, cb, rfl, ra, rb⟩ := hu
  have hn := RdC.le rT
  unfold maxLen at hn
  have LT := Go.Lib.hid rT.len
  have al : Below w.heap.size w (w.alloc (.cells #[.string ev.s, .string ev.t, .slice A n ca, .slice B m cb] 33)) := (Below.refl _ _).alloc (Nat.le_refl _) _
  have e0 := EvAt.new w (.string ev.s) (.string ev.t) (.slice A n ca) (.slice B m cb)
  have k1 := e0.c1
  have c := Go.Lib.hid (contains_any T nT cT ts ev.t _ (RdC.below rT al))
  clear rT ra rb e0
  generalize hR : (decide (ts = []) || hasB ts ev.t) = R
  have HR := Go.Lib.hid hR
  clear hR
  go_enter Try.func39, Try.ntmps39
  go_upto_region 1 with (fail)
  generalize w.alloc (.cells #[.string ev.s, .string ev.t, .slice A n ca, .slice B m cb] 33) = w1 at *
  by_cases h0 : nT = 0
  · subst h0
    have hR : R = true := by
      have h1 : ts = [] := List.eq_nil_of_length_eq_zero LT.out
      rw [← HR.out, decide_eq_true h1]
      rfl
    subst hR
    go_wp2_with fail
    go_ret
    exact ⟨rfl, al⟩
  · have h1 : ((nT : Int) == 0) = false := by rw [beq_eq_false_iff_ne]; omega
    have hR : hasB ts ev.t = R := by
      have h1 : ¬ ts = [] := fun h => h0 (by rw [← LT.out, h]; rfl)
      rw [← HR.out, decide_eq_false h1]
      rfl
    have d := c.out
    rw [hR] at d
    have D := Go.Lib.hid d
    clear d c hR
    go_wp2_with (refine (D.out).mono ?_; rintro e w2 ⟨rfl, b2⟩)
    go_ret
    exact ⟨rfl, below_chain al b2⟩

set_option maxHeartbeats 4000000 in
set_option maxRecDepth 100000 in
theorem match1_any (g : Nat) (u : Value) (ev : Ev) (v : Value) (c : Cl) (w : World) (hv : IsCl w v c) (hb : EvBox w g u ev) :
    Calls Try.prog 37 #[v, .pointer (some ⟨g, 0, none⟩)] w fun e w' => e = .returned (.bool (clauseB c ev)) ∧ Below w.heap.size w w' := by
  obtain ⟨T, nT, cT, Y, nY, cY, rfl, rT, rY⟩ := hv
  have al : Below w.heap.size w (w.alloc (.cells #[.slice T nT cT, .slice Y nY cY] 36)) := (Below.refl _ _).alloc (Nat.le_refl _) _
  have k := ClAt.new w (.slice T nT cT) (.slice Y nY cY)
  have rT1 := RdC.below rT al
  have rY1 := RdC.below rY al
  obtain ⟨A, n, ca, B, m, cb, rfl, he0, hi0⟩ := hb
  have he := he0.below al he0.lt
  have hi := hi0.below al
  clear rT rY he0 hi0
  generalize hR : clauseB c ev = R
  have HR := Go.Lib.hid hR
  clear hR
  go_enter Try.func37, Try.ntmps37
  go_upto_region 1 with (fail)
  generalize w.alloc (.cells #[.slice T nT cT, .slice Y nY cY] 36) = w1 at *
  have k0 := k.c0
  have k1 := k.c1
  have j0 := he.c0
  have j1 := he.c1
  have j2 := he.c2
  have j3 := he.c3
  have c1 := hasTags_any _ ev T nT cT c.tags w1 hi rT1
  generalize h1 : (c.tags.all fun x => hasB ev.tags x) = R1 at *
  have H1 := Go.Lib.hid h1
  have C1 := Go.Lib.hid c1
  clear h1 c1
  cases R1 with
  | false =>
    have hR : R = false := by
      rw [← HR.out]
      unfold clauseB
      rw [H1.out]
      rfl
    subst hR
    clear rT1 rY1 hi k
    go_wp2_with (refine (C1.out).mono ?_; rintro e w2 ⟨rfl, b2⟩)
    go_ret
    exact ⟨rfl, below_chain al b2⟩
  | true =>
    have hR : (decide (c.types = []) || hasB c.types ev.t) = R := by
      rw [← HR.out]
      unfold clauseB
      rw [H1.out, Bool.true_and]
    have HR2 := Go.Lib.hid hR
    clear hR
    go_wp2_with (refine (C1.out).mono ?_; rintro e w2 ⟨rfl, b2⟩; have l1 := bcell b2 k1; have i0 := bcell b2 j0; have i1 := bcell b2 j1; have i2 := bcell b2 j2; have i3 := bcell b2 j3; have B2 := below_chain al b2; have c2 := isOneOf_any _ ev Y nY cY c.types w2 (hi.below b2) (RdC.below rY1 b2); rw [HR2.out] at c2; have C2 := Go.Lib.hid c2; clear c2 rT1 rY1 hi k k0 k1 j0 j1 j2 j3 b2 he)
    go_wp2_with (refine (C2.out).mono ?_; rintro e w3 ⟨rfl, b3⟩)
    go_ret
    exact ⟨rfl, below_chain B2 b3⟩

set_option maxHeartbeats 4000000 in
set_option maxRecDepth 100000 in
theorem matchQ_any (v u : Value) (q : List Cl) (ev : Ev) (w : World) (hv : IsQ w v q) (hu : IsEv w u ev) :
    Calls Try.prog 18 #[v, u] w fun e w' => e = .returned (.bool (matchQ q ev)) ∧ Below w.heap.size w w' := by
  obtain ⟨C, n, cap, rfl, rC⟩ := hv
  have hu0 := hu
  obtain ⟨A, nA, cA, B, nB, cB, rfl, _, _⟩ := hu
  have s1 := QeAt.new w (.slice C n cap) (.string ev.s) (.string ev.t) (.slice A nA cA) (.slice B nB cB)
  have bx : EvBox _ (w.heap.size + 1) _ ev := ⟨A, nA, cA, B, nB, cB, rfl, s1.ee, hu0.below s1.bel⟩
  have c0 := hasFuncC_any C n cap q 37 #[.pointer (some ⟨w.heap.size + 1, 0, none⟩)] (fun c => clauseB c ev) _ (rC.below s1.bel) (enters_of Try.func37 (by kernel_rfl) rfl) (fun W b v c _ hi => match1_any (w.heap.size + 1) _ ev v c W hi (bx.below b))
  have k0 := s1.eq.c0
  have B1 := s1.bel
  unfold matchQ
  generalize (q.any fun c => clauseB c ev) = R at *
  have c := Go.Lib.hid c0
  clear c0 bx hu0 rC s1
  go_enter Try.func18, Try.ntmps18
  go_upto_region 1 with (fail)
  generalize (w.alloc (.cells #[.slice C n cap] 24)).alloc (.cells #[.string ev.s, .string ev.t, .slice A nA cA, .slice B nB cB] 33) = w1 at *
  go_wp2_with (refine (c.out).mono ?_; rintro e w2 ⟨rfl, b2⟩)
  go_ret
  exact ⟨rfl, below_chain B1 b2⟩

end Go.Proofs.Ytfbooapgjhhjmaa.QuWalk
