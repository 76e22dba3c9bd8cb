/-
  Contracts of layer 4: Has, Value, Same.
-/
import Derived.Test.YtgldheeplhcmcaaEvCat
import Derived.Test.YtgldheeplhcmcaaEvEq
import Derived.Deep.DeepCutAuto
namespace Go.Proofs.Ytgldheeplhcmcaa.EvWalk
open Go.RowKit Go.Proofs.Ytgldheeplhcmcaa.MemRow Go.Proofs.Ytgldheeplhcmcaa.Ev Go.Proofs.Ytgldheeplhcmcaa.NameMath Go.Proofs.Ytgldheeplhcmcaa.NameWalk

set_option maxHeartbeats 2000000 in
theorem evHas_any (v : Value) (ev : Ev) (x : ByteArray) (w : World) (hv : IsEv w v ev) :
    Calls Try.prog 19 #[v, .string x] w fun e w' => e = .returned (.bool (hasB ev.tags x)) ∧ Below w.heap.size w w' := by
  obtain ⟨A, n, ca, B, m, cb, rfl, ha, _⟩ := hv
  have b0 : Below w.heap.size w (w.alloc (.cells #[.string ev.s, .string ev.t, .slice A n ca, .slice B m cb] 25)) := (Below.refl _ _).alloc (Nat.le_refl _) _
  have e0 := EvAt.new w (.string ev.s) (.string ev.t) (.slice A n ca) (.slice B m cb)
  have c := Go.Lib.hid (contains_any A n ca ev.tags x _ (RdC.below ha b0))
  have k2 := e0.c2
  clear ha e0
  generalize hasB ev.tags x = R at *
  go_enter Try.func19, Try.ntmps19
  go_wp2_with fail
  generalize w.alloc (.cells #[.string ev.s, .string ev.t, .slice A n ca, .slice B m cb] 25) = w1 at *
  refine (c.out).mono ?_
  rintro e w2 ⟨rfl, b1⟩
  go_wp2_with fail
  go_ret
  exact ⟨rfl, below_chain b0 b1⟩

set_option maxHeartbeats 4000000 in
set_option maxRecDepth 100000 in
theorem evValue_any (v : Value) (ev : Ev) (x : ByteArray) (w : World) (hv : IsEv w v ev) :
    Calls Try.prog 16 #[v, .string x] w fun e w' => e = .returned (.tuple #[.int .i64 (valueF ev.fs x).1, .bool (valueF ev.fs x).2]) ∧ Below w.heap.size w w' := by
  obtain ⟨A, n, ca, B, m, cb, rfl, _, hb⟩ := hv
  have hn := RdC.le hb
  unfold maxLen at hn
  have lb := hb.len
  generalize hR : valueF ev.fs x = R
  have HR := Go.Lib.hid hR
  have LB := Go.Lib.hid lb
  clear hR lb
  have e0 := EvAt.new w (.string ev.s) (.string ev.t) (.slice A n ca) (.slice B m cb)
  have b0 : Below w.heap.size w (w.alloc (.cells #[.string ev.s, .string ev.t, .slice A n ca, .slice B m cb] 25)) := (Below.refl _ _).alloc (Nat.le_refl _) _
  have a0 := RdC.below hb b0
  have k3 := e0.c3
  clear e0
  go_enter Try.func16, Try.ntmps16
  go_wp2_with fail
  generalize hW : w.alloc (.cells #[.string ev.s, .string ev.t, .slice A n ca, .slice B m cb] 25) = w0 at *
  clear hW hb
  go_loopw [7, 11] (fun _ i wr => ∃ j : Nat, j ≤ m ∧ i = .int .i64 j ∧ valueF (ev.fs.drop j) x = R ∧ Below w0.heap.size w0 wr) (fun _ i _ => m - (intOf i).toNat)
  case atStart => exact ⟨0, Nat.zero_le _, rfl, HR.out, Below.refl _ _⟩
  case round =>
    obtain ⟨j, hj, rfl, hq, h0⟩ := hrel
    have HQ := Go.Lib.hid hq
    clear hq
    have a1 := RdC.below a0 h0
    by_cases hlt : j < m
    · obtain ⟨bb, ob, rfl, _, kb⟩ := RdF.at_ a1 (by omega)
      obtain ⟨kb1, kb2⟩ := kb j hlt
      have i1 : (j : Int) < m := by omega
      have ta := drop_get ev.fs j (by rw [LB.out]; exact hlt)
      have TA := Go.Lib.hid ta
      clear kb ta a1
      generalize hy : ev.fs.getD j (ByteArray.empty, 0) = y at *
      obtain ⟨y, z⟩ := y
      simp only at kb1 kb2
      clear hy
      have h1 := h0.alloc h0.size (.cells #[.string y, .int .i64 z] 38)
      by_cases hxy : y = x
      · subst hxy
        have hR : (z, true) = R := by rw [← HQ.out, TA.out, valueF, if_pos rfl]
        subst hR
        go_wp2_with fail
        go_ret2
        exact ⟨rfl, below_chain b0 h1⟩
      · have hne := str_ne hxy
        go_wp2_with fail
        go_roundw
        case rel =>
          refine ⟨j + 1, by omega, by go_num, ?_, h1⟩
          have h1 := HQ.out
          rw [TA.out, valueF, if_neg hxy] at h1
          exact h1
        case measure => simp [intOf]; omega
    · obtain rfl : m = j := by omega
      have hR : (0, false) = R := by
        rw [← HQ.out, List.drop_eq_nil_of_le (by rw [LB.out]; exact Nat.le_refl _)]
        rfl
      subst hR
      go_wp2_with fail
      go_ret2
      exact ⟨rfl, below_chain b0 h0⟩

set_option maxHeartbeats 8000000 in
set_option maxRecDepth 100000 in
theorem evSame_any (v u : Value) (ev eu : Ev) (w : World) (hv : IsEv w v ev) (hu : IsEv w u eu) :
    Calls Try.prog 18 #[v, u] w fun e w' => e = .returned (.bool (sameB ev eu)) ∧ Below w.heap.size w w' := by
  obtain ⟨A, n, ca, B, m, cb, rfl, ha, hb⟩ := hv
  obtain ⟨C, p, cc, D, q, cd, rfl, hc, hd⟩ := hu
  obtain ⟨s1, t1, g1, f1⟩ := ev
  obtain ⟨s2, t2, g2, f2⟩ := eu
  simp only at ha hb hc hd
  generalize hR : sameB ⟨s1, t1, g1, f1⟩ ⟨s2, t2, g2, f2⟩ = R
  have HR := Go.Lib.hid hR
  clear hR
  have b1 : Below w.heap.size w ((w.alloc (.cells #[.string s1, .string t1, .slice A n ca, .slice B m cb] 25)).alloc (.cells #[.string s2, .string t2, .slice C p cc, .slice D q cd] 25)) := ((Below.refl _ _).alloc (Nat.le_refl _) _).alloc (by simp) _
  have E0 : EvAt ((w.alloc (.cells #[.string s1, .string t1, .slice A n ca, .slice B m cb] 25)).alloc (.cells #[.string s2, .string t2, .slice C p cc, .slice D q cd] 25)) w.heap.size (.string s1) (.string t1) (.slice A n ca) (.slice B m cb) := (EvAt.new w _ _ _ _).below ((Below.refl _ _).alloc (Nat.le_refl _) _) (by simp)
  have E1 : EvAt ((w.alloc (.cells #[.string s1, .string t1, .slice A n ca, .slice B m cb] 25)).alloc (.cells #[.string s2, .string t2, .slice C p cc, .slice D q cd] 25)) (w.heap.size + 1) (.string s2) (.string t2) (.slice C p cc) (.slice D q cd) := by
    have := EvAt.new (w.alloc (.cells #[.string s1, .string t1, .slice A n ca, .slice B m cb] 25)) (.string s2) (.string t2) (.slice C p cc) (.slice D q cd)
    simpa using this
  have a1 := RdC.below ha b1
  have c1 := RdC.below hc b1
  have r1 := RdC.below hb b1
  have r2 := RdC.below hd b1
  go_enter Try.func18, Try.ntmps18
  go_upto_region 1 with (fail)
  generalize (w.alloc (.cells #[.string s1, .string t1, .slice A n ca, .slice B m cb] 25)).alloc (.cells #[.string s2, .string t2, .slice C p cc, .slice D q cd] 25) = w1 at *
  clear ha hb hc hd
  have k0 := E0.c0
  have k1 := E0.c1
  have k2 := E0.c2
  have k3 := E0.c3
  have j0 := E1.c0
  have j1 := E1.c1
  have j2 := E1.c2
  have j3 := E1.c3
  have cS := Go.Lib.hid (equalS_any A C n p ca cc g1 g2 w1 a1 c1)
  have cF := Go.Lib.hid (fun k => equalF_any B D m q cb cd f1 f2 (w1.drewN k) (RdC.drewN r1 k) (RdC.drewN r2 k))
  clear a1 c1 r1 r2 E0 E1
  by_cases h1 : s1 = s2
  · subst h1
    by_cases h2 : t1 = t2
    · subst h2
      by_cases h3 : g1 = g2
      · have hT : decide (g1 = g2) = true := decide_eq_true h3
        rw [hT] at cS
        have hR : decide (f1 = f2) = R := by
          rw [← HR.out, h3]
          simp [sameB]
        rw [hR] at cF
        clear hT hR
        go_wp2_with (first | (refine (cS.out).mono ?_; rintro e w2 ⟨rfl, k, rfl⟩) | (refine (cF.out _).mono ?_; rintro e w3 ⟨rfl, k3, rfl⟩))
        go_ret
        exact ⟨rfl, bel_drewN b1 _⟩
      · have hT : decide (g1 = g2) = false := decide_eq_false h3
        rw [hT] at cS
        have hR : R = false := by rw [← HR.out]; exact sameB_no (.inr (.inr (.inl h3)))
        subst hR
        clear hT
        go_wp2_with (refine (cS.out).mono ?_; rintro e w2 ⟨rfl, k, rfl⟩)
        go_ret
        exact ⟨rfl, bel_drewN b1 _⟩
    · have hne := str_ne h2
      have hR : R = false := by rw [← HR.out]; exact sameB_no (.inr (.inl h2))
      subst hR
      go_wp2_with fail
      go_ret
      exact ⟨rfl, b1⟩
  · have hne := str_ne h1
    have hR : R = false := by rw [← HR.out]; exact sameB_no (.inl h1)
    subst hR
    go_wp2_with fail
    go_ret
    exact ⟨rfl, b1⟩

end Go.Proofs.Ytgldheeplhcmcaa.EvWalk
